import PyProof.Rows.All
import Wide.All
import OpenK.AllK
import Wide.FinOn
import Lean
import PyProof.EqAt
import PyProof.EqKinds
import PyProof.TupleCall
import PySem.Challenge.RW_creasecurve_k47_mixtures_looked_at
abbrev aQk:=PySem.W.Frag
abbrev aQl:=@PySem.wpAny_bind
abbrev aQm:=@List.length_map
abbrev aQn:=@List.getElem?_eq_getElem
abbrev aQo:=@PySem.wpAny_pure
abbrev aQp:=@List.length_cons
abbrev aQq:=@PySem.Heap.get?_push_of_some
abbrev aQr:=@decide_eq_false
abbrev aQs:=@List.size_toArray
abbrev aQt:=@if_pos
abbrev aQu:=@Nat.le_refl
abbrev aQv:=@if_neg
abbrev aQw:=@PySem.Heap.lt_size
abbrev aQx:=@List.map_cons
abbrev aQy:=@List.mem_cons
abbrev aQz:=@List.length_append
abbrev aQ0:=@List.getElem?_map
abbrev aQ1:=@List.mem_singleton
abbrev aQ2:=@Bool.false_eq_true
abbrev aQ3:=@decide_eq_true
abbrev aQ4:=@Array.length_toList
abbrev aQ5:=@List.mem_append_right
abbrev aQ6:=@List.getElem?_cons_succ
abbrev aQ7:=@Option.some.inj
abbrev aQ8:=@Array.getElem?_toList
abbrev aQ9:=@PySem.Heap.get?_push_size
abbrev aRa:=@Nat.ne_of_lt
abbrev aRb:=@List.getElem?_append_right
abbrev aRc:=@Nat.lt_of_lt_of_le
abbrev aRd:=@Bool.false_ne_true
abbrev aRe:=@List.getElem?_eq_some_iff
abbrev aRf:=@Array.getElem?_eq_getElem
abbrev aRg:=@PySem.W.Fast.te14364793385576792824
abbrev aRh:=@Bool.and_eq_true_iff
abbrev aRi:=@List.getElem?_eq_none
abbrev aRj:=@Nat.zero_le
abbrev aRk:=@List.mem_map
abbrev aRl:=@List.mem_cons_of_mem
abbrev aRm:=@List.length_replicate
abbrev aRn:=@List.map_append
abbrev aRo:=@List.getElem?_append_left
abbrev aRp:=@PySem.boot_len
abbrev aRq:=@PySem.PassesOwn.leaving
abbrev aRr:=@PySem.W.mg_none_of
abbrev aRs:=PySem.W.nsIn
abbrev aRt:=@Nat.lt_irrefl
abbrev aRu:=@List.getElem?_cons_zero
abbrev aRv:=@List.toList_toArray
abbrev aRw:=@Option.isSome_iff_exists
abbrev aRx:=@List.length_nil
abbrev aRy:=@Array.getD_eq_getD_getElem?
abbrev aRz:=@List.mem_range
abbrev aR0:=@Nat.le_trans
abbrev aR1:=@if_false
abbrev aR2:=@PySem.W.Fast.te10110043849684766642
abbrev aR3:=@List.nodup_cons
abbrev aR4:=@PySem.wpAny_mono
abbrev aR5:=@List.length_range
abbrev aR6:=@Array.mem_toList_iff
abbrev aR7:=@List.map_map
abbrev aR8:=@Nat.zero_add
abbrev aR9:=@PySem.sizeLine_eq
abbrev aSa:=@PySem.wpAny_holding
abbrev aSb:=@List.set_cons_zero
abbrev aSc:=@List.set_cons_succ
abbrev aSd:=@List.filterMap_cons
abbrev aSe:=@List.mem_append
abbrev aSf:=@PyProof.Rows.callWith_type1
abbrev aSg:=@PySem.W.kia_one
abbrev aSh:=@List.length_take
abbrev aSi:=@List.all_eq_true
abbrev aSj:=@Bool.true_and
abbrev aSk:=@PySem.F.plainAttrs_list
abbrev aSl:=@Array.getElem?_eq_some_iff
abbrev aSm:=@PySem.mem_of_lookup
abbrev aSn:=@PySem.F.slot_dict_keyiterator_next
abbrev aSo:=@List.append_nil
abbrev aSp:=@PySem.wpAny_Call_Name_kw
abbrev aSq:=@List.forall_mem_cons
abbrev aSr:=@Nat.lt_or_ge
abbrev aSs:=@List.getElem_mem
abbrev aSt:=@beq_eq_false_iff_ne
abbrev aSu:=@Bool.false_and
abbrev aSv:=@Bool.not_true
abbrev aSw:=@List.map_nil
abbrev aSx:=@PySem.wpAny_specialOf
abbrev aSy:=@List.pairwise_cons
abbrev aSz:=@PySem.F.slot_list_append
abbrev aS0:=@PySem.F.type_list_append
abbrev aS1:=@Bool.and_eq_true
abbrev aS2:=@PySem.wpAny_call_entry
abbrev aS3:=@PySem.wpAny_typeNameOfWhole_keyiter
abbrev aS4:=@List.mem_of_getElem?
abbrev aS5:=@List.getElem?_replicate
abbrev aS6:=@PyProof.Rows.F.plain_set_update_loop
abbrev aS7:=@PySem.wpAny_truthy_bool
abbrev aS8:=@List.ext_getElem?
abbrev aS9:=@PySem.W.hideAll_get
abbrev aTa:=@List.length_drop
abbrev aTb:=@List.cons_append
abbrev aTc:=@List.mem_cons_self
abbrev aTd:=@of_decide_eq_false
abbrev aTe:=@Nat.succ_pos
abbrev aTf:=@List.mem_iff_getElem?
abbrev aTg:=@PySem.W.mg_of
abbrev aTh:=@List.mem_append_left
abbrev aTi:=@List.mem_iff_getElem
abbrev aTj:=@PySem.wpAny_passesOwn
abbrev aTk:=@beq_iff_eq
abbrev aTl:=@List.length_set
abbrev aTm:=@Int.mul_fdiv_cancel_left
abbrev aTn:=@PySem.wpAny_dictEntries
abbrev aTo:=@PySem.wpAny_typeNameOf_keyiter
abbrev aTp:=@List.pairwise_map
abbrev aTq:=@PySem.F.slot_tuple_hash
abbrev aTr:=@List.nil_append
abbrev aTs:=@PySem.Heap.SameBut.update
abbrev aTt:=@List.getElem?_range
abbrev aTu:=@PySem.Heap.get?_update_ne
abbrev aTv:=@PySem.wpAny_forIn_list
abbrev aTw:=@PySem.wpAny_isInstance
abbrev aTx:=@PySem.wpAny_seqItems
abbrev aTy:=@PySem.natAbs_fdiv_le
abbrev aTz:=@Option.map_eq_some_iff
abbrev aT0:=@Array.getElem?_eq_none
abbrev aT1:=@PySem.Calls.spliced_cons
abbrev aT2:=@Nat.lt_of_le_of_lt
abbrev aT3:=@List.getElem?_drop
abbrev aT4:=@Nat.le_of_eq
abbrev aT5:=@Nat.le_succ
abbrev aT6:=@PySem.Heap.get?_update_self
abbrev aT7:=@List.find?_cons
abbrev aT8:=@Array.mem_of_getElem?
abbrev aT9:=@List.Pairwise.sublist
abbrev aUa:=@decide_false
abbrev aUb:=@PySem.wpAny_newObj_type
abbrev aUc:=@PySem.Calls.spliced_nil
abbrev aUd:=@Nat.le_of_lt_succ
abbrev aUe:=@Nat.lt_trichotomy
abbrev aUf:=@PySem.wpAny_setState_of
abbrev aUg:=@decide_eq_true_eq
abbrev aUh:=@Int.fmod_eq_emod_of_nonneg
abbrev aUi:=@List.mem_of_find?_eq_some
abbrev aUj:=@PySem.Calls.call_function_entry
abbrev aUk:=@List.pairwise_iff_getElem
abbrev aUl:=@PyProof.Rows.F.entry_set_update_loop
abbrev aUm:=@PySem.wpAny_eqBool_int
abbrev aUn:=@congrArg
abbrev aUo:=@Nat.le_add_right
abbrev aUp:=@decide_true
abbrev aUq:=@Nat.le_of_lt
abbrev aUr:=@PySem.codeAny_mono
abbrev aUs:=@PySem.W.Fast.te5923862056798008813
abbrev aUt:=@List.mem_filterMap
abbrev aUu:=@if_true
abbrev aUv:=@PySem.tupleKind_room_in1
abbrev aUw:=@PySem.codeAny_builtin
abbrev aUx:=@PySem.wpAny_callSpecial?_slot
abbrev aUy:=@PySem.W.KasT.kasWp_bind
abbrev aUz:=@Nat.not_lt_zero
abbrev aU0:=@PyProof.Rows.listUpdate_at
abbrev aU1:=@List.getElem?_take
abbrev aU2:=@List.length_eq_zero_iff
abbrev aU3:=@PySem.wpAny_forIn_array'
abbrev aU4:=@List.getElem?_set_self
abbrev aU5:=@PySem.Heap.get?_update_other
abbrev aU6:=@Ne.symm
abbrev aU7:=@Int.toNat_natCast
abbrev aU8:=@PySem.wpAny_of_eq
abbrev aU9:=@List.getElem?_set
abbrev aVa:=@bne_self_eq_false
abbrev aVb:=@List.reverse_cons
abbrev aVc:=@Int.le_refl
abbrev aVd:=@congrFun
abbrev aVe:=@PyProof.Rows.callWith_builtin1
abbrev aVf:=@PySem.F.args_dict_keyiterator_next_1
abbrev aVg:=@List.getElem?_toArray
abbrev aVh:=@PySem.isSubtype_tuple_tuple
abbrev aVi:=@Nat.lt_succ_self
abbrev aVj:=@PySem.F.entry_dict_keyiterator_next
abbrev aVk:=@List.getElem?_set_ne
abbrev aVl:=@PySem.codeAny_call_builtin
abbrev aVm:=@List.mem_erase_of_ne
abbrev aVn:=@List.mem_of_mem_drop
abbrev aVo:=@PySem.Around.under_plainId
abbrev aVp:=@List.mem_of_mem_take
abbrev aVq:=@PySem.wpAny_execs_nil
abbrev aVr:=@PySem.W.plainGet_of
abbrev aVs:=@PySem.wpAny_dictEpoch
abbrev aVt:=@PyProof.Rows.get?_update_seq
abbrev aVu:=@PyProof.Rows.seqEpoch_at
abbrev aVv:=@beq_false_of_ne
abbrev aVw:=@List.length_reverse
abbrev aVx:=@PySem.F.slot_tuple_eq
abbrev aVy:=@Int.mul_eq_zero
abbrev aVz:=@ite_false
abbrev aV0:=@List.length_pos_iff
abbrev aV1:=@Option.ne_none_iff_exists'
abbrev aV2:=@Int.fdiv_eq_ediv_of_nonneg
abbrev aV3:=@Array.append_assoc
abbrev aV4:=@Nat.ne_of_gt
abbrev aV5:=@PySem.W.callWith_K
abbrev aV6:=@List.zip_cons_cons
abbrev aV7:=@PySem.wpAny_tupleItemsOf
abbrev aV8:=@Array.forIn_toList
abbrev aV9:=@Int.emod_lt_of_pos
abbrev aWa:=@PySem.Heap.size_push
abbrev aWb:=@List.drop_eq_getElem_cons
abbrev aWc:=@PySem.wpAny_pyIter_list
abbrev aWd:=@Option.isSome_map
abbrev aWe:=@List.append_assoc
abbrev aWf:=@of_decide_eq_true
abbrev aWg:=@List.length_erase_of_mem
abbrev aWh:=@List.Pairwise.imp_of_mem
abbrev aWi:=@Bool.not_eq_true'
abbrev aWj:=@PySem.wpAny_standAt
abbrev aWk:=@Int.eq_ofNat_of_zero_le
abbrev aWl:=@Int.gcd_natCast_natCast
abbrev aWm:=@PySem.wpAny_newList
abbrev aWn:=@List.pairwise_singleton
abbrev aWo:=@Nat.add_assoc
abbrev aWp:=@Prod.ext
abbrev aWq:=@ite_true
abbrev aWr:=@decide_eq_false_iff_not
abbrev aWs:=@Nat.le_of_not_lt
abbrev aWt:=@Array.toList_inj
abbrev aWu:=@Nat.succ_lt_succ
abbrev aWv:=@beq_self_eq_true
abbrev aWw:=@PySem.W.cellsFrom_some
abbrev aWx:=@List.pairwise_lt_range
abbrev aWy:=@Array.toList_filterMap
abbrev aWz:=@List.mem_filter
abbrev aW0:=@List.of_mem_zip
abbrev aW1:=@Nat.lt_trans
abbrev aW2:=@Array.Perm.refl
abbrev aW3:=@Nat.sub_self
abbrev aW4:=@Int.emod_nonneg
abbrev aW5:=@Option.map_some
abbrev aW6:=@Nat.succ.inj
abbrev aW7:=@Bool.not_false
abbrev aW8:=@List.any_cons
abbrev aW9:=@List.map_take
abbrev aXa:=@List.cons.inj
abbrev aXb:=@Nat.mod_lt
set_option Elab.async false
set_option linter.all false
set_option maxRecDepth 100000
namespace L2
open PySem PySem.Spec PyProof.Rows
abbrev Key:=Sum Int Str
def yP:Key->Value->Bool
 | .inl k,v=>Value.isInt k v
 | .inr x,v=>Value.isStrOf x v
def aOz(w:World):Key->Int
 | .inl k=>hashInt k
 | .inr x=>hashStr w x
theorem d8:∀ {k:Key} {v:Value},yP k v=true->(∃ i t,k=Sum.inl i/\v=Value.int i t)\/(∃ x t,k=Sum.inr x/\v=Value.str x t)
 | .inl i,v,h=>by
  obtain ⟨t,e⟩:=Value.isInt_shape (k:=i) (v:=v) h
  exact .inl ⟨i,t,rfl,e⟩
 | .inr x,v,h=>by
  obtain ⟨t,e⟩:=Value.isStrOf_shape (x:=x) (v:=v) h
  exact .inr ⟨x,t,rfl,e⟩
theorem aCq(i:Int)(t:Tok):yP (.inl i) (.int i t)=true:=by simp [yP,Value.isInt]
theorem aBj(x:Str)(t:Tok):yP (.inr x) (.str x t)=true:=by simp [yP,Value.isStrOf]
theorem aMf(a b:Int):decide ((Sum.inl a:Key)=Sum.inl b)=(a == b):=by
 by_cases e:a=b
 ·subst e;simp
 ·have h:¬ (Sum.inl a:Key)=Sum.inl b:=fun q=>e (Sum.inl.inj q)
  rw [aQr h]
  exact (aSt.mpr e).symm
theorem aKz(a b:Str):decide ((Sum.inr a:Key)=Sum.inr b)=decide (a=b):=by
 by_cases e:a=b
 ·subst e;simp
 ·have h:¬ (Sum.inr a:Key)=Sum.inr b:=fun q=>e (Sum.inr.inj q)
  rw [aQr h,aQr e]
theorem aJ8(a:Int)(b:Str):decide ((Sum.inl a:Key)=Sum.inr b)=false:=aQr (fun q=>nomatch q)
theorem aKg(a:Str)(b:Int):decide ((Sum.inr a:Key)=Sum.inl b)=false:=aQr (fun q=>nomatch q)
def gG(prog:Program)(w:World):PySem.KeyKind prog w Key where
 is:=yP
 hash:=aOz w
 inj:=fun v a b ha hb=>by
  rcases d8 ha with ⟨i,t,rfl,rfl⟩ | ⟨x,t,rfl,rfl⟩
  ·rcases d8 hb with ⟨j,u,rfl,e⟩ | ⟨y,u,rfl,e⟩
   ·injection e with e1 _;rw [e1]
   ·exact nomatch e
  ·rcases d8 hb with ⟨j,u,rfl,e⟩ | ⟨y,u,rfl,e⟩
   ·exact nomatch e
   ·injection e with e1 _;rw [e1]
 byValue:=fun k v h=>by
  rcases d8 h with ⟨i,t,rfl,rfl⟩ | ⟨x,t,rfl,rfl⟩<;>rfl
 pyHash:=fun hv h=>by
  rcases d8 hv with ⟨i,t,rfl,rfl⟩ | ⟨x,t,rfl,rfl⟩
  ·exact wpAny_pyHash_int h
  ·exact wpAny_pyHash_str h
 eqBool:=fun hu hv h=>by
  rcases d8 hu with ⟨i,t,rfl,rfl⟩ | ⟨x,t,rfl,rfl⟩
  ·rcases d8 hv with ⟨j,u,rfl,rfl⟩ | ⟨y,u,rfl,rfl⟩
   ·rw [aMf] at h;exact aUm h
   ·rw [aJ8] at h;exact SeqAt.EqAt.int_str i t y u _ _ _ _ h
  ·rcases d8 hv with ⟨j,u,rfl,rfl⟩ | ⟨y,u,rfl,rfl⟩
   ·rw [aKg] at h;exact SeqAt.EqAt.str_int x t j u _ _ _ _ h
   ·rw [aKz] at h;exact wpAny_eqBool_str h
 «strs»:=fun k x t v h=>by
  rcases d8 h with ⟨i,u,rfl,e⟩ | ⟨y,u,rfl,e⟩
  ·exact nomatch e
  ·injection e with e1 _
   subst e1
   cases v<;>rfl
theorem uT(prog:Program)(w:World)(i:Int)(t:Tok):(gG prog w).is (.inl i) (.int i t)=true:=aCq i t
theorem uJ(prog:Program)(w:World)(x:Str)(t:Tok):(gG prog w).is (.inr x) (.str x t)=true:=aBj x t
inductive V where
 | non | bl (b:Bool) | int (i:Int) | str (x:Str) | byt (b:Array UInt8) | flt (b:UInt64) | ref (a:Addr) | ty (n:String)
 deriving DecidableEq
def RelV:V->Value->Prop
 | .non,u=>u=Value.none
 | .bl b,u=>u=Value.bool b
 | .int i,u=>∃ t,u=Value.int i t
 | .str x,u=>∃ t,u=Value.str x t
 | .byt b,u=>∃ t,u=Value.bytes b t
 | .flt b,u=>∃ t,u=Value.float b t
 | .ref a,u=>u=Value.ref a
 | .ty n,u=>u=Value.type n
abbrev Vals:List V->List Value->Prop:=Paired RelV
theorem Vals.length{xs:List V}{us:List Value}(r:Vals xs us):xs.length=us.length:=Paired.length r
theorem Vals.get:∀ {xs:List V} {us:List Value} {i:Nat} {x:V},Vals xs us->xs[i]? = some x->∃ u,us[i]? = some u/\RelV x u
 | _,_,_,_,.nil,e=>by simp at e
 | _,_,0,_,.cons r _,e=>by simp at e;subst e;exact ⟨_,rfl,r⟩
 | _,_,i+1,x,.cons _ t,e=>by
  obtain ⟨u,h1,h2⟩:=Vals.get (i:=i) (x:=x) t (by simpa using e)
  exact ⟨u,by simpa using h1,h2⟩
theorem Vals.set{x:V}{u:Value}(r:RelV x u):∀ {xs:List V} {us:List Value} (i:Nat),Vals xs us->Vals (xs.set i x) (us.set i u)
 | _,_,_,.nil=>.nil
 | _,_,0,.cons _ t=>.cons r t
 | _,_,i+1,.cons q t=>.cons q (Vals.set r i t)
theorem Vals.append:∀ {xs ys:List V} {us ws:List Value},Vals xs us->Vals ys ws->Vals (xs++ys) (us++ws)
 | _,_,_,_,.nil,s=>s
 | _,_,_,_,.cons r t,s=>.cons r (Vals.append t s)
theorem Vals.take:∀ {xs:List V} {us:List Value} (n:Nat),Vals xs us->Vals (xs.take n) (us.take n)
 | _,_,0,_=>.nil
 | _,_,_+1,.nil=>.nil
 | _,_,n+1,.cons r t=>.cons r (Vals.take n t)
theorem Vals.drop:∀ {xs:List V} {us:List Value} (n:Nat),Vals xs us->Vals (xs.drop n) (us.drop n)
 | _,_,0,r=>r
 | _,_,_+1,.nil=>.nil
 | _,_,n+1,.cons _ t=>Vals.drop n t
def RelO:Option V->Option Value->Prop
 | some v,some u=>RelV v u
 | none,none=>True
 | _,_=>False
def KV{κ:Type}:List (κ×V)->List (κ×Value)->Prop:=Paired fun (p:κ×V) (q:κ×Value)=>p.1=q.1/\RelV p.2 q.2
def kV:Key->V
 | .inl i=>.int i
 | .inr x=>.str x
inductive HO where
 /-- a list -/
 | lst (xs:List V)
 /-- a tuple (never changes) -/
 | tup (xs:List V)
 /-- a dict whose keys are ints and texts;one whose keys are tuples of ints and texts (the empty one is both) -/
 | dK (kvs:List (Key×V)) | dT (kvs:List (List Key×V))
 /-- a set of ints: its members,its size -/
 | set (S:Int->Bool) (n:Nat)
 /-- an instance of the class at C,its dict at dx,its attributes -/
 | ins (C dx:Addr) (fs:List (Str×V))
 /-- the dict of the instance at x -/
 | own (x:Addr)
 /-- the dict of an exception -/
 | xd (fs:List (Str×V))
 /-- a bound method,f of x -/
 | met (f x:Addr)
 /-- a range object lo,lo+1,.. below hi -/
 | rng (lo hi:Int)
 /-- a thing that is known to the object (the script;a dict while a loop walks it): read,never written while it is so -/
 | frz (o:Obj) (u:HO)
 /-- a code object's table -/
 | tbl (ps:Array Value)
 /-- any other thing,by what is true of its one object (a def of one's own: SetO a S n:=HO.ext fun h=>..) -/
 | ext (φ:Heap->Prop)
abbrev Hp:=Addr->Option HO
def upd(H:Hp)(a:Addr)(o:HO):Hp:=fun b=>if b=a then some o else H b
theorem bJ{H:Hp}{a:Addr}{o:HO}:upd H a o a=some o:=by unfold upd;rw [aQt rfl]
theorem bB{H:Hp}{a b:Addr}{o:HO}(h:b≠a):upd H a o b=H b:=by unfold upd;rw [aQv h]
theorem aM3{H:Hp}{a b:Addr}{o u:HO}(h:H a=some o)(h':H b=some u)(d:o≠u):a≠b:=by
 intro e;subst e;rw [h] at h';exact d (aQ7 h')
theorem dG{H:Hp}{a b:Addr}{o:HO}(h:H a=some o)(h':H b=none):a≠b:=by
 intro e;subst e;rw [h] at h';cases h'
section
variable (P:Program)(w:World)
def ObjOk(H:Hp)(h:Heap)(a:Addr):HO->Prop
 | .lst xs=>xs.length<=sizeLine/\∃ (its:List Value) (n:Nat),Vals xs its/\h.get? a=some { cls:=.type "list",data:=.seq its.toArray n }
 | .tup xs=>xs.length<=sizeLine/\∃ its:List Value,Vals xs its/\IsTup h a its.toArray
 | .dK kvs=>kvs.length<=sizeLine/\(a == sysModules)=false/\∃ vs,KV kvs vs/\h.DictOf (gG P w) a vs
 | .dT kvs=>kvs.length<=sizeLine/\(a == sysModules)=false/\∃ xs:List (List Key×Addr×Value),
   Paired (fun (p:List Key×V) (q:List Key×Addr×Value)=>p.1=q.1/\H q.2.1=some (.tup (p.1.map kV))/\RelV p.2 q.2.2) kvs xs /\
   ∃ o es ep,h.get? a=some o/\o.ExactDict/\o.data=.dict es ep/\es.toList=xs.map (entryOfKey (tupleKind (gG P w)))/\(xs.map (·.1)).Nodup
 | .set S n=>h.SetOf (intKind P w) a S n
 | .ins C dx fs=>H dx=some (.own a)/\fs.length<=1000/\dx≠a/\h.get? a=some (PySem.W.instObj C dx) /\
   ∃ mA,h.Ns1 dx mA/\(∀ f,RelO (fs.lookup f) (mA f))/\PySem.Within mA (fs.map (·.1))
 | .own _=>∃ o,h.get? a=some o
 | .xd fs=>∃ mA,h.Ns1 a mA/\∀ f,RelO (fs.lookup f) (mA f)
 | .rng lo hi=>∃ t u v,h.get? a=some { cls:=.type "range",data:=.fields #[.int lo t,.int hi u,.int 1 v] }
 | .frz o u=>h.get? a=some o/\ObjOk H h a u
 | .tbl ps=>∃ qs,h.get? a=some { cls:=.none,data:=.fields qs }/\TriplesOk qs.toList/\∀ n t,ps[0]? = some (.str n t)->∀ pos cv,codeAmong pos qs.toList=some cv ->
   ∃ c oc vs u,cv=.ref c/\H c=some (.frz oc (.own a))/\oc.data=.fields vs/\vs[1]? = some (.str (n++".<locals>."++"<lambda>") u)
 | .met f x=>h.get? a=some (PySem.W.methodObj (.ref f) (.ref x))
 | .ext φ=>φ h/\(∃ o,h.get? a=some o)/\∀ h1 h2:Heap,φ h1->(∀ o,h1.get? a=some o->h2.get? a=some o)->φ h2
def HOk(H:Hp)(h:Heap):Prop:=∀ a o,H a=some o->ObjOk P w H h a o
end
section
variable {P:Program}{w:World}{H H':Hp}{h h':Heap}{a:Addr}{o:HO}
theorem ObjOk.lt(x:ObjOk P w H h a o):a < h.objs.size:=by
 cases o with
 | lst xs=>obtain ⟨_,_,_,_,e⟩:=x;exact aQw e
 | tup xs=>obtain ⟨_,_,_,p⟩:=x;exact p.lt
 | dK kvs=>obtain ⟨_,_,_,_,o,_,_,e,_⟩:=x;exact aQw e
 | dT kvs=>obtain ⟨_,_,_,_,o,_,_,e,_⟩:=x;exact aQw e
 | set S n=>obtain ⟨o,_,_,_,e,_⟩:=x;exact aQw e
 | ins C dx fs=>obtain ⟨_,_,_,e,_⟩:=x;exact aQw e
 | own y=>obtain ⟨_,e⟩:=x;exact aQw e
 | xd fs=>obtain ⟨_,⟨_,_,_,e,_⟩,_⟩:=x;exact aQw e
 | rng lo hi=>obtain ⟨_,_,_,e⟩:=x;exact aQw e
 | frz ob u=>obtain ⟨e,_⟩:=x;exact aQw e
 | tbl ps=>obtain ⟨_,e,_⟩:=x;exact aQw e
 | met f y=>exact aQw (show h.get? a=some _ from x)
 | ext φ=>obtain ⟨_,⟨_,e⟩,_⟩:=x;exact aQw e
theorem Paired.mapP{α β:Type}{F G:α->β->Prop}:∀ {l₁:List α} {l₂:List β},Paired F l₁ l₂->(∀ a b,F a b->G a b)->Paired G l₁ l₂
 | _,_,.nil,_=>.nil
 | _,_,.cons r t,f=>.cons (f _ _ r) (Paired.mapP t f)
theorem ObjOk.stay(x:ObjOk P w H h a o)(k:∀ b u,(b=a\/H b=some (.own a))->h.get? b=some u->h'.get? b=some u)
  (ho:∀ b,H b=some (.own a)->H' b=some (.own a)) (ht:∀ b xs,H b=some (.tup xs)->H' b=some (.tup xs)) (hz:∀ b o,H b=some (.frz o (.own a))->H' b=some (.frz o (.own a)):=by exact fun _ _ q=>q):ObjOk P w H' h' a o:=by
 induction o with
 | lst xs=>obtain ⟨z,its,n,r,e⟩:=x;exact ⟨z,its,n,r,k _ _ (.inl rfl) e⟩
 | tup xs=>obtain ⟨z,its,r,ob,e,c⟩:=x;exact ⟨z,its,r,ob,k _ _ (.inl rfl) e,c⟩
 | dK kvs=>obtain ⟨z,y,vs,r,ob,es,ep,e,c⟩:=x;exact ⟨z,y,vs,r,ob,es,ep,k _ _ (.inl rfl) e,c⟩
 | dT kvs =>
  obtain ⟨z,y,xs,r,ob,es,ep,e,c⟩:=x
  exact ⟨z,y,xs,Paired.mapP r fun p q z=>⟨z.1,ht _ _ z.2.1,z.2.2⟩,ob,es,ep,k _ _ (.inl rfl) e,c⟩
 | set S n=>obtain ⟨ob,es,ep,t,e,c⟩:=x;exact ⟨ob,es,ep,t,k _ _ (.inl rfl) e,c⟩
 | ins C dx fs =>
  obtain ⟨d,z,ne,e,mA,⟨od,es,ep,e2,c⟩,r⟩:=x
  exact ⟨ho _ d,z,ne,k _ _ (.inl rfl) e,mA,⟨od,es,ep,k _ _ (.inr d) e2,c⟩,r⟩
 | own y=>obtain ⟨ob,e⟩:=x;exact ⟨ob,k _ _ (.inl rfl) e⟩
 | xd fs=>obtain ⟨mA,⟨od,es,ep,e,c⟩,r⟩:=x;exact ⟨mA,⟨od,es,ep,k _ _ (.inl rfl) e,c⟩,r⟩
 | rng lo hi=>obtain ⟨t,u,v,e⟩:=x;exact ⟨t,u,v,k _ _ (.inl rfl) e⟩
 | frz ob u ih=>obtain ⟨e,q⟩:=x;exact ⟨k _ _ (.inl rfl) e,ih q⟩
 | tbl ps =>
  obtain ⟨qs,e,t,z⟩:=x
  refine ⟨qs,k a _ (.inl rfl) e,t,fun n u en pos cv ec=>?_⟩
  obtain ⟨c,oc,vs,v,e1,e2,e3⟩:=z n u en pos cv ec
  exact ⟨c,oc,vs,v,e1,hz c oc e2,e3⟩
 | met f y =>
  have e:h.get? a=some (PySem.W.methodObj (.ref f) (.ref y)):=x
  show h'.get? a=some (PySem.W.methodObj (.ref f) (.ref y))
  exact k a _ (.inl rfl) e
 | ext φ=>obtain ⟨p,⟨o,e⟩,st⟩:=x;exact ⟨st _ _ p fun o q=>k _ _ (.inl rfl) q,⟨o,k _ _ (.inl rfl) e⟩,st⟩
theorem HOk.lt(x:HOk P w H h)(e:H a=some o):a < h.objs.size:=(x a o e).lt
theorem HOk.fresh(x:HOk P w H h)(e:h.objs.size<=a):H a=none:=by
 cases q:H a with
 | none=>rfl
 | some u=>exact absurd (aRc (x.lt q) e) (aRt _)
theorem HOk.kept(x:HOk P w H h)(k:∀ b u,h.get? b=some u->h'.get? b=some u):HOk P w H h':=fun a o e =>
 (x a o e).stay (fun b u _ q=>k b u q) (fun _ q=>q) fun _ _ q=>q
theorem HOk.laid(x:HOk P w H h)(k:∀ b u,h.get? b=some u->h'.get? b=some u)(hp:h.objs.size<=a)(new:ObjOk P w (upd H a o) h' a o):HOk P w (upd H a o) h':=fun b u e=>by
 have hn:=x.fresh hp
 by_cases hb:b=a
 ·subst hb;rw [bJ] at e;cases e;exact new
 ·rw [bB hb] at e
  exact (x b u e).stay (fun c v _ q=>k c v q) (fun c q=>by rw [bB (dG q hn)];exact q) (fun c xs q=>by rw [bB (dG q hn)];exact q) fun c xs q=>by rw [bB (dG q hn)];exact q
end
def Rd(H:Hp)(a:Addr)(u:HO):Prop:=H a=some u\/∃ o,H a=some (.frz o u)
theorem Rd.ok{P:Program}{w:World}{H:Hp}{h:Heap}{a:Addr}{u:HO}(r:Rd H a u)(x:HOk P w H h):ObjOk P w H h a u:=by
 rcases r with r | ⟨o,r⟩
 ·exact x a u r
 ·obtain ⟨_,q⟩:=x a _ r
  exact q
def Mut:Option HO->Prop
 | some (.lst _)=>True
 | some (.dK _)=>True
 | some (.dT _)=>True
 | some (.set _ _)=>True
 | some (.ins _ _ _)=>True
 | some (.ext _)=>True
 | _=>False
section
variable {P:Program}{w:World}{H:Hp}{h h':Heap}{x e:Addr}{o':HO}
theorem HOk.write(ok:HOk P w H h)(mu:Mut (H x))(he:e=x\/H e=some (.own x))(k:∀ b u,b≠e->h.get? b=some u->h'.get? b=some u)(heo:∃ u,h'.get? e=some u)
  (new:ObjOk P w (upd H x o') h' x o'):HOk P w (upd H x o') h':=fun b u q=>by
 have nown:∀ c y,H c=some (.own y)->c≠x:=fun c y r z=>by subst z;rw [r] at mu;exact mu
 have ntup:∀ c xs,H c=some (.tup xs)->c≠x:=fun c xs r z=>by subst z;rw [r] at mu;exact mu
 by_cases hb:b=x
 ·subst hb;rw [bJ] at q;cases q;exact new
 ·rw [bB hb] at q
  by_cases hbe:b=e
  ·have q':H b=some (.own x):=by
    rcases he with z | z
    ·exact absurd (hbe.trans z) hb
    ·rw [hbe];exact z
   rw [q] at q';cases q'
   obtain ⟨v,hv⟩:=heo
   exact ⟨v,by rw [hbe];exact hv⟩
  ·refine (ok b u q).stay (fun c v hc r=>k c v ?_ r) (fun c r=>by rw [bB (nown c b r)];exact r) (fun c xs r=>by rw [bB (ntup c xs r)];exact r) fun c xs r=>by rw [bB (by rintro rfl;rw [r] at mu;exact mu)];exact r
   rcases hc with rfl | hc
   ·exact hbe
   ·rintro rfl
    rcases he with z | z
    ·exact nown c b hc z
    ·rw [hc] at z;cases z;exact hb rfl
end
structure Un(fs ex:List Addr)(H H':Hp)(h h':Heap):Prop where
 keep:∀ b o,h.get? b=some o->H b=none->b∉fs->b∉ex->h'.get? b=some o
 slot:∀ b o,h.get? b=some o->H b=none->b∈fs->b∉ex->∃ sl,h'.get? b=some { o with slots:=sl }
 free:∀ b o,h.get? b=some o->H b=none->b∉ex->H' b=none
 there:∀ b o,h.get? b=some o->b∉ex->∃ o',h'.get? b=some o'
 tups:∀ b xs,H b=some (.tup xs)->H' b=some (.tup xs)
 frzs:∀ b o u,H b=some (.frz o u)->H' b=some (.frz o u)
 tbls:∀ b ps,H b=some (.tbl ps)->∃ more,H' b=some (.tbl (ps++more))
section
variable {fs fs' ex ex':List Addr}{H H1 H2:Hp}{h h1 h2 h':Heap}{a x e:Addr}{o:HO}
theorem Un.any(u:Un fs ex H H1 h h1){b:Addr}{ob:Obj}(q:h.get? b=some ob)(n:H b=none)(hx:b∉ex):∃ sl,h1.get? b=some { ob with slots:=sl }:=by
 by_cases hb:b∈fs
 ·exact u.slot b ob q n hb hx
 ·exact ⟨ob.slots,u.keep b ob q n hb hx⟩
theorem Un.kept(k:∀ b u,h.get? b=some u->h'.get? b=some u):Un fs ex H H h h' :=
 ⟨fun b ob q _ _ _=>k b ob q,fun b ob q _ _ _=>⟨ob.slots,k b ob q⟩,fun _ _ _ n _=>n,fun b ob q _=>⟨ob,k b ob q⟩,fun _ _ q=>q,fun _ _ _ q=>q,fun _ ps q=>⟨#[],by rw [q];simp⟩⟩
theorem Un.refl:Un fs ex H H h h:=Un.kept fun _ _ q=>q
theorem Un.laid(k:∀ b u,h.get? b=some u->h'.get? b=some u)(hp:h.objs.size<=a)(hn:H a=none):Un fs ex H (upd H a o) h h' where
 keep:=fun b u q _ _ _=>k b u q
 slot:=fun b u q _ _ _=>⟨u.slots,k b u q⟩
 free:=fun b u q n _=>by rw [bB (aRa (aRc (aQw q) hp))];exact n
 there:=fun b u q _=>⟨u,k b u q⟩
 tups:=fun b xs q=>by rw [bB (dG q hn)];exact q
 frzs:=fun b u xs q=>by rw [bB (dG q hn)];exact q
 tbls:=fun b ps q=>⟨#[],by rw [bB (dG q hn),q];simp⟩
theorem Un.write(mu:Mut (H x))(he:e=x\/H e=some (.own x))(k:∀ b u,b≠e->h.get? b=some u->h'.get? b=some u)(heo:∃ u,h'.get? e=some u):Un fs ex H (upd H x o) h h':=by
 have hx:∀ b,H b=none->b≠x:=fun b n z=>by subst z;rw [n] at mu;exact mu
 have hb:∀ b,H b=none->b≠e:=fun b n z=>by
  subst z
  rcases he with r | r
  ·exact hx b n r
  ·rw [n] at r;cases r
 have hm:∀ b u,H b=some u->¬ Mut (some u)->b≠x:=fun b u q nm z=>by subst z;rw [q] at mu;exact nm mu
 refine ⟨fun b u q n _ _=>k b u (hb b n) q,fun b u q n _ _=>⟨u.slots,k b u (hb b n) q⟩,fun b u q n _=>by rw [bB (hx b n)];exact n,fun b u q _=>?_,
  fun b xs q=>by rw [bB (hm b _ q fun z=>z)];exact q,fun b u xs q=>by rw [bB (hm b _ q fun z=>z)];exact q,fun b ps q=>⟨#[],by rw [bB (hm b _ q fun z=>z),q];simp⟩⟩
 by_cases hbe:b=e
 ·subst hbe;exact heo
 ·exact ⟨u,k b u hbe q⟩
end
def trk(h:Heap)(H:Hp):List Addr:=(List.range h.objs.size).filter fun a=>(H a).isSome
def aDm(h:Heap)(H:Hp):Heap:=PySem.W.hideAll h (trk h H)
theorem aBs(h:Heap)(H:Hp):(aDm h H).objs.size=h.objs.size:=PySem.W.hideAll_size _ _
theorem aD6{h:Heap}{H:Hp}{b:Addr}{o:Obj}(e:h.get? b=some o)(n:H b=none):(aDm h H).get? b=some o :=
 aS9 _ e fun hm=>by
  have q:(H b).isSome=true:=(aWz.mp hm).2
  rw [n] at q;simp at q
theorem aIa{h:Heap}{H:Hp}{b:Addr}{o:Obj}(e:(aDm h H).get? b=some o):h.get? b=some o/\H b=none:=by
 have e':h.get? b=some o:=PySem.W.of_hideAll (trk h H) e
 refine ⟨e',?_⟩
 cases q:H b with
 | none=>rfl
 | some x =>
  have hm:b∈trk h H:=aWz.mpr ⟨aRz.mpr (aQw e'),by simp [q]⟩
  have z:(aDm h H).get? b=none:=PySem.W.hideAll_none (trk h H) hm
  rw [z] at e;cases e
def aIx(g h:Heap)(L:Addr):List (Addr×Obj):=(List.range h.objs.size).filterMap fun a=>if a=L\/(g.get? a).isSome=true then none else (h.get? a).map fun o=>(a,o)
def rest(g h:Heap)(L d:Addr):List (Addr×Obj):=(aIx g h L).filter fun p=>decide (p.1≠d)
def lamsOf:List Str:=["rising","points_in_order"]
def tbs(K:aQk):List (Addr×Addr×Str):=K.filterMap fun p=>match p.2.data with
 | .fields vs=>match (vs[11]?:Option Value),(vs[1]?:Option Value) with
  | some (.ref P),some (.str n _)=>if lamsOf.contains n then some (p.1,P,n) else none
  | _,_=>none
 | _=>none
def Tbs(K:aQk)(H:Hp):Prop:=∀ p∈tbs K,∃ more,H p.2.1=some (.tbl (#[.str p.2.2 0]++more))
def aIj(K:aQk)(ts:List Addr):Bool:=(tbs K).all fun p=>PySem.W.codeHdIn K p.1 p.2.1 && (K.lookup p.2.1).isNone && ts.contains p.2.1 && (tbs K).all fun q=>p.2.1 != q.2.1 || p.2.2 == q.2.2
structure Mod(K:aQk)(mg:Str->Option Value)(base:Heap):Prop where
 kin:K.In base
 glob:base.Ns mainGlobals mg
 blt:∃ mb,base.Ns builtinsNs mb/\∀ x:Str,x≠"__name__"->mb x=bootBuiltins x
 nolimit:base.NoLimit
 bm:∃ bm ob,mg "__builtins__" = some (.ref bm)/\bm≠builtinsNs/\base.get? bm=some ob/\ob.cls=.type "module"/\ob.dict=some builtinsNs/\ob.data=.plain
structure Cx where
 prog:Program
 w:World
 K:aQk
 mg:Str->Option Value
 base:Heap
 A:Around
 N:List Str
 s₀:Shared
 H₀:Hp
 env:Env
 outer:List Env
 stack:List Env
 ex:List Addr
 fn:Str->Bool
 calm:Bool
 pn:List (Addr×Obj)
 xe:Value->Shared->Prop
def frs(l:List Env):List Addr:=l.filterMap (·.frame)
abbrev Cx.fs(X:Cx):List Addr:=frs X.outer
def Vis(sc:Scope)(x:Str):Prop:=sc.names.lookup x=some .local\/sc.names.lookup x=some .cell\/sc.names.lookup x=some .free
def Loc(sc:Scope)(x:Str):Prop:=sc.names.lookup x=some .local\/sc.names.lookup x=some .cell
def Look(env:Env)(h:Heap)(m:Str->Option Value)(x:Str)(u:Value):Prop :=
 (env.kindOf x=some .local/\m x=some u)\/((env.kindOf x=some .cell\/env.kindOf x=some .free)/\∃ c,env.cells.lookup x=some c/\h.IsCell c (some u))
structure Cx.Ok(X:Cx):Prop where
 mod:Mod X.K X.mg X.base
 kind:X.env.scope.kind=.function
 glob:X.env.globals=mainGlobals
 blt:X.env.builtins=builtinsNs
 above:X.s₀.heap.objs.size<=X.env.locals
 inj:∀ x y c,X.env.cells.lookup x=some c->X.env.cells.lookup y=some c->x=y
 has:∀ x,(X.env.kindOf x=some .cell\/X.env.kindOf x=some .free)->∃ c,X.env.cells.lookup x=some c
 cab:∀ x c,X.fn x=true->X.env.cells.lookup x=some c->X.s₀.heap.objs.size<=c
 hd:X.calm=true->X.A.handled=none
 frames:X.A.frames=some X.stack
 stk:X.stack=X.outer\/(X.stack=X.env :: X.outer/\X.env.frame=some X.env.locals)
 exf:∀ b∈X.ex,b≠X.env.locals/\∀ x c,X.env.cells.lookup x=some c->c≠b
 bs:∀ b o,X.base.get? b=some o->X.s₀.heap.get? b=some o/\X.H₀ b=none
 bsz:X.base.objs.size<=X.s₀.heap.objs.size
 noex:∀ b o,X.base.get? b=some o->b∉X.ex
 exfs:∀ b∈X.ex,b∉X.fs
 funs:X.s₀.heap.FunFrames X.base X.outer
 frf:∀ b∈X.fs,X.H₀ b=none
 tab:Tbs X.K X.H₀
structure Inv(X:Cx)(pins:List (Addr×Obj))(σ:List (Option V))(H:Hp)(s:Shared):Prop where
 ok:X.Ok
 os:s.os=X.s₀.os
 bare:AllBare s.gens
 base:Un X.fs X.ex X.H₀ H X.s₀.heap s.heap
 loc:∃ m,s.heap.Ns X.env.locals m/\∀ (i:Nat) (x:Str) (v:V),X.N[i]? = some x->σ[i]? = some (some v)->Vis X.env.scope x->∃ u,RelV v u/\Look X.env s.heap m x u
 cell:∀ x c,X.env.cells.lookup x=some c->∃ v,s.heap.IsCell c v
 free:H X.env.locals=none
 freeC:∀ x c,X.env.cells.lookup x=some c->H c=none
 pin:∀ p∈X.pn++pins,s.heap.get? p.1=some p.2/\H p.1=none/\p.1≠X.env.locals/\p.1∉X.fs/\∀ v,p.2.data≠.cell v
 hok:HOk X.prog X.w H s.heap
 len:σ.length=X.N.length
section
variable {X:Cx}{pins:List (Addr×Obj)}{σ:List (Option V)}{H H':Hp}{s:Shared}{h':Heap}
theorem Cx.Ok.nofr(ok:X.Ok){b:Addr}{o:Obj}(e:X.base.get? b=some o):b∉X.fs:=fun hb=>by
 have:=(ok.funs.mem hb).1
 rw [e] at this;cases this
theorem Inv.tab(I:Inv X pins σ H s):Tbs X.K H:=fun p hp=>by
 obtain ⟨m,e⟩:=I.ok.tab p hp
 obtain ⟨m2,e2⟩:=I.base.tbls _ _ e
 exact ⟨m++m2,by rw [e2,aV3]⟩
theorem Inv.bs(I:Inv X pins σ H s):∀ b o,X.base.get? b=some o->s.heap.get? b=some o/\H b=none:=fun b o e =>
 ⟨I.base.keep b o (I.ok.bs b o e).1 (I.ok.bs b o e).2 (I.ok.nofr e) (I.ok.noex b o e),I.base.free b o (I.ok.bs b o e).1 (I.ok.bs b o e).2 (I.ok.noex b o e)⟩
theorem Inv.bk(I:Inv X pins σ H s):∀ b o,X.base.get? b=some o->s.heap.get? b=some o:=fun b o e=>(I.bs b o e).1
theorem Inv.mod(I:Inv X pins σ H s):Mod X.K X.mg X.base:=I.ok.mod
theorem Inv.kIn(I:Inv X pins σ H s):X.K.In s.heap:=I.ok.mod.kin.keeps I.bk
theorem Inv.lt(I:Inv X pins σ H s):X.env.locals < s.heap.objs.size:=let ⟨_,hn,_⟩:=I.loc;hn.lt
theorem Inv.sz(I:Inv X pins σ H s):X.s₀.heap.objs.size<=s.heap.objs.size:=aR0 I.ok.above (aUq I.lt)
theorem Inv.nofs(I:Inv X pins σ H s){a:Addr}(h:s.heap.objs.size<=a):a∉X.fs:=fun hb=>by
 obtain ⟨_,o,ho,_⟩:=I.ok.funs.mem hb
 exact absurd (aRc (aQw ho) (aR0 I.sz h)) (aRt _)
theorem Inv.cne(I:Inv X pins σ H s):∀ x c,X.env.cells.lookup x=some c->c≠X.env.locals:=fun x c e z=>by
 obtain ⟨v,o,ho,hd⟩:=I.cell x c e
 obtain ⟨m,⟨o',es,ep,ho',hd',_⟩,_⟩:=I.loc
 rw [z,ho'] at ho;cases ho;rw [hd'] at hd;cases hd
theorem Inv.funs(I:Inv X pins σ H s):s.heap.FunFrames X.base X.outer:=by
 have all:∀ (l:List Env),(∀ b∈frs l,b∈X.fs)->X.s₀.heap.FunFrames X.base l->s.heap.FunFrames X.base l:=by
  intro l
  induction l with
  | nil=>intro _ _;trivial
  | cons env r ih =>
   intro hs hl
   obtain ⟨hk,⟨L,o,hf,hn,ho,hd⟩,hr⟩:=hl
   have hL:L∈X.fs:=hs L (by unfold frs;rw [aSd,hf];exact aTc)
   obtain ⟨sl,e⟩:=I.base.slot L o ho (I.ok.frf L hL) hL fun z=>I.ok.exfs L z hL
   exact ⟨hk,⟨L,_,hf,hn,e,hd⟩,ih (fun b hb=>hs b (by unfold frs;rw [aSd,hf];exact aRl _ hb)) hr⟩
 exact all X.outer (fun _ hb=>hb) I.ok.funs
theorem Inv.stack(I:Inv X pins σ H s):s.heap.FunFrames X.base X.stack:=by
 rcases I.ok.stk with e | ⟨e,hf⟩
 ·rw [e];exact I.funs
 ·rw [e]
  obtain ⟨m,hn,_⟩:=I.loc
  refine .cons (by rw [I.ok.kind];decide) hf hn ?_ I.funs
  exact Heap.get?_none_of_le (aR0 I.ok.bsz I.ok.above)
theorem Inv.stkSub(I:Inv X pins σ H s):∀ b∈frs X.stack,b∈X.env.locals :: X.fs:=fun b hb=>by
 rcases I.ok.stk with e | ⟨e,hf⟩
 ·rw [e] at hb;exact aRl _ hb
 ·rw [e] at hb
  unfold frs at hb
  rw [aSd,hf] at hb
  exact hb
theorem Inv.stkFree(I:Inv X pins σ H s):∀ b∈frs X.stack,H b=none:=fun b hb=>by
 rcases aQy.mp (I.stkSub b hb) with e | hb
 ·rw [e];exact I.free
 ·obtain ⟨_,o,ho,_⟩:=I.ok.funs.mem hb
  exact I.base.free b o ho (I.ok.frf b hb) fun z=>I.ok.exfs b z hb
theorem Inv.step{g':Array GenState}{t':Nat}{d':Drawn}{ch:List Addr}(I:Inv X pins σ H s)
  (hch:∀ b∈ch,(b∈X.ex\/X.s₀.heap.objs.size<=b)/\b≠X.env.locals/\(∀ x c,X.env.cells.lookup x=some c->c≠b)/\∀ p∈X.pn++pins,p.1≠b)
  (keep:∀ b o,b≠X.env.locals->b∉X.fs->b∉ch->s.heap.get? b=some o->H b=none->h'.get? b=some o)
  (slot:∀ b o,b≠X.env.locals->b∈X.fs->b∉ch->s.heap.get? b=some o->H b=none->∃ sl,h'.get? b=some { o with slots:=sl }) (free:∀ b o,b∉ch->s.heap.get? b=some o->H b=none->H' b=none)
  (there:∀ b o,b∉ch->s.heap.get? b=some o->∃ o',h'.get? b=some o')
  (tups:∀ b xs,H b=some (.tup xs)->H' b=some (.tup xs)) (frzs:∀ b o u,H b=some (.frz o u)->H' b=some (.frz o u)) (tbls:∀ b ps,H b=some (.tbl ps)->∃ more,H' b=some (.tbl (ps++more)))
  (ns:∀ m,s.heap.Ns X.env.locals m->h'.Ns X.env.locals m) (hok:HOk X.prog X.w H' h') (hg:AllBare g') :
  Inv X pins σ H' { s with heap:=h',gens:=g',drawn:=d',toks:=t' }:=by
 have neL:∀ b o,X.s₀.heap.get? b=some o->b≠X.env.locals:=fun b o e=>aRa (aRc (aQw e) I.ok.above)
 have neC:∀ b o,X.s₀.heap.get? b=some o->b∉X.ex->b∉ch:=fun b o e hx hb=>by
  rcases (hch b hb).1 with z | z
  ·exact hx z
  ·exact absurd (aRc (aQw e) z) (aRt _)
 have cellK:∀ x c,X.env.cells.lookup x=some c->∀ v,s.heap.IsCell c v->h'.IsCell c v:=fun x c e v ⟨o,ho,hd⟩=>by
  have nch:c∉ch:=fun z=>(hch c z).2.2.1 x c e rfl
  by_cases hc:c∈X.fs
  ·obtain ⟨sl,q⟩:=slot c o (I.cne x c e) hc nch ho (I.freeC x c e)
   exact ⟨_,q,hd⟩
  ·exact ⟨o,keep c o (I.cne x c e) hc nch ho (I.freeC x c e),hd⟩
 refine ⟨I.ok,I.os,hg,⟨fun b o e n hb hx=>?_,fun b o e n hb hx=>?_,fun b o e n hx=>?_,fun b o e hx=>?_,fun b xs e=>tups b xs (I.base.tups b xs e),fun b o xs e=>frzs b o xs (I.base.frzs b o xs e),fun b ps e=>?_⟩,?_,fun x c e=>?_,?_,fun x c e=>?_,fun p hp=>?_,hok,I.len⟩
 ·exact keep b o (neL b o e) hb (neC b o e hx) (I.base.keep b o e n hb hx) (I.base.free b o e n hx)
 ·obtain ⟨sl,e1⟩:=I.base.slot b o e n hb hx
  obtain ⟨sl',e2⟩:=slot b _ (neL b o e) hb (neC b o e hx) e1 (I.base.free b o e n hx)
  exact ⟨sl',e2⟩
 ·obtain ⟨o',e1⟩:=I.base.there b o e hx
  exact free b o' (neC b o e hx) e1 (I.base.free b o e n hx)
 ·obtain ⟨o',e1⟩:=I.base.there b o e hx
  exact there b o' (neC b o e hx) e1
 ·obtain ⟨m1,e1⟩:=I.base.tbls b ps e
  obtain ⟨m2,e2⟩:=tbls b _ e1
  exact ⟨m1++m2,by rw [e2,aV3]⟩
 ·obtain ⟨m,hn,hl⟩:=I.loc
  refine ⟨m,ns m hn,fun i x v e1 e2 e3=>?_⟩
  obtain ⟨u,r,l⟩:=hl i x v e1 e2 e3
  refine ⟨u,r,?_⟩
  rcases l with l | ⟨k,c,e,z⟩
  ·exact .inl l
  ·exact .inr ⟨k,c,e,cellK x c e _ z⟩
 ·obtain ⟨v,z⟩:=I.cell x c e
  exact ⟨v,cellK x c e v z⟩
 ·obtain ⟨m,⟨o,_,_,ho,_⟩,_⟩:=I.loc
  exact free _ o (fun z=>(hch _ z).2.1 rfl) ho I.free
 ·obtain ⟨v,o,ho,hd⟩:=I.cell x c e
  exact free c o (fun z=>(hch c z).2.2.1 x c e rfl) ho (I.freeC x c e)
 ·obtain ⟨e,n,ne,nf,d⟩:=I.pin p hp
  have nch:p.1∉ch:=fun z=>(hch p.1 z).2.2.2 p hp rfl
  exact ⟨keep p.1 p.2 ne nf nch e n,free p.1 p.2 nch e n,ne,nf,d⟩
theorem Inv.un{t':Nat}(I:Inv X pins σ H s)(u:Un X.fs [] H H' s.heap h')(hok:HOk X.prog X.w H' h'):Inv X pins σ H' { s with heap:=h',toks:=t' }:=by
 obtain ⟨m,⟨o,es,ep,ho,r⟩,_⟩:=id I.loc
 obtain ⟨sl,hL⟩:=u.any ho I.free (by simp)
 exact I.step (g':=s.gens) (d':=s.drawn) (ch:=[]) (fun _ z=>nomatch z) (fun b o _ hb _ e n=>u.keep b o e n hb (by simp)) (fun b o _ hb _ e n=>u.slot b o e n hb (by simp)) (fun b o _ e n=>u.free b o e n (by simp)) (fun b o _ e=>u.there b o e (by simp)) u.tups u.frzs u.tbls (fun m' hm=>by
  obtain ⟨o',es',ep',ho',r'⟩:=hm
  rw [ho] at ho';cases ho'
  exact ⟨_,es',ep',hL,r'⟩) hok I.bare
theorem Inv.call{g':Array GenState}{t':Nat}{d':Drawn}{ch:List Addr}(I:Inv X pins σ H s)(u:Un (frs X.stack) ch H H' s.heap h')(hok:HOk X.prog X.w H' h')(hg:AllBare g')
  (hch:∀ b∈ch,(b∈X.ex\/X.s₀.heap.objs.size<=b)/\b≠X.env.locals/\(∀ x c,X.env.cells.lookup x=some c->c≠b)/\∀ p∈X.pn++pins,p.1≠b) :
  Inv X pins σ H' { s with heap:=h',gens:=g',drawn:=d',toks:=t' }:=by
 obtain ⟨m,⟨o,es,ep,ho,r⟩,_⟩:=id I.loc
 obtain ⟨sl,hL⟩:=u.any ho I.free fun z=>(hch _ z).2.1 rfl
 exact I.step (ch:=ch) hch (fun b o hL hb hc e n=>u.keep b o e n (fun z=>(aQy.mp (I.stkSub b z)).elim hL hb) hc) (fun b o _ _ hc e n=>u.any e n hc) (fun b o hc e n=>u.free b o e n hc) (fun b o hc e=>u.there b o e hc) u.tups u.frzs u.tbls (fun m' hm=>by
  obtain ⟨o',es',ep',ho',r'⟩:=hm
  rw [ho] at ho';cases ho'
  exact ⟨_,es',ep',hL,r'⟩) hok hg
theorem Inv.turned{t':Nat}{it:Addr}(I:Inv X pins σ H s)(k:∀ b o,b≠it->s.heap.get? b=some o->h'.get? b=some o)(hn:H it=none)(hL:it≠X.env.locals)
  (h1:it∈X.ex\/X.s₀.heap.objs.size<=it) (h2:∀ x c,X.env.cells.lookup x=some c->c≠it) (h3:∀ p∈X.pn++pins,p.1≠it):Inv X pins σ H { s with heap:=h',toks:=t' }:=by
 have nit:∀ b u,H b=some u->b≠it:=fun b u e z=>by rw [z,hn] at e;cases e
 refine I.step (g':=s.gens) (d':=s.drawn) (ch:=[it]) (fun b hb=>?_) (fun b o _ _ hc e _=>k b o (fun z=>hc (by simp [z])) e) (fun b o _ _ hc e _=>⟨o.slots,k b o (fun z=>hc (by simp [z])) e⟩) (fun _ _ _ _ n=>n)
  (fun b o hc e=>⟨o,k b o (fun z=>hc (by simp [z])) e⟩) (fun _ _ e=>e) (fun _ _ _ e=>e) (fun b ps e=>⟨#[],by rw [e];simp⟩) (fun m hm=>?_) (fun b u e=>?_) I.bare
 ·have e:b=it:=by simpa using hb
  subst e
  exact ⟨h1,hL,h2,h3⟩
 ·obtain ⟨o,es,ep,ho,r⟩:=hm
  exact ⟨o,es,ep,k _ o (aU6 hL) ho,r⟩
 ·refine (I.hok b u e).stay (fun c v hc q=>k c v ?_ q) (fun _ q=>q) fun _ _ q=>q
  rcases hc with z | z
  ·rw [z];exact nit b u e
  ·exact nit c _ z
theorem Inv.tok(I:Inv X pins σ H s)(t:Nat):Inv X pins σ H { s with toks:=t }:=I.un (h':=s.heap) (t':=t) Un.refl I.hok
theorem Inv.kept{t':Nat}(I:Inv X pins σ H s)(k:∀ b u,s.heap.get? b=some u->h'.get? b=some u):Inv X pins σ H { s with heap:=h',toks:=t' }:=I.un (Un.kept k) (I.hok.kept k)
theorem Inv.laid{a:Addr}{o:HO}{t':Nat}(I:Inv X pins σ H s)(k:∀ b u,s.heap.get? b=some u->h'.get? b=some u)(hp:s.heap.objs.size<=a)(new:ObjOk X.prog X.w (upd H a o) h' a o) :
  Inv X pins σ (upd H a o) { s with heap:=h',toks:=t' }:=I.un (Un.laid k hp (I.hok.fresh hp)) (I.hok.laid k hp new)
theorem Inv.write{x e:Addr}{o:HO}{t':Nat}(I:Inv X pins σ H s)(mu:Mut (H x))(he:e=x\/H e=some (.own x))(k:∀ b u,b≠e->s.heap.get? b=some u->h'.get? b=some u)(heo:∃ u,h'.get? e=some u)
  (new:ObjOk X.prog X.w (upd H x o) h' x o):Inv X pins σ (upd H x o) { s with heap:=h',toks:=t' }:=I.un (Un.write mu he k heo) (I.hok.write mu he k heo new)
theorem Inv.weak{σ':List (Option V)}(I:Inv X pins σ H s)(hl:σ'.length=σ.length)(w:∀ (i:Nat) v,σ'[i]? = some (some v)->σ[i]? = some (some v)):Inv X pins σ' H s :=
 ⟨I.ok,I.os,I.bare,I.base,let ⟨m,hn,hl'⟩:=I.loc;⟨m,hn,fun i x v e1 e2 e3=>hl' i x v e1 (w i v e2) e3⟩,I.cell,I.free,I.freeC,I.pin,I.hok,hl.trans I.len⟩
theorem Inv.pins_of{pins':List (Addr×Obj)}(I:Inv X pins σ H s)(h:∀ p∈pins',s.heap.get? p.1=some p.2/\H p.1=none/\p.1≠X.env.locals/\p.1∉X.fs/\∀ v,p.2.data≠.cell v):Inv X pins' σ H s :=
 ⟨I.ok,I.os,I.bare,I.base,I.loc,I.cell,I.free,I.freeC,fun p hp=>(aSe.mp hp).elim (fun z=>I.pin p (aTh _ z)) (h p),I.hok,I.len⟩
theorem wD{N:List Str}(hN:N.Nodup){i j:Nat}{x:Str}(a:N[i]? = some x)(b:N[j]? = some x):i=j:=by
 obtain ⟨h1,e1⟩:=aRe.mp a
 obtain ⟨h2,e2⟩:=aRe.mp b
 exact (List.getElem_inj hN).mp (e1.trans e2.symm)
theorem aCb{M:Model}{A:Around}{E:Value->Shared->Prop}{i:Nat}{x:Str}{v:V}{u:Value}{Q:Unit->Shared->Prop}(I:Inv X pins σ H s)(hN:X.N.Nodup)(hi:X.N[i]? = some x)(hx:Loc X.env.scope x)(r:RelV v u)
  (h:∀ s',Inv X pins (σ.set i (some v)) H s'->(∃ a,Heap.SameBut a s.heap s'.heap/\(a=X.env.locals\/X.env.cells.lookup x=some a))->Q () s') (hf:X.fn x=true\/X.env.scope.names.lookup x=some .local:=by first | exact .inl rfl | exact .inr rfl | assumption):wpAny M A (storeName X.env x u) Q E s:=by
 obtain ⟨m,hn,hl⟩:=id I.loc
 have hcls:(X.env.scope.kind == .class || (X.env.scope.kind == .module && X.env.locals != X.env.globals))=false:=by rw [I.ok.kind];rfl
 have hiσ:i < σ.length:=by rw [I.len];exact (aRe.mp hi).1
 have cne:=I.cne
 have tracked:∀ {a:Addr} {h':Heap},(∃ o,s.heap.get? a=some o/\H a=none)->Heap.SameBut a s.heap h'->HOk X.prog X.w H h':=fun {a h'} ha hs b ob e=>by
  obtain ⟨_,_,hfree⟩:=ha
  refine (I.hok b ob e).stay (fun c w' hc q=>(hs.2 c ?_).trans q) (fun _ q=>q) fun _ _ q=>q
  rintro rfl
  rcases hc with rfl | hc
  ·rw [hfree] at e;cases e
  ·rw [hfree] at hc;cases hc
 rcases hx with hk | hk
 ·refine wpAny_storeName_local hk hn (fun h' hn' hs=>?_) hcls
  obtain ⟨oL,_,_,hoL,_⟩:=id hn
  refine h _ ⟨I.ok,I.os,I.bare,⟨fun b o e n hb hx=>?_,fun b o e n hb hx=>?_,I.base.free,fun b o e hx=>?_,I.base.tups,I.base.frzs,I.base.tbls⟩,⟨_,hn',fun j y v' e1 e2 e3=>?_⟩,fun y c e=>?_,I.free,I.freeC,fun p hp=>?_,tracked ⟨oL,hoL,I.free⟩ hs,by simpa using I.len⟩ ⟨_,hs,.inl rfl⟩
  ·exact (hs.2 b (aRa (aRc (aQw e) I.ok.above))).trans (I.base.keep b o e n hb hx)
  ·obtain ⟨sl,e1⟩:=I.base.slot b o e n hb hx
   exact ⟨sl,(hs.2 b (aRa (aRc (aQw e) I.ok.above))).trans e1⟩
  ·obtain ⟨o',e1⟩:=I.base.there b o e hx
   exact ⟨o',(hs.2 b (aRa (aRc (aQw e) I.ok.above))).trans e1⟩
  ·by_cases hj:j=i
   ·subst hj
    rw [hi] at e1;cases e1
    rw [aU4 hiσ] at e2
    cases e2
    exact ⟨u,r,.inl ⟨hk,by simp⟩⟩
   ·rw [aVk (aU6 hj)] at e2
    obtain ⟨u',r',q⟩:=hl j y v' e1 e2 e3
    refine ⟨u',r',?_⟩
    rcases q with ⟨k,e⟩ | ⟨k,c,e,z⟩
    ·refine .inl ⟨k,?_⟩
     have:y≠x:=fun e=>hj (wD hN e1 (e▸hi))
     simp [this,e]
    ·exact .inr ⟨k,c,e,z.sameBut hs (cne y c e)⟩
  ·obtain ⟨w',z⟩:=I.cell y c e
   exact ⟨w',z.sameBut hs (cne y c e)⟩
  ·obtain ⟨e,n,ne,nf,d⟩:=I.pin p hp
   exact ⟨(hs.2 p.1 ne).trans e,n,ne,nf,d⟩
 ·have hfn:X.fn x=true:=by
   rcases hf with z | z
   ·exact z
   ·rw [z] at hk;cases hk
  obtain ⟨c,hc⟩:=I.ok.has x (.inl hk)
  obtain ⟨w',z⟩:=I.cell x c hc
  refine wpAny_storeName_cell I.ok.kind hk hc z (fun h' hc' hs=>?_)
  obtain ⟨oc,hoc,hocd⟩:=id z
  refine h { s with heap:=h' } ⟨I.ok,I.os,I.bare,⟨fun b o e n hb hx=>?_,fun b o e n hb hx=>?_,I.base.free,fun b o e hx=>?_,I.base.tups,I.base.frzs,I.base.tbls⟩,⟨m,hn.sameBut hs (aU6 (cne x c hc)),fun j y v' e1 e2 e3=>?_⟩,fun y c' e=>?_,I.free,I.freeC,fun p hp=>?_,tracked ⟨oc,hoc,I.freeC x c hc⟩ hs,by simpa using I.len⟩ ⟨c,hs,.inr hc⟩
  ·exact (hs.2 b (aRa (aRc (aQw e) (I.ok.cab x c hfn hc)))).trans (I.base.keep b o e n hb hx)
  ·obtain ⟨sl,e1⟩:=I.base.slot b o e n hb hx
   exact ⟨sl,(hs.2 b (aRa (aRc (aQw e) (I.ok.cab x c hfn hc)))).trans e1⟩
  ·obtain ⟨o',e1⟩:=I.base.there b o e hx
   exact ⟨o',(hs.2 b (aRa (aRc (aQw e) (I.ok.cab x c hfn hc)))).trans e1⟩
  ·by_cases hj:j=i
   ·subst hj
    rw [hi] at e1;cases e1
    rw [aU4 hiσ] at e2
    cases e2
    exact ⟨u,r,.inr ⟨.inl hk,c,hc,hc'⟩⟩
   ·rw [aVk (aU6 hj)] at e2
    obtain ⟨u',r',q⟩:=hl j y v' e1 e2 e3
    refine ⟨u',r',?_⟩
    rcases q with q | ⟨k,c',e,z'⟩
    ·exact .inl q
    ·refine .inr ⟨k,c',e,z'.sameBut hs ?_⟩
     rintro rfl
     exact hj (wD hN e1 (I.ok.inj _ _ _ e hc▸hi))
  ·by_cases hcc:c'=c
   ·subst hcc;exact ⟨_,hc'⟩
   ·obtain ⟨w2,z2⟩:=I.cell y c' e
    exact ⟨w2,z2.sameBut hs hcc⟩
  ·obtain ⟨e,n,ne,nf,d⟩:=I.pin p hp
   refine ⟨(hs.2 p.1 ?_).trans e,n,ne,nf,d⟩
   intro q
   rw [q,hoc] at e
   have q':oc=p.2:=aQ7 e
   exact d w' (by rw [<- q'];exact hocd)
theorem mT{M:Model}{A:Around}{E:Value->Shared->Prop}{i:Nat}{x:Str}{v:V}{u:Value}{Q:Unit->Shared->Prop}(I:Inv X pins σ H s)(hN:X.N.Nodup)(hi:X.N[i]? = some x)(hx:Loc X.env.scope x)(r:RelV v u)
  (h:∀ s',Inv X pins (σ.set i (some v)) H s'->Q () s') (hf:X.fn x=true\/X.env.scope.names.lookup x=some .local:=by first | exact .inl rfl | exact .inr rfl | assumption):wpAny M A (storeName X.env x u) Q E s :=
 aCb I hN hi hx r (fun s' I' _=>h s' I') hf
theorem Inv.call'{s':Shared}{ch:List Addr}(I:Inv X pins σ H s)(ho:s'.os=s.os)(u:Un (frs X.stack) ch H H' s.heap s'.heap)(hok:HOk X.prog X.w H' s'.heap)(hg:AllBare s'.gens)
  (hch:∀ b∈ch,(b∈X.ex\/X.s₀.heap.objs.size<=b)/\b≠X.env.locals/\(∀ x c,X.env.cells.lookup x=some c->c≠b)/\∀ p∈X.pn++pins,p.1≠b):Inv X pins σ H' s':=by
 obtain ⟨h',g',d',t',o'⟩:=s'
 have e:o'=s.os:=ho
 subst e
 exact I.call (g':=g') (t':=t') (d':=d') u hok hg hch
end
abbrev XK:=Value->Option Addr->Hp->Prop
abbrev St:=List (Option V)
abbrev VK:=V->Hp->Prop
abbrev TE:=St->Hp->VK->Prop
abbrev TT:=St->Hp->(Bool->Hp->Prop)->Prop
abbrev TA:=St->Hp->(List V->Hp->Prop)->Prop
structure Ends where
 nx:St->Hp->Prop
 rt:VK
 bk:St->Hp->Prop:=fun _ _=>False
 ct:St->Hp->Prop:=fun _ _=>False
abbrev TS:=Ends->St->Hp->Prop
def EP(X:Cx)(pins:List (Addr×Obj))(σ:St)(Q:VK)(u:Value)(s':Shared):Prop:=∃ v H',Inv X pins σ H' s'/\RelV v u/\Q v H'
def TP(X:Cx)(pins:List (Addr×Obj))(σ:St)(Q:Bool->Hp->Prop)(b:Bool)(s':Shared):Prop:=∃ H',Inv X pins σ H' s'/\Q b H'
def AP(X:Cx)(pins:List (Addr×Obj))(σ:St)(Q:List V->Hp->Prop)(us:List Value)(s':Shared):Prop:=∃ vs H',Inv X pins σ H' s'/\Vals vs us/\Q vs H'
def SP(X:Cx)(pins:List (Addr×Obj))(D:Ends)(f:Flow)(s':Shared):Prop :=
 match f with
 | .next=>∃ σ' H',Inv X pins σ' H' s'/\D.nx σ' H'
 | .brk=>∃ σ' H',Inv X pins σ' H' s'/\D.bk σ' H'
 | .cont=>∃ σ' H',Inv X pins σ' H' s'/\D.ct σ' H'
 | .ret u=>∃ v σ' H',Inv X pins σ' H' s'/\RelV v u/\D.rt v H'
def PE(X:Cx)(e:Expr)(t:TE):Prop :=
 ∀ (pins:List (Addr×Obj)) (s:Shared) (σ:St) (H:Hp) (Q:VK),Inv X pins σ H s->t σ H Q->wpAny (model X.prog X.w) X.A (eval e X.env) (EP X pins σ Q) X.xe s
def PT(X:Cx)(e:Expr)(t:TT):Prop :=
 ∀ (pins:List (Addr×Obj)) (s:Shared) (σ:St) (H:Hp) (Q:Bool->Hp->Prop),Inv X pins σ H s->t σ H Q->wpAny (model X.prog X.w) X.A (isTrue e X.env (eval e X.env)) (TP X pins σ Q) X.xe s
def PW(X:Cx)(e:Expr)(t:TT):Prop :=
 ∀ (whole:Sem Value) (pins:List (Addr×Obj)) (s:Shared) (σ:St) (H:Hp) (Q:Bool->Hp->Prop),Inv X pins σ H s->t σ H Q->wpAny (model X.prog X.w) X.A (isTrue e X.env whole) (TP X pins σ Q) X.xe s
def PA(X:Cx)(es:List Expr)(t:TA):Prop :=
 ∀ (pos:Pos) (pins:List (Addr×Obj)) (s:Shared) (σ:St) (H:Hp) (Q:List V->Hp->Prop),Inv X pins σ H s->t σ H Q->wpAny (model X.prog X.w) X.A (spliced (backTo pos (starEach es X.env))) (AP X pins σ Q) X.xe s
def PS(X:Cx)(st:Stmt)(t:TS):Prop :=
 ∀ (pins:List (Addr×Obj)) (s:Shared) (σ:St) (H:Hp) (D:Ends),Inv X pins σ H s->t D σ H->wpAny (model X.prog X.w) X.A (exec st X.env) (SP X pins D) X.xe s
def PSs(X:Cx)(st:List Stmt)(t:TS):Prop :=
 ∀ (pins:List (Addr×Obj)) (s:Shared) (σ:St) (H:Hp) (D:Ends),Inv X pins σ H s->t D σ H->wpAny (model X.prog X.w) X.A (execs st X.env) (SP X pins D) X.xe s
theorem thn{α:Type}{t:Sem α}{Q Q':α->Shared->Prop}{M:Model}{A:Around}{E:Value->Shared->Prop}{s:Shared}(h:wpAny M A t Q E s)(hQ:∀ a s,Q a s->Q' a s):wpAny M A t Q' E s:=aR4 h hQ fun _ _ x=>x
section
variable {X:Cx}
def xX(i:Nat):TE:=fun σ H Q=>∃ v,σ[i]? = some (some v)/\Q v H
def tC(v:V):TE:=fun _ H Q=>Q v H
theorem xP{i:Nat}{x:Str}{pos:Pos}(hN:X.N[i]? = some x)(hv:Vis X.env.scope x)(hd:(x == ("__debug__" : Str))=false:=by decide)(hcd:(x == ("__classdict__" : Str))=false:=by decide):PE X (.Name x pos) (xX i):=by
 intro pins s σ H Q I h
 obtain ⟨v,e,h⟩:=h
 obtain ⟨m,hn,hl⟩:=I.loc
 obtain ⟨u,r,l⟩:=hl i x v hN e hv
 have fin:EP X pins σ Q u s:=⟨v,H,I,r,h⟩
 rcases l with ⟨hk,hm⟩ | ⟨hk,c,hc,hcell⟩
 ·exact wpAny_Name (wpAny_loadName_local I.ok.kind hk hn hm fin) hd
 ·rcases hk with hk | hk
  ·exact wpAny_Name (wpAny_loadName_cell I.ok.kind hk hc hcell fin) hd
  ·exact wpAny_Name (wpAny_loadName_free I.ok.kind hk hc hcell fin hcd) hd
theorem aLr{i j pos}:PE X (.Constant (.int i) j pos) (tC (.int i)):=fun _ _ _ H _ I h=>wpAny_Constant_int ⟨.int i,H,I.tok _,⟨_,rfl⟩,h⟩
theorem aNb{b j pos}:PE X (.Constant (.bool b) j pos) (tC (.bl b)):=fun _ _ _ H _ I h=>Constant_bool ⟨.bl b,H,I,rfl,h⟩
theorem aMj{x j pos}:PE X (.Constant (.str x) j pos) (tC (.str x)):=fun _ _ _ H _ I h=>Calls.Constant_str ⟨.str x,H,I.tok _,⟨_,rfl⟩,h⟩
def Gl(X:Cx)(x:Str):Prop:=X.env.kindOf x=some .globalImplicit
theorem qL{E:Value->Shared->Prop}{pins:List (Addr×Obj)}{s:Shared}{σ:St}{H:Hp}{x:Str}{u:Value}{pos:Pos}{Q:Value->Shared->Prop}(I:Inv X pins σ H s)(hg:Gl X x)(hm:X.mg x=some u)(h:Q u s)
  (hd:(x == ("__debug__" : Str))=false:=by decide):wpAny (model X.prog X.w) X.A (eval (.Name x pos) X.env) Q E s :=
 Calls.Name_function_global I.ok.kind hg (Calls.loadGlobal_global (by rw [I.ok.glob];exact I.mod.glob.keeps I.bk) hm h) hd
theorem lB{E:Value->Shared->Prop}{pins:List (Addr×Obj)}{s:Shared}{σ:St}{H:Hp}{x:Str}{u:Value}{pos:Pos}{Q:Value->Shared->Prop}(I:Inv X pins σ H s)(hg:Gl X x)(hm:X.mg x=none)(hv:bootBuiltins x=some u)(h:Q u s)
  (hn:x≠"__name__":=by decide) (hd:(x == ("__debug__" : Str))=false:=by decide):wpAny (model X.prog X.w) X.A (eval (.Name x pos) X.env) Q E s:=by
 obtain ⟨mb,h1,h2⟩:=I.mod.blt
 exact Calls.Name_function_global I.ok.kind hg (Calls.loadGlobal_builtin (by rw [I.ok.glob];exact I.mod.glob.keeps I.bk) hm (by rw [I.ok.blt];exact h1.keeps I.bk) ((h2 x hn).trans hv) h) hd
theorem aHf{x:Str}{v:V}{u:Value}{pos:Pos}(hg:Gl X x)(hm:X.mg x=some u)(r:RelV v u)(hd:(x == ("__debug__" : Str))=false:=by decide):PE X (.Name x pos) (tC v) :=
 fun _ _ _ H _ I h=>qL I hg hm ⟨v,H,I,r,h⟩ hd
theorem aB5{x:Str}{v:V}{u:Value}{pos:Pos}(hg:Gl X x)(hm:X.mg x=none)(hv:bootBuiltins x=some u)(r:RelV v u)(hn:x≠"__name__":=by decide)(hd:(x == ("__debug__" : Str))=false:=by decide):PE X (.Name x pos) (tC v) :=
 fun _ _ _ H _ I h=>lB I hg hm hv ⟨v,H,I,r,h⟩ hn hd
variable {a b:Expr}{ta tb:TE}{pos:Pos}
def PC(X:Cx)(op:CmpOp)(a b:Expr)(t:TE):Prop :=
 ∀ (pins:List (Addr×Obj)) (s:Shared) (σ:St) (H:Hp) (Q:VK),Inv X pins σ H s->t σ H Q ->
  wpAny (model X.prog X.w) X.A (eval a X.env) (fun v s₁=>wpAny (model X.prog X.w) X.A (eval b X.env) (fun u s₂=>wpAny (model X.prog X.w) X.A (compareOp op v u) (EP X pins σ Q) X.xe s₂) X.xe s₁) X.xe s
theorem aDw(b:Expr){op:CmpOp}(h:op≠.In)(h2:op≠.NotIn):behindInMarks op b=false:=by
 have e1:(op == CmpOp.In)=false:=by cases op<;>first | rfl | exact absurd rfl h
 have e2:(op == CmpOp.NotIn)=false:=by cases op<;>first | rfl | exact absurd rfl h2
 cases b<;>simp [behindInMarks,e1,e2]
def tB(t:TE):TT:=fun σ H Q=>t σ H fun x H1=>∃ c,x=.bl c/\Q c H1
theorem aF1{op:CmpOp}{t:TE}(h:PC X op a b t)(h1:behindInMarks op b=false:=by first | exact aDw _ (by decide) (by decide) | rfl):PT X (.Compare a [op] [b] pos) (tB t):=by
 intro pins s σ H Q I hw
 refine wpAny_isTrue_Compare1 (thn (h pins s σ H _ I hw) fun v s1 h1=>thn h1 fun u s2 h2=>thn h2 fun c s3 ⟨x,H1,I1,r1,q1⟩=>?_) h1
 obtain ⟨d,rfl,q⟩:=q1
 cases r1
 exact aS7 ⟨H1,I1,q⟩
theorem aK2{e:Expr}{t:TE}(h:PE X e t)(he:∀ whole,isTrue e X.env whole=(do let v <- whole;standAt e.pos;holding [v] (truthy v)):=by intro _;rfl):PT X e (tB t):=by
 intro pins s σ H Q I hw
 refine isTrue_plain (thn (h pins s σ H _ I hw) fun v s1 ⟨x,H1,I1,r1,q1⟩=>?_) (he _)
 obtain ⟨d,rfl,q⟩:=q1
 cases r1
 exact aS7 ⟨H1,I1,q⟩
variable {tA tB':TT}{rest:List Expr}
def aQb(t u:TT):TT:=fun σ H Q=>t σ H fun c H1=>if c=true then u σ H1 Q else Q false H1
def tOr(t u:TT):TT:=fun σ H Q=>t σ H fun c H1=>if c=true then Q true H1 else u σ H1 Q
def aPu(t:TT):TT:=fun σ H Q=>t σ H fun c H1=>Q (!c) H1
theorem aIt(ha:PT X a tA):PW X (.BoolOp .And [a] pos) tA:=by
 intro wh pins s σ H Q I h
 refine isTrue_and (thn (ha pins s σ H Q I h) fun c s1 e=>?_)
 cases c with
 | true=>exact isTrue_and_nil e
 | false=>exact e
theorem aLa(ha:PT X a tA):PW X (.BoolOp .Or [a] pos) tA:=by
 intro wh pins s σ H Q I h
 refine isTrue_or (thn (ha pins s σ H Q I h) fun c s1 e=>?_)
 cases c with
 | false=>exact isTrue_or_nil e
 | true=>exact e
theorem aKu(ha:PT X a tA)(hb:PW X (.BoolOp .And (b :: rest) pos) tB'):PW X (.BoolOp .And (a :: b :: rest) pos) (aQb tA tB'):=by
 intro wh pins s σ H Q I h
 refine isTrue_and (thn (ha pins s σ H _ I h) fun c s1 ⟨H1,I1,q1⟩=>?_)
 cases c with
 | true=>exact hb wh pins s1 σ H1 Q I1 q1
 | false=>exact ⟨H1,I1,q1⟩
theorem aNo(ha:PT X a tA)(hb:PW X (.BoolOp .Or (b :: rest) pos) tB'):PW X (.BoolOp .Or (a :: b :: rest) pos) (tOr tA tB'):=by
 intro wh pins s σ H Q I h
 refine isTrue_or (thn (ha pins s σ H _ I h) fun c s1 ⟨H1,I1,q1⟩=>?_)
 cases c with
 | true=>exact ⟨H1,I1,q1⟩
 | false=>exact hb wh pins s1 σ H1 Q I1 q1
theorem aLb(ha:PT X a tA):PT X (.UnaryOp .Not a pos) (aPu tA):=by
 intro pins s σ H Q I h
 exact isTrue_not (ha pins s σ H (fun c H1=>Q (!c) H1) I h)
def aN4(ta tb:TE):TE:=fun σ H Q=>ta σ H fun x H1=>∃ c,x=.bl c/\if c=true then tb σ H1 Q else Q (.bl false) H1
def aOv(ta:TE):TE:=fun σ H Q=>ta σ H fun x H1=>∃ c,x=.bl c/\Q (.bl (!c)) H1
theorem aJk{op}{t:TE}(h:PE X a t):PE X (.BoolOp op [a] pos) t:=fun pins s σ H Q I hw=>BoolOp_one (h pins s σ H Q I hw)
theorem aJj(ha:PE X a ta)(hb:PE X (.BoolOp .And (b :: rest) pos) tb):PE X (.BoolOp .And (a :: b :: rest) pos) (aN4 ta tb):=by
 intro pins s σ H Q I h
 refine BoolOp_and (thn (ha pins s σ H _ I h) fun v s1 ⟨x,H1,I1,r1,q1⟩=>?_)
 obtain ⟨c,rfl,q1⟩:=q1
 cases r1
 refine aS7 ?_
 cases c with
 | true=>exact hb pins s1 σ H1 Q I1 q1
 | false=>exact ⟨.bl false,H1,I1,rfl,q1⟩
theorem aKp(ha:PE X a ta):PE X (.UnaryOp .Not a pos) (aOv ta):=by
 intro pins s σ H Q I h
 refine UnaryOp_ (thn (ha pins s σ H _ I h) fun v s1 ⟨x,H1,I1,r1,q1⟩=>?_)
 obtain ⟨c,rfl,q1⟩:=q1
 cases r1
 exact not_of (aS7 ⟨.bl (!c),H1,I1,rfl,q1⟩)
def tIf(t:TT)(ta tb:TE):TE:=fun σ H Q=>t σ H fun c H1=>if c=true then ta σ H1 Q else tb σ H1 Q
theorem aD5{c:Expr}(hc:PT X c tA)(ha:PE X a ta)(hb:PE X b tb):PE X (.IfExp c a b pos) (tIf tA ta tb):=by
 intro pins s σ H Q I h
 refine wpAny_IfExp (thn (hc pins s σ H _ I h) fun d s1 ⟨H1,I1,q1⟩=>?_)
 cases d with
 | true=>exact ha pins s1 σ H1 Q I1 q1
 | false=>exact hb pins s1 σ H1 Q I1 q1
end
def SqL(K:aQk)(H:Hp)(a:Addr)(xs:List V):Prop :=
 Rd H a (.lst xs) \/
  ∃ (o:Obj) (its:Array Value) (n:Nat),K.lookup a=some o/\o.cls=.type "list"/\o.dict=none/\o.data=.seq its n/\its.size<=sizeLine/\Vals xs its.toList
def SqT(K:aQk)(H:Hp)(a:Addr)(xs:List V):Prop :=
 Rd H a (.tup xs) \/
  ∃ (o:Obj) (its:Array Value) (n:Nat),K.lookup a=some o/\o.cls=.type "tuple"/\o.data=.seq its n/\its.size<=sizeLine/\Vals xs its.toList
def aPt:Value->Option V
 | .none=>some .non
 | .bool b=>some (.bl b)
 | .int i _=>some (.int i)
 | .str x _=>some (.str x)
 | .bytes b _=>some (.byt b)
 | .float b _=>some (.flt b)
 | .ref a=>some (.ref a)
 | .type n=>some (.ty n)
 | _=>none
theorem RelV.abs{x:V}{u:Value}(r:RelV x u):aPt u=some x:=by
 cases x with
 | non=>cases r;rfl
 | bl _=>cases r;rfl
 | int _=>obtain ⟨t,rfl⟩:=r;rfl
 | str _=>obtain ⟨t,rfl⟩:=r;rfl
 | byt _=>obtain ⟨t,rfl⟩:=r;rfl
 | flt _=>obtain ⟨t,rfl⟩:=r;rfl
 | ref _=>cases r;rfl
 | ty _=>cases r;rfl
theorem RelV.inj{x y:V}{u:Value}(r:RelV x u)(q:RelV y u):x=y:=aQ7 (r.abs.symm.trans q.abs)
theorem Vals.inj:∀ {xs ys:List V} {us:List Value},Vals xs us->Vals ys us->xs=ys
 | _,_,_,.nil,.nil=>rfl
 | _,_,_,.cons r t,.cons r' t'=>by rw [r.inj r',Vals.inj t t']
section
variable {X:Cx}{pins:List (Addr×Obj)}{σ:St}{H:Hp}{s:Shared}{a:Addr}{xs ys:List V}
theorem SqL.of{K:aQk}(h:H a=some (.lst xs)):SqL K H a xs:=.inl (.inl h)
theorem SqT.of{K:aQk}(h:H a=some (.tup xs)):SqT K H a xs:=.inl (.inl h)
theorem Inv.list(I:Inv X pins σ H s)(h:SqL X.K H a xs):∃ its:List Value,Vals xs its/\PlainL s.heap a its.toArray/\xs.length<=sizeLine:=by
 rcases h with h | ⟨o,its,n,hk,hc,hd,hs,hz,r⟩
 ·obtain ⟨z,its,n,r,e⟩:=h.ok I.hok
  exact ⟨its,r,⟨_,n,e,rfl,rfl,rfl⟩,z⟩
 ·refine ⟨its.toList,r,⟨o,n,I.kIn a o hk,hc,hd,by simpa using hs⟩,?_⟩
  have e:=r.length
  simp only [aQ4] at e
  omega
theorem Inv.tuple(I:Inv X pins σ H s)(h:SqT X.K H a xs):∃ its:List Value,Vals xs its/\IsTup s.heap a its.toArray/\xs.length<=sizeLine:=by
 rcases h with h | ⟨o,its,n,hk,hc,hs,hz,r⟩
 ·obtain ⟨z,its,r,p⟩:=h.ok I.hok
  exact ⟨its,r,p,z⟩
 ·refine ⟨its.toList,r,⟨o,I.kIn a o hk,hc,n,by simpa using hs⟩,?_⟩
  have e:=r.length
  simp only [aQ4] at e
  omega
theorem Inv.list_inj(I:Inv X pins σ H s)(h:SqL X.K H a xs)(h':SqL X.K H a ys):xs=ys:=by
 obtain ⟨its,r,⟨o,n,e,_,_,d⟩,_⟩:=I.list h
 obtain ⟨its',r',⟨o',n',e',_,_,d'⟩,_⟩:=I.list h'
 rw [e] at e';cases e'
 rw [d] at d'
 injection d' with d1 _
 have:its=its':=by simpa using aUn Array.toList d1
 subst this
 exact r.inj r'
end
section
variable {X:Cx}{pins:List (Addr×Obj)}{σ:St}{H:Hp}{s:Shared}{E:Value->Shared->Prop}
end
section
variable {X:Cx}{st:Stmt}{rest:List Stmt}{t u:TS}{e:Expr}{te:TE}{pos:Pos}
def aN9:TS:=fun D σ H=>D.nx σ H
def aP4(t u:TS):TS:=fun D σ H=>t { D with nx:=u D } σ H
theorem aAc:PSs X [] aN9:=fun _ _ σ H _ I h=>aVq ⟨σ,H,I,h⟩
theorem qA(h1:PS X st t)(h2:PSs X rest u):PSs X (st :: rest) (aP4 t u):=by
 intro pins s σ H D I h
 refine wpAny_execs_cons (thn (h1 pins s σ H { D with nx:=u D } I h) fun f s1 q=>?_)
 cases f with
 | next =>
  obtain ⟨σ',H',I',q⟩:=q
  exact h2 pins s1 σ' H' D I' q
 | ret v=>exact q
 | brk=>exact q
 | cont=>exact q
theorem aI3(h1:PS X st t):PSs X [st] t:=by
 intro pins s σ H D I h
 refine wpAny_execs_cons (thn (h1 pins s σ H D I h) fun f s1 q=>?_)
 cases f with
 | next=>exact aVq q
 | ret v=>exact q
 | brk=>exact q
 | cont=>exact q
theorem Inv.quiet{pins:List (Addr×Obj)}{σ:St}{H:Hp}{s:Shared}(I:Inv X pins σ H s):interactive X.env=false:=by simp [interactive,I.ok.kind]
def aCg(te:TE):TS:=fun D σ H=>te σ H fun _ H1=>D.nx σ H1
theorem kL(he:PE X e te)(hs:swapsWith e none pos.line X.env=pure false:=by rfl):PS X (.Expr e pos) (aCg te):=by
 intro pins s σ H D I h
 exact wpAny_Expr_any (thn (he pins s σ H _ I h) fun v s1 ⟨x,H1,I1,r1,q1⟩=>⟨σ,H1,I1,q1⟩) I.quiet hs
def aP8(te:TE):TS:=fun D σ H=>te σ H D.rt
theorem aK3(he:PE X e te):PS X (.Return (some e) pos) (aP8 te):=by
 intro pins s σ H D I h
 exact wpAny_Return_some (thn (he pins s σ H _ I h) fun v s1 ⟨x,H1,I1,r1,q1⟩=>⟨x,σ,H1,I1,r1,q1⟩)
def aPr(c:TT)(t u:TS):TS:=fun D σ H=>c σ H fun b H1=>if b=true then t D σ H1 else u D σ H1
theorem aM1{c:Expr}{a b:List Stmt}{tc:TT}(hc:PT X c tc)(ha:PSs X a t)(hb:PSs X b u):PS X (.If c a b pos) (aPr tc t u):=by
 intro pins s σ H D I h
 refine wpAny_If (thn (hc pins s σ H _ I h) fun d s1 ⟨H1,I1,q1⟩=>?_)
 cases d with
 | true=>exact ha pins s1 σ H1 D I1 q1
 | false=>exact hb pins s1 σ H1 D I1 q1
end
abbrev TG:=V->St->Hp->(St->Hp->Prop)->Prop
abbrev TGs:=List V->St->Hp->(St->Hp->Prop)->Prop
def PG(X:Cx)(target:Expr)(t:TG):Prop :=
 ∀ (pins:List (Addr×Obj)) (s:Shared) (σ:St) (H:Hp) (v:V) (u:Value) (Q:St->Hp->Prop),Inv X pins σ H s->RelV v u->t v σ H Q ->
  wpAny (model X.prog X.w) X.A (assign target X.env u) (fun _ s'=>∃ σ' H',Inv X pins σ' H' s'/\Q σ' H') X.xe s
def PGs(X:Cx)(ts:List Expr)(t:TGs):Prop :=
 ∀ (pins:List (Addr×Obj)) (s:Shared) (σ:St) (H:Hp) (vs:List V) (us:List Value) (Q:St->Hp->Prop),Inv X pins σ H s->Vals vs us->t vs σ H Q ->
  wpAny (model X.prog X.w) X.A (assignInOrder ((assignEach ts X.env).map (·.2)) us) (fun _ s'=>∃ σ' H',Inv X pins σ' H' s'/\Q σ' H') X.xe s
abbrev aOb:=V->V->V->Hp->(Hp->Prop)->Prop
def aO5(X:Cx)(t:aOb):Prop :=
 ∀ (pins:List (Addr×Obj)) (s:Shared) (σ:St) (H:Hp) (o i v:V) (ov iv u:Value) (Q:Hp->Prop),Inv X pins σ H s->RelV o ov->RelV i iv->RelV v u->t o i v H Q ->
  wpAny (model X.prog X.w) X.A (setItem ov iv u) (fun _ s'=>∃ H',Inv X pins σ H' s'/\Q H') X.xe s
section
variable {X:Cx}{pos:Pos}
def aHn(i:Nat):TG:=fun v σ H Q=>Q (σ.set i (some v)) H
theorem aCy{i:Nat}{x:Str}(hN:X.N.Nodup)(hi:X.N[i]? = some x)(hx:Loc X.env.scope x)(hf:X.fn x=true\/X.env.scope.names.lookup x=some .local:=by first | exact .inl rfl | exact .inr rfl | assumption):PG X (.Name x pos) (aHn i):=by
 intro pins s σ H v u Q I r h
 exact wpAny_assign_Name (mT I hN hi hx r (fun s' I'=>⟨_,H,I',h⟩) hf)
def aQj:TGs:=fun vs σ H Q=>vs=[]/\Q σ H
def aNq(t:TG)(u:TGs):TGs:=fun vs σ H Q=>∃ v r,vs=v :: r/\t v σ H fun σ' H'=>u r σ' H' Q
theorem aHb:PGs X [] aQj:=by
 intro pins s σ H vs us Q I r h
 obtain ⟨e,h⟩:=h
 subst e
 cases r
 exact assignInOrder_nil ⟨σ,H,I,h⟩
theorem aEs{e:Expr}{es:List Expr}{t:TG}{u:TGs}(h1:PG X e t)(h2:PGs X es u)
  (hs:(assignEach (e :: es) X.env).map (·.2)=assign e X.env :: (assignEach es X.env).map (·.2):=by rfl):PGs X (e :: es) (aNq t u):=by
 intro pins s σ H vs us Q I r h
 obtain ⟨v,vr,e1,h⟩:=h
 subst e1
 cases r with
 | cons r rr =>
  rw [hs]
  refine assignInOrder_cons (thn (h1 pins s σ H _ _ _ I r h) fun _ s1 ⟨σ1,H1,I1,q1⟩=>?_)
  exact h2 pins s1 σ1 H1 _ _ Q I1 rr q1
def aPv(K:aQk)(n:Nat)(t:TGs):TG:=fun v σ H Q=>∃ a xs,v=.ref a/\SqT K H a xs/\xs.length=n/\t xs σ H Q
theorem aL2{es:List Expr}{k:Nat}{t:TGs}{n:Nat}(hc:X.calm=true)(h:PGs X es t)
  (hn:(assignEach es X.env).length=n:=by rfl) (hst:(assignEach es X.env).findIdx? (·.1)=none:=by rfl):PG X (.Tuple es k pos) (aPv X.K n t):=by
 intro pins s σ H v u Q I r hw
 obtain ⟨a,xs,e1,hq,hl,hw⟩:=hw
 subst e1
 cases r
 obtain ⟨its,rv,ht,hz⟩:=I.tuple hq
 refine assign_Tuple_tuple (I.ok.hd hc) ht (by simp [hn,<- hl,rv.length]) hst fun h' hx=>?_
 have I1:Inv X pins σ H { s with heap:=h' }:=I.kept (t':=s.toks) fun b o e=>hx b o (aRa (aQw e)) e
 exact h pins _ σ H xs _ Q I1 (by simpa using rv) hw
def aPc(to ti:TE)(t:aOb):TG:=fun v σ H Q=>to σ H fun o H1=>ti σ H1 fun i H2=>t o i v H2 fun H3=>Q σ H3
theorem wR{o i:Expr}{to ti:TE}{t:aOb}(ho:PE X o to)(hi:PE X i ti)(hs:aO5 X t)
  (ha:∀ v,assign (.Subscript o i pos) X.env v=(do
   let ov <- holding [v] (eval o X.env)
   let iv <- holding [v,ov] (eval i X.env)
   standAt pos
   holding [v,ov,iv] (setItem ov iv v)
   release [v,ov,iv] []):=by intro _;rfl):PG X (.Subscript o i pos) (aPc to ti t):=by
 intro pins s σ H v u Q I r h
 rw [ha]
 refine aQl (aSa (thn (ho pins s σ H _ I h) fun ov s1 ⟨x,H1,I1,r1,q1⟩=>?_))
 refine aQl (aSa (thn (hi pins s1 σ H1 _ I1 q1) fun iv s2 ⟨y,H2,I2,r2,q2⟩=>?_))
 refine aQl (aWj (aQl (aSa (thn (hs pins s2 σ H2 x y v ov iv u _ I2 r1 r2 r q2) fun _ s3 ⟨H3,I3,q3⟩=>?_))))
 exact wpAny_release ⟨σ,H3,I3,q3⟩
def aMn(te:TE)(g:TG):TS:=fun D σ H=>te σ H fun x H1=>g x σ H1 D.nx
theorem s8{tg e:Expr}{te:TE}{g:TG}(he:PE X e te)(hg:PG X tg g)(hs:swapsWithSole [tg] e pos.line X.env=pure false:=by rfl)(hw:swappedStores [tg] e X.env=pure none:=by rfl)
  (h1:(assignEach [tg] X.env).map (·.2)=[assign tg X.env]:=by rfl):PS X (.Assign [tg] e pos) (aMn te g):=by
 intro pins s σ H D I h
 refine wpAny_Assign_stores (thn (he pins s σ H _ I h) fun v s1 ⟨x,H1,I1,r1,q1⟩=>?_) hs hw
 rw [h1]
 exact thn (hg pins s1 σ H1 x v _ I1 r1 q1) fun _ s2 q=>q
theorem aMg{i:Nat}{x:Str}{e:Expr}{te:TE}{pos':Pos}(hN:X.N.Nodup)(hi:X.N[i]? = some x)(hx:Loc X.env.scope x)(he:PE X e te)(hs:swapsWith e (some (.Name x pos')) pos.line X.env=pure false:=by rfl)(hf:X.fn x=true\/X.env.scope.names.lookup x=some .local:=by first | exact .inl rfl | exact .inr rfl | assumption) :
  PS X (.Assign [.Name x pos'] e pos) (aMn te (aHn i)):=by
 intro pins s σ H D I h
 refine wpAny_Assign_Name (thn (he pins s σ H _ I h) fun v s1 ⟨y,H1,I1,r1,q1⟩=>?_) hs
 exact mT I1 hN hi hx r1 (fun s2 I2=>⟨_,H1,I2,q1⟩) hf
def aPm(i j:Nat)(ta:TA):TS:=fun D σ H=>ta σ H fun vs H1=>∃ v w,vs=[v,w]/\D.nx ((σ.set i (some v)).set j (some w)) H1
theorem aKf{i j:Nat}{x y:Str}{a b:Expr}{ta:TA}{px py pt:Pos}{kt k2 pt2}(hc:X.calm=true)(hN:X.N.Nodup)(hi:X.N[i]? = some x)(hj:X.N[j]? = some y)(hij:i≠j)
  (hx:X.env.scope.names.lookup x=some .local) (hy:X.env.scope.names.lookup y=some .local) (ha:PA X [a,b] ta)
  (hw:swappedStores [.Tuple [.Name x px,.Name y py] kt pt] (.Tuple [a,b] k2 pt2) X.env=pure (some [x,y]))
  (hs:swapsWithSole [.Tuple [.Name x px,.Name y py] kt pt] (.Tuple [a,b] k2 pt2) pos.line X.env=pure false:=by rfl) :
  PS X (.Assign [.Tuple [.Name x px,.Name y py] kt pt] (.Tuple [a,b] k2 pt2) pos) (aPm i j ta):=by
 intro pins s σ H D I h
 rw [exec_Assign_arm]
 refine aQl (aWj ?_)
 rw [hs]
 refine aQl (aQo ?_)
 rw [aQv (by decide)]
 refine aQl (Tuple_ (thn (ha _ pins s σ H _ I h) fun us s1 ⟨vs,H1,I1,r1,q1⟩=>?_))
 obtain ⟨v,w,e1,q1⟩:=q1
 subst e1
 obtain ⟨u1,u2,rfl,rv,rw'⟩:∃ u1 u2,us=[u1,u2]/\RelV v u1/\RelV w u2:=by
  cases r1 with
  | cons p q =>
   cases q with
   | cons p' q' =>
    cases q'
    exact ⟨_,_,rfl,p,p'⟩
 refine aUb ?_ (by show 2<=sizeLine;decide)
 have I2:Inv X pins σ H1 { s1 with heap:=s1.heap.push { cls:=.type "tuple",data:=.seq [u1,u2].toArray } }:=I1.kept (t':=s1.toks) fun b o e=>aQq _ e
 rw [hw]
 refine aQl (aQo ?_)
 show wpAny (model X.prog X.w) X.A (do rule "assign.swapped-stores";let items <- unpackItems (.ref s1.heap.objs.size) 2 none;assignInOrder [fun v=>bindName X.env y v,fun v=>bindName X.env x v] items.reverse;pure Flow.next) _ _ _
 refine aQl (wpAny_rule (aQl (unpackItems_tuple (items:=#[u1,u2]) (I.ok.hd hc) (IsTup.new s1.heap _) fun h' hx'=>?_)))
 have I3:=I2.kept (h':=h') (t':=s1.toks) fun b o e=>hx' b o (aRa (aQw e)) e
 show wpAny _ _ (assignInOrder [fun v=>bindName X.env y v,fun v=>bindName X.env x v] [u2,u1] >>= fun _=>pure Flow.next) _ _ _
 refine aQl (assignInOrder_cons (wpAny_bindName (mT I3 hN hj (.inl hy) rw' (fun s2 I4=>?_) (.inr hy))))
 refine assignInOrder_cons (wpAny_bindName (mT I4 hN hi (.inl hx) rv (fun s3 I5=>assignInOrder_nil (aQo ?_)) (.inr hx)))
 rw [List.set_comm _ _ (aU6 hij)] at I5
 exact ⟨_,H1,I5,q1⟩
end
section
variable {X:Cx}{pos:Pos}
def aJn(c:TT)(tb:TS):TS:=fun D σ H=>∃ W:Nat->St->Hp->Prop,(∃ m,W m σ H)/\∀ m σ H,W m σ H ->
 c σ H fun b H1=>if b=true then ∃ N:St->Hp->Prop,(∀ σ' H',N σ' H'->∃ m',m' < m/\W m' σ' H')/\tb { D with nx:=N,ct:=N,bk:=D.nx } σ H1 else D.nx σ H1
theorem aDx{c:Expr}{body:List Stmt}{tc:TT}{tb:TS}(hp:PassesOwn (model X.prog X.w) X.A X.env X.xe)(hc:PT X c tc)(hb:PSs X body tb):PS X (.While c body [] pos) (aJn tc tb):=by
 intro pins s σ H D I h
 obtain ⟨W,⟨m0,w0⟩,turn⟩:=h
 refine wpAny_While (codeAny_whileLoop (fun n s'=>∃ σ' H',Inv X pins σ' H' s'/\W n σ' H') ?_ m0 ⟨σ,H,I,w0⟩)
 rintro n s1 ⟨σ1,H1,I1,w1⟩
 refine aTj hp (thn (hc pins s1 σ1 H1 _ I1 (turn n σ1 H1 w1)) fun b s2 ⟨H2,I2,q2⟩=>?_)
 cases b with
 | true =>
  obtain ⟨N,hN,q2⟩:=q2
  rw [aQt rfl]
  refine aTj hp (thn (hb pins s2 σ1 H2 _ I2 q2) fun f s3 q3=>?_)
  cases f with
  | next =>
   obtain ⟨σ3,H3,I3,n3⟩:=q3
   obtain ⟨m',hm,w3⟩:=hN σ3 H3 n3
   exact ⟨m',hm,σ3,H3,I3,w3⟩
  | cont =>
   obtain ⟨σ3,H3,I3,n3⟩:=q3
   obtain ⟨m',hm,w3⟩:=hN σ3 H3 n3
   exact ⟨m',hm,σ3,H3,I3,w3⟩
  | brk=>exact q3
  | ret v=>exact q3
 | false =>
  rw [aQv aRd]
  exact aVq ⟨σ1,H2,I2,q2⟩
end
structure It where
 go:Nat->Hp->Prop
 yld:Nat->Hp->V->Hp->Prop
 stop:Nat->Hp->Prop
def aDc(X:Cx)(pins:List (Addr×Obj))(H:Hp)(b:Addr):Prop :=
 H b=none/\b≠X.env.locals/\b∉X.fs/\(b∈X.ex\/X.s₀.heap.objs.size<=b)/\(∀ x c,X.env.cells.lookup x=some c->c≠b)/\∀ p∈X.pn++pins,p.1≠b
theorem Inv.fpOk{X:Cx}{pins:List (Addr×Obj)}{σ:St}{H H':Hp}{s:Shared}{b:Addr}(I:Inv X pins σ H s)(hb:s.heap.objs.size<=b)(hn:H' b=none):aDc X pins H' b:=by
 refine ⟨hn,aV4 (aRc I.lt hb),I.nofs hb,.inr (aR0 I.sz hb),fun x c e z=>?_,fun p hp z=>?_⟩
 ·obtain ⟨v,q⟩:=I.cell x c e
  exact absurd (aRc q.lt (by rw [z];exact hb)) (aRt _)
 ·exact absurd (aRc (aQw (I.pin p hp).1) (by rw [z];exact hb)) (aRt _)
structure Turn(P:Program)(w:World)(K:aQk)(tg:Expr)(J:It)(fp:List Addr)(it:Addr)(tn:Nat->Heap->Prop):Prop where
 mem:it∈fp
 obj:∀ i h,tn i h->∀ b∈fp,∃ o,h.get? b=some o/\∀ v,o.data≠.cell v
 keep:∀ i h h',tn i h->(∀ b∈fp,∀ o,h.get? b=some o->h'.get? b=some o)->tn i h'
 item:∀ (X:Cx),X.prog=P->X.w=w->X.K=K->X.calm=true->∀ (i:Nat) (pins:List (Addr×Obj)) (s:Shared) (σ:St) (H:Hp) (E:Value->Shared->Prop),Inv X pins σ H s->(∀ b∈fp,aDc X pins H b)->tn i s.heap->J.go i H ->
  wpAny (model P w) X.A (pyNext (.ref it)) (fun r s1=>∃ u,r=some u /\
   wpAny (model P w) X.A (letOwnedTupleGo tg (.ref it) u) (fun _ s2=>∃ x H',Inv X pins σ H' s2/\RelV x u/\J.yld i H x H'/\tn (i+1) s2.heap/\∀ b∈fp,H' b=none) E s1) E s
 done:∀ (X:Cx),X.prog=P->X.w=w->X.K=K->X.calm=true->∀ (i:Nat) (pins:List (Addr×Obj)) (s:Shared) (σ:St) (H:Hp) (E:Value->Shared->Prop),Inv X pins σ H s->(∀ b∈fp,aDc X pins H b)->tn i s.heap->J.stop i H ->
  wpAny (model P w) X.A (pyNext (.ref it)) (fun r s1=>r=none/\Inv X pins σ H s1) E s
 self:∀ (A:Around) (i:Nat) (s:Shared) (Q:Value->Shared->Prop) (E:Value->Shared->Prop),tn i s.heap->Q (.ref it) s->wpAny (model P w) A (pyIter (.ref it)) Q E s
abbrev TI:=St->Hp->(It->Hp->Prop)->Prop
def PIE(X:Cx)(pins:List (Addr×Obj))(σ:St)(tg:Expr)(R:It->Hp->Prop)(itv:Value)(s2:Shared):Prop :=
 ∃ (it:Addr) (fp:List Addr) (tn:Nat->Heap->Prop) (J:It) (H':Hp),itv=.ref it/\Inv X pins σ H' s2/\Turn X.prog X.w X.K tg J fp it tn/\tn 0 s2.heap/\(∀ b∈fp,aDc X pins H' b)/\R J H'
def PI(X:Cx)(tg iter:Expr)(wi:TI):Prop :=
 ∀ (pins:List (Addr×Obj)) (s:Shared) (σ:St) (H:Hp) (R:It->Hp->Prop),Inv X pins σ H s->wi σ H R ->
  wpAny (model X.prog X.w) X.A (eval iter X.env) (fun v s1=>wpAny (model X.prog X.w) X.A (pyIter v) (PIE X pins σ tg R) X.xe s1) X.xe s
theorem aKr{M:Model}{A:Around}{E:Value->Shared->Prop}{s:Shared}{tg:Expr}{it:Addr}{u:Value}{o:Obj}{n:String}{vs:Array Value}{Q:Unit->Shared->Prop}(ho:s.heap.get? it=some o)(hc:o.cls=.type n)(hd:o.data=.fields vs)
  (hn:["enumerate","zip","dict_itemiterator","dict_reverseitemiterator","odict_iterator","itertools.zip_longest","itertools.pairwise"].contains n=false) (hQ:Q () s):wpAny M A (letOwnedTupleGo tg (.ref it) u) Q E s:=by
 unfold letOwnedTupleGo
 cases tg<;>first
  | exact aQo hQ
  | (cases u<;>first
    | exact aQo hQ
    | (refine aQl (wpAny_load ho ?_)
       rw [hc,hd]
       show wpAny M A (if (["enumerate","zip","dict_itemiterator","dict_reverseitemiterator","odict_iterator","itertools.zip_longest","itertools.pairwise"].contains n && vs[0]? == some (rawInt _))=true then _ else _) Q E s
       rw [aQv (by intro h;rw [hn,aSu] at h;cases h)]
       exact aQo hQ))
def Itl(K:aQk)(a:Addr):It :=
 ⟨fun i H=>∃ xs x,SqL K H a xs/\xs[i]? = some x,fun i H x H'=>H'=H/\∀ xs,SqL K H a xs->xs[i]? = some x,fun i H=>∃ xs,SqL K H a xs/\xs.length<=i⟩
def Itr(lo:Int)(n:Nat):It:=⟨fun i _=>i < n,fun i H x H'=>H'=H/\x=.int (lo+i),fun i _=>n<=i⟩
theorem zK{P:Program}{w:World}{K:aQk}{tg:Expr}(a it:Addr):Turn P w K tg (Itl K a) [it] it (fun i h=>h.IsListIter it a i) where
 mem:=by simp
 obj:=fun i h st b hb=>by
  have e:b=it:=by simpa using hb
  subst e
  obtain ⟨o,e,c,d⟩:=st
  exact ⟨o,e,fun v z=>by rw [d] at z;cases z⟩
 keep:=fun i h h' st k=>st.at fun o e=>k it (by simp) o e
 item:=by
  intro X hP hw hK hc i pins s σ H E I hf st hg
  subst hP hw hK
  obtain ⟨xs,x,hq,hx⟩:=hg
  obtain ⟨its,rv,p,hz⟩:=I.list hq
  obtain ⟨u,hu,ru⟩:=rv.get hx
  obtain ⟨f0,f1,f2,f3,f4,f5⟩:=hf it (by simp)
  refine wpAny_pyNext_list_item st p.isList (x:=u) (by simpa using hu) fun h' st' sb=>?_
  have I1:Inv X pins σ H { s with heap:=h' }:=I.turned (t':=s.toks) (fun b o hb e=>(sb.2 b hb).trans e) f0 f1 f3 f4 f5
  obtain ⟨o,e,c,d⟩:=id st'
  exact ⟨u,rfl,aKr (s:={ s with heap:=h' }) e c d (by decide) ⟨x,H,I1,ru,⟨rfl,fun ys hy=>by rw [I.list_inj hy hq];exact hx⟩,st',fun b hb=>(hf b hb).1⟩⟩
 done:=by
  intro X hP hw hK hc i pins s σ H E I hf st hg
  subst hP hw hK
  obtain ⟨xs,hq,hx⟩:=hg
  obtain ⟨its,rv,p,hz⟩:=I.list hq
  obtain ⟨f0,f1,f2,f3,f4,f5⟩:=hf it (by simp)
  have hl:=rv.length
  exact wpAny_pyNext_list_end (I.ok.hd hc) st p.isList (by simp;omega) fun h' eb=>⟨rfl,I.turned (t':=s.toks) (fun b o hb e=>eb b o hb e) f0 f1 f3 f4 f5⟩
 self:=fun _ _ _ _ _ st h=>wpAny_pyIter_listiter st h
theorem yC{P:Program}{w:World}{K:aQk}{tg:Expr}(it:Addr)(lo:Int)(n:Nat):Turn P w K tg (Itr lo n) [it] it (fun i h=>IsRangeIter h it (lo+(i:Nat)*1) ((n:Int) - (i:Nat)) 1) where
 mem:=by simp
 obj:=fun i h st b hb=>by
  have e:b=it:=by simpa using hb
  subst e
  exact ⟨_,st,fun v z=>by
   have z':Data.fields _=Data.cell v:=z
   cases z'⟩
 keep:=fun i h h' st k=>k it (by simp) _ st
 item:=by
  intro X hP hw hK hc i pins s σ H E I hf st hg
  subst hP hw hK
  obtain ⟨f0,f1,f2,f3,f4,f5⟩:=hf it (by simp)
  have W:=Walks.range (prog:=X.prog) (w:=X.w) (I.ok.hd hc) it lo 1 n
  refine W.item i s _ _ hg st fun v h' tk hv st' kk=>?_
  obtain ⟨t,rfl⟩:=hv
  have I1:Inv X pins σ H { s with heap:=h',toks:=tk }:=I.turned (fun b o hb e=>kk b o (by simpa using hb) e) f0 f1 f3 f4 f5
  refine ⟨_,rfl,aKr (s:={ s with heap:=h',toks:=tk }) (n:="range_iterator") st' rfl rfl (by decide) ⟨.int (lo+i),H,I1,⟨t,?_⟩,⟨rfl,rfl⟩,st',fun b hb=>(hf b hb).1⟩⟩
  rw [Int.mul_one]
 done:=by
  intro X hP hw hK hc i pins s σ H E I hf st hg
  subst hP hw hK
  obtain ⟨f0,f1,f2,f3,f4,f5⟩:=hf it (by simp)
  exact wpAny_pyNext_range_end (I.ok.hd hc) st (by have:n<=i:=hg;omega) fun h' eb=>⟨rfl,I.turned (t':=s.toks) (fun b o hb e=>eb b o hb e) f0 f1 f3 f4 f5⟩
 self:=fun _ _ _ _ _ st h=>wpAny_pyIter_rangeiter st h
section
variable {X:Cx}{tg:Expr}
def aOg(K:aQk)(tl:TE):TI:=fun σ H R=>tl σ H fun x H1=>∃ a,x=.ref a/\(∃ xs,SqL K H1 a xs)/\R (Itl K a) H1
theorem aHp{l:Expr}{tl:TE}(hl:PE X l tl):PI X tg l (aOg X.K tl):=by
 intro pins s σ H R I h
 refine thn (hl pins s σ H _ I h) fun v s1 ⟨x,H1,I1,r1,q1⟩=>?_
 obtain ⟨a,e,⟨xs,hq⟩,q⟩:=q1
 subst e
 cases r1
 obtain ⟨its,rv,p,hz⟩:=I1.list hq
 refine aWc p.isList ?_
 refine ⟨s1.heap.objs.size,[s1.heap.objs.size],_,_,H1,rfl,I1.kept (t':=s1.toks) fun b o e=>aQq _ e,zK a _,⟨_,aQ9 _ rfl,rfl,rfl⟩,fun b hb=>?_,q⟩
 have e:b=s1.heap.objs.size:=by simpa using hb
 subst e
 exact I1.fpOk (aQu _) (I1.hok.fresh (aQu _))
theorem aDb{pins:List (Addr×Obj)}{σ:St}{H:Hp}{s:Shared}{R:It->Hp->Prop}{E:Value->Shared->Prop}{lo hi:Int}{t u v:Tok}{tk:Nat}(I:Inv X pins σ H s)(h1:-(2 ^ 62)<=lo)(h2:lo < 2 ^ 62)(h3:-(2 ^ 62)<=hi)(h4:hi < 2 ^ 62)
  (q:R (Itr lo (hi - lo).toNat) H):wpAny (model X.prog X.w) X.A (pyIter (.ref s.heap.objs.size)) (PIE X pins σ tg R) E { s with heap:=s.heap.push { cls:=.type "range",data:=.fields #[.int lo t,.int hi u,.int 1 v] },toks:=tk }:=by
 refine wpAny_pyIter_range (IsRange.new ..) (small_one h1 h2 h3 h4) ?_
 have I1:Inv X pins σ H { s with heap:=s.heap.push { cls:=.type "range",data:=.fields #[.int lo t,.int hi u,.int 1 v] },toks:=tk }:=I.kept fun b o e=>aQq _ e
 refine ⟨(s.heap.push { cls:=.type "range",data:=.fields #[.int lo t,.int hi u,.int 1 v] }).objs.size,[(s.heap.push { cls:=.type "range",data:=.fields #[.int lo t,.int hi u,.int 1 v] }).objs.size],_,_,H,rfl,
  I1.kept (t':=tk) fun b o e=>aQq _ e,yC _ lo (hi - lo).toNat,?_,fun b hb=>?_,q⟩
 ·have e1:lo+((0:Nat):Int)*1=lo:=by simp
  have e2:(((hi - lo).toNat:Nat):Int) - ((0:Nat):Int)=Builtin.Range.rangeSize lo hi 1:=by rw [rangeSize_one];split<;>omega
  show IsRangeIter _ _ (lo+((0:Nat):Int)*1) ((((hi - lo).toNat:Nat):Int) - ((0:Nat):Int)) 1
  rw [e1,e2]
  exact aQ9 _ rfl
 ·have e:b=(s.heap.push { cls:=.type "range",data:=.fields #[.int lo t,.int hi u,.int 1 v] }).objs.size:=by simpa using hb
  subst e
  exact I1.fpOk (aQu _) (I1.hok.fresh (aQu _))
def aN7(ta:TA):TI:=fun σ H R=>ta σ H fun vs H1=>∃ j:Int,vs=[.int j]/\-(2 ^ 62)<=j/\j < 2 ^ 62/\R (Itr 0 j.toNat) H1
theorem aCo{a:Expr}{ta:TA}{p pos:Pos}(hg:Gl X "range")(hm:X.mg "range" = none)(ha:PA X [a] ta)(hs:starEach [a] X.env=[(false,eval a X.env)]:=by rfl):PI X tg (.Call (.Name "range" p) [a] [] pos) (aN7 ta):=by
 intro pins s σ H R I h
 refine Call_ (lB I hg hm boot_range (aSf (thn (ha pos pins s σ H _ I h) fun us s1 ⟨vs,H1,I1,r1,q1⟩=>?_) hs rfl))
 obtain ⟨j,e,q1,q2,q⟩:=q1
 subst e
 cases r1 with
 | cons r rr =>
  cases rr
  obtain ⟨t,rfl⟩:=r
  exact call_range_1 (aDb I1 (by omega) (by omega) q1 q2 (by simpa using q))
def aPq(wi:TI)(g:TG)(tb:TS):TS:=fun D σ H=>wi σ H fun J H1=>∃ W:Nat->Nat->St->Hp->Prop,(∃ m,W 0 m σ H1)/\∀ i m σ H,W i m σ H ->
 (J.stop i H/\D.nx σ H)\/(J.go i H/\∃ N:St->Hp->Prop,(∀ σ' H',N σ' H'->∃ m',m' < m/\W (i+1) m' σ' H')/\∀ x H',J.yld i H x H'->g x σ H' fun σ2 H2=>tb { D with nx:=N,ct:=N,bk:=D.nx } σ2 H2)
def w6(fp:List Addr)(h:Heap):List (Addr×Obj):=fp.filterMap fun b=>(h.get? b).map fun o=>(b,o)
theorem gF{fp:List Addr}{h:Heap}{b:Addr}{o:Obj}(hb:b∈fp)(e:h.get? b=some o):(b,o)∈w6 fp h:=aUt.mpr ⟨b,hb,by rw [e];rfl⟩
theorem aAs{fp:List Addr}{h:Heap}{p:Addr×Obj}(hp:p∈w6 fp h):p.1∈fp/\h.get? p.1=some p.2:=by
 obtain ⟨b,hb,e⟩:=aUt.mp hp
 cases q:h.get? b with
 | none=>rw [q] at e;cases e
 | some o =>
  rw [q] at e
  have e':(b,o)=p:=aQ7 e
  subst e'
  exact ⟨hb,q⟩
theorem Inv.pinned{pins:List (Addr×Obj)}{σ:St}{H:Hp}{s:Shared}{fp:List Addr}(I:Inv X pins σ H s)(hf:∀ b∈fp,aDc X pins H b)(ho:∀ b∈fp,∃ o,s.heap.get? b=some o/\∀ v,o.data≠.cell v):Inv X (pins++w6 fp s.heap) σ H s :=
 I.pins_of fun p hp=>(aSe.mp hp).elim (fun z=>I.pin p (aQ5 _ z)) fun z=>by
  obtain ⟨hb,e⟩:=aAs z
  obtain ⟨f0,f1,f2,_⟩:=hf p.1 hb
  obtain ⟨o,e',d⟩:=ho p.1 hb
  rw [e] at e';cases e'
  exact ⟨e,f0,f1,f2,d⟩
theorem Inv.unpinned{pins pl:List (Addr×Obj)}{σ:St}{H:Hp}{s:Shared}(I:Inv X (pins++pl) σ H s):Inv X pins σ H s:=I.pins_of fun p hp=>I.pin p (aQ5 _ (aTh _ hp))
theorem aK9{iter:Expr}{body:List Stmt}{wi:TI}{g:TG}{tb:TS}{pos:Pos}(hp:PassesOwn (model X.prog X.w) X.A X.env X.xe)(hc:X.calm=true)(hi:PI X tg iter wi)(hg:PG X tg g)(hb:PSs X body tb)
  (hs:∀ x,foldedSetIterable iter X.env x=pure x:=by intro _;rfl):PS X (.For tg iter body [] pos) (aPq wi g tb):=by
 intro pins s σ H D I h
 refine wpAny_For (thn (hi pins s σ H _ I h) fun v s1 h1=>thn h1 fun itv s2 h2=>?_) hs
 obtain ⟨it,fp,tn,J,H2,e,I2,T,st2,f2,W,⟨m0,w0⟩,turn⟩:=h2
 subst e
 have stat:∀ {H':Hp},(∀ b∈fp,H' b=none)->∀ b∈fp,aDc X pins H' b:=fun hn b hb=>⟨hn b hb,(f2 b hb).2⟩
 refine codeAny_forLoop_any (fun n s'=>∃ i σ' H',Inv X pins σ' H' s'/\tn i s'.heap/\(∀ b∈fp,H' b=none)/\W i n σ' H') ?_ m0 ⟨0,σ,H2,I2,st2,fun b hb=>(f2 b hb).1,w0⟩
 rintro n s3 ⟨i,σ3,H3,I3,st3,fr3,w3⟩
 rcases turn i n σ3 H3 w3 with ⟨stop,qn⟩ | ⟨go,N,hN,step⟩
 ·refine aTj hp (thn (T.done X rfl rfl rfl hc i pins s3 σ3 H3 X.xe I3 (stat fr3) st3 stop) fun r s4 ⟨hr,I4⟩=>?_)
  subst hr
  exact aVq ⟨σ3,H3,I4,qn⟩
 ·refine aTj hp (thn (T.item X rfl rfl rfl hc i pins s3 σ3 H3 X.xe I3 (stat fr3) st3 go) fun r s4 ⟨u,hr,h4⟩=>?_)
  subst hr
  refine aTj hp (thn h4 fun _ s5 ⟨x,H5,I5,r5,y5,st5,fr5⟩=>?_)
  have I5':=I5.pinned (stat fr5) (T.obj _ _ st5)
  refine aTj hp (thn (hg _ s5 σ3 H5 x u _ I5' r5 (step x H5 y5)) fun _ s6 ⟨σ6,H6,I6,q6⟩=>?_)
  refine aTj hp (thn (hb _ s6 σ6 H6 _ I6 q6) fun f s7 q7=>?_)
  have again:∀ {σ7:St} {H7:Hp},Inv X (pins++w6 fp s5.heap) σ7 H7 s7->N σ7 H7->∃ m,m < n/\∃ i σ' H',Inv X pins σ' H' s7/\tn i s7.heap/\(∀ b∈fp,H' b=none)/\W i m σ' H':=fun {σ7 H7} I7 n7=>by
   obtain ⟨m',hm,w7⟩:=hN σ7 H7 n7
   refine ⟨m',hm,i+1,σ7,H7,I7.unpinned,T.keep _ _ _ st5 fun b hb o e=>(I7.pin (b,o) (aQ5 _ (aQ5 _ (gF hb e)))).1,fun b hb=>?_,w7⟩
   obtain ⟨o,e,d⟩:=T.obj _ _ st5 b hb
   exact (I7.pin (b,o) (aQ5 _ (aQ5 _ (gF hb e)))).2.1
  cases f with
  | next=>obtain ⟨σ7,H7,I7,n7⟩:=q7;exact again I7 n7
  | cont=>obtain ⟨σ7,H7,I7,n7⟩:=q7;exact again I7 n7
  | brk=>obtain ⟨σ7,H7,I7,q7⟩:=q7;exact ⟨σ7,H7,I7.unpinned,q7⟩
  | ret v=>obtain ⟨x7,σ7,H7,I7,r7,q7⟩:=q7;exact ⟨x7,σ7,H7,I7.unpinned,r7,q7⟩
end
abbrev R2:=V->V->Hp->VK->Prop
def OpR(X:Cx)(f:Value->Value->Sem Value)(r:R2):Prop :=
 ∀ (pins:List (Addr×Obj)) (s:Shared) (σ:St) (H:Hp) (x y:V) (v u:Value) (Q:VK),Inv X pins σ H s->RelV x v->RelV y u->r x y H Q ->
  wpAny (model X.prog X.w) X.A (f v u) (EP X pins σ Q) X.xe s
def UnR(X:Cx)(f:Value->Sem Value)(r:V->Hp->VK->Prop):Prop :=
 ∀ (pins:List (Addr×Obj)) (s:Shared) (σ:St) (H:Hp) (x:V) (v:Value) (Q:VK),Inv X pins σ H s->RelV x v->r x H Q ->
  wpAny (model X.prog X.w) X.A (f v) (EP X pins σ Q) X.xe s
def lU(X:Cx)(f:Value)(r:List V->Hp->VK->Prop):Prop :=
 ∀ (pins:List (Addr×Obj)) (s:Shared) (σ:St) (H:Hp) (xs:List V) (us:List Value) (Q:VK),Inv X pins σ H s->Vals xs us->r xs H Q ->
  wpAny (model X.prog X.w) X.A (call f us) (EP X pins σ Q) X.xe s
def tOp(r:R2)(ta tb:TE):TE:=fun σ H Q=>ta σ H fun x H1=>tb σ H1 fun y H2=>r x y H2 Q
def tUn(r:V->Hp->VK->Prop)(ta:TE):TE:=fun σ H Q=>ta σ H fun x H1=>r x H1 Q
def rI(C:Int->Int->Prop)(g:Int->Int->V):R2:=fun x y H Q=>∃ i j,x=.int i/\y=.int j/\C i j/\Q (g i j) H
def rI0(g:Int->Int->V):R2:=fun x y H Q=>∃ i j,x=.int i/\y=.int j/\Q (g i j) H
def rU(g:Int->V):V->Hp->VK->Prop:=fun x H Q=>∃ i,x=.int i/\Q (g i) H
section
variable {X:Cx}{a b c:Expr}{ta tb tc:TE}{pos:Pos}
theorem aNg(ha:PE X a ta)(hb:PE X b tb){pins:List (Addr×Obj)}{s:Shared}{σ:St}{H:Hp}{R:V->V->Hp->Prop}(I:Inv X pins σ H s)
  (h:ta σ H fun x H1=>tb σ H1 fun y H2=>R x y H2) {Q:Value->Shared->Prop} {f:Value->Value->Sem Value}
  (hf:∀ v u s2 x y H2,Inv X pins σ H2 s2->RelV x v->RelV y u->R x y H2->wpAny (model X.prog X.w) X.A (f v u) Q X.xe s2) :
  wpAny (model X.prog X.w) X.A (eval a X.env) (fun v s₁=>wpAny (model X.prog X.w) X.A (eval b X.env) (fun u s₂=>wpAny (model X.prog X.w) X.A (f v u) Q X.xe s₂) X.xe s₁) X.xe s:=by
 refine thn (ha pins s σ H _ I h) fun v s1 ⟨x,H1,I1,r1,q1⟩=>?_
 refine thn (hb pins s1 σ H1 _ I1 q1) fun u s2 ⟨y,H2,I2,r2,q2⟩=>?_
 exact hf v u s2 x y H2 I2 r1 r2 q2
theorem aN0{op:Operator}{r:R2}(ho:OpR X (binaryOp op) r)(ha:PE X a ta)(hb:PE X b tb):PE X (.BinOp a op b pos) (tOp r ta tb):=by
 intro pins s σ H Q I h
 exact wpAny_BinOp (aNg ha hb I h fun v u s2 x y H2 I2 rx ry q=>ho pins s2 σ H2 x y v u Q I2 rx ry q)
theorem aM9{op:UnaryOp}{r:V->Hp->VK->Prop}(ho:UnR X (unaryOp op) r)(ha:PE X a ta):PE X (.UnaryOp op a pos) (tUn r ta):=by
 intro pins s σ H Q I h
 exact UnaryOp_ (thn (ha pins s σ H _ I h) fun v s1 ⟨x,H1,I1,r1,q1⟩=>ho pins s1 σ H1 x v Q I1 r1 q1)
theorem opI{f:Value->Value->Sem Value}{C:Int->Int->Prop}{g:Int->Int->Int}
  (rule:∀ (i j:Int) (t u:Tok) (s:Shared) (Q:Value->Shared->Prop) (E:Value->Shared->Prop),C i j->Q (.int (g i j) s.toks) { s with toks:=s.toks+1 }->wpAny (model X.prog X.w) X.A (f (.int i t) (.int j u)) Q E s) :
  OpR X f (rI C fun i j=>.int (g i j)):=by
 intro pins s σ H x y v u Q I rx ry h
 obtain ⟨i,j,rfl,rfl,hc,q⟩:=h
 obtain ⟨t,rfl⟩:=rx
 obtain ⟨t',rfl⟩:=ry
 exact rule i j t t' s _ _ hc ⟨.int (g i j),H,I.tok _,⟨_,rfl⟩,q⟩
theorem aPk{f:Value->Value->Sem Value}{g:Int->Int->Int}
  (rule:∀ (i j:Int) (t u:Tok) (s:Shared) (Q:Value->Shared->Prop) (E:Value->Shared->Prop),Q (.int (g i j) s.toks) { s with toks:=s.toks+1 }->wpAny (model X.prog X.w) X.A (f (.int i t) (.int j u)) Q E s) :
  OpR X f (rI0 fun i j=>.int (g i j)):=by
 intro pins s σ H x y v u Q I rx ry h
 obtain ⟨i,j,rfl,rfl,q⟩:=h
 obtain ⟨t,rfl⟩:=rx
 obtain ⟨t',rfl⟩:=ry
 exact rule i j t t' s _ _ ⟨.int (g i j),H,I.tok _,⟨_,rfl⟩,q⟩
theorem aPi{f:Value->Value->Sem Value}{g:Int->Int->Bool}
  (rule:∀ (i j:Int) (t u:Tok) (s:Shared) (Q:Value->Shared->Prop) (E:Value->Shared->Prop),Q (.bool (g i j)) s->wpAny (model X.prog X.w) X.A (f (.int i t) (.int j u)) Q E s) :
  OpR X f (rI0 fun i j=>.bl (g i j)):=by
 intro pins s σ H x y v u Q I rx ry h
 obtain ⟨i,j,rfl,rfl,q⟩:=h
 obtain ⟨t,rfl⟩:=rx
 obtain ⟨t',rfl⟩:=ry
 exact rule i j t t' s _ _ ⟨.bl (g i j),H,I,rfl,q⟩
def aJa(i j:Int):Prop:=0<=j/\j<=1000000/\i.natAbs < 2 ^ 64
theorem aKd:OpR X (binaryOp .Add) (rI0 fun i j=>.int (i+j)):=aPk fun _ _ _ _ _ _ _ q=>add_int q
theorem kP:OpR X (binaryOp .Sub) (rI0 fun i j=>.int (i - j)):=aPk fun _ _ _ _ _ _ _ q=>sub_int q
theorem a7:OpR X (binaryOp .Mod) (rI (fun _ j=>j≠0) fun i j=>.int (i.fmod j)):=opI fun _ _ _ _ _ _ _ hc q=>mod_int' hc q
theorem aFd:OpR X (binaryOp .Pow) (rI aJa fun i j=>.int (i ^ j.toNat)):=opI fun _ _ _ _ _ _ _ hc q=>pow_int_small hc.1 hc.2.1 hc.2.2 q
theorem unI{f:Value->Sem Value}{g:Int->Int}
  (rule:∀ (i:Int) (t:Tok) (s:Shared) (Q:Value->Shared->Prop) (E:Value->Shared->Prop),Q (.int (g i) s.toks) { s with toks:=s.toks+1 }->wpAny (model X.prog X.w) X.A (f (.int i t)) Q E s) :
  UnR X f (rU fun i=>.int (g i)):=by
 intro pins s σ H x v Q I rx h
 obtain ⟨i,rfl,q⟩:=h
 obtain ⟨t,rfl⟩:=rx
 exact rule i t s _ _ ⟨.int (g i),H,I.tok _,⟨_,rfl⟩,q⟩
theorem aKo:UnR X (unaryOp .USub) (rU fun i=>.int (-i)):=unI fun _ _ _ _ _ q=>neg_int q
end
section
variable {X:Cx}{a b c:Expr}{ta tb tc:TE}{pos:Pos}
theorem qR:OpR X (compareOp .Lt) (rI0 fun i j=>.bl (decide (i < j))):=aPi fun _ _ _ _ _ _ _ q=>lt_int q
theorem aDq:OpR X (compareOp .Gt) (rI0 fun i j=>.bl (decide (j < i))):=aPi fun _ _ _ _ _ _ _ q=>gt_int q
theorem OpR.or{f:Value->Value->Sem Value}{r r':R2}(h:OpR X f r)(h':OpR X f r'):OpR X f (fun x y H Q=>r x y H Q\/r' x y H Q):=by
 intro pins s σ H x y v u Q I rx ry q
 rcases q with q | q
 ·exact h pins s σ H x y v u Q I rx ry q
 ·exact h' pins s σ H x y v u Q I rx ry q
theorem bG(b:Expr){op:CmpOp}(h:op≠.In:=by decide)(h2:op≠.NotIn:=by decide):behindInMarks op b=false:=by
 have e1:(op == CmpOp.In)=false:=by cases op<;>first | rfl | exact absurd rfl h
 have e2:(op == CmpOp.NotIn)=false:=by cases op<;>first | rfl | exact absurd rfl h2
 cases b<;>simp [behindInMarks,e1,e2]
theorem aGx{op:CmpOp}{r:R2}(ho:OpR X (compareOp op) r)(ha:PE X a ta)(hb:PE X b tb)(hm:behindInMarks op b=false):PE X (.Compare a [op] [b] pos) (tOp r ta tb):=by
 intro pins s σ H Q I h
 exact wpAny_Compare1 (aNg ha hb I h fun v u s2 x y H2 I2 rx ry q=>ho pins s2 σ H2 x y v u Q I2 rx ry q) hm
def aNk(t:TE):TT:=fun σ H Q=>t σ H fun x H'=>∃ k,x=.bl k/\Q k H'
theorem aHa{op:CmpOp}{r:R2}(ho:OpR X (compareOp op) r)(ha:PE X a ta)(hb:PE X b tb)(hm:behindInMarks op b=false):PT X (.Compare a [op] [b] pos) (aNk (tOp r ta tb)):=by
 intro pins s σ H Q I h
 refine wpAny_isTrue_Compare1 (thn (ha pins s σ H _ I h) fun v s1 ⟨x,H1,I1,r1,q1⟩=>thn (hb pins s1 σ H1 _ I1 q1) fun u s2 ⟨y,H2,I2,r2,q2⟩ =>
  thn (ho pins s2 σ H2 x y v u _ I2 r1 r2 q2) fun c s3 ⟨z,H3,I3,r3,k,e,q3⟩=>?_) hm
 subst e
 cases r3
 exact aS7 ⟨H3,I3,q3⟩
theorem wH:(sizeLine:Nat) < 2 ^ 63:=by rw [aR9];decide
theorem x6:OpR X (binaryOp .Add) (fun x y H Q=>∃ i j,x=.str i/\y=.str j/\i.length+j.length<=sizeLine/\Q (.str (i++j)) H):=by
 intro pins s σ H x y v u Q I rx ry h
 obtain ⟨i,j,rfl,rfl,hz,q⟩:=h
 obtain ⟨t,rfl⟩:=rx
 obtain ⟨t',rfl⟩:=ry
 exact add_str (fun t' tk=>⟨.str (i++j),H,I.tok _,⟨_,rfl⟩,q⟩) hz
theorem vals1{x:V}{us:List Value}(r:Vals [x] us):∃ u,us=[u]/\RelV x u:=by
 cases r with
 | cons r1 r2=>cases r2;exact ⟨_,rfl,r1⟩
theorem vals2{x y:V}{us:List Value}(r:Vals [x,y] us):∃ u w',us=[u,w']/\RelV x u/\RelV y w':=by
 cases r with
 | cons r1 r2 =>
  cases r2 with
  | cons r3 r4=>cases r4;exact ⟨_,_,rfl,r1,r3⟩
theorem mX:lU X (.builtin "abs") (fun xs H Q=>∃ i,xs=[.int i]/\Q (.int (if i < 0 then -i else i)) H):=by
 intro pins s σ H xs us Q I r h
 obtain ⟨i,rfl,q⟩:=h
 obtain ⟨u,rfl,t,rfl⟩:=vals1 r
 exact call_abs_int fun u tk=>⟨.int (if i < 0 then -i else i),H,I.tok _,⟨_,rfl⟩,q⟩
theorem zU(hc:X.calm=true):lU X (.builtin "max") (fun xs H Q=>∃ i j,xs=[.int i,.int j]/\Q (.int (if j > i then j else i)) H):=by
 intro pins s σ H xs us Q I r h
 obtain ⟨i,j,rfl,q⟩:=h
 obtain ⟨u,w',rfl,⟨t,rfl⟩,⟨t',rfl⟩⟩:=vals2 r
 refine max_two_ints (I.ok.hd hc) fun h' tk k=>⟨_,H,I.kept k,?_,q⟩
 by_cases hj:j > i
 ·rw [aQt hj,aQt hj];exact ⟨_,rfl⟩
 ·rw [aQv hj,aQv hj];exact ⟨_,rfl⟩
end
structure ObjM(h:Heap)(x dx C:Addr)(mA:Str->Option Value):Prop where
 obj:h.get? x=some (PySem.W.instObj C dx)
 ns:h.Ns1 dx mA
 ne:dx≠x
theorem zX{h:Heap}{dx:Addr}{mA:Str->Option Value}(n:h.Ns1 dx mA):∃ od,h.get? dx=some od/\∀ name,PySem.W.lookIn name od=some (mA name):=by
 obtain ⟨o,es,ep,ho,hd,hk,_,hm⟩:=n
 refine ⟨o,ho,fun name=>?_⟩
 have e:=hm name
 unfold nsFind findBy at e
 rw [<- Array.find?_toList] at e
 unfold PySem.W.lookIn
 rw [hd]
 dsimp only
 split
 ·rename_i y q
  rw [q] at e
  exact aUn some e
 ·rename_i q
  rw [q] at e
  have a:es.toList.any (·.refKey)=false:=by
   rw [List.any_eq_false]
   intro y hy
   obtain ⟨z,t,hkey⟩:=hk y (aR6.mp hy)
   simp [DictEntry.refKey,hkey]
  have a':¬ es.toList.any (·.refKey)=true:=by rw [a];exact aRd
  rw [aQv a']
  exact aUn some e
theorem ObjM.look{h:Heap}{x dx C:Addr}{mA:Str->Option Value}(I:ObjM h x dx C mA):∃ od,PySem.W.InstAt h x (PySem.W.instObj C dx) C (some od)/\∀ name,PySem.W.lookIn name od=some (mA name) :=
 let ⟨od,ho,hl⟩:=zX I.ns
 ⟨od,⟨I.obj,rfl,rfl,ho⟩,hl⟩
section
variable {prog:Program}{w:World}{A:Around}{E:Value->Shared->Prop}{s:Shared}{K:aQk}{x dx C f:Addr}{mA:Str->Option Value}{name:Str}{v:Value}
theorem get_map{expr:Bool}{Q:Value->Shared->Prop}(X:K.In s.heap)(I:ObjM s.heap x dx C mA)(hg:PySem.W.plainGet K C name=true)(hh:PySem.W.hasDictIn K C=true)
  (ha:PySem.W.findIn K (.ref C) name=some none) (hv:mA name=some v) (hv':PySem.W.handedIn v=true) (h:Q v { s with toks:=s.toks+1 }) :
  wpAny (model prog w) A (getAttr (.ref x) name expr) Q E s:=by
 obtain ⟨od,J,hl⟩:=I.look
 exact PySem.W.get_value X J (aVr hg).1 (PySem.W.findObj_own hh ha rfl (by rw [hl,hv])) hv' h
theorem aD0{pl:Sem Bool}{Q:Value×List Value->Shared->Prop}(X:K.In s.heap)(I:ObjM s.heap x dx C mA)(hg:PySem.W.plainGet K C name=true)
  (hf:PySem.W.findIn K (.ref C) name=some (some (.ref f))) (ht:PySem.W.isFn K (.ref f)=true) (hv:mA name=none) (h:Q (.ref f,[.ref x]) s) :
  wpAny (model prog w) A (getMethod (.ref x) name pl) Q E s:=by
 obtain ⟨od,J,hl⟩:=I.look
 exact PySem.W.method_fn X J (aVr hg).1 (aVr hg).2 hf (aTk.mp ht) (by show (PySem.W.lookIn name od).map (·.isSome)=some false;rw [hl,hv];rfl) h
theorem aG1{ns:List Str}{Q:Unit->Shared->Prop}(X:K.In s.heap)(I:ObjM s.heap x dx C mA)
  (hs:PySem.W.findIn K (.ref C) "__setattr__" = some (some (.builtin "object.__setattr__"))) (hp:PySem.W.plainOver K C=true) (ht:PySem.W.takerIn K C name=some none) (hh:PySem.W.hasDictIn K C=true)
  (hw:PySem.Within mA ns) (hsz:ns.length<=sizeLine)
  (h:∀ h',ObjM h' x dx C (fun y=>if y=name then some v else mA y)->Heap.SameBut dx s.heap h'->Q () { s with heap:=h',toks:=s.toks+2 }) :
  wpAny (model prog w) A (setAttr (.ref x) name v) Q E s:=by
 obtain ⟨od,J,hl⟩:=I.look
 refine PySem.W.set_plain X J hs (PySem.W.osa_open (s:={ s with toks:=s.toks+1 }) (r:=none) X J hp ht fun b=>?_)
 obtain ⟨cd,hc,hd'⟩:=PySem.W.any_some hh
 have hx:s.heap.get? x=some ⟨.ref C,some dx,.plain,#[]⟩:=I.obj
 refine aQl (aQo (aQl (aQl (wpAny_loadPart hx (aQl (PySem.W.Looks.here (s:={ s with toks:=s.toks+1 }) (PySem.W.looks_clsIn X hc) ?_))))))
 rw [hd']
 refine aQo (a:=some dx) (aQl (aQo (aQl ?_)))
 refine wpAny_nsSet1 (s:={ s with toks:=s.toks+1 }) I.ns fun h' hn2 hs2=>?_
 obtain ⟨oD,esD,epD,hoD,hdD,hcD⟩:=hn2.count (PySem.Within.cons name v hw)
 refine aQl (wpAny_lookBehind hoD (by rw [hdD];exact pastItsLine_dict (aR0 hcD (by rw [aQp];omega))) ?_)
 exact aQo (h _ ⟨(hs2.2 _ (aU6 I.ne)).trans I.obj,hn2,I.ne⟩ hs2)
theorem aDi{R:Result->Shared->Prop}{vs:List Value}{kw:List (Str×Value)}(X:K.In s.heap)(hm:PySem.W.makesIn K C=true)
  (hi:PySem.W.findIn K (.ref C) "__init__" = some (some (.ref f))) (hf:PySem.W.typeIn K (.ref f)=some (.type "function"))
  (h:codeAny (model prog w) (A.under (.builtin "type.__call__" ⟨.ref C :: vs,kw⟩)) (.call (.ref f) ⟨.ref (s.heap.objs.size+1) :: vs,kw⟩) (PySem.W.InitBack (s.heap.objs.size+1) R)
   { s with heap:=(s.heap.push PySem.W.emptyDict).push (PySem.W.instObj C s.heap.objs.size) }) :
  codeAny (model prog w) A (.call (.ref C) ⟨vs,kw⟩) R s:=by
 obtain ⟨hh,g,d,t,os⟩:=s
 exact PySem.W.make_core (PySem.W.makes_of X hm) (PySem.W.looks_findIn X hi) (fun self=>PySem.W.bind_fn X self hf) (.inl rfl) h
end
def oY(f:Str)(v:V):List (Str×V)->List (Str×V)
 | []=>[(f,v)]
 | (g,x) :: r=>if g=f then (g,v) :: r else (g,x) :: oY f v r
theorem nP(f g:Str)(v:V):∀ fs:List (Str×V),(oY f v fs).lookup g=if g=f then some v else fs.lookup g
 | []=>by
  show List.lookup g [(f,v)]=_
  by_cases h:g=f
  ·have hb:(g == f)=true:=aTk.mpr h
   simp only [List.lookup,hb,aQt h]
  ·have hb:(g == f)=false:=aSt.mpr h
   simp only [List.lookup,hb,aQv h]
 | (k,x) :: r=>by
  have ih:=nP f g v r
  rw [show oY f v ((k,x) :: r)=(if k=f then (k,v) :: r else (k,x) :: oY f v r) from rfl]
  by_cases hk:k=f
  ·rw [aQt hk]
   by_cases h:g=k
   ·have hb:(g == k)=true:=aTk.mpr h
    simp only [List.lookup,hb,aQt (h.trans hk)]
   ·have hb:(g == k)=false:=aSt.mpr h
    simp only [List.lookup,hb,aQv (fun e:g=f=>h (e.trans hk.symm))]
  ·rw [aQv hk]
   by_cases h:g=k
   ·have hb:(g == k)=true:=aTk.mpr h
    simp only [List.lookup,hb,aQv (fun e:g=f=>hk (h.symm.trans e))]
   ·have hb:(g == k)=false:=aSt.mpr h
    simp only [List.lookup,hb]
    exact ih
theorem nA(f:Str)(v:V):∀ fs:List (Str×V),f∈(oY f v fs).map (·.1)/\∀ g,g∈fs.map (·.1)->g∈(oY f v fs).map (·.1)
 | []=>⟨by simp [oY],fun g h=>by simp at h⟩
 | (k,x) :: r=>by
  obtain ⟨i1,i2⟩:=nA f v r
  rw [show oY f v ((k,x) :: r)=(if k=f then (k,v) :: r else (k,x) :: oY f v r) from rfl]
  by_cases hk:k=f
  ·rw [aQt hk]
   subst hk
   exact ⟨by simp,fun g h=>by simpa using h⟩
  ·rw [aQv hk]
   refine ⟨?_,fun g h=>?_⟩
   ·rw [aQx]
    exact aRl _ i1
   ·rw [aQx] at h ⊢
    rcases aQy.mp h with e | e
    ·exact aQy.mpr (.inl e)
    ·exact aRl _ (i2 g e)
theorem nQ(f:Str)(v:V):∀ fs:List (Str×V),(oY f v fs).length<=fs.length+1
 | []=>by simp [oY]
 | (k,x) :: r=>by
  have ih:=nQ f v r
  rw [show oY f v ((k,x) :: r)=(if k=f then (k,v) :: r else (k,x) :: oY f v r) from rfl]
  by_cases hk:k=f
  ·rw [aQt hk,aQp,aQp];omega
  ·rw [aQv hk,aQp,aQp];omega
theorem RelO.some_of{v:V}{o:Option Value}(r:RelO (some v) o):∃ u,o=some u/\RelV v u:=by
 cases o with
 | none=>exact (show False from r).elim
 | some u=>exact ⟨u,rfl,r⟩
theorem RelO.none_of{o:Option Value}(r:RelO none o):o=none:=by
 cases o with
 | none=>rfl
 | some u=>exact (show False from r).elim
theorem aB2{v:V}{u:Value}(r:RelV v u):PySem.W.handedIn u=true:=by
 cases v with
 | non=>cases (show u=Value.none from r);rfl
 | bl b=>cases (show u=Value.bool b from r);rfl
 | int i=>obtain ⟨t,e⟩:=(show ∃ t,u=Value.int i t from r);cases e;rfl
 | str x=>obtain ⟨t,e⟩:=(show ∃ t,u=Value.str x t from r);cases e;rfl
 | byt b=>obtain ⟨t,e⟩:=(show ∃ t,u=Value.bytes b t from r);cases e;rfl
 | flt b=>obtain ⟨t,e⟩:=(show ∃ t,u=Value.float b t from r);cases e;rfl
 | ref a=>cases (show u=Value.ref a from r);rfl
 | ty n=>cases (show u=Value.type n from r);rfl
section
variable {P:Program}{w:World}{H H':Hp}{h h':Heap}{a C dx:Addr}{fs fs':List (Str×V)}
theorem pX(hok:HOk P w H h)(e:H a=some (.ins C dx fs)):∃ mA,ObjM h a dx C mA/\(∀ f,RelO (fs.lookup f) (mA f))/\PySem.Within mA (fs.map (·.1))/\fs.length<=1000/\H dx=some (.own a):=by
 obtain ⟨d,z,ne,ob,mA,n,r,q⟩:=(show ObjOk P w H h a (.ins C dx fs) from hok a _ e)
 exact ⟨mA,⟨ob,n,ne⟩,r,q,z,d⟩
end
structure Cls(K:aQk)(C:Addr):Prop where
 pg:PySem.W.plainGet K C Str.empty=true
 hd:PySem.W.hasDictIn K C=true
 po:PySem.W.plainOver K C=true
 sa:PySem.W.findIn K (.ref C) "__setattr__" = some (some (.builtin "object.__setattr__"))
theorem Cls.get{K:aQk}{C:Addr}(c:Cls K C)(f:Str):PySem.W.plainGet K C f=true:=c.pg
def NoAttr(K:aQk)(C:Addr)(f:Str):Prop:=PySem.W.findIn K (.ref C) f=some none
theorem NoAttr.taker{K:aQk}{C:Addr}{f:Str}(n:NoAttr K C f):PySem.W.takerIn K C f=some none:=by
 unfold PySem.W.takerIn
 rw [show PySem.W.findIn K (.ref C) f=some none from n]
 rfl
structure aMs(K:aQk)(C:Addr)(m:Str)(f:Addr):Prop where
 at_:PySem.W.findIn K (.ref C) m=some (some (.ref f))
 fn:PySem.W.isFn K (.ref f)=true
 kp:PySem.W.keepIn K (.ref f)=true
section
variable {X:Cx}{pins:List (Addr×Obj)}{σ:St}{H:Hp}{s:Shared}{a C dx:Addr}{fs:List (Str×V)}{f:Str}{v:V}{A:Around}{E:Value->Shared->Prop}
theorem xZ{b:Bool}{Q:Value->Shared->Prop}(I:Inv X pins σ H s)(e:H a=some (.ins C dx fs))(c:Cls X.K C)(n:NoAttr X.K C f)(l:fs.lookup f=some v)
  (h:∀ u s',Inv X pins σ H s'->RelV v u->Q u s'):wpAny (model X.prog X.w) A (getAttr (.ref a) f b) Q E s:=by
 obtain ⟨mA,O,r,_,_,_⟩:=pX I.hok e
 obtain ⟨u,hu,ru⟩:=RelO.some_of (v:=v) (o:=mA f) (by rw [<- l];exact r f)
 exact get_map I.kIn O (c.get f) c.hd n hu (aB2 ru) (h u _ (I.tok _) ru)
theorem x3{m:Str}{g:Addr}{pl:Sem Bool}{Q:Value×List Value->Shared->Prop}(I:Inv X pins σ H s)(e:H a=some (.ins C dx fs))(c:Cls X.K C)(k:aMs X.K C m g)(l:fs.lookup m=none)
  (h:Q (.ref g,[.ref a]) s):wpAny (model X.prog X.w) A (getMethod (.ref a) m pl) Q E s:=by
 obtain ⟨mA,O,r,_,_,_⟩:=pX I.hok e
 have hn:mA m=none:=RelO.none_of (by rw [<- l];exact r m)
 exact aD0 I.kIn O (c.get m) k.at_ k.fn hn h
theorem x9{y:V}{u:Value}{Q:Unit->Shared->Prop}(I:Inv X pins σ H s)(e:H a=some (.ins C dx fs))(c:Cls X.K C)(n:NoAttr X.K C f)(hl:fs.length < 1000)(ry:RelV y u)
  (h:∀ s',Inv X pins σ (upd H a (.ins C dx (oY f y fs))) s'->Q () s'):wpAny (model X.prog X.w) A (setAttr (.ref a) f u) Q E s:=by
 obtain ⟨mA,O,r,wi,_,ho⟩:=pX I.hok e
 have hz:(fs.map (·.1)).length<=sizeLine:=by rw [aQm,aR9];omega
 refine aG1 I.kIn O c.sa c.po n.taker c.hd wi hz fun h' O' sb=>h _ ?_
 have hd:∃ o,h'.get? dx=some o:=let ⟨o,_,_,e',_⟩:=O'.ns;⟨o,e'⟩
 refine I.write (x:=a) (e:=dx) (by rw [e];exact True.intro) (.inr ho) (fun b q hb z=>(sb.2 b hb).trans z) hd ?_
 refine ⟨by rw [bB O.ne];exact ho,?_,O.ne,O'.obj,_,O'.ns,fun g=>?_,fun g hg=>?_⟩
 ·have:=nQ f y fs;omega
 ·show RelO ((oY f y fs).lookup g) (if g=f then some u else mA g)
  rw [nP]
  by_cases q:g=f
  ·rw [aQt q,aQt q];exact ry
  ·rw [aQv q,aQv q];exact r g
 ·by_cases q:g=f
  ·rw [q];exact (nA f y fs).1
  ·refine (nA f y fs).2 g (wi g fun z=>hg ?_)
   show (if g=f then some u else mA g)=none
   rw [aQv q];exact z
theorem Inv.made(I:Inv X pins σ H s):Inv X pins σ (upd (upd H s.heap.objs.size (.own (s.heap.objs.size+1))) (s.heap.objs.size+1) (.ins C s.heap.objs.size []))
  { s with heap:=(s.heap.push PySem.W.emptyDict).push (PySem.W.instObj C s.heap.objs.size) }:=by
 have e1:(s.heap.push PySem.W.emptyDict).get? s.heap.objs.size=some PySem.W.emptyDict:=aQ9 s.heap rfl
 have e2:((s.heap.push PySem.W.emptyDict).push (PySem.W.instObj C s.heap.objs.size)).get? (s.heap.objs.size+1)=some (PySem.W.instObj C s.heap.objs.size):=by
  have:=aQ9 (s.heap.push PySem.W.emptyDict) (o:=PySem.W.instObj C s.heap.objs.size) rfl
  rwa [aWa] at this
 have e3:(s.heap.push PySem.W.emptyDict).Ns s.heap.objs.size (fun _=>none):=⟨PySem.W.emptyDict,#[],_,e1,rfl,(fun e he=>absurd he (by simp)),fun _=>rfl⟩
 have I1:=I.laid (a:=s.heap.objs.size) (o:=.own (s.heap.objs.size+1)) (h':=s.heap.push PySem.W.emptyDict) (t':=s.toks) (fun b u q=>aQq _ q) (aQu _) ⟨_,e1⟩
 refine I1.laid (a:=s.heap.objs.size+1) (o:=.ins C s.heap.objs.size []) (t':=s.toks) (fun b u q=>aQq _ q) (aT4 (aWa _ _)) ?_
 have ne:s.heap.objs.size≠s.heap.objs.size+1:=aRa (aVi _)
 refine ⟨by rw [bB ne,bJ],aRj _,ne,e2,fun _=>none,(Heap.Ns1.of_empty e3).at fun o q=>aQq _ q,fun _=>True.intro,fun y hy=>absurd rfl hy⟩
theorem aIv{prog:Program}{w:World}{env:Env}{e:Expr}{f:Str}{pos:Pos}{s:Shared}{Q:Value->Shared->Prop}(hb:attributeBase e f env (eval e env)=eval e env)
  (h:wpAny (model prog w) A (eval e env) (fun o s₁=>wpAny (model prog w) A (getAttr o f true) Q E s₁) E s):wpAny (model prog w) A (eval (.Attribute e f pos) env) Q E s :=
 Attribute_any_ h (by rw [arm_eval_Attribute,hb])
end
def aPn(K:aQk)(ta:TE)(f:Str):TE:=fun σ H Q=>ta σ H fun x H1=>∃ a C dx fs v,x=.ref a/\H1 a=some (.ins C dx fs)/\Cls K C/\NoAttr K C f/\fs.lookup f=some v/\Q v H1
def aO6(K:aQk)(ta tv:TE)(f:Str):TS:=fun D σ H=>tv σ H fun y H1=>ta σ H1 fun x H2=>∃ a C dx fs,x=.ref a/\H2 a=some (.ins C dx fs)/\Cls K C/\NoAttr K C f/\fs.length < 1000 /\
 D.nx σ (upd H2 a (.ins C dx (oY f y fs)))
section
variable {X:Cx}{o e value:Expr}{f:Str}{pos pos' tpos:Pos}{ta tv:TE}
theorem aKv(he:PE X e ta)(hb:attributeBase e f X.env (eval e X.env)=eval e X.env):PE X (.Attribute e f pos) (aPn X.K ta f):=by
 intro pins s σ H Q I h
 refine aIv hb (thn (he pins s σ H _ I h) fun u s1 ⟨x,H1,I1,rx,a,C,dx,fs,v,ex,ea,c,n,l,q⟩=>?_)
 subst ex
 obtain rfl:u=Value.ref a:=rx
 exact xZ I1 ea c n l fun u' s2 I2 ru=>⟨v,H1,I2,ru,q⟩
theorem aFs(ha:PE X o ta)(hv:PE X value tv)(hs:swapsWith value (some (.Attribute o f pos')) pos.line X.env=pure false):PS X (.Assign [.Attribute o f pos'] value pos) (aO6 X.K ta tv f):=by
 intro pins s σ H D I h
 refine plainObj_wpAny_Assign_Attribute (thn (hv pins s σ H _ I h) fun u s1 ⟨y,H1,I1,ry,q⟩=>thn (ha pins s1 σ H1 _ I1 q) fun ov s2 ⟨x,H2,I2,rx,a,C,dx,fs,ex,ea,c,n,l,q2⟩=>?_) hs
 subst ex
 obtain rfl:ov=Value.ref a:=rx
 exact x9 I2 ea c n l ry fun s3 I3=>⟨σ,_,I3,q2⟩
end
section
variable {X:Cx}{pins:List (Addr×Obj)}{σ:St}{H:Hp}{s:Shared}{A:Around}{E:Value->Shared->Prop}{Q:Value->Shared->Prop}{c:Value}{b:Bool}
inductive wV(K:aQk)(H:Hp):V->Value->Prop where
 | non:wV K H .non (.type "NoneType")
 | bl (x:Bool):wV K H (.bl x) (.type "bool")
 | int (i:Int):wV K H (.int i) (.type "int")
 | str (x:Str):wV K H (.str x) (.type "str")
 | flt (x:UInt64):wV K H (.flt x) (.type "float")
 | lst {a:Addr} {xs:List V} (e:H a=some (.lst xs)):wV K H (.ref a) (.type "list")
 | frz {a:Addr} {o:Obj} {xs:List V} (e:H a=some (.frz o (.lst xs))):wV K H (.ref a) (.type "list")
 | tup {a:Addr} {xs:List V} (e:H a=some (.tup xs)):wV K H (.ref a) (.type "tuple")
 | dK {a:Addr} {kvs:List (Key×V)} (e:H a=some (.dK kvs)):wV K H (.ref a) (.type "dict")
 | dT {a:Addr} {kvs:List (List Key×V)} (e:H a=some (.dT kvs)):wV K H (.ref a) (.type "dict")
 | ins {a C dx:Addr} {fs:List (Str×V)} (e:H a=some (.ins C dx fs)) (cl:Cls K C) (ha:PySem.W.findIn K (.ref C) "__class__" = some (some (.builtin "object.__class__")))
   (hn:PySem.W.specialIn K (.builtin "object.__class__") "__get__" = some (some (.builtin "getset_descriptor.__get__"))) (htk:PySem.W.takesIn K (.builtin "object.__class__")=some true)
   (hm:PySem.W.mroIn K C (.type "object")=some true):wV K H (.ref a) (.ref C)
theorem aBc{x:V}{u t:Value}(I:Inv X pins σ H s)(rx:RelV x u)(ty:wV X.K H x t)(e:PySem.W.kitOne X.K t c=some b)(h:∀ tk,Q (.bool b) { s with toks:=tk }) :
  wpAny (model X.prog X.w) A (call (.builtin "isinstance") [u,c]) Q E s:=by
 cases ty with
 | non=>cases (show u=Value.none from rx);exact aSg PySem.W.kitx_none I.kIn True.intro e (fun z=>nomatch z) h
 | bl y=>cases (show u=Value.bool y from rx);exact aSg PySem.W.kitx_bool I.kIn True.intro e (fun z=>nomatch z) h
 | int i=>obtain ⟨t,q⟩:=(show ∃ t,u=Value.int i t from rx);cases q;exact aSg PySem.W.kitx_int I.kIn True.intro e (fun z=>nomatch z) h
 | str y=>obtain ⟨t,q⟩:=(show ∃ t,u=Value.str y t from rx);cases q;exact aSg PySem.W.kitx_str I.kIn True.intro e (fun z=>nomatch z) h
 | flt y=>obtain ⟨t,q⟩:=(show ∃ t,u=Value.float y t from rx);cases q;exact aSg PySem.W.kitx_float I.kIn True.intro e (fun z=>nomatch z) h
 | @lst a xs ea =>
  cases (show u=Value.ref a from rx)
  obtain ⟨_,_,n,_,h1⟩:=(show ObjOk X.prog X.w H s.heap a (.lst xs) from I.hok a _ ea)
  exact aSg PySem.W.kitx_list I.kIn ⟨_,h1,rfl⟩ e (fun z=>nomatch z) h
 | @frz a ob xs ea =>
  cases (show u=Value.ref a from rx)
  obtain ⟨_,_,_,n,_,h1⟩:=(show ObjOk X.prog X.w H s.heap a (.frz ob (.lst xs)) from I.hok a _ ea)
  exact aSg PySem.W.kitx_list I.kIn ⟨_,h1,rfl⟩ e (fun z=>nomatch z) h
 | @tup a xs ea =>
  cases (show u=Value.ref a from rx)
  obtain ⟨_,_,_,p⟩:=(show ObjOk X.prog X.w H s.heap a (.tup xs) from I.hok a _ ea)
  obtain ⟨o,h1,h2,_⟩:=p
  exact aSg PySem.W.kitx_tuple I.kIn ⟨o,h1,h2⟩ e (fun z=>nomatch z) h
 | @dK a kvs ea =>
  cases (show u=Value.ref a from rx)
  obtain ⟨_,_,vs,_,p⟩:=(show ObjOk X.prog X.w H s.heap a (.dK kvs) from I.hok a _ ea)
  obtain ⟨o,es,ep,h1,h2,_⟩:=p
  exact aSg PySem.W.kitx_dict I.kIn ⟨o,h1,h2.1⟩ e (fun z=>nomatch z) h
 | @dT a kvs ea =>
  cases (show u=Value.ref a from rx)
  obtain ⟨_,_,xs,_,o,es,ep,h1,h2,_⟩:=(show ObjOk X.prog X.w H s.heap a (.dT kvs) from I.hok a _ ea)
  exact aSg PySem.W.kitx_dict I.kIn ⟨o,h1,h2.1⟩ e (fun z=>nomatch z) h
 | @ins a C dx fs ea cl ha hn htk hm =>
  cases (show u=Value.ref a from rx)
  obtain ⟨mA,O,_⟩:=pX I.hok ea
  obtain ⟨od,J,_⟩:=O.look
  exact aSg (PySem.W.kitx_own (cl.get _) cl.hd ha hn htk hm) I.kIn J e (fun z=>nomatch z) h
end
structure Room(k:Nat)(A:Around):Prop where
 hd:A.handled=none
 dp:A.depth+3*k+5 < recursionLimit
 un:A.units+16*k+200 < cLine
theorem Room.mono{j k:Nat}{A:Around}(r:Room k A)(h:j<=k):Room j A:=⟨r.hd,by have:=r.dp;omega,by have:=r.un;omega⟩
theorem Room.deeper{k:Nat}{A:Around}(r:Room (k+1) A)(env:Env):Room k (A.deeper env) :=
 ⟨r.hd,by have:=r.dp;show A.depth+1+3*k+5 < _;omega,by have:=r.un;show A.units+3+16*k+200 < _;omega⟩
theorem x5{A:Around}{C:Addr}{us:List Value}{kw:List (Str×Value)}:(A.under (.builtin "type.__call__" ⟨.ref C :: us,kw⟩)).depth=A.depth+1:=by
 first | rfl | simp [Around.under,Code.weight,Code.isCreation,Code.isGuard,Code.isCaller,Code.frames,Code.isFrame,guardIds]
theorem yX{A:Around}{C:Addr}{us:List Value}{kw:List (Str×Value)}:(A.under (.builtin "type.__call__" ⟨.ref C :: us,kw⟩)).units=A.units+1:=by
 first | rfl | simp [Around.under,Code.cUnits,Code.frames,Code.isFrame]
theorem Room.make{k:Nat}{A:Around}(r:Room (k+1) A)(C:Addr)(us:List Value)(kw:List (Str×Value)):Room k (A.under (.builtin "type.__call__" ⟨.ref C :: us,kw⟩)) :=
 ⟨r.hd,by have:=r.dp;rw [x5];omega,by have:=r.un;rw [yX];omega⟩
theorem Room.depth{k:Nat}{A:Around}(r:Room k A):A.depth < recursionLimit:=by have:=r.dp;omega
def aNn:TA:=fun _ H Q=>Q [] H
def aHi(ta:TE)(tr:TA):TA:=fun σ H Q=>ta σ H fun x H1=>tr σ H1 fun xs H2=>Q (x :: xs) H2
section
variable {X:Cx}{e:Expr}{es:List Expr}{te:TE}{t:TA}{pos:Pos}
theorem mD:PA X [] aNn:=fun _ _ _ _ H Q I h=>aUc ⟨[],H,I,.nil,h⟩
theorem i8(ha:PE X e te)(hr:PA X es t)(hs:starEach (e :: es) X.env=(false,eval e X.env) :: starEach es X.env:=by rfl):PA X (e :: es) (aHi te t):=by
 intro pos pins s σ H Q I h
 rw [hs]
 show wpAny _ _ (spliced ((false,eval e X.env) :: backTo pos (starEach es X.env))) _ _ s
 refine aT1 (thn (ha pins s σ H _ I h) fun u s1 ⟨x,H1,I1,r1,q1⟩=>?_)
 exact thn (hr pos pins s1 σ H1 _ I1 q1) fun us s2 ⟨xs,H2,I2,r2,q2⟩=>⟨x :: xs,H2,I2,.cons r1 r2,q2⟩
def aPo(t:TA):TE:=fun σ H Q=>t σ H fun xs H1=>xs.length<=sizeLine/\∀ p,H1 p=none->Q (.ref p) (upd H1 p (.tup xs))
def aQc(t:TA):TE:=fun σ H Q=>t σ H fun xs H1=>xs.length<=sizeLine/\∀ p,H1 p=none->Q (.ref p) (upd H1 p (.lst xs))
theorem aJr{x1}(h:PA X es t):PE X (.Tuple es x1 pos) (aPo t):=by
 intro pins s σ H Q I hq
 refine wpAny_Tuple_spliced (thn (h pos pins s σ H _ I hq) fun us s1 ⟨xs,H1,I1,r,z,q⟩=>⟨by rw [<- r.length];exact z,?_⟩)
 have hf:H1 s1.heap.objs.size=none:=I1.hok.fresh (aQu _)
 refine ⟨.ref s1.heap.objs.size,upd H1 s1.heap.objs.size (.tup xs),I1.laid (t':=s1.toks) (fun b u e=>aQq _ e) (aQu _) ?_,rfl,q _ hf⟩
 exact ⟨z,us,r,⟨_,aQ9 _ rfl,rfl,_,rfl⟩⟩
theorem aLq(h:PA X es t):PE X (.List es pos) (aQc t):=by
 intro pins s σ H Q I hq
 refine wpAny_List_spliced (thn (h pos pins s σ H _ I hq) fun us s1 ⟨xs,H1,I1,r,z,q⟩=>⟨by rw [<- r.length];exact z,?_⟩)
 have hf:H1 s1.heap.objs.size=none:=I1.hok.fresh (aQu _)
 refine ⟨.ref s1.heap.objs.size,upd H1 s1.heap.objs.size (.lst xs),I1.laid (t':=s1.toks) (fun b u e=>aQq _ e) (aQu _) ?_,rfl,q _ hf⟩
 exact ⟨z,us,0,r,aQ9 _ rfl⟩
end
abbrev Sp:=List V->Hp->VK->XK->Prop
abbrev CXT:=List Env->Hp->Shared->XK->Value->Shared->Prop
structure Env0(P:Program)(w:World)(K:aQk)(mg:Str->Option Value)(base:Heap)(A:Around)(outer:List Env)(s:Shared)(H:Hp):Prop where
 frames:A.frames=some outer
 mod:Mod K mg base
 bs:∀ b o,base.get? b=some o->s.heap.get? b=some o/\H b=none
 bsz:base.objs.size<=s.heap.objs.size
 funs:s.heap.FunFrames base outer
 frf:∀ b∈frs outer,H b=none
 hok:HOk P w H s.heap
 bare:AllBare s.gens
 tab:Tbs K H
def CE(outer:List Env)(P:Program)(w:World)(H:Hp)(s:Shared)(Q:VK)(u:Value)(s':Shared):Prop :=
 ∃ v H',s'.os=s.os/\AllBare s'.gens/\Un (frs outer) [] H H' s.heap s'.heap/\HOk P w H' s'.heap/\RelV v u/\Q v H'
def CR(CX:CXT)(outer:List Env)(P:Program)(w:World)(H:Hp)(s:Shared)(Q:VK)(E:XK)(r:Result)(s':Shared):Prop :=
 match r with
 | .ok (.ret u)=>CE outer P w H s Q u s'
 | .ok _=>False
 | .error e=>CX outer H s E e s'
structure FnOk(P:Program)(w:World)(K:aQk)(mg:Str->Option Value)(base:Heap)(CX:CXT)(k:Nat)(f:Addr)(fd:FuncData)(ps:List Str)(sp:Sp):Prop where
 len:∀ vs H Q E,sp vs H Q E->vs.length=ps.length
 run:∀ (A:Around) (outer:List Env) (s:Shared) (H:Hp) (args:Args) (us:List Value) (vs:List V) (Q:VK) (E:XK),Room k A->Env0 P w K mg base A outer s H->BindsTo s fd args (ps.zip us)->Vals vs us->sp vs H Q E ->
  codeAny (model P w) A (.call (.ref f) args) (CR CX outer P w H s Q E) s
theorem FnOk.mono{P:Program}{w:World}{K:aQk}{mg:Str->Option Value}{base:Heap}{CX:CXT}{j k:Nat}{f:Addr}{fd:FuncData}{ps:List Str}{sp:Sp}(F:FnOk P w K mg base CX j f fd ps sp)(h:j<=k) :
  FnOk P w K mg base CX k f fd ps sp:=⟨F.len,fun A outer s H args us vs Q E hr=>F.run A outer s H args us vs Q E (hr.mono h)⟩
theorem FnOk.imp{P:Program}{w:World}{K:aQk}{mg:Str->Option Value}{base:Heap}{CX:CXT}{k:Nat}{f:Addr}{fd:FuncData}{ps:List Str}{sp sp':Sp}(F:FnOk P w K mg base CX k f fd ps sp)
  (h:∀ vs H Q E,sp' vs H Q E->sp vs H Q E):FnOk P w K mg base CX k f fd ps sp' :=
 ⟨fun vs H Q E q=>F.len vs H Q E (h _ _ _ _ q),fun A outer s H args us vs Q E hr he hb hv hs=>F.run A outer s H args us vs Q E hr he hb hv (h _ _ _ _ hs)⟩
theorem Env0.make{P:Program}{w:World}{K:aQk}{mg:Str->Option Value}{base:Heap}{A:Around}{outer:List Env}{s:Shared}{H:Hp}(e:Env0 P w K mg base A outer s H)(C:Addr)(us:List Value)(kw:List (Str×Value)) :
  Env0 P w K mg base (A.under (.builtin "type.__call__" ⟨.ref C :: us,kw⟩)) outer s H:=⟨by first | exact e.frames | (simpa [Around.under,Code.envs,Code.isFrame,pushEnvs] using e.frames),e.mod,e.bs,e.bsz,e.funs,e.frf,e.hok,e.bare,e.tab⟩
section
variable {X:Cx}{pins:List (Addr×Obj)}{σ:St}{H:Hp}{s s':Shared}
theorem Inv.env0(I:Inv X pins σ H s):Env0 X.prog X.w X.K X.mg X.base X.A X.stack s H :=
 ⟨I.ok.frames,I.ok.mod,I.bs,aR0 I.ok.bsz I.sz,I.stack,I.stkFree,I.hok,I.bare,I.tab⟩
theorem Inv.after{Q:VK}{u:Value}(I:Inv X pins σ H s)(h:CE X.stack X.prog X.w H s Q u s'):EP X pins σ Q u s':=by
 obtain ⟨v,H',os,bare,un,hok,r,q⟩:=h
 obtain ⟨hh,g,d,t,os'⟩:=s'
 obtain rfl:os'=s.os:=os
 exact ⟨v,H',I.call (h':=hh) (g':=g) (d':=d) (t':=t) (ch:=[]) un hok bare (fun b z=>absurd z (by simp)),r,q⟩
end
def aOl(C:Addr)(m:Str)(sp:Sp)(dvs:List V)(E:XK)(ta:TE)(t:TA):TE:=fun σ H Q=>ta σ H fun x H1=>∃ a dx fs,x=.ref a/\H1 a=some (.ins C dx fs)/\fs.lookup m=none /\
 t σ H1 fun vs H2=>sp (x :: (vs++dvs)) H2 Q E
def aNw(C:Addr)(sp:Sp)(dvs:List V)(E:XK)(t:TA):TE:=fun σ H Q=>t σ H fun vs H1=>∀ x dx,H1 x=none->H1 dx=none->dx≠x ->
 sp (.ref x :: (vs++dvs)) (upd (upd H1 dx (.own x)) x (.ins C dx [])) (fun v H2=>v=.non/\Q (.ref x) H2) E
def Binds(K:aQk)(fd:FuncData)(ps:List Str)(ds:List Value):Prop :=
 ∀ (s:Shared) (us:List Value),K.In s.heap->(us++ds).length=ps.length->BindsTo s fd ⟨us,[]⟩ (ps.zip (us++ds))
theorem Binds.all{K:aQk}{fd:FuncData}{ps:List Str}(h:∀ us:List Value,us.length=ps.length->bindArgs fd ⟨us,[]⟩=pure (ps.zip us)):Binds K fd ps []:=fun s us _ hl=>by
 rw [aSo] at hl ⊢
 exact .of_eq (h us hl)
def sF(CX:CXT)(X:Cx)(E:XK):Prop:=∀ (pins:List (Addr×Obj)) (σ:St) (H:Hp) (s:Shared) (e:Value) (s':Shared),Inv X pins σ H s->CX X.stack H s E e s'->X.xe e s'
section
variable {X:Cx}{CX:CXT}{k:Nat}{f C:Addr}{fd:FuncData}{ps:List Str}{sp:Sp}{dvs:List V}{ds:List Value}{E:XK}{x m:Str}{p pos apos:Pos}{e o:Expr}{es:List Expr}{ta:TE}{t:TA}
theorem aK6{pins:List (Addr×Obj)}{σ:St}{H:Hp}{s:Shared}{Q:VK}{us:List Value}{vs:List V}(F:FnOk X.prog X.w X.K X.mg X.base CX k f fd ps sp)(hr:Room k X.A)(hb:Binds X.K fd ps ds)(hd:Vals dvs ds)(hx:sF CX X E)
  (I:Inv X pins σ H s) (r:Vals vs us) (h:sp (vs++dvs) H Q E):wpAny (model X.prog X.w) X.A (call (.ref f) us) (EP X pins σ Q) X.xe s:=by
 have r2:Vals (vs++dvs) (us++ds):=r.append hd
 have hl:(us++ds).length=ps.length:=by rw [<- r2.length];exact F.len _ _ _ _ h
 refine wpAny_call (aUr (F.run X.A X.stack s H ⟨us,[]⟩ (us++ds) (vs++dvs) Q E hr I.env0 (hb s us I.kIn hl) r2 h) fun r s' hq=>?_)
 cases r with
 | error e=>exact hx pins σ H s e s' I hq
 | ok fl =>
  cases fl with
  | ret u=>exact I.after hq
  | next=>exact False.elim hq
  | brk=>exact False.elim hq
  | cont=>exact False.elim hq
theorem aIq{pl:Sem Bool}(he:PE X o ta)(c:Cls X.K C)(hm:aMs X.K C m f)(F:FnOk X.prog X.w X.K X.mg X.base CX k f fd ps sp)(hr:Room k X.A)(hb:Binds X.K fd ps ds)(hd:Vals dvs ds)(hx:sF CX X E)(ha:PA X (e :: es) t)
  (hst:starEach (e :: es) X.env=(false,eval e X.env) :: starEach es X.env:=by rfl) (hpl:(backTo pos (starEach es X.env)).any (·.1)=false:=by rfl)
  (ht:eval (.Call (.Attribute o m apos) (e :: es) [] pos) X.env=(do
   let ov <- eval o X.env
   standAt apos.atName
   let (f,first) <- holding [ov] (getMethod ov m pl)
   callWith pos f first (backTo pos (starEach (e :: es) X.env)) (backToKw pos (keywordEach [] X.env))):=by rfl) :
  PE X (.Call (.Attribute o m apos) (e :: es) [] pos) (aOl C m sp dvs E ta t):=by
 intro pins s σ H Q I h
 refine PySem.W.methodCall_KW (pl:=pl) (thn (he pins s σ H _ I h) fun u s1 ⟨x,H1,I1,rx,a,dx,fs,ex,ea,l,q⟩=>?_) ht
 subst ex
 obtain rfl:u=Value.ref a:=rx
 refine x3 I1 ea c hm l ?_
 refine aV5 (first:=[.ref a]) (h₀:=X.base) I.ok.mod.kin hm.kp (thn (ha pos pins s1 σ H1 _ I1 q) fun us s2 ⟨vs,H2,I2,r,q2⟩=>⟨I2.kIn,?_⟩) hst hpl
 exact aK6 (us:=.ref a :: us) (vs:=.ref a :: vs) F hr hb hd hx I2 (.cons rfl r) q2
structure Mk(K:aQk)(C f:Addr):Prop where
 makes:PySem.W.makesIn K C=true
 init:PySem.W.findIn K (.ref C) "__init__" = some (some (.ref f))
 fn:PySem.W.isFn K (.ref f)=true
 kp:PySem.W.keepIn K (.ref C)=true
theorem aDd{pins:List (Addr×Obj)}{σ:St}{H:Hp}{s:Shared}{Q:VK}{us:List Value}{vs:List V}(M:Mk X.K C f)(F:FnOk X.prog X.w X.K X.mg X.base CX k f fd ps sp)(hr:Room (k+1) X.A)(hb:Binds X.K fd ps ds)(hd:Vals dvs ds)
  (hx:sF CX X E) (I:Inv X pins σ H s) (r:Vals vs us)
  (h:∀ x dx,H x=none->H dx=none->dx≠x->sp (.ref x :: (vs++dvs)) (upd (upd H dx (.own x)) x (.ins C dx [])) (fun v H2=>v=.non/\Q (.ref x) H2) E) :
  wpAny (model X.prog X.w) X.A (call (.ref C) us) (EP X pins σ Q) X.xe s:=by
 have hq:=h (s.heap.objs.size+1) s.heap.objs.size (I.hok.fresh (aT5 _)) (I.hok.fresh (aQu _)) (aRa (aVi _))
 have I2:=Inv.made (C:=C) I
 have r2:Vals (V.ref (s.heap.objs.size+1) :: (vs++dvs)) (Value.ref (s.heap.objs.size+1) :: (us++ds)):=.cons rfl (r.append hd)
 have hl:(Value.ref (s.heap.objs.size+1) :: us++ds).length=ps.length:=by
  have e:=r2.length
  rw [F.len _ _ _ _ hq] at e
  exact e.symm
 refine wpAny_call (aDi (f:=f) I.kIn M.makes M.init (aTk.mp M.fn) (aUr (F.run _ X.stack _ _ ⟨Value.ref (s.heap.objs.size+1) :: us,[]⟩ (Value.ref (s.heap.objs.size+1) :: (us++ds)) _ _ E (hr.make C us [])
  (I2.env0.make C us []) (hb _ (Value.ref (s.heap.objs.size+1) :: us) I2.kIn hl) r2 hq) fun r s' hq'=>?_))
 cases r with
 | error e=>exact hx pins σ _ _ e s' I2 hq'
 | ok fl =>
  cases fl with
  | ret u =>
   obtain ⟨v,H',I3,rv,ev,q3⟩:=I2.after hq'
   subst ev
   exact ⟨rv,⟨V.ref (s.heap.objs.size+1),H',I3,rfl,q3⟩⟩
  | next=>exact False.elim hq'
  | brk=>exact False.elim hq'
  | cont=>exact False.elim hq'
theorem aIr(M:Mk X.K C f)(F:FnOk X.prog X.w X.K X.mg X.base CX k f fd ps sp)(hr:Room (k+1) X.A)(hg:Gl X x)(hm:X.mg x=some (.ref C))(hb:Binds X.K fd ps ds)(hd:Vals dvs ds)(hx:sF CX X E)
  (ha:PA X (e :: es) t) (hdb:(x == ("__debug__" : Str))=false:=by decide) (he:starEach (e :: es) X.env=(false,eval e X.env) :: starEach es X.env:=by rfl) (hpl:(backTo pos (starEach es X.env)).any (·.1)=false:=by rfl) :
  PE X (.Call (.Name x p) (e :: es) [] pos) (aNw C sp dvs E t):=by
 intro pins s σ H Q I h
 refine aSp (qL I hg hm ?_ hdb)
 refine aV5 (h₀:=X.base) I.ok.mod.kin M.kp (thn (ha pos pins s σ H _ I h) fun us s1 ⟨vs,H1,I1,r,q⟩=>⟨I1.kIn,?_⟩) he hpl
 exact aDd M F hr hb hd hx I1 r q
end
section
variable {X:Cx}{CX:CXT}{k:Nat}{f C:Addr}{fd:FuncData}{ps ks:List Str}{sp:Sp}{E:XK}{x m:Str}{p pos apos kpos:Pos}{e o:Expr}{es:List Expr}{kws:List Keyword}{te ta:TE}{t tk:TA}{nm:Option Str}
variable {g:List Value->List Value->List Value}{gV:List V->List V->List V}
end
structure bV(N P:List Str)(sc:Scope):Prop where
 kind:sc.kind=.function
 co:sc.isCoroutine=false
 gen:sc.isGenerator=false
 nd:N.Nodup
 pre:N.take P.length=P
 par:∀ x∈P,sc.names.lookup x=some .local\/sc.names.lookup x=some .cell
 nofree:∀ y∈sc.names,y.2≠.free
theorem tD{kindOf:Str->Option NameKind}{x:Str}:∀ {binds:List (Str×Value)} {m:Str->Option Value},(∀ v,(x,v)∉binds)->bindL kindOf binds m x=m x
 | [],_,_=>rfl
 | (n,v) :: r,m,h=>by
  unfold bindL
  rw [tD fun w hw=>h w (aRl _ hw)]
  split
  ·have:x≠n:=by rintro rfl;exact h v aTc
   simp [this]
  ·rfl
theorem tR{kindOf:Str->Option NameKind}{x:Str}:∀ {binds:List (Str×Value)} {m:Str->Option Value},(∀ v,(x,v)∉binds)->bindC kindOf binds m x=m x
 | [],_,_=>rfl
 | (n,v) :: r,m,h=>by
  unfold bindC
  rw [tR fun w hw=>h w (aRl _ hw)]
  split
  ·rfl
  ·have:x≠n:=by rintro rfl;exact h v aTc
   simp [this]
theorem rW{kindOf:Str->Option NameKind}{x:Str}{v:Value}:∀ {P:List Str} {vs:List Value} {i:Nat} {m:Str->Option Value},P.Nodup->P[i]? = some x->vs[i]? = some v->kindOf x=some .local ->
  bindL kindOf (P.zip vs) m x=some v
 | [],_,_,_,_,h,_,_=>by simp at h
 | _ :: _,[],_,_,_,_,h,_=>by simp at h
 | p :: P,w :: vs,0,m,nd,h1,h2,hk=>by
  simp at h1 h2;subst h1;subst h2
  show bindL kindOf ((p,w) :: P.zip vs) m p=_
  unfold bindL
  rw [tD fun v hv=>(aR3.mp nd).1 (aW0 hv).1,aQt hk]
  simp
 | p :: P,w :: vs,i+1,m,nd,h1,h2,hk=>by
  show bindL kindOf ((p,w) :: P.zip vs) m x=_
  unfold bindL
  exact rW (i:=i) (aR3.mp nd).2 (by simpa using h1) (by simpa using h2) hk
theorem tZ{kindOf:Str->Option NameKind}{x:Str}{v:Value}:∀ {P:List Str} {vs:List Value} {i:Nat} {m:Str->Option Value},P.Nodup->P[i]? = some x->vs[i]? = some v->kindOf x≠some .local ->
  bindC kindOf (P.zip vs) m x=some v
 | [],_,_,_,_,h,_,_=>by simp at h
 | _ :: _,[],_,_,_,_,h,_=>by simp at h
 | p :: P,w :: vs,0,m,nd,h1,h2,hk=>by
  simp at h1 h2;subst h1;subst h2
  show bindC kindOf ((p,w) :: P.zip vs) m p=_
  unfold bindC
  rw [tR fun v hv=>(aR3.mp nd).1 (aW0 hv).1,aQv hk]
  simp
 | p :: P,w :: vs,i+1,m,nd,h1,h2,hk=>by
  show bindC kindOf ((p,w) :: P.zip vs) m x=_
  unfold bindC
  exact tZ (i:=i) (aR3.mp nd).2 (by simpa using h1) (by simpa using h2) hk
def start(N:List Str)(vs:List V):St:=vs.map some++List.replicate (N.length - vs.length) none
def j8(CX:CXT)(P:Program)(w:World)(K:aQk)(mg:Str->Option Value)(base:Heap)(N:List Str)(qual:Str)(scope:Scope)(f:Addr)(cd:Value)(A:Around)(outer:List Env)(s:Shared)(H:Hp)(E:XK):Cx where
 prog:=P
 w:=w
 K:=K
 mg:=mg
 base:=base
 A:=A.deeper (envOfC qual scope s.heap.objs.size f cd)
 N:=N
 s₀:=s
 H₀:=H
 env:=envOfC qual scope s.heap.objs.size f cd
 outer:=outer
 stack:=envOfC qual scope s.heap.objs.size f cd :: outer
 ex:=[]
 calm:=true
 fn:=fun _=>true
 pn:=[]
 xe:=fun e s'=>wpAny (model P w) (A.deeper (envOfC qual scope s.heap.objs.size f cd)) (leaving (envOfC qual scope s.heap.objs.size f cd) e) (fun _ s''=>CX outer H s E e s'') (fun e' s''=>CX outer H s E e' s'') s'
theorem xA{sc:Scope}{n:Nat}{x:Str}(h:sc.names.lookup x=some .cell):∃ c,(cellsFrom n sc.names []).lookup x=some c:=by
 have q:=aWw sc.names n [] (.inl h)
 exact aRw.mp q
theorem zM{CX:CXT}{P:Program}{w:World}{K:aQk}{mg:Str->Option Value}{base:Heap}{N ps:List Str}{qual:Str}{scope:Scope}{f:Addr}{cd:Value}{A:Around}{outer:List Env}{s s1:Shared}{H:Hp}{E:XK}{us:List Value}{vs:List V}
  (S:bV N ps scope) (hd:A.handled=none) (e0:Env0 P w K mg base A outer s H) (hl:vs.length=ps.length) (r:Vals vs us)
  (x:InCallC s s.heap.objs.size (bindL (envOfC qual scope s.heap.objs.size f cd).kindOf (ps.zip us) fun _=>none) (cellsFrom (s.heap.objs.size+1) scope.names []) (bindC (envOfC qual scope s.heap.objs.size f cd).kindOf (ps.zip us) fun _=>none) s1) :
  Inv (j8 CX P w K mg base N qual scope f cd A outer s H E) [] (start N vs) H s1:=by
 have hpl:ps.length<=N.length:=by have:=aUn List.length S.pre;rw [aSh] at this;omega
 obtain ⟨h1,tk,rfl,hk⟩:=x.done
 have noA:∀ b:Addr,b∉(j8 CX P w K mg base N qual scope f cd A outer s H E).ex:=fun b z=>absurd (show b∈([]:List Addr) from z) (by simp)
 refine ⟨⟨e0.mod,S.kind,rfl,rfl,aQu _,fun y z c h1 h2=>?_,fun y hy=>?_,fun y c _ h=>?_,fun _=>hd,Around.frames_deeper e0.frames,.inr ⟨rfl,rfl⟩,fun b z=>absurd z (noA b),e0.bs,e0.bsz,fun b _ _=>noA b,fun b z=>absurd z (noA b),e0.funs,e0.frf,e0.tab⟩,
  rfl,e0.bare,Un.kept hk,⟨_,x.toInCall.ns,fun i y v h1 h2 h3=>?_⟩,fun y c h=>⟨_,x.cell y c h⟩,e0.hok.fresh (aQu _),fun y c h=>?_,fun p hp=>absurd (show p∈([]:List (Addr×Obj)) from hp) (by simp),e0.hok.kept hk,?_⟩
 ·exact name_of_addr x.apart (aSm h1) (aSm h2)
 ·have hy:scope.names.lookup y=some .cell\/scope.names.lookup y=some .free:=hy
  rcases hy with hy | hy
  ·exact xA hy
  ·exact absurd rfl (S.nofree _ (aSm hy))
 ·exact aUq (x.above y c (aSm h))
 ·have hi:i < vs.length:=by
   unfold start at h2
   by_cases hi:i < vs.length
   ·exact hi
   ·rw [aRb (by simpa using hi)] at h2
    rw [aS5] at h2
    split at h2<;>cases h2
  have ha:vs[i]? = some v:=by
   unfold start at h2
   rw [aRo (by simpa using hi),aQ0] at h2
   cases e:vs[i]? with
   | none=>rw [e] at h2;cases h2
   | some a=>rw [e] at h2;cases h2;rfl
  obtain ⟨u,hu,rv⟩:=r.get ha
  have hp:ps[i]? = some y:=by
   rw [<- S.pre,List.getElem?_take_of_lt (by omega)];exact h1
  have ndP:ps.Nodup:=by rw [<- S.pre];exact S.nd.sublist (List.take_sublist _ _)
  refine ⟨u,rv,?_⟩
  rcases S.par y (aS4 hp) with k | k
  ·exact .inl ⟨k,rW ndP hp hu k⟩
  ·obtain ⟨c,e⟩:=xA (n:=s.heap.objs.size+1) k
   refine .inr ⟨.inl k,c,e,?_⟩
   have q:=x.cell y c e
   rw [tZ ndP hp hu (by show scope.names.lookup y≠_;rw [k];decide)] at q
   exact q
 ·exact e0.hok.fresh (aUq (x.above y c (aSm h)))
 ·unfold start
  show _=N.length
  rw [aQz,aQm,aRm]
  omega
theorem aOc{CX:CXT}{P:Program}{w:World}{K:aQk}{mg:Str->Option Value}{base:Heap}{k:Nat}{f:Addr}{name qual:Str}{params:Arguments}{body:List Stmt}{scope:Scope}{dV kV doc pm cdv ct oc:Value}{an od:Option Addr}
  {osl:Array (Option Value)} {N ps:List Str} {sp:Sp} (lk:K.lookup f=some ⟨oc,od,.func (PySem.W.fnOf name qual params body scope dV kV doc pm an cdv ct),osl⟩) (hcd:PySem.W.codeIn K cdv qual=true) (S:bV N ps scope)
  (len:∀ vs H Q E,sp vs H Q E->vs.length=ps.length)
  (hbody:∀ (A:Around) (outer:List Env) (s:Shared) (H:Hp) (vs:List V) (Q:VK) (E:XK),Room k (A.deeper (envOfC qual scope s.heap.objs.size f cdv))->sp vs H Q E ->
   ∃ t,PSs (j8 CX P w K mg base N qual scope f cdv A outer s H E) body t/\t { nx:=fun _ H'=>Q .non H',rt:=Q } (start N vs) H) :
  FnOk P w K mg base CX (k+1) f (PySem.W.fnOf name qual params body scope dV kV doc pm an cdv ct) ps sp:=by
 refine ⟨len,fun A outer s H args us vs Q E hr e0 hb r hsp=>?_⟩
 have hl:=len _ _ _ _ hsp
 have KX:K.In s.heap:=e0.mod.kin.keeps fun b o e=>(e0.bs b o e).1
 have lim:s.heap.NoLimit:=e0.mod.nolimit.keeps fun b o e=>(e0.bs b o e).1
 have hkind:∀ y∈ps.zip us,scope.names.lookup y.1=some .local\/(scope.names.lookup y.1=some .cell/\((cellsFrom (s.heap.objs.size+1) scope.names []).lookup y.1).isSome=true):=fun ⟨n,v⟩ hy=>by
  rcases S.par n (aW0 hy).1 with q | q
  ·exact .inl q
  ·exact .inr ⟨q,aWw _ _ _ (.inl q)⟩
 refine codeAny_call_function hr.depth (KX _ _ lk) rfl S.co S.gen rfl (PySem.W.codeRec_of KX hcd) (hb _ _ _ _ ?_)
 refine wpAny_newFunctionEnv_cells S.kind hkind fun env he s1 x=>?_
 subst he
 refine ⟨lim.keeps x.toInCall.keep,codeAny_func ?_⟩
 obtain ⟨t,ht,hq⟩:=hbody A outer s H vs Q E (hr.deeper _) hsp
 have I:Inv (j8 CX P w K mg base N qual scope f cdv A outer s H E) [] (start N vs) H s1:=zM S hr.hd e0 hl r x
 refine aR4 (ht [] s1 (start N vs) H _ I hq) (fun fl s' hs=>?_) fun e s' hs=>hs
 have fin:∀ {σ':St} {H':Hp} {v:V} {u:Value},Inv (j8 CX P w K mg base N qual scope f cdv A outer s H E) [] σ' H' s'->RelV v u->Q v H'->CE outer P w H s Q u s' :=
  fun {σ' H' v u} J rv q=>⟨v,H',J.os,J.bare,J.base,J.hok,rv,q⟩
 cases fl with
 | ret u =>
  obtain ⟨v,σ',H',J,rv,q⟩:=hs
  exact fin J rv q
 | next =>
  obtain ⟨σ',H',J,q⟩:=hs
  exact fin (v:=V.non) (u:=Value.none) J rfl q
 | brk =>
  obtain ⟨_,_,_,q⟩:=hs
  exact False.elim q
 | cont =>
  obtain ⟨_,_,_,q⟩:=hs
  exact False.elim q
section
variable {X:Cx}{x:Str}{p pos:Pos}{e:Expr}{es:List Expr}{t:TA}{id T:String}{r:List V->Hp->VK->Prop}
def tCB(r:List V->Hp->VK->Prop)(t:TA):TE:=fun σ H Q=>t σ H fun vs H1=>r vs H1 Q
theorem xC(hc:lU X (.builtin id) r)(hg:Gl X x)(hm:X.mg x=none)(hv:bootBuiltins x=some (.builtin id))(ha:PA X (e :: es) t)(hn:x≠"__name__":=by decide)(hdb:(x == ("__debug__" : Str))=false:=by decide)
  (he:starEach (e :: es) X.env=(false,eval e X.env) :: starEach es X.env:=by rfl) (hpl:(backTo pos (starEach es X.env)).any (·.1)=false:=by rfl):PE X (.Call (.Name x p) (e :: es) [] pos) (tCB r t):=by
 intro pins s σ H Q I h
 refine aSp (lB I hg hm hv ?_ hn hdb)
 exact aVe (thn (ha pos pins s σ H _ I h) fun us s1 ⟨vs,H1,I1,r1,q1⟩=>hc pins s1 σ H1 vs us Q I1 r1 q1) he hpl
theorem aA3(hc:lU X (.type T) r)(hg:Gl X x)(hm:X.mg x=none)(hv:bootBuiltins x=some (.type T))(ha:PA X (e :: es) t)(hn:x≠"__name__":=by decide)(hdb:(x == ("__debug__" : Str))=false:=by decide)
  (he:starEach (e :: es) X.env=(false,eval e X.env) :: starEach es X.env:=by rfl) (hpl:(backTo pos (starEach es X.env)).any (·.1)=false:=by rfl):PE X (.Call (.Name x p) (e :: es) [] pos) (tCB r t):=by
 intro pins s σ H Q I h
 refine aSp (lB I hg hm hv ?_ hn hdb)
 exact aSf (thn (ha pos pins s σ H _ I h) fun us s1 ⟨vs,H1,I1,r1,q1⟩=>hc pins s1 σ H1 vs us Q I1 r1 q1) he hpl
end
end L2
namespace HT
open PySem PyProof.Rows
def lexLt:List Int->List Int->Bool
 | [],[]=>false
 | [],_ :: _=>true
 | _ :: _,[]=>false
 | x :: xs,y :: ys=>if x=y then lexLt xs ys else decide (x < y)
theorem dH(x y:Int)(xs ys:List Int):lexLt (x :: xs) (y :: ys)=if x=y then lexLt xs ys else decide (x < y):=rfl
theorem pV:lexLt [] []=false:=rfl
theorem o6(y:Int)(ys:List Int):lexLt [] (y :: ys)=true:=rfl
theorem o4(x:Int)(xs:List Int):lexLt (x :: xs) []=false:=rfl
theorem aE5(A:Around)(s:Shared)(a:Int)(t:Tok)(c:Int)(u:Tok):∃ e,SeqAt.EqAt A s (.int a t) (.int c u) e/\(e=true↔a=c) :=
 ⟨(a == c),SeqAt.EqAt.int_int a t c u,by simp⟩
theorem aC9(A:Around)(s:Shared)(a:Int)(t:Tok)(c:Int)(u:Tok)(prog:Program)(w:World)(E:Value->Shared->Prop)(Q:Value->Shared->Prop)(h:Q (.bool (decide (a < c))) s) :
  wpAny (model prog w) A (richCompare .Lt (.int a t) (.int c u)) Q E s :=
 (PyProof.Rows.lt_int h:wpAny (model prog w) A (compareOp .Lt (.int a t) (.int c u)) Q E s)
section
open PySem.SeqAt
open PySem.AutoSeq1 (wpAny_loadPart')
open PySem.MeetsSeq PySem.MeetsSeq2 PySem.MeetsSeq3
theorem qB(l b:Addr)(items items2:Array Value)(n n2:Nat)(dd dd2:Option Addr)(sl sl2:Array (Option Value))(ns ms:List Int)(hi:IntsAre items.toList ns)(hj:IntsAre items2.toList ms) :
  Meets (Builtin.«tuple.__lt__» ⟨[.ref l,.ref b],[]⟩)
   (fun _ R s=>s.heap.get? l=some { cls:=.type "tuple",dict:=dd,data:=.seq items n,slots:=sl }/\s.heap.get? b=some { cls:=.type "tuple",dict:=dd2,data:=.seq items2 n2,slots:=sl2 } /\
    R (.ok (.ret (.bool (lexLt ns ms)))) s) :=
 .of_wp fun prog w A R s h=>by
  obtain ⟨hp,g,d,tk,os⟩:=s;obtain ⟨hl,hb,h⟩:=h
  have f2:=AutoSeq1.sub_tuple_tuple
  have z1:items.size=ns.length:=by rw [<- hi.length];simp
  have z2:items2.size=ms.length:=by rw [<- hj.length];simp
  wp_walk using wpAny_loadPart' hl,wpAny_loadPart' hb,aTv _ (fun rest b s'=>b.1=none/\s'=⟨hp,g,d,tk,os⟩/\∃ (vs ws:List Value) (ns' ms':List Int),rest=vs.zip ws /\
   IntsAre vs ns'/\IntsAre ws ms'/\ns'.length+items2.size=ms'.length+items.size/\R (.ok (.ret (.bool (lexLt ns' ms')))) ⟨hp,g,d,tk,os⟩) _
  case turn =>
   rintro ⟨y,x⟩ rest b s' ⟨hb',rfl,vs,ws,ns',ms',hz,hvi,hwi,hlen,hR⟩
   cases hvi with
   | nil=>rw [List.zip_nil_left] at hz;cases hz
   | cons a t hvi' =>
    cases hwi with
    | nil=>rw [List.zip_nil_right] at hz;cases hz
    | cons c u hwi' =>
     rw [aV6] at hz
     injection hz with hyx hrest
     injection hyx with hy hx
     subst hy hx
     rw [dH] at hR
     simp only [aQp] at hlen
     obtain ⟨e,he,hiff⟩:=aE5 A.in1 ⟨hp,g,d,tk,os⟩ a t c u
     refine aQl (he prog w _ _ ?_)
     cases e with
     | true =>
      rw [aQt (hiff.mp rfl)] at hR
      wp_walk
      exact ⟨rfl,rfl,_,_,_,_,hrest,hvi',hwi',by omega,hR⟩
     | false =>
      rw [aQv (fun q=>absurd (hiff.mpr q) aRd)] at hR
      have hri:=aC9 A.in1 ⟨hp,g,d,tk,os⟩ a t c u prog w
      wp_walk using hri
      exact ⟨_,rfl,by simpa using hR⟩
  case fin =>
   rintro ⟨b1,b2⟩ s' ⟨hb',rfl,vs,ws,ns',ms',hz,hvi,hwi,hlen,hR⟩
   simp only at hb'
   subst hb'
   have hv:lexLt ns' ms'=decide (items.size < items2.size):=by
    cases hvi with
    | nil =>
     cases hwi with
     | nil =>
      simp only [aRx] at hlen
      rw [pV]
      exact (aQr (by omega)).symm
     | cons c u hw =>
      simp only [aRx,aQp] at hlen
      rw [o6]
      exact (aQ3 (by omega)).symm
    | cons a t hv =>
     cases hwi with
     | nil =>
      simp only [aRx,aQp] at hlen
      rw [o4]
      exact (aQr (by omega)).symm
     | cons c u hw =>
      rw [aV6] at hz
      cases hz
   rw [hv] at hR
   wp_walk
   exact ⟨_,rfl,by simpa [Builtin.Tuple.tupleCompareSizes] using hR⟩
  case h =>
   exact ⟨rfl,rfl,items.toList,items2.toList,ns,ms,rfl,hi,hj,by omega,h⟩
end
section
variable {prog:Program}{w:World}{A:Around}{E:Value->Shared->Prop}{s:Shared}
theorem xU{l b:Addr}{items items2:Array Value}{ns ms:List Int}{Q:Value->Shared->Prop}(hl:IsTup s.heap l items)(hb:IsTup s.heap b items2)(hi:IntsAre items.toList ns)(hj:IntsAre items2.toList ms)
  (hu:A.units < cLine) (h:Q (.bool (lexLt ns ms)) s):wpAny (model prog w) A (compareOp .Lt (.ref l) (.ref b)) Q E s:=by
 obtain ⟨⟨cls,dd,data,sl⟩,ho,hc,n,hd⟩:=id hl
 obtain ⟨⟨cls2,dd2,data2,sl2⟩,ho2,hc2,n2,hd2⟩:=id hb
 simp only at hc hd hc2 hd2
 subst hc hd hc2 hd2
 exact richCompare_meets_room (op:=.Lt) ⟨_,ho,rfl⟩ ⟨_,ho2,rfl⟩ PySem.F.slot_tuple_lt PySem.F.entry_tuple_lt (PySem.F.args_tuple_lt_2 _ _) (qB l b items items2 n n2 dd dd2 sl sl2 ns ms hi hj)
  ⟨ho,ho2,show Value.bool (lexLt ns ms)≠Value.notImplemented/\Q (.bool (lexLt ns ms)) s from ⟨(fun x=>nomatch x),h⟩⟩ hu
def sIx(n d:Nat):Option Int->Nat
 | none=>d
 | some v=>if v < 0 then (v+(n:Int)).toNat else min v.toNat n
theorem aEp(n d:Nat):sIx n d none=d:=rfl
theorem vD(n d k:Nat):sIx n d (some (k:Int))=min k n:=by
 show (if (k:Int) < 0 then ((k:Int)+(n:Int)).toNat else min (k:Int).toNat n)=min k n
 rw [aQv (by omega),aU7]
end
end HT
namespace L2
open PySem PySem.Spec PyProof.Rows
abbrev TO:=St->Hp->(Option Int->Hp->Prop)->Prop
def PO(X:Cx)(e:Option Expr)(t:TO):Prop :=
 ∀ (pins:List (Addr×Obj)) (s:Shared) (σ:St) (H:Hp) (Q:Option Int->Hp->Prop),Inv X pins σ H s->t σ H Q ->
  wpAny (model X.prog X.w) X.A (evalPart e X.env) (fun u s'=>∃ o H',Inv X pins σ H' s'/\IsPart u o/\Q o H') X.xe s
def aH2:TO:=fun _ H Q=>Q none H
def aOk(t:TE):TO:=fun σ H Q=>t σ H fun x H1=>∃ i,x=.int i/\Q (some i) H1
theorem intsAre_of{ns:List Int}:∀ {us:List Value},Vals (ns.map V.int) us->IntsAre us ns:=by
 induction ns with
 | nil=>intro us r;rw [aSw] at r;cases r;exact .nil
 | cons n ns ih =>
  intro us r
  rw [aQx] at r
  cases r with
  | cons r1 r2 =>
   obtain ⟨t,e⟩:=r1
   subst e
   exact .cons n t (ih r2)
section
variable {X:Cx}{e:Expr}{te:TE}{lo hi:Option Expr}{tl th:TO}{pos p2:Pos}
theorem aG6:PO X none aH2:=by
 intro pins s σ H Q I h
 rw [evalPart_none]
 exact aQo ⟨none,H,I,.none,h⟩
theorem aGv(h:PE X e te):PO X (some e) (aOk te):=by
 intro pins s σ H Q I hw
 rw [evalPart_some]
 refine thn (h pins s σ H _ I hw) fun u s1 ⟨x,H1,I1,r1,q1⟩=>?_
 obtain ⟨i,rfl,q⟩:=q1
 obtain ⟨t,rfl⟩:=r1
 exact ⟨some i,H1,I1,.int i t,q⟩
def SlR(X:Cx)(r:V->Option Int->Option Int->Hp->VK->Prop):Prop :=
 ∀ (pins:List (Addr×Obj)) (s:Shared) (σ:St) (H:Hp) (x:V) (v vl vu:Value) (lo hi:Option Int) (sl:Addr) (Q:VK),Inv X pins σ H s->RelV x v->s.heap.IsSliceOf sl vl vu .none->IsPart vl lo->IsPart vu hi->r x lo hi H Q ->
  ∃ T id,typeLookup (.type T) "__getitem__" = pure (some (.builtin id))/\s.TypeIs v T/\wpAny (model X.prog X.w) X.A (getItem v (.ref sl)) (EP X pins σ Q) X.xe s
def tSl(r:V->Option Int->Option Int->Hp->VK->Prop)(te:TE)(tl th:TO):TE:=fun σ H Q=>te σ H fun x H1=>tl σ H1 fun l H2=>th σ H2 fun u H3=>r x l u H3 Q
theorem aEi{r:V->Option Int->Option Int->Hp->VK->Prop}(hr:SlR X r)(he:PE X e te)(hl:PO X lo tl)(hu:PO X hi th):PE X (.Subscript e (.Slice lo hi none p2) pos) (tSl r te tl th):=by
 intro pins s σ H Q I h
 refine Subscript_ (thn (he pins s σ H _ I h) fun v s1 ⟨x,H1,I1,r1,q1⟩=>?_)
 refine wpAny_Slice (thn (hl pins s1 σ H1 _ I1 q1) fun vl s2 ⟨l,H2,I2,pl,q2⟩=>thn (hu pins s2 σ H2 _ I2 q2) fun vu s3 ⟨u,H3,I3,pu,q3⟩=>?_)
 rw [evalPart_none]
 refine aQo ?_
 have I4:Inv X pins σ H3 { s3 with heap:=s3.heap.push { cls:=.type "slice",data:=.fields #[vl,vu,.none] } }:=I3.kept (t':=s3.toks) fun b ob q=>aQq _ q
 obtain ⟨T,id,hT,ht,hg⟩:=hr pins { s3 with heap:=s3.heap.push { cls:=.type "slice",data:=.fields #[vl,vu,.none] } } σ H3 x v vl vu l u s3.heap.objs.size Q I4 r1 (Heap.IsSliceOf.new ..) pl pu q3
 show wpAny (model X.prog X.w) X.A (subscriptTail e (.Slice lo hi none p2) v (.ref s3.heap.objs.size)) (EP X pins σ Q) X.xe { s3 with heap:=s3.heap.push { cls:=.type "slice",data:=.fields #[vl,vu,.none] } }
 exact tail_any (ops:=[.ref s3.heap.objs.size,v]) ht hT hg (by with_unfolding_all rfl)
def aI6(xs:List V)(lo hi:Option Int):List V:=(xs.drop (HT.sIx xs.length 0 lo)).take (HT.sIx xs.length xs.length hi - HT.sIx xs.length 0 lo)
theorem uY(xs:List V)(lo hi:Option Int):(aI6 xs lo hi).length<=xs.length:=by
 unfold aI6
 rw [aSh,aTa]
 omega
end
def ixN(n:Nat)(i:Int):Option Nat:=if 0<=i then (if i < n then some i.toNat else none) else if -(n:Int)<=i then some (i+n).toNat else none
def atI{α:Type}(xs:List α)(i:Int):Option α:=(ixN xs.length i).bind fun j=>xs[j]?
theorem zT{n:Nat}{i:Int}{j:Nat}(h:ixN n i=some j):seqIndex? i n=some j/\j < n/\-(n:Int)<=i/\i < n:=by
 unfold ixN at h
 by_cases h0:0<=i
 ·rw [aQt h0] at h
  by_cases h1:i < n
  ·rw [aQt h1] at h
   have e:i.toNat=j:=aQ7 h
   exact ⟨by rw [seqIndex_of h0 h1,e],by omega,by omega,h1⟩
  ·rw [aQv h1] at h;cases h
 ·rw [aQv h0] at h
  by_cases h1:-(n:Int)<=i
  ·rw [aQt h1] at h
   have e:(i+n).toNat=j:=aQ7 h
   exact ⟨by rw [seqIndex_neg (by omega) h1,e],by omega,h1,by omega⟩
  ·rw [aQv h1] at h;cases h
theorem aCh{α:Type}{xs:List α}{i:Int}{v:α}(h:atI xs i=some v):∃ j,seqIndex? i xs.length=some j/\xs[j]? = some v/\j < xs.length/\-(xs.length:Int)<=i/\i < xs.length:=by
 unfold atI at h
 cases e:ixN xs.length i with
 | none=>rw [e] at h;cases h
 | some j =>
  rw [e] at h
  obtain ⟨h1,h2,h3,h4⟩:=zT e
  exact ⟨j,h1,h,h2,h3,h4⟩
theorem lN{α:Type}{xs:List α}{j:Nat}{v:α}(h:xs[j]? = some v):atI xs (j:Int)=some v:=by
 have hj:j < xs.length:=(aRe.mp h).1
 have e:ixN xs.length (j:Int)=some j:=by
  unfold ixN
  rw [aQt (by omega),aQt (by omega)];simp
 unfold atI;rw [e];exact h
def aAo(b:Expr):Prop:=∀ o i,subscripted b false o i=operate [o,i] (getItem o i)
def IxR(X:Cx)(r:R2):Prop :=
 ∀ (value slice:Expr) (pins:List (Addr×Obj)) (s:Shared) (σ:St) (H:Hp) (x y:V) (v u:Value) (Q:VK),Inv X pins σ H s->RelV x v->RelV y u->r x y H Q ->
  subscripted slice false v u=operate [v,u] (getItem v u)->wpAny (model X.prog X.w) X.A (subscriptTail value slice v u) (EP X pins σ Q) X.xe s
def MtR(X:Cx)(id:String)(r:V->List V->Hp->VK->Prop):Prop :=
 ∀ (pins:List (Addr×Obj)) (s:Shared) (σ:St) (H:Hp) (x:V) (xs:List V) (v:Value) (us:List Value) (Q:VK),Inv X pins σ H s->RelV x v->Vals xs us->r x xs H Q ->
  wpAny (model X.prog X.w) X.A (call (.builtin id) (v :: us)) (EP X pins σ Q) X.xe s
section
variable {X:Cx}{a b:Expr}{ta tb:TE}{pos:Pos}
theorem IxR.or{r r':R2}(h:IxR X r)(h':IxR X r'):IxR X (fun x y H Q=>r x y H Q\/r' x y H Q):=by
 intro value slice pins s σ H x y v u Q I rx ry q hs
 rcases q with q | q
 ·exact h value slice pins s σ H x y v u Q I rx ry q hs
 ·exact h' value slice pins s σ H x y v u Q I rx ry q hs
theorem aMy{r:R2}(hr:IxR X r)(ha:PE X a ta)(hb:PE X b tb)(hs:aAo b):PE X (.Subscript a b pos) (tOp r ta tb):=by
 intro pins s σ H Q I h
 exact Subscript_ (aNg ha hb I h fun v u s2 x y H2 I2 rx ry q=>hr a b pins s2 σ H2 x y v u Q I2 rx ry q (hs _ _))
def aPg(K:aQk):R2:=fun x y H Q=>∃ p xs i v,x=.ref p/\y=.int i/\SqL K H p xs/\atI xs i=some v/\Q v H
def aPb(K:aQk):R2:=fun x y H Q=>∃ p xs i v,x=.ref p/\y=.int i/\SqT K H p xs/\atI xs i=some v/\Q v H
theorem ix_list:IxR X (aPg X.K):=by
 intro value slice pins s σ H x y v u Q I rx ry h hs
 obtain ⟨p,xs,i,z,rfl,rfl,hq,he,q⟩:=h
 cases rx
 obtain ⟨t,rfl⟩:=ry
 obtain ⟨its,r,pl,hz⟩:=I.list hq
 obtain ⟨j,h1,h2,h3,h4,h5⟩:=aCh he
 obtain ⟨w,ew,rw'⟩:=r.get h2
 have hl:=r.length
 have hn:=wH
 have fin:EP X pins σ Q w s:=⟨z,H,I,rw',q⟩
 by_cases h0:0<=i
 ·have hj:i.toNat=j:=by
   rw [seqIndex_of h0 h5] at h1
   exact aQ7 h1
  exact item_listR pl.isList h0 (by omega) (by rw [hj];simpa using ew) fin hs
 ·have hj:(i+(its.toArray.size:Int)).toNat=j:=by
   rw [seqIndex_neg (by omega) h4] at h1
   rw [aQs,<- hl]
   exact aQ7 h1
  exact subscriptTail_builtinR (x:=w) pl.isList.typeIs slot_list_getitem.lookup
   (wpAny_getItem_list_neg (Q:=fun r s'=>r=w/\EP X pins σ Q r s') pl.isList (by omega) (by rw [aQs]<;>omega) (by omega) (by rw [hj];simpa using ew) ⟨rfl,fin⟩) hs
theorem aJp:IxR X (aPb X.K):=by
 intro value slice pins s σ H x y v u Q I rx ry h hs
 obtain ⟨p,xs,i,z,rfl,rfl,hq,he,q⟩:=h
 cases rx
 obtain ⟨t,rfl⟩:=ry
 obtain ⟨its,r,pl,hz⟩:=I.tuple hq
 obtain ⟨j,h1,h2,h3,h4,h5⟩:=aCh he
 obtain ⟨w,ew,rw'⟩:=r.get h2
 have hl:=r.length
 have hn:=wH
 have fin:EP X pins σ Q w s:=⟨z,H,I,rw',q⟩
 exact subscriptTail_builtinR (x:=w) pl.typeIs slot_tuple_getitem.lookup
  (getItem_tuple (j:=j) (Q:=fun r s'=>r=w/\EP X pins σ Q r s') pl (by omega) (by omega) (by rw [aQs,<- hl];exact h1) (by simpa using ew) ⟨rfl,fin⟩) hs
theorem yG(its:List Value)(n j:Nat)(u:Value):Obj.mapSeq (·.setIfInBounds j u) { cls:=.type "list",data:=.seq its.toArray n }={ cls:=.type "list",data:=.seq (its.set j u).toArray n }:=by
 simp [Obj.mapSeq]
theorem Inv.lst{pins:List (Addr×Obj)}{σ:St}{H:Hp}{s:Shared}{p:Addr}{xs:List V}(I:Inv X pins σ H s)(h:H p=some (.lst xs)) :
  ∃ (its:List Value) (n:Nat),Vals xs its/\s.heap.get? p=some { cls:=.type "list",data:=.seq its.toArray n }/\xs.length<=sizeLine:=by
 obtain ⟨z,its,n,r,e⟩:=I.hok p _ h
 exact ⟨its,n,r,e,z⟩
theorem Inv.lstUpd{pins:List (Addr×Obj)}{σ:St}{H:Hp}{s:Shared}{p:Addr}{xs ys:List V}{its its':List Value}{n n':Nat}{f:Obj->Obj}(I:Inv X pins σ H s)(h:H p=some (.lst xs))
  (ho:s.heap.get? p=some { cls:=.type "list",data:=.seq its.toArray n }) (hf:f { cls:=.type "list",data:=.seq its.toArray n }={ cls:=.type "list",data:=.seq its'.toArray n' }) (r:Vals ys its') (hz:ys.length<=sizeLine) (t:Nat) :
  Inv X pins σ (upd H p (.lst ys)) { s with heap:=s.heap.update p f,toks:=t }:=by
 have e:(s.heap.update p f).get? p=some { cls:=.type "list",data:=.seq its'.toArray n' }:=by
  rw [aT6 f ho (by rw [hf]<;>rfl),hf]
 refine I.write (x:=p) (e:=p) (by rw [h];trivial) (.inl rfl) (fun b u hb q=>(aU5 _ _ (aU6 hb)).trans q) ⟨_,e⟩ ?_
 exact ⟨hz,its',n',r,e⟩
def aJ1:V->V->V->Hp->(Hp->Prop)->Prop:=fun o i v H Q=>∃ p xs k j,o=.ref p/\i=.int k/\H p=some (.lst xs)/\ixN xs.length k=some j/\Q (upd H p (.lst (xs.set j v)))
theorem set_list:aO5 X aJ1:=by
 intro pins s σ H o i v ov iv u Q I ro ri rv h
 obtain ⟨p,xs,k,j,rfl,rfl,hp,hj,q⟩:=h
 cases ro
 obtain ⟨t,rfl⟩:=ri
 obtain ⟨its,n,r,ho,hz⟩:=I.lst hp
 obtain ⟨h1,h2,h3,h4⟩:=zT hj
 have hl:=r.length
 have hn:=wH
 have I':Inv X pins σ (upd H p (.lst (xs.set j v))) { s with heap:=s.heap.update p (Obj.mapSeq (·.setIfInBounds j u)) } :=
  I.lstUpd hp ho (yG its n j u) (r.set rv j) (by rw [aTl];exact hz) s.toks
 by_cases h0:0<=k
 ·have hk:k.toNat=j:=by
   rw [seqIndex_of h0 h4] at h1
   exact aQ7 h1
  exact PySem.W.ki_setAt ho h0 (by omega) (by rw [aQs,<- hl];exact h4) (by rw [hk];exact ⟨_,I',q⟩)
 ·have hk:(k+(its.toArray.size:Int)).toNat=j:=by
   rw [seqIndex_neg (by omega) h3] at h1
   rw [aQs,<- hl]
   exact aQ7 h1
  exact PySem.W.ki_setBack ho (by omega) (by rw [aQs,<- hl];exact h3) (by omega) (by rw [hk];exact ⟨_,I',q⟩)
theorem tO(lo hi:Option Int)(n:Nat):(sliceBounds lo hi none n).1=((HT.sIx n 0 lo:Nat):Int)/\(sliceBounds lo hi none n).2.1=((HT.sIx n n hi:Nat):Int)/\(sliceBounds lo hi none n).2.2=1:=by
 refine ⟨?_,?_,rfl⟩
 ·cases lo with
  | none=>simp [sliceBounds,HT.sIx]
  | some i =>
   simp only [sliceBounds,HT.sIx,Option.getD_none,show (1:Int) > 0 by decide,aUu]
   by_cases h:i < 0
   ·simp only [h,aUu]<;>omega
   ·simp only [h,aR1]<;>omega
 ·cases hi with
  | none=>simp [sliceBounds,HT.sIx]
  | some i =>
   simp only [sliceBounds,HT.sIx,Option.getD_none,show (1:Int) > 0 by decide,aUu]
   by_cases h:i < 0
   ·simp only [h,aUu]<;>omega
   ·simp only [h,aR1]<;>omega
theorem qC(its:List Value)(lo hi:Option Int):slicePick its.toArray lo hi none=((its.drop (HT.sIx its.length 0 lo)).take (HT.sIx its.length its.length hi - HT.sIx its.length 0 lo)).toArray:=by
 obtain ⟨h1,h2,h3⟩:=tO lo hi its.toArray.size
 unfold slicePick
 rw [h1,h2,h3]
 simp only [sliceRange_one,pick_run,aQs]<;>rfl
def aQd(K:aQk):V->Option Int->Option Int->Hp->VK->Prop:=fun x lo hi H Q=>∃ a xs,x=.ref a/\SqL K H a xs/\∀ p,H p=none->Q (.ref p) (upd H p (.lst (aI6 xs lo hi)))
theorem aIf:SlR X (aQd X.K):=by
 intro pins s σ H x v vl vu lo hi sl Q I rx hs pl pu h
 obtain ⟨a,xs,rfl,hx,q⟩:=h
 cases rx
 obtain ⟨its,r,ht,hz⟩:=I.list hx
 have hlen:=r.length
 refine ⟨"list",_,slot_list_getitem.lookup,ht.isList.typeIs,?_⟩
 refine wpAny_getItem_list_slice ht.isList hs pl pu .none (by simp) ?_ (by rw [aQs]<;>omega)
 rw [qC,<- hlen]
 refine ⟨.ref s.heap.objs.size,_,I.laid (t':=s.toks) (o:=.lst (aI6 xs lo hi)) (fun b ob q=>aQq _ q) (aQu _) ?_,rfl,q _ (I.hok.fresh (aQu _))⟩
 exact ⟨aR0 (uY xs lo hi) hz,_,0,(r.drop (HT.sIx xs.length 0 lo)).take (HT.sIx xs.length xs.length hi - HT.sIx xs.length 0 lo),aQ9 _ rfl⟩
theorem bP:lU X (.builtin "len") (fun xs H Q=>∃ p ys,xs=[.ref p]/\(SqL X.K H p ys\/SqT X.K H p ys)/\Q (.int ys.length) H):=by
 intro pins s σ H xs us Q I r h
 obtain ⟨p,ys,rfl,hq,q⟩:=h
 obtain ⟨u,rfl,rx⟩:=vals1 r
 cases rx
 have hn:=wH
 rcases hq with hq | hq
 ·obtain ⟨its,r',pl,hz⟩:=I.list hq
  have hlen:=r'.length
  exact Calls.call_len_list pl.isList (by simp only [aQs]<;>omega) ⟨.int ys.length,H,I.tok _,⟨s.toks+1,by rw [aQs,hlen]⟩,q⟩
 ·obtain ⟨its,r',pl,hz⟩:=I.tuple hq
  have hlen:=r'.length
  exact len_tuple pl (by simp only [aQs]<;>omega) ⟨.int ys.length,H,I.tok _,⟨s.toks+1,by rw [aQs,hlen]⟩,q⟩
theorem iH:lU X (.type "list") (fun xs H Q=>∃ p ys,xs=[.ref p]/\(SqL X.K H p ys\/SqT X.K H p ys)/\∀ l,H l=none->Q (.ref l) (upd H l (.lst ys))):=by
 intro pins s σ H xs us Q I r h
 obtain ⟨p,ys,rfl,hq,q⟩:=h
 obtain ⟨u,rfl,rx⟩:=vals1 r
 cases rx
 have fin:∀ (its:List Value),Vals ys its->ys.length<=sizeLine->∀ (h':Heap) (c':Nat),(∀ b o',s.heap.get? b=some o'->h'.get? b=some o') ->
   h'.get? s.heap.objs.size=some { cls:=.type "list",dict:=none,data:=.seq its.toArray c',slots:=#[] }->EP X pins σ Q (.ref s.heap.objs.size) { s with heap:=h' }:=fun its r' hz h' c' kp e =>
  ⟨.ref s.heap.objs.size,_,I.laid (t':=s.toks) kp (aQu _) (show ObjOk X.prog X.w _ h' _ (.lst ys) from ⟨hz,its,c',r',e⟩),rfl,q _ (I.hok.fresh (aQu _))⟩
 rcases hq with hq | hq
 ·obtain ⟨its,r',pl,hz⟩:=I.list hq
  have hlen:=r'.length
  obtain ⟨o,ho,hc,n,hd⟩:=pl.isList
  exact call_list_seq p (.inl rfl) ho hc hd (fun h' c' kp e=>fin its r' hz h' c' kp e) (by simp only [aQs]<;>omega)
 ·obtain ⟨its,r',pl,hz⟩:=I.tuple hq
  have hlen:=r'.length
  obtain ⟨o,ho,hc,n,hd⟩:=pl
  exact call_list_seq p (.inr rfl) ho hc hd (fun h' c' kp e=>fin its r' hz h' c' kp e) (by simp only [aQs]<;>omega)
def tyV(K:aQk)(T:String)(x:V)(H:Hp):Prop:=match x with
 | .str _=>T = "str"
 | .int _=>T = "int"
 | .ref p=>(T = "list"/\∃ xs,SqL K H p xs)\/(T = "tuple"/\∃ o,K.lookup p=some o/\o.cls=.type "tuple"/\o.dict=none) \/
   (T = "dict"/\((∃ kvs,H p=some (.dK kvs))\/∃ kvs,H p=some (.dT kvs)))\/(T = "set"/\∃ S n,H p=some (.set S n))
 | _=>False
theorem aGg{pins:List (Addr×Obj)}{σ:St}{H:Hp}{s:Shared}{T:String}{x:V}{v:Value}(I:Inv X pins σ H s)(r:RelV x v)(ty:tyV X.K T x H) :
  s.TypeIs v T/\∀ a,v=.ref a->∃ ob,s.heap.get? a=some ob/\ob.dict=none:=by
 cases x with
 | str z =>
  obtain ⟨t,rfl⟩:=r
  cases (show T = "str" from ty)
  exact ⟨typeIs_str s z t,fun _ e=>nomatch e⟩
 | int i =>
  obtain ⟨t,rfl⟩:=r
  cases (show T = "int" from ty)
  exact ⟨typeIs_int s i t,fun _ e=>nomatch e⟩
 | ref p =>
  cases r
  rcases ty with ⟨rfl,xs,hq⟩ | ⟨rfl,o,hk,hc,hd⟩ | ⟨rfl,hk⟩ | ⟨rfl,S,n,hk⟩
  ·obtain ⟨its,_,pl,_⟩:=I.list hq
   refine ⟨pl.isList.typeIs,fun a e=>?_⟩
   cases e
   obtain ⟨o,n,e,c,hd,_⟩:=pl
   exact ⟨o,e,hd⟩
  ·refine ⟨⟨o,I.kIn p o hk,hc⟩,fun a e=>?_⟩
   cases e
   exact ⟨o,I.kIn _ o hk,hd⟩
  ·have z:∃ o,s.heap.get? p=some o/\o.ExactDict:=by
    rcases hk with ⟨kvs,hk⟩ | ⟨kvs,hk⟩
    ·obtain ⟨_,_,_,_,o,_,_,e,ex,_⟩:=I.hok p _ hk
     exact ⟨o,e,ex⟩
    ·obtain ⟨_,_,_,_,o,_,_,e,ex,_⟩:=I.hok p _ hk
     exact ⟨o,e,ex⟩
   obtain ⟨o,e,ex⟩:=z
   refine ⟨⟨o,e,ex.1⟩,fun a e2=>?_⟩
   cases e2
   exact ⟨o,e,ex.2.1⟩
  ·obtain ⟨o,_,_,_,e,ex,_⟩:=I.hok p _ hk
   refine ⟨⟨o,e,ex.1⟩,fun a e2=>?_⟩
   cases e2
   exact ⟨o,e,ex.2.1⟩
 | _=>exact False.elim ty
def aN6(K:aQk)(T:String)(r:V->List V->Hp->VK->Prop)(to:TE):TE:=fun σ H Q=>to σ H fun x H1=>tyV K T x H1/\r x [] H1 Q
def tBM(K:aQk)(T:String)(r:V->List V->Hp->VK->Prop)(to:TE)(t:TA):TE:=fun σ H Q=>to σ H fun x H1=>tyV K T x H1/\t σ H1 fun xs H2=>r x xs H2 Q
variable {o e:Expr}{es:List Expr}{to:TE}{t:TA}{name:Str}{apos cpos:Pos}{T id:String}{r:V->List V->Hp->VK->Prop}
theorem aLo(pa:PlainAttrs T)(slot:Slot T name id)(hty:typeOf (.builtin id)=pure (.type "method_descriptor"))(hm:MtR X id r)(ho:PE X o to)
  (hbase:attributeBase o name X.env (eval o X.env)=eval o X.env:=by rfl) (hline:(apos.endLine == cpos.line)=true:=by rfl):PE X (.Call (.Attribute o name apos) [] [] cpos) (aN6 X.K T r to):=by
 intro pins s σ H Q I h
 refine wpAny_Call_method0_late hbase hline (thn (ho pins s σ H _ I h) fun v s1 ⟨x,H1,I1,r1,ty,q1⟩=>?_)
 obtain ⟨h1,h2⟩:=aGg I1 r1 ty
 exact ⟨T,id,pa,slot,hty,h1,h2,Calls.callWith_builtin rfl (PySem.evalArgs_none (hm pins s1 σ H1 x [] v [] Q I1 r1 .nil q1))⟩
theorem yA(pa:PlainAttrs T)(slot:Slot T name id)(hty:typeOf (.builtin id)=pure (.type "method_descriptor"))(hm:MtR X id r)(ho:PE X o to)(ha:PA X (e :: es) t)
  (hbase:attributeBase o name X.env (eval o X.env)=eval o X.env:=by rfl)
  (hfew:((backTo cpos (starEach (e :: es) X.env)).all (fun x=>!x.1) && (backToKw cpos (keywordEach [] X.env)).all (fun x=>x.1.isSome)
   && decide ((e :: es).length+([]:List Keyword).length+(if ([]:List Keyword).isEmpty then 0 else 1) < 30))=true:=by rfl)
  (hline:(apos.endLine == cpos.line)=true:=by rfl) (hs:starEach (e :: es) X.env=(false,eval e X.env) :: starEach es X.env:=by rfl) (hplain:(backTo cpos (starEach es X.env)).any (·.1)=false:=by rfl) :
  PE X (.Call (.Attribute o name apos) (e :: es) [] cpos) (tBM X.K T r to t):=by
 intro pins s σ H Q I h
 refine wpAny_Call_method_late hbase hfew hline rfl (thn (ho pins s σ H _ I h) fun v s1 ⟨x,H1,I1,r1,ty,q1⟩=>?_)
 obtain ⟨h1,h2⟩:=aGg I1 r1 ty
 refine ⟨T,id,pa,slot,hty,h1,h2,?_⟩
 have hA:=ha cpos pins s1 σ H1 _ I1 q1
 rw [hs] at hA ⊢
 refine Calls.callWith_builtin (by show (false || (backTo cpos (starEach es X.env)).any (·.1))=false;rw [hplain]<;>rfl) (Calls.evalArgs_plain ?_)
 exact thn hA fun us s2 ⟨vs,H2,I2,r2,q2⟩=>hm pins s2 σ H2 x vs v us Q I2 r1 r2 q2
end
def MtM(X:Cx)(id:String)(r:V->List V->Hp->VK->Prop):Prop :=
 ∀ (pins:List (Addr×Obj)) (s:Shared) (σ:St) (H:Hp) (x:V) (xs:List V) (v:Value) (us:List Value) (Q:VK),Inv X pins σ H s->RelV x v->Vals xs us->r x xs H Q ->
  wpAny (model X.prog X.w) X.A (call (.builtin id) (v :: us)) (EP X pins σ Q) X.xe s
theorem Vals.one:∀ {x:V} {us:List Value},Vals [x] us->∃ u,us=[u]/\RelV x u
 | _,_,.cons r .nil=>⟨_,rfl,r⟩
theorem Vals.zero:∀ {us:List Value},Vals [] us->us=[]
 | _,.nil=>rfl
theorem Vals.eraseIdx:∀ {xs:List V} {us:List Value} (i:Nat),Vals xs us->Vals (xs.eraseIdx i) (us.eraseIdx i)
 | _,_,_,.nil=>.nil
 | _,_,0,.cons _ t=>t
 | _,_,i+1,.cons r t=>.cons r (Vals.eraseIdx i t)
theorem tU{α:Type}:∀ (l:List α) (i:Nat),(l.eraseIdx i).length<=l.length
 | [],_=>aQu _
 | _ :: _,0=>aT5 _
 | _ :: r,i+1=>Nat.succ_le_succ (tU r i)
section
variable {X:Cx}{pins:List (Addr×Obj)}{σ:St}{H:Hp}{s:Shared}{l b:Addr}{xs ys zs:List V}
theorem Inv.lset{its its':List Value}{n:Nat}{f:Array Value->Array Value}{t':Nat}(I:Inv X pins σ H s)(hH:H l=some (.lst xs))
  (e:s.heap.get? l=some { cls:=.type "list",data:=.seq its.toArray n }) (hf:f its.toArray=its'.toArray) (hv:Vals ys its') (hz:ys.length<=sizeLine) :
  Inv X pins σ (upd H l (.lst ys)) { s with heap:=s.heap.update l (Obj.mapSeq f),toks:=t' }:=by
 have q:=PySem.IsL.update e f
 rw [hf] at q
 refine I.write (x:=l) (e:=l) (by rw [hH];exact trivial) (.inl rfl) (fun b' u hb hu=>(aU5 s.heap (Obj.mapSeq f) (aU6 hb)).trans hu) ⟨_,q⟩ ?_
 exact ⟨hz,its',_,hv,q⟩
theorem Inv.lnew{its:List Value}{t':Nat}(I:Inv X pins σ H s)(hv:Vals ys its)(hz:ys.length<=sizeLine) :
  Inv X pins σ (upd H s.heap.objs.size (.lst ys)) { s with heap:=s.heap.push { cls:=.type "list",data:=.seq its.toArray },toks:=t' } :=
 I.laid (fun _ _ q=>aQq _ q) (aQu _) ⟨hz,its,0,hv,aQ9 _ rfl⟩
theorem Inv.fresh(I:Inv X pins σ H s):H s.heap.objs.size=none:=I.hok.fresh (aQu _)
theorem Inv.lstM(I:Inv X pins σ H s)(hH:H l=some (.lst xs)):xs.length<=sizeLine/\∃ (its:List Value) (n:Nat),Vals xs its/\xs.length=its.length/\s.heap.get? l=some { cls:=.type "list",data:=.seq its.toArray n }:=by
 obtain ⟨z,its,n,r,e⟩:=I.hok l _ hH
 exact ⟨z,its,n,r,r.length,e⟩
end
section
variable {X:Cx}
def y8:V->List V->Hp->VK->Prop:=fun x vs H Q=>∃ l xs y,x=.ref l/\vs=[y]/\H l=some (.lst xs)/\xs.length < sizeLine/\Q .non (upd H l (.lst (xs++[y])))
theorem jL:MtM X "list.append" y8:=by
 intro pins s σ H x vs v us Q I rx rv h
 obtain ⟨l,xs,y,rfl,rfl,hH,hz,q⟩:=h
 cases rx
 obtain ⟨u,rfl,ru⟩:=rv.one
 obtain ⟨z,its,n,r,hl,e⟩:=I.lstM hH
 refine call_meets F.slot_list_append ⟨_,e,rfl⟩ F.entry_list_append (F.args_list_append_2 _ _) (PySem.list_append l its.toArray n u (by rw [aQs];omega)) ⟨e,?_⟩
 refine ⟨.non,_,I.lset (its':=its++[u]) hH e (by simp) (r.append (.cons ru .nil)) ?_,rfl,q⟩
 rw [aQz,List.length_singleton]
 omega
def aGk:V->List V->Hp->VK->Prop:=fun x vs H Q=>∃ l xs i k y,x=.ref l/\vs=[.int i]/\H l=some (.lst xs)/\-(2 ^ 63)<=i/\i < 2 ^ 63/\seqIndex? i xs.length=some k/\xs[k]? = some y/\Q y (upd H l (.lst (xs.eraseIdx k)))
theorem aEg:MtM X "list.pop" aGk:=by
 intro pins s σ H x vs v us Q I rx rv h
 obtain ⟨l,xs,i,k,y,rfl,rfl,hH,h1,h2,hk,hy,q⟩:=h
 cases rx
 obtain ⟨u,rfl,ru⟩:=rv.one
 obtain ⟨t,rfl⟩:=ru
 obtain ⟨z,its,n,r,hl,e⟩:=I.lstM hH
 obtain ⟨w,hw,rw'⟩:=r.get hy
 refine call_meets F.slot_list_pop ⟨_,e,rfl⟩ F.entry_list_pop (F.args_list_pop_2 _ _)
  (MeetsSeq.list_pop_at l its.toArray n i t k w (fitsIndex_both h1 h2) (by rw [aQs,<- hl];exact hk) (by rw [<- aQ8];exact hw) (by rw [aQs];omega)) ⟨e,?_⟩
 refine ⟨y,_,I.lset (its':=its.eraseIdx k) hH e ?_ (r.eraseIdx k) ?_,rw',q⟩
 ·show its.toArray.eraseIdxIfInBounds k=(its.eraseIdx k).toArray
  rw [List.eraseIdxIfInBounds_toArray]
 ·have:=tU xs k
  omega
def aFk:V->List V->Hp->VK->Prop:=fun x vs H Q=>∃ l xs,x=.ref l/\vs=[]/\H l=some (.lst xs)/\Q .non (upd H l (.lst []))
theorem aDj:MtM X "list.clear" aFk:=by
 intro pins s σ H x vs v us Q I rx rv h
 obtain ⟨l,xs,rfl,rfl,hH,q⟩:=h
 cases rx
 have hus:=rv.zero
 subst hus
 obtain ⟨z,its,n,r,hl,e⟩:=I.lstM hH
 refine call_meets F.slot_list_clear ⟨_,e,rfl⟩ F.entry_list_clear (F.args_list_clear_1 _) (AutoSeq1.list_clear_list_0 l its.toArray n (by rw [aQs];omega)) ⟨e,?_⟩
 exact ⟨.non,_,I.lset (its':=[]) (ys:=[]) hH e rfl .nil (aRj _),rfl,q⟩
end
section
variable {prog:Program}{w:World}{A:Around}{E:Value->Shared->Prop}{s:Shared}
set_option maxRecDepth 100000 in
end
section
variable {X:Cx}
end
section
variable {κ:Type}[DecidableEq κ]
def rN(kvs:List (κ×V))(k:κ):Option V:=(kvs.find? fun kv=>decide (kv.1=k)).map (·.2)
def putK(kvs:List (κ×V))(k:κ)(v:V):List (κ×V) :=
 if (kvs.any fun kv=>decide (kv.1=k))=true then kvs.map (fun kv=>if kv.1=k then (kv.1,v) else kv) else kvs++[(k,v)]
theorem kZ{p:κ×V}{r:List (κ×V)}{k:κ}(e:p.1=k):rN (p :: r) k=some p.2:=by simp [rN,aT7,e]
theorem kQ{p:κ×V}{r:List (κ×V)}{k:κ}(e:¬ p.1=k):rN (p :: r) k=rN r k:=by simp [rN,aT7,e]
theorem mQ(k:κ):∀ kvs:List (κ×V),(kvs.any fun kv=>decide (kv.1=k))=(rN kvs k).isSome
 | []=>rfl
 | p :: r=>by
  rw [aW8]
  by_cases e:p.1=k
  ·simp only [kZ e,aQ3 e,Bool.true_or,Option.isSome_some]
  ·rw [kQ e,aQr e,Bool.false_or];exact mQ k r
theorem nF(kvs:List (κ×V))(k:κ)(v:V):(putK kvs k v).length<=kvs.length+1:=by
 unfold putK
 split
 ·rw [aQm];omega
 ·rw [aQz,aQp,aRx];omega
theorem RelO.isSome_eq{o:Option V}{u:Option Value}(r:RelO o u):o.isSome=u.isSome:=by
 cases o with
 | none=>cases u with
  | none=>rfl
  | some _=>exact (show False from r).elim
 | some _=>cases u with
  | none=>exact (show False from r).elim
  | some _=>rfl
theorem KV.val{kvs:List (κ×V)}{vs:List (κ×Value)}(r:KV kvs vs)(k:κ):RelO (rN kvs k) (valueAt vs k):=by
 unfold KV at r
 induction r with
 | nil=>exact True.intro
 | @cons p q ps qs h t ih =>
  obtain ⟨h1,h2⟩:=h
  by_cases e:p.1=k
  ·have e':q.1=k:=h1.symm.trans e
   have b:valueAt (q :: qs) k=some q.2:=by simp [valueAt,aT7,e']
   rw [kZ e,b];exact h2
  ·have e':¬ q.1=k:=fun z=>e (h1.trans z)
   have b:valueAt (q :: qs) k=valueAt qs k:=by simp [valueAt,aT7,e']
   rw [kQ e,b];exact ih
theorem KV.any{kvs:List (κ×V)}{vs:List (κ×Value)}(r:KV kvs vs)(k:κ):(kvs.any fun kv=>decide (kv.1=k))=vs.any fun kv=>decide (kv.1=k):=by
 unfold KV at r
 induction r with
 | nil=>rfl
 | cons h t ih=>rw [aW8,aW8,ih,h.1]
theorem KV.repl{kvs:List (κ×V)}{vs:List (κ×Value)}(r:KV kvs vs)(k:κ){y:V}{u:Value}(ry:RelV y u) :
  KV (kvs.map fun kv=>if kv.1=k then (kv.1,y) else kv) (vs.map fun kv=>if kv.1=k then (kv.1,u) else kv):=by
 unfold KV at r ⊢
 induction r with
 | nil=>exact .nil
 | @cons p q ps qs h t ih =>
  rw [aQx,aQx]
  refine .cons ?_ ih
  obtain ⟨h1,h2⟩:=h
  by_cases e:p.1=k
  ·rw [aQt e,aQt (h1.symm.trans e)];exact ⟨h1,ry⟩
  ·rw [aQv e,aQv (fun z=>e (h1.trans z))];exact ⟨h1,h2⟩
theorem KV.put{kvs:List (κ×V)}{vs:List (κ×Value)}(r:KV kvs vs)(k:κ){y:V}{u:Value}(ry:RelV y u):KV (putK kvs k y) (stored vs k u):=by
 unfold putK stored
 rw [r.any k]
 by_cases e:(vs.any fun kv=>decide (kv.1=k))=true
 ·rw [aQt e,aQt e];exact r.repl k ry
 ·rw [aQv e,aQv e];exact Paired.snoc r ⟨rfl,ry⟩
theorem KV.length{kvs:List (κ×V)}{vs:List (κ×Value)}(r:KV kvs vs):kvs.length=vs.length:=Paired.length r
end
theorem aBu{P:Program}{w:World}{k:Key}{u:Value}(r:RelV (kV k) u):(gG P w).is k u=true:=by
 cases k with
 | inl i=>obtain ⟨t,e⟩:=(show ∃ t,u=Value.int i t from r);subst e;exact uT P w i t
 | inr x=>obtain ⟨t,e⟩:=(show ∃ t,u=Value.str x t from r);subst e;exact uJ P w x t
theorem sX{P:Program}{w:World}:∀ {ks:List Key} {us:List Value},Vals (ks.map kV) us->ItemsAre (gG P w) ks us
 | [],_,r=>by rw [aSw] at r;cases r;exact .nil
 | k :: ks,_,r=>by
  rw [aQx] at r
  cases r with
  | cons h t=>exact .cons (aBu h) (sX t)
abbrev KT(H:Hp):List (List Key×V)->List (List Key×Addr×Value)->Prop:=Paired fun p q=>p.1=q.1/\H q.2.1=some (.tup (p.1.map kV))/\RelV p.2 q.2.2
theorem KT.val{H:Hp}{kvs:List (List Key×V)}{xs:List (List Key×Addr×Value)}(r:KT H kvs xs)(k:List Key):RelO (rN kvs k) ((atKey xs k).map (·.2)):=by
 induction r with
 | nil=>exact True.intro
 | @cons p q ps qs h t ih =>
  obtain ⟨h1,_,h2⟩:=h
  by_cases e:p.1=k
  ·have e':q.1=k:=h1.symm.trans e
   have b:atKey (q :: qs) k=some q.2:=by simp [atKey,aT7,e']
   rw [kZ e,b];exact h2
  ·have e':¬ q.1=k:=fun z=>e (h1.trans z)
   have b:atKey (q :: qs) k=atKey qs k:=by simp [atKey,aT7,e']
   rw [kQ e,b];exact ih
theorem KT.repl{H:Hp}{kvs:List (List Key×V)}{xs:List (List Key×Addr×Value)}(r:KT H kvs xs)(k:List Key){y:V}{u:Value}(ry:RelV y u) :
  KT H (kvs.map fun kv=>if kv.1=k then (kv.1,y) else kv) (xs.map (putAt k u)):=by
 induction r with
 | nil=>exact .nil
 | @cons p q ps qs h t ih =>
  rw [aQx,aQx]
  refine .cons ?_ ih
  obtain ⟨h1,h2,h3⟩:=h
  unfold putAt
  by_cases e:p.1=k
  ·rw [aQt e,aQt (h1.symm.trans e)];exact ⟨h1,h2,ry⟩
  ·rw [aQv e,aQv (fun z=>e (h1.trans z))];exact ⟨h1,h2,h3⟩
theorem KT.put{H:Hp}{kvs:List (List Key×V)}{xs:List (List Key×Addr×Value)}(r:KT H kvs xs)(k:List Key){b:Addr}{y:V}{u:Value}(hb:H b=some (.tup (k.map kV)))(ry:RelV y u) :
  KT H (putK kvs k y) (storedH xs k b u):=by
 have e:(kvs.any fun kv=>decide (kv.1=k))=(atKey xs k).isSome:=by
  rw [mQ,(r.val k).isSome_eq,aWd]
 unfold putK storedH
 rw [e]
 by_cases q:(atKey xs k).isSome=true
 ·rw [aQt q,aQt q];exact r.repl k ry
 ·rw [aQv q,aQv q];exact Paired.snoc r ⟨rfl,hb,ry⟩
theorem KT.keeps{H H':Hp}{kvs:List (List Key×V)}{xs:List (List Key×Addr×Value)}(r:KT H kvs xs)(ht:∀ b ys,H b=some (.tup ys)->H' b=some (.tup ys)):KT H' kvs xs :=
 Paired.mapP r fun _ _ z=>⟨z.1,ht _ _ z.2.1,z.2.2⟩
section
variable {P:Program}{w:World}{H:Hp}{h:Heap}{a:Addr}
theorem aMb{u:HO}(ok:HOk P w H h)(e:Rd H a u):ObjOk P w H h a u:=e.ok ok
theorem yV{kvs:List (Key×V)}(ok:HOk P w H h)(e:Rd H a (.dK kvs)):kvs.length<=sizeLine/\(a == sysModules)=false/\∃ vs,KV kvs vs/\h.DictOf (gG P w) a vs :=
 show ObjOk P w H h a (.dK kvs) from aMb ok e
theorem aN3{kvs:List (Key×V)}(ok:HOk P w H h)(e:H a=some (.dK kvs)):kvs.length<=sizeLine/\(a == sysModules)=false/\∃ vs,KV kvs vs/\h.DictOf (gG P w) a vs:=yV ok (.inl e)
theorem tM{ks:List Key}(ok:HOk P w H h)(e:H a=some (.tup (ks.map kV))):(tupleKind (gG P w)).is h ks a:=by
 obtain ⟨_,its,r,o,h1,h2,n,h3⟩:=(show ObjOk P w H h a (.tup (ks.map kV)) from ok a _ e)
 exact ⟨o,its.toArray,n,h1,h2,h3,by simpa using sX r⟩
theorem zY{kvs:List (List Key×V)}(ok:HOk P w H h)(e:Rd H a (.dT kvs)):kvs.length<=sizeLine/\(a == sysModules)=false /\
  ∃ xs,KT H kvs xs/\h.DictOfH (tupleKind (gG P w)) a xs:=by
 obtain ⟨z,y,xs,r,o,es,ep,h1,h2,h3,h4,h5⟩:=(show ObjOk P w H h a (.dT kvs) from aMb ok e)
 refine ⟨z,y,xs,r,o,es,ep,h1,h2,h3,h4,fun x hx=>?_,h5⟩
 have all:∀ {l:List (List Key×V)} {m:List (List Key×Addr×Value)},KT H l m->∀ x∈m,(tupleKind (gG P w)).is h x.1 x.2.1:=by
  intro l m q
  induction q with
  | nil=>intro x hx;exact nomatch hx
  | @cons p q ps qs hq t ih =>
   intro x hx
   rcases aQy.mp hx with e | hx
   ·subst e
    exact tM ok (by rw [<- hq.1];exact hq.2.1)
   ·exact ih x hx
 exact all r x hx
theorem aNe{kvs:List (List Key×V)}(ok:HOk P w H h)(e:H a=some (.dT kvs)):kvs.length<=sizeLine/\(a == sysModules)=false /\
  ∃ xs,KT H kvs xs/\h.DictOfH (tupleKind (gG P w)) a xs:=zY ok (.inl e)
end
def DGet(H:Hp)(a:Addr)(y:V)(r:Option V):Prop :=
 (∃ kvs k,Rd H a (.dK kvs)/\y=kV k/\r=rN kvs k)\/∃ kvs k b,Rd H a (.dT kvs)/\y=.ref b/\H b=some (.tup (k.map kV))/\r=rN kvs k
def DPut(H:Hp)(a:Addr)(y v:V)(H':Hp):Prop :=
 (∃ kvs k,H a=some (.dK kvs)/\y=kV k/\kvs.length < sizeLine/\H'=upd H a (.dK (putK kvs k v))) \/
 ∃ kvs k b,H a=some (.dT kvs)/\y=.ref b/\H b=some (.tup (k.map kV))/\kvs.length < sizeLine/\H'=upd H a (.dT (putK kvs k v))
theorem DGet.k{H:Hp}{a:Addr}{kvs:List (Key×V)}{k:Key}(e:H a=some (.dK kvs)):DGet H a (kV k) (rN kvs k):=.inl ⟨kvs,k,.inl e,rfl,rfl⟩
theorem DGet.t{H:Hp}{a b:Addr}{kvs:List (List Key×V)}{k:List Key}(e:H a=some (.dT kvs))(eb:H b=some (.tup (k.map kV))):DGet H a (.ref b) (rN kvs k):=.inr ⟨kvs,k,b,.inl e,rfl,eb,rfl⟩
theorem DPut.k{H:Hp}{a:Addr}{kvs:List (Key×V)}{k:Key}{v:V}(e:H a=some (.dK kvs))(hl:kvs.length < sizeLine):DPut H a (kV k) v (upd H a (.dK (putK kvs k v))):=.inl ⟨kvs,k,e,rfl,hl,rfl⟩
theorem DPut.t{H:Hp}{a b:Addr}{kvs:List (List Key×V)}{k:List Key}{v:V}(e:H a=some (.dT kvs))(eb:H b=some (.tup (k.map kV)))(hl:kvs.length < sizeLine) :
  DPut H a (.ref b) v (upd H a (.dT (putK kvs k v))):=.inr ⟨kvs,k,b,e,rfl,eb,hl,rfl⟩
section
variable {X:Cx}{pins:List (Addr×Obj)}{σ:St}{H:Hp}{s:Shared}{a:Addr}{y v:V}{u r:Value}{o:Option V}{A:Around}{E:Value->Shared->Prop}
theorem Inv.big(I:Inv X pins σ H s):sysModules < s.heap.objs.size:=by
 have h:mainGlobals < s.heap.objs.size:=(I.mod.glob.keeps I.bk).lt
 exact aW1 (by decide) h
theorem aB3{Q:Value->Shared->Prop}(hu:A.units+1 < cLine)(I:Inv X pins σ H s)(g:DGet H a y (some v))(ry:RelV y u)(h:∀ w' s',Inv X pins σ H s'->RelV v w'->Q w' s') :
  wpAny (model X.prog X.w) A (getItem (.ref a) u) Q E s:=by
 rcases g with ⟨kvs,k,e,ey,l⟩ | ⟨kvs,k,b,e,ey,eb,l⟩
 ·subst ey
  obtain ⟨z,hd,vs,rel,dd⟩:=yV I.hok e
  obtain ⟨w',hw,rw'⟩:=RelO.some_of (v:=v) (o:=valueAt vs k) (by rw [l];exact rel.val k)
  exact wpAny_getItem_of (aBu ry) dd.mapOf hw (h w' _ (I.tok _) rw')
 ·subst ey
  cases (show u=Value.ref b from ry)
  obtain ⟨z,hd,xs,rel,dd⟩:=zY I.hok e
  obtain ⟨w',hw,rw'⟩:=RelO.some_of (v:=v) (o:=(atKey xs k).map (·.2)) (by rw [l];exact rel.val k)
  obtain ⟨p,hp,hp2⟩:=aTz.mp hw
  refine wpAny_getItem_heap (aUv hu) (tM I.hok eb) dd hp ?_
  rw [hp2]
  exact h w' _ (I.tok _) rw'
theorem aQg{Q:Value->Shared->Prop}(hu:A.units+1 < cLine)(I:Inv X pins σ H s)(g:DGet H a y o)(ry:RelV y u)(h:∀ s',Inv X pins σ H s'->Q (.bool o.isSome) s') :
  wpAny (model X.prog X.w) A (compareOp .In u (.ref a)) Q E s:=by
 rcases g with ⟨kvs,k,e,ey,l⟩ | ⟨kvs,k,b,e,ey,eb,l⟩
 ·subst ey
  obtain ⟨z,hd,vs,rel,dd⟩:=yV I.hok e
  refine wpAny_in_of (aBu ry) hd dd.mapOf ?_
  rw [<- (rel.val k).isSome_eq,<- l]
  exact h _ (I.tok _)
 ·subst ey
  cases (show u=Value.ref b from ry)
  obtain ⟨z,hd,xs,rel,dd⟩:=zY I.hok e
  refine wpAny_in_heap (aUv hu) (tM I.hok eb) hd dd ?_
  have q:=(rel.val k).isSome_eq
  rw [aWd] at q
  rw [<- q,<- l]
  exact h _ (I.tok _)
theorem aIm{Q:Value->Shared->Prop}(hu:A.units+1 < cLine)(I:Inv X pins σ H s)(g:DGet H a y o)(ry:RelV y u)(h:∀ s',Inv X pins σ H s'->Q (.bool (!o.isSome)) s') :
  wpAny (model X.prog X.w) A (compareOp .NotIn u (.ref a)) Q E s:=by
 rcases g with ⟨kvs,k,e,ey,l⟩ | ⟨kvs,k,b,e,ey,eb,l⟩
 ·subst ey
  obtain ⟨z,hd,vs,rel,dd⟩:=yV I.hok e
  refine wpAny_notIn_of (aBu ry) hd dd.mapOf ?_
  rw [<- (rel.val k).isSome_eq,<- l]
  exact h _ (I.tok _)
 ·subst ey
  cases (show u=Value.ref b from ry)
  obtain ⟨z,hd,xs,rel,dd⟩:=zY I.hok e
  refine wpAny_notIn_heap (aUv hu) (tM I.hok eb) hd dd ?_
  have q:=(rel.val k).isSome_eq
  rw [aWd] at q
  rw [<- q,<- l]
  exact h _ (I.tok _)
theorem aA9{h':Heap}{t':Nat}{ob:HO}(I:Inv X pins σ H s)(mu:Mut (H a))(hs:Heap.SameBut a s.heap h')(he:∃ q,h'.get? a=some q)(new:ObjOk X.prog X.w (upd H a ob) h' a ob) :
  Inv X pins σ (upd H a ob) { s with heap:=h',toks:=t' } :=
 I.write (x:=a) (e:=a) mu (.inl rfl) (fun b q hb z=>(hs.2 b hb).trans z) he new
theorem aKt{P:Program}{w:World}{H':Hp}{h':Heap}{kvs:List (Key×V)}{vs:List (Key×Value)}(z:kvs.length<=sizeLine)(hd:(a == sysModules)=false)(rel:KV kvs vs)(dd:h'.DictOf (gG P w) a vs) :
  ObjOk P w H' h' a (.dK kvs):=⟨z,hd,vs,rel,dd⟩
theorem aAw{H':Hp}{Q:Unit->Shared->Prop}(hu:A.units+1 < cLine)(I:Inv X pins σ H s)(g:DPut H a y v H')(ry:RelV y u)(rv:RelV v r)(h:∀ s',Inv X pins σ H' s'->Q () s') :
  wpAny (model X.prog X.w) A (setItem (.ref a) u r) Q E s:=by
 rcases g with ⟨kvs,k,e,ey,l,eH⟩ | ⟨kvs,k,b,e,ey,eb,l,eH⟩
 ·subst ey eH
  obtain ⟨z,hd,vs,rel,dd⟩:=aN3 I.hok e
  have hz:vs.length<=sizeLine:=by rw [<- rel.length];exact z
  have hl:(putK kvs k v).length<=sizeLine:=by have:=nF kvs k v;omega
  refine wpAny_setItem_pairs (hsz:=hz) (aBu ry) dd fun h' dd' hs=>h _ ?_
  have he:∃ q,h'.get? a=some q:=let ⟨q,_,_,hq,_⟩:=dd';⟨q,hq⟩
  exact aA9 I (by rw [e];exact True.intro) hs he (aKt hl hd (rel.put k rv) dd')
 ·subst ey eH
  cases (show u=Value.ref b from ry)
  obtain ⟨z,hd,xs,rel,dd⟩:=aNe I.hok e
  have hz:xs.length<=sizeLine:=by rw [<- Paired.length rel];exact z
  have hl:(putK kvs k v).length<=sizeLine:=by have:=nF kvs k v;omega
  refine wpAny_setItem_heap (hsz:=hz) (aUv hu) (tM I.hok eb) dd fun h' dd' hs=>h _ ?_
  obtain ⟨q,es,ep,hq,h2,h3,h4,_,h5⟩:=dd'
  refine aA9 I (by rw [e];exact True.intro) hs ⟨q,hq⟩ ⟨hl,hd,_,(rel.put k eb rv).keeps fun c ys ec=>?_,q,es,ep,hq,h2,h3,h4,h5⟩
  rw [bB (aM3 ec e (fun z=>nomatch z))]
  exact ec
end
section
variable {X:Cx}{pins:List (Addr×Obj)}{σ:St}{H:Hp}{s:Shared}{a:Addr}{kvs:List (Key×V)}{k:Key}{u:Value}{A:Around}{E:Value->Shared->Prop}
theorem aNf{Q:Value->Shared->Prop}(I:Inv X pins σ H s)(e:Rd H a (.dK kvs))(h:∀ t s',Inv X pins σ H s'->Q (.int kvs.length t) s'):wpAny (model X.prog X.w) A (call (.builtin "len") [.ref a]) Q E s:=by
 obtain ⟨z,hd,vs,rel,dd⟩:=yV I.hok e
 refine call_len_dict hd dd (by rw [<- rel.length];rw [aR9] at z;omega) ?_
 rw [<- rel.length]
 exact h _ _ (I.tok _)
end
def aM6(i:Expr):Prop:=∀ ov iv,subscripted i false ov iv=operate [ov,iv] (getItem ov iv)
theorem aH1{prog:Program}{w:World}{A:Around}{E:Value->Shared->Prop}{s:Shared}{env:Env}{value slice:Expr}{pos:Pos}{T id:String}{Q:Value->Shared->Prop}
  (hl:typeLookup (.type T) "__getitem__" = pure (some (.builtin id))) (hs:aM6 slice)
  (h:wpAny (model prog w) A (eval value env) (fun o s₁=>wpAny (model prog w) A (eval slice env) (fun i s₂=>s₂.TypeIs o T/\wpAny (model prog w) A (getItem o i) Q E s₂) E s₁) E s) :
  wpAny (model prog w) A (eval (.Subscript value slice pos) env) Q E s:=by
 refine Subscript_ (aR4 h (fun o s₁ h₁=>aR4 h₁ (fun i s₂ h₂=>?_) fun _ _ x=>x) fun _ _ x=>x)
 obtain ⟨hT,h₂⟩:=h₂
 unfold subscriptTail
 refine aQl ?_
 rw [getitemInPython_of_ne hT.not_modules]
 refine aQl (aSx hT hl ?_)
 have fin:wpAny (model prog w) A (subscripted slice false o i) (fun r s₃=>wpAny (model prog w) A (letTemporaryGo value o r >>= fun _=>pure r) Q E s₃) E s₂:=by
  rw [hs o i]
  exact wpAny_operating (aR4 h₂ (fun r s₃ h₃=>aQl (wpAny_letTemporaryGo (aQo h₃))) fun _ _ x=>x)
 first
  | exact aQo (aQl fin)
  | exact aQl (aQo (aQl fin))
  | exact aQl fin
theorem vA{X:Cx}{pins:List (Addr×Obj)}{σ:St}{H:Hp}{s:Shared}{a:Addr}{y:V}{o:Option V}(I:Inv X pins σ H s)(g:DGet H a y o):s.TypeIs (.ref a) "dict":=by
 rcases g with ⟨kvs,k,e,_,_⟩ | ⟨kvs,k,b,e,_,_,_⟩
 ·obtain ⟨_,_,vs,_,dd⟩:=yV I.hok e
  exact dd.typeIs
 ·obtain ⟨_,_,xs,_,dd⟩:=zY I.hok e
  exact dd.typeIs
def aM8(td ty:TE):TE:=fun σ H Q=>td σ H fun x H1=>ty σ H1 fun y H2=>∃ a v,x=.ref a/\DGet H2 a y (some v)/\Q v H2
def aO9(ty td:TE):TE:=fun σ H Q=>ty σ H fun y H1=>td σ H1 fun x H2=>∃ a o,x=.ref a/\DGet H2 a y o/\Q (.bl o.isSome) H2
def y6(ty td:TE):TE:=fun σ H Q=>ty σ H fun y H1=>td σ H1 fun x H2=>∃ a o,x=.ref a/\DGet H2 a y o/\Q (.bl (!o.isSome)) H2
def aOh(td ty tv:TE):TS:=fun D σ H=>tv σ H fun v H1=>td σ H1 fun x H2=>ty σ H2 fun y H3=>∃ a H4,x=.ref a/\DPut H3 a y v H4/\D.nx σ H4
section
variable {X:Cx}{o i e value:Expr}{pos pos' tpos:Pos}{td ty tv:TE}
theorem aIh(hu:X.A.units+1 < cLine)(ho:PE X o td)(hi:PE X i ty)(hs:aM6 i):PE X (.Subscript o i pos) (aM8 td ty):=by
 intro pins s σ H Q I h
 refine aH1 PySem.F.slot_dict_getitem.lookup hs (thn (ho pins s σ H _ I h) fun u s1 ⟨x,H1,I1,rx,q1⟩=>thn (hi pins s1 σ H1 _ I1 q1) fun iv s2 ⟨y,H2,I2,ry,a,v,ex,g,q2⟩=>?_)
 subst ex
 obtain rfl:u=Value.ref a:=rx
 exact ⟨vA I2 g,aB3 hu I2 g ry fun w' s3 I3 rw'=>⟨v,H2,I3,rw',q2⟩⟩
theorem aK8(hu:X.A.units+1 < cLine)(hi:PE X i ty)(ho:PE X o td):PC X .In i o (aO9 ty td):=by
 intro pins s σ H Q I h
 refine thn (hi pins s σ H _ I h) fun iv s1 ⟨y,H1,I1,ry,q1⟩=>thn (ho pins s1 σ H1 _ I1 q1) fun u s2 ⟨x,H2,I2,rx,a,ov,ex,g,q2⟩=>?_
 subst ex
 obtain rfl:u=Value.ref a:=rx
 exact aQg hu I2 g ry fun s3 I3=>⟨.bl ov.isSome,H2,I3,rfl,q2⟩
theorem aCe(hu:X.A.units+1 < cLine)(hi:PE X i ty)(ho:PE X o td):PC X .NotIn i o (y6 ty td):=by
 intro pins s σ H Q I h
 refine thn (hi pins s σ H _ I h) fun iv s1 ⟨y,H1,I1,ry,q1⟩=>thn (ho pins s1 σ H1 _ I1 q1) fun u s2 ⟨x,H2,I2,rx,a,ov,ex,g,q2⟩=>?_
 subst ex
 obtain rfl:u=Value.ref a:=rx
 exact aIm hu I2 g ry fun s3 I3=>⟨.bl (!ov.isSome),H2,I3,rfl,q2⟩
theorem aGt(hu:X.A.units+1 < cLine)(ho:PE X o td)(hi:PE X i ty)(hv:PE X value tv)(hs:swapsWith value (some (.Subscript o i pos')) pos.line X.env=pure false) :
  PS X (.Assign [.Subscript o i pos'] value pos) (aOh td ty tv):=by
 intro pins s σ H D I h
 refine wpAny_Assign_Subscript (thn (hv pins s σ H _ I h) fun r s1 ⟨v,H1,I1,rv,q1⟩=>thn (ho pins s1 σ H1 _ I1 q1) fun u s2 ⟨x,H2,I2,rx,q2⟩=>thn (hi pins s2 σ H2 _ I2 q2) fun iv s3 ⟨y,H3,I3,ry,a,H4,ex,g,q3⟩=>?_) hs
 subst ex
 obtain rfl:u=Value.ref a:=rx
 exact aAw hu I3 g ry rv fun s4 I4=>⟨σ,H4,I4,q3⟩
end
theorem aD7{P:Program}{w:World}{H:Hp}(h:Heap)(hb:sysModules < h.objs.size):ObjOk P w H (h.push { cls:=.type "dict",data:=.dict #[] }) h.objs.size (.dT []) :=
 ⟨aRj _,aSt.mpr (aU6 (aRa hb)),[],.nil,_,#[],0,aQ9 _ rfl,⟨rfl,rfl,rfl⟩,rfl,rfl,List.nodup_nil⟩
def aLf:TE:=fun _ H Q=>∀ p,H p=none->Q (.ref p) (upd H p (.dT []))
section
variable {X:Cx}{pos:Pos}
theorem aDg:PE X (.Dict [] [] pos) aLf:=fun pins s σ H Q I h =>
 wpAny_Dict_empty ⟨.ref s.heap.objs.size,_,I.laid (a:=s.heap.objs.size) (o:=.dT []) (t':=s.toks) (fun _ _ q=>aQq _ q) (aQu _) (aD7 s.heap I.big),rfl,h _ (I.hok.fresh (aQu _))⟩
end
section
variable {X:Cx}{pins:List (Addr×Obj)}{σ:St}{H:Hp}{s:Shared}{a:Addr}{y d:V}{u r:Value}{o:Option V}{A:Around}{E:Value->Shared->Prop}
end
section
variable {X:Cx}{o e f:Expr}{apos cpos:Pos}{td ty tx:TE}
end
section
variable {X:Cx}{pins:List (Addr×Obj)}{σ:St}{H:Hp}{s:Shared}{a:Addr}{kvs:List (Key×V)}{A:Around}{E:Value->Shared->Prop}
end
section
variable {X:Cx}{pins:List (Addr×Obj)}{σ:St}{H:Hp}{s:Shared}{a:Addr}{y:V}{u:Value}{A:Around}{E:Value->Shared->Prop}
end
end L2
namespace Att
open PySem PySem.W PySem.Calls PyProof.Rows
theorem nU{P:Params}{h:Heap}:∀ (ns:List Int) (vs:List Value),WellAll P h vs (ns.map WData.int)->IntsAre vs ns:=by
 intro ns
 induction ns with
 | nil =>
  intro vs w
  rw [aSw] at w
  cases w
  exact .nil
 | cons n ns ih =>
  intro vs w
  rw [aQx] at w
  cases w with
  | cons a b =>
   cases a
   exact .cons _ _ (ih _ b)
theorem aAp{l:OpenLaw}{n:Nat}(hn:l.most=some n){P:Params}{h:Heap}{args:List WData}{vals:List Value}
  (aI8:l.row.toRowW.claim.pre args=true) (hwl:WellAll P h vals args) :
  ∃ a vs ns,vals=[Value.ref a]/\args=[WData.list (ns.map WData.int)]/\h.get? a=some { cls:=.type "list",data:=.seq vs.toArray }/\IntsAre vs ns/\ns.length<=n:=by
 have hsh:WShape.hasAll [] args [.list .int]=true:=(pre_splitW aI8).1
 have hc:l.pre.holds [] { args:=args }=true:=(pre_splitW aI8).2
 obtain ⟨d,r,rfl,h1,h2⟩:=hasAllW_cons hsh
 obtain rfl:=hasAllW_nil h2
 obtain ⟨xs,rfl,h3⟩:=hasW_list h1
 obtain ⟨ns,rfl⟩:=items_int h3
 have hlen:ns.length<=n:=by
  unfold OpenLaw.pre at hc
  have h4:(WTm.not (.lt (.lit (.int (n:Int))) (.len (.arg 0)))).holds [] { args:=[.list (ns.map .int)] }=true:=by
   have h4:=(holds_andW hc).1
   rw [hn] at h4
   exact h4
  have h5:=condW_of h4 (w_not (w_lt w_lit (w_len_list (w_arg rfl))))
  rw [aQm] at h5
  refine aWs fun q=>?_
  have q':(n:Int) < ((ns.length:Nat):Int):=by omega
  first
   | (rw [aQ3 q'] at h5;exact absurd h5 (by decide))
   | (simp at h5;omega)
 cases hwl with
 | cons w1 w2 =>
  cases w2
  cases w1 with
  | list ho hall=>exact ⟨_,_,ns,rfl,rfl,ho,nU ns _ hall,hlen⟩
theorem aBe(l:OpenLaw)(args:List WData):l.row.toRowW.claim.post args (.bool true) args=true :=
 postW_of (r:=l.row.toRowW) (X:=(true == true))
  (show WShape.has [] (.bool true) .bool=true by first | rfl | decide | simp [WShape.has,WShape.arms,WShape.armsAll])
  (show (WTm.eq .res (.lit (.bool true))).value [] { args:=args,res:=some (.bool true),after:=args }=some (.bool (true == true)) from w_eq_bool (w_res rfl) w_lit) rfl
theorem uE{l:OpenLaw}{n:Nat}{q:Program}{loose:List Str}{XP:(Str->Option Value)->Heap->Prop}{YP:World->Heap->Prop}{d:DefRec}
  (hn:l.most=some n) (hdf:d.params.defaults=[])
  (call:∀ (w:World) (s₀ s₁:Shared) (mg mb:Str->Option Value) (fa:Addr) (o:Obj) (pm cd doc:Value) (a:Addr) (vs:List Value) (ns:List Int),
   Ground q loose [] XP w s₀ mg mb s₁.heap->YP w s₁.heap ->
   s₁.heap.get? fa=some o->o.data=.func (docDef d.name d.params d.body d.scope pm cd doc)->s₁.heap.CodeRec cd d.name->mg d.name=some (.ref fa) ->
   s₁.heap.get? a=some { cls:=.type "list",data:=.seq vs.toArray }->IntsAre vs ns->ns.length<=n->s₁.gens=#[] ->
   codeAny (model l.prog w) callerA (.call (.ref fa) ⟨[.ref a],[]⟩) (fun r s'=>r=.ok (.ret (.bool true))/\OldK s₁.heap s'.heap/\s'.os=s₁.os/\AllBare s'.gens) s₁) :
  WalkO q loose XP YP l.row.toRowW d [] (fun f vs=>PySem.call f vs):=by
 intro w s₀ s₁ mg mb G Y fa o pm cd doc dV kV ho hd hcd hD hmg hg args vals as aI8 hlay hrd hwl hlo
 obtain rfl:dV=.none:=Dflts.none hD hdf
 obtain rfl:kV=.none:=Dflts.noKw hD
 obtain ⟨a,vs,ns,rfl,rfl,hobj,hints,hlen⟩:=aAp hn aI8 hwl
 refine enter_call (aUr (call w s₀ s₁ mg mb fa o pm cd doc a vs ns G Y ho (fd_plain hd) hcd hmg hobj hints hlen hg) fun r s' hq=>?_)
 obtain ⟨rfl,h2,h3,h4⟩:=hq
 exact ⟨.inl ⟨.bool true,.bool true,[],rfl,fun _=>rfl,.bool true,aBe l _,fun _=>⟨List.Pairwise.nil,fun _ hm=>(nomatch hm)⟩⟩,h2,h3,h4⟩
section
variable {prog:Program}{w:World}{A:Around}{E:Value->Shared->Prop}{s:Shared}{K:Frag}
end
end Att
namespace L2
open PySem PySem.Spec PyProof.Rows
theorem t6:∀ {vs:List Value} {ns:List Int},IntsAre vs ns->Vals (ns.map V.int) vs
 | _,_,.nil=>.nil
 | _,_,.cons n t h=>.cons ⟨t,rfl⟩ (t6 h)
def aM0(H:Hp):Prop:=∀ b,H b=none\/(∃ o xs,H b=some (.frz o (.lst xs)))\/∃ ps,H b=some (.tbl ps)
theorem aDr{P:Program}{w:World}{K:aQk}{mg mb:Str->Option Value}{CX:CXT}{k:Nat}{fa a:Addr}{fd:FuncData}{x:Str}{sp:Sp}{s₁:Shared}{vs:List Value}{ns:List Int}{ts:List Addr}
  (hT:aIj K ts=true) (hT2:∀ P∈ts,s₁.heap.get? P=some (PySem.W.tabObj #[])) (hbm:∃ bm ob,mg "__builtins__" = some (.ref bm)/\bm≠builtinsNs/\s₁.heap.get? bm=some ob/\ob.cls=.type "module"/\ob.dict=some builtinsNs/\ob.data=.plain)
  (KX:K.In s₁.heap) (hns:s₁.heap.Ns mainGlobals mg) (hb:s₁.heap.Ns builtinsNs mb) (hbb:∀ x:Str,x≠"__name__"->mb x=bootBuiltins x) (hlim:s₁.heap.NoLimit) (hg:s₁.gens=#[])
  (ha:s₁.heap.get? a=some { cls:=.type "list",data:=.seq vs.toArray }) (hi:IntsAre vs ns) (hl:ns.length<=sizeLine) (hr:Room k callerA)
  (F:∀ base:Heap,K.In base->base.Ns mainGlobals mg->FnOk P w K mg base CX k fa fd [x] sp) (hbind:∀ (s:Shared) (u:Value),BindsTo s fd ⟨[u],[]⟩ [(x,u)])
  (hsp:∀ H:Hp,aM0 H->SqL K H a (ns.map V.int)->sp [.ref a] H (fun v _=>v=.bl true) fun _ _ _=>False)
  (hCX:∀ H e s',CX [] H s₁ (fun _ _ _=>False) e s'->False) :
  codeAny (model P w) callerA (.call (.ref fa) ⟨[.ref a],[]⟩) (fun r s'=>r=.ok (.ret (.bool true))/\OldK s₁.heap s'.heap/\s'.os=s₁.os/\AllBare s'.gens) s₁:=by
 have rv:=t6 hi
 have lenV:=hi.length
 have tk:∀ p∈tbs K,PySem.W.CodeHd s₁.heap p.1 p.2.1/\K.lookup p.2.1=none/\s₁.heap.get? p.2.1=some (PySem.W.tabObj #[])/\∀ q∈tbs K,p.2.1=q.2.1->p.2.2=q.2.2:=fun p hp=>by
  have z:=aSi.mp hT p hp
  simp only [aS1] at z
  obtain ⟨⟨⟨z1,z2⟩,z3⟩,z4⟩:=z
  refine ⟨PySem.W.codeHd_of_K KX z1,by simpa using z2,hT2 _ (by simpa using z3),fun q hq e=>?_⟩
  have y:=aSi.mp z4 q hq
  rw [Bool.or_eq_true] at y
  rcases y with y | y
  ·rw [e] at y;simp at y
  ·exact aTk.mp y
 have aP:∀ p∈tbs K,a≠p.2.1:=fun p hp z=>by
  have e:=(tk p hp).2.2.1
  rw [<- z,ha] at e
  cases e
 have core:∀ H:Hp,aM0 H->SqL K H a (ns.map V.int)->HOk P w H s₁.heap->(∀ b,H b≠none->b=a\/∃ p∈tbs K,b=p.2.1)->(H a≠none->K.lookup a=none)->Tbs K H ->
   codeAny (model P w) callerA (.call (.ref fa) ⟨[.ref a],[]⟩) (fun r s'=>r=.ok (.ret (.bool true))/\OldK s₁.heap s'.heap/\s'.os=s₁.os/\AllBare s'.gens) s₁:=by
  intro H hO hS hok hA hK hTb
  have base_of:∀ {b:Addr} {o:Obj},s₁.heap.get? b=some o->H b=none->(aDm s₁.heap H).get? b=some o:=fun e n=>aD6 e n
  have noT:∀ {b:Addr} {o:Obj},s₁.heap.get? b=some o->o≠{ cls:=.type "list",data:=.seq vs.toArray }->o≠PySem.W.tabObj #[]->H b=none:=fun {b o} e d1 d2=>by
   cases q:H b with
   | none=>rfl
   | some u =>
    rcases hA b (by rw [q];simp) with e' | ⟨p,hp,e'⟩
    ·subst e'
     rw [ha] at e;cases e
     exact absurd rfl d1
    ·subst e'
     rw [(tk p hp).2.2.1] at e;cases e
     exact absurd rfl d2
  have noA:∀ {b:Addr} {o:Obj} {es:Array DictEntry} {ep:Nat},s₁.heap.get? b=some o->o.data=.dict es ep->H b=none:=fun {b o es ep} e d =>
   noT e (fun z=>by subst z;cases d) fun z=>by subst z;cases d
  have nsK:∀ {b:Addr} {m:Str->Option Value},s₁.heap.Ns b m->(aDm s₁.heap H).Ns b m:=fun {b m} ⟨o,es,ep,e,d,r⟩=>⟨o,es,ep,base_of e (noA e d),d,r⟩
  have hKb:K.In (aDm s₁.heap H):=fun b o e=>base_of (KX b o e) (by
   cases q:H b with
   | none=>rfl
   | some u =>
    rcases hA b (by rw [q];simp) with e' | ⟨p,hp,e'⟩
    ·subst e'
     rw [hK (by rw [q];simp)] at e;cases e
    ·subst e'
     rw [(tk p hp).2.1] at e;cases e)
  have hM:Mod K mg (aDm s₁.heap H):=⟨hKb,nsK hns,⟨mb,nsK hb,hbb⟩,(let ⟨mc,h1,h2⟩:=hlim;⟨mc,nsK h1,h2⟩),(let ⟨bm,ob,b1,b2,b3,b4,b5⟩:=hbm;⟨bm,ob,b1,b2,base_of b3 (noT b3 (fun z=>by subst z;simp at b4) fun z=>by subst z;simp at b4),b4,b5⟩)⟩
  have e0:Env0 P w K mg (aDm s₁.heap H) callerA [] s₁ H:=⟨rfl,hM,fun b o e=>aIa e,aT4 (aBs _ _),trivial,fun b hb=>absurd (show b∈([]:List Addr) from hb) (by simp),hok,.of_eq hg,hTb⟩
  refine aUr ((F _ hKb (nsK hns)).run callerA [] s₁ H ⟨[.ref a],[]⟩ [.ref a] [.ref a] _ _ hr e0 (hbind s₁ (.ref a)) (.cons rfl .nil) (hsp H hO hS)) fun r s' h=>?_
  cases r with
  | error e=>exact (hCX H e s' h).elim
  | ok fl =>
   cases fl with
   | next=>exact False.elim h
   | brk=>exact False.elim h
   | cont=>exact False.elim h
   | ret u =>
    obtain ⟨v,H',os,bare,un,hok',r',q⟩:=h
    have q':v=.bl true:=q
    subst q'
    obtain rfl:u=Value.bool true:=r'
    have old:∀ b o,s₁.heap.get? b=some o->s'.heap.get? b=some o\/∃ p∈tbs K,∃ qs,b=p.2.1/\o=PySem.W.tabObj #[]/\s'.heap.get? b=some (PySem.W.tabObj qs):=fun b o e=>by
     cases q:H b with
     | none=>exact .inl (un.keep b o e q (by intro z;exact absurd (show b∈([]:List Addr) from z) (by simp)) (by simp))
     | some u =>
      rcases hO b with z | ⟨ob,xs,z⟩ | ⟨ps,z⟩
      ·rw [q] at z;cases z
      ·have z2:=un.frzs b ob _ z
       obtain ⟨e1,_⟩:=hok b _ z
       obtain ⟨e2,_⟩:=hok' b _ z2
       rw [e] at e1;cases e1
       exact .inl e2
      ·obtain ⟨more,z2⟩:=un.tbls b ps z
       obtain ⟨qs,e2,_⟩:=hok' b _ z2
       rcases hA b (by rw [z];simp) with e' | ⟨p,hp,e'⟩
       ·subst e'
        obtain ⟨qs0,e3,_⟩:=hok b _ z
        rw [ha] at e3;cases e3
       ·subst e'
        rw [(tk p hp).2.2.1] at e;cases e
        exact .inr ⟨p,hp,qs,rfl,rfl,e2⟩
    refine ⟨rfl,⟨fun b o e=>?_,fun b o e=>?_⟩,os,bare⟩
    ·rcases old b o e with z | ⟨p,hp,qs,rfl,rfl,z⟩
     ·exact .inl z
     ·exact .inr (.inl ⟨((tk p hp).1.tab (tk p hp).2.2.1).isCodeTable,rfl,#[],qs,rfl,by rw [z];simp⟩)
    ·rcases old b o e with z | ⟨p,hp,qs,rfl,rfl,z⟩
     ·exact ⟨_,z⟩
     ·exact ⟨_,z⟩
 have tab:∀ {b:Addr} {u:HO},((tbs K).find? (fun p=>p.2.1 == b)).map (fun p=>HO.tbl #[.str p.2.2 0])=some u->∃ p∈tbs K,b=p.2.1/\u=.tbl #[.str p.2.2 0]:=fun {b u} e=>by
  obtain ⟨p,e1,e2⟩:=aTz.mp e
  have:=List.find?_some e1
  exact ⟨p,aUi e1,(aTk.mp this).symm,e2.symm⟩
 have tabTb:∀ p∈tbs K,((tbs K).find? (fun q=>q.2.1 == p.2.1)).map (fun p=>HO.tbl #[.str p.2.2 0])=some (.tbl (#[.str p.2.2 0]++#[])):=fun p hp=>by
  cases e:(tbs K).find? (fun q=>q.2.1 == p.2.1) with
  | none=>exact absurd (List.find?_eq_none.mp e p hp) (by simp)
  | some q =>
   have e1:=List.find?_some e
   have e2:=(tk p hp).2.2.2 q (aUi e) (aTk.mp e1).symm
   simp [e2]
 have tabOk:∀ {H:Hp} {p:Addr×Addr×Str},p∈tbs K->ObjOk P w H s₁.heap p.2.1 (.tbl #[.str p.2.2 0]):=fun hp=>⟨#[],(tk _ hp).2.2.1,trivial,fun n t _ pos cv e=>by cases e⟩
 have tabA:((tbs K).find? (fun p=>p.2.1 == a)).map (fun p=>HO.tbl #[.str p.2.2 0])=none:=by
  cases e:((tbs K).find? (fun p=>p.2.1 == a)).map (fun p=>HO.tbl #[.str p.2.2 0]) with
  | none=>rfl
  | some u=>obtain ⟨p,hp,z,_⟩:=tab e;exact absurd z (aP p hp)
 cases hk:K.lookup a with
 | some o =>
  have e:=KX a o hk
  rw [ha] at e
  cases e
  refine core (fun b=>((tbs K).find? (fun p=>p.2.1 == b)).map (fun p=>HO.tbl #[.str p.2.2 0])) (fun b=>?_) (.inr ⟨_,vs.toArray,_,hk,rfl,rfl,rfl,by rw [aQs,lenV];exact hl,by simpa using rv⟩) (fun b u z=>?_) (fun b z=>?_) (fun z=>absurd tabA z) fun p hp=>⟨#[],tabTb p hp⟩
  ·dsimp only
   cases e:((tbs K).find? (fun p=>p.2.1 == b)).map (fun p=>HO.tbl #[.str p.2.2 0]) with
   | none=>exact .inl rfl
   | some u=>obtain ⟨p,_,_,rfl⟩:=tab e;exact .inr (.inr ⟨_,rfl⟩)
  ·obtain ⟨p,hp,rfl,rfl⟩:=tab z
   exact tabOk hp
  ·obtain ⟨u,e⟩:=aV1.mp z
   obtain ⟨p,hp,e1,_⟩:=tab e
   exact .inr ⟨p,hp,e1⟩
 | none =>
  refine core (fun b=>if b=a then some (.frz { cls:=.type "list",data:=.seq vs.toArray } (.lst (ns.map V.int))) else ((tbs K).find? (fun p=>p.2.1 == b)).map (fun p=>HO.tbl #[.str p.2.2 0])) (fun b=>?_) (.inl (.inr ⟨{ cls:=.type "list",data:=.seq vs.toArray },aQt rfl⟩)) (fun b u z=>?_) (fun b z=>?_) (fun _=>hk) fun p hp=>⟨#[],(aQv (aP p hp).symm).trans (tabTb p hp)⟩
  ·dsimp only
   by_cases hb:b=a
   ·exact .inr (.inl ⟨_,_,aQt hb⟩)
   ·rw [aQv hb]
    cases e:((tbs K).find? (fun p=>p.2.1 == b)).map (fun p=>HO.tbl #[.str p.2.2 0]) with
    | none=>exact .inl rfl
    | some u=>obtain ⟨p,_,_,rfl⟩:=tab e;exact .inr (.inr ⟨_,rfl⟩)
  ·by_cases hb:b=a
   ·have z':=(aQt hb).symm.trans z
    cases z'
    subst hb
    exact ⟨ha,by rw [aQm];exact hl,vs,_,rv,ha⟩
   ·have z':=(aQv hb).symm.trans z
    obtain ⟨p,hp,rfl,rfl⟩:=tab z'
    exact tabOk hp
  ·by_cases hb:b=a
   ·exact .inl hb
   ·rw [aQv hb] at z
    obtain ⟨u,e⟩:=aV1.mp z
    obtain ⟨p,hp,e1,_⟩:=tab e
    exact .inr ⟨p,hp,e1⟩
theorem aH9{l:PySem.W.OpenLaw}{n k:Nat}{q:Program}{loose:List Str}{XP:(Str->Option Value)->Heap->Prop}{YP:World->Heap->Prop}{d:DefRec}{K:Params->aQk}{CX:World->CXT}{sp:World->Sp}{x:Str}
  (hn:l.most=some n) (hn2:n<=sizeLine) (hdf:d.params.defaults=[]) (hr:Room k callerA)
  {ts:List Addr} (hY:∀ (w:World) (h:Heap),YP w h->(K w.params).In h/\∀ P∈ts,h.get? P=some (PySem.W.tabObj #[])) (hK:∀ w:World,aIj (K w.params) ts=true)
  (F:∀ (w:World) (mg:Str->Option Value) (fa:Addr) (h:Heap),(K w.params).In h->h.Ns mainGlobals mg->mg d.name=some (.ref fa) ->
   ∃ fd:FuncData,(∀ (s:Shared) (u:Value),BindsTo s fd ⟨[u],[]⟩ [(x,u)]) /\
    ∀ base:Heap,(K w.params).In base->base.Ns mainGlobals mg->FnOk l.prog w (K w.params) mg base (CX w) k fa fd [x] (sp w))
  (hsp:∀ (w:World) (H:Hp) (a:Addr) (ns:List Int),ns.length<=n->aM0 H->SqL (K w.params) H a (ns.map V.int)->sp w [.ref a] H (fun v _=>v=.bl true) fun _ _ _=>False)
  (hCX:∀ (w:World) (H:Hp) (s:Shared) (e:Value) (s':Shared),CX w [] H s (fun _ _ _=>False) e s'->False) :
  PySem.W.WalkO q loose XP YP l.row.toRowW d [] (fun f vs=>PySem.call f vs):=by
 refine Att.uE hn hdf fun w s₀ s₁ mg mb fa o pm cd doc a vs ns G Y ho hd hcd hmg hobj hints hlen hg=>?_
 obtain ⟨KX,TX⟩:=hY w _ Y
 obtain ⟨fd,hb,hF⟩:=F w mg fa _ KX G.T.g hmg
 exact aDr (hK w) TX G.T.bmain KX G.T.g G.T.b G.T.builtins G.T.nolimit hg hobj hints (aR0 hlen hn2) hr hF hb (fun H hO hS=>hsp w H a ns hlen hO hS) fun H e s'=>hCX w H s₁ e s'
def fK(s:Stmt):Arguments:=match s with
 | .FunctionDef _ a _ _ _ _ _ _ _ _=>a
 | _=>{ posonlyargs:=[],args:=[],vararg:=none,kwonlyargs:=[],kw_defaults:=[],kwarg:=none,defaults:=[] }
def dM(s:Stmt):List Stmt:=match s with
 | .FunctionDef _ _ b _ _ _ _ _ _ _=>b
 | _=>[]
def aQ(s:Stmt):Scope:=match s with
 | .FunctionDef _ _ _ _ _ _ sc _ _ _=>sc
 | _=>{ kind:=.function,names:=[],isGenerator:=false,isCoroutine:=false }
abbrev E0:XK:=fun _ _ _=>False
structure Fun(K:aQk)(x qual:Str)(st:Stmt)(f:Addr)(fd:FuncData):Prop where
 ex:∃ (oc:Value) (od:Option Addr) (kV doc pm:Value) (an:Option Addr) (cdv ct:Value) (osl:Array (Option Value)),
  fd=PySem.W.fnOf x qual (fK st) (dM st) (aQ st) .none kV doc pm an cdv ct/\K.lookup f=some ⟨oc,od,.func fd,osl⟩/\PySem.W.codeIn K cdv qual=true
 kp:PySem.W.keepIn K (.ref f)=true
section
variable {P:Program}{w:World}{K:aQk}{mg:Str->Option Value}{base:Heap}
theorem Fun.binds{x qual:Str}{st:Stmt}{f:Addr}{fd:FuncData}{ps:List Str}(F:Fun K x qual st f fd)
  (h:∀ (kV doc pm:Value) (an:Option Addr) (cdv ct:Value) (us:List Value),us.length=ps.length->bindArgs (PySem.W.fnOf x qual (fK st) (dM st) (aQ st) .none kV doc pm an cdv ct) ⟨us,[]⟩=pure (ps.zip us)):Binds K fd ps []:=by
 obtain ⟨oc,od,kV,doc,pm,an,cdv,ct,osl,rfl,lk,hcd⟩:=F.ex
 exact .all (h kV doc pm an cdv ct)
theorem wL{x qual:Str}{st:Stmt}{f:Addr}{oc:Value}{od an:Option Addr}{osl:Array (Option Value)}{kV doc pm cdv ct:Value}(l:K.lookup f=some ⟨oc,od,.func (PySem.W.fnOf x qual (fK st) (dM st) (aQ st) .none kV doc pm an cdv ct),osl⟩)
  (c:PySem.W.codeIn K cdv qual=true) (k:PySem.W.keepIn K (.ref f)=true):Fun K x qual st f (PySem.W.fnOf x qual (fK st) (dM st) (aQ st) .none kV doc pm an cdv ct):=⟨⟨oc,od,kV,doc,pm,an,cdv,ct,osl,rfl,l,c⟩,k⟩
end
section
variable {X:Cx}
theorem pv(i:Nat){x:Str}{pos:Pos}(hN:X.N[i]? = some x:=by rfl)(hv:Vis X.env.scope x:=by first | exact Or.inl rfl | exact Or.inr (Or.inl rfl) | exact Or.inr (Or.inr rfl))(hd:(x == ("__debug__" : Str))=false:=by decide)
  (hcd:(x == ("__classdict__" : Str))=false:=by decide):PE X (.Name x pos) (xX i):=xP hN hv hd hcd
end
def Same(H H':Hp):Prop:=∀ b o,H b=some o->H' b=some o
theorem Same.refl(H:Hp):Same H H:=fun _ _ h=>h
theorem Same.trans{H H1 H2:Hp}(a:Same H H1)(b:Same H1 H2):Same H H2:=fun c o h=>b c o (a c o h)
theorem Same.free{H H':Hp}(e:Same H H'){l:Addr}(h:H' l=Option.none):H l=Option.none:=by
 cases q:H l with
 | none=>rfl
 | some o =>
  rw [e l o q] at h
  cases h
theorem Same.seq{K:aQk}{H H':Hp}{a:Addr}{xs:List V}(e:Same H H')(h:SqL K H a xs):SqL K H' a xs:=by
 rcases h with (h | ⟨o,h⟩) | h
 ·exact .inl (.inl (e _ _ h))
 ·exact .inl (.inr ⟨o,e _ _ h⟩)
 ·exact .inr h
section
variable {X:Cx}
end
section
variable {κ:Type}[DecidableEq κ]
end
end L2
set_option maxHeartbeats 4000000
namespace PySem.W
open PySem PySem.Spec PySem.Calls PyProof.Rows Builtin Builtin.ObjectAttr Builtin.Getset_descriptor
section
variable {prog:Program}{w:World}{A:Around}{E:Value->Shared->Prop}{K:Frag}{h:Heap}{g:Array GenState}{d:Drawn}{t:Nat}{os:OsState}{a C:Addr}
structure ExcK(K:Frag)(C:Addr):Prop where
 ga:findIn K (.ref C) "__getattribute__" = some (some (.builtin "BaseException.__getattribute__"))
 gt:findIn K (.ref C) "__getattr__" = some none
 cl:findIn K (.ref C) "__class__" = some (some (.builtin "object.__class__"))
 mo:mroIn K C (.type "object")=some true
 mb:mroIn K C (.type "BaseException")=some true
 ic:(clsIn K C).isSome=true
def ExcAt(a:Addr)(cls:Value)(h:Heap):Prop:=∃ o,h.get? a=some o/\o.cls=cls/\∃ vs,o.data=.fields vs
theorem ExcAt.ty{cls:Value}(p:ExcAt a cls h)(M:Model):Looks M h (typeOf (.ref a)) cls:=by
 obtain ⟨o,h1,h2,_⟩:=p
 exact h2▸(Looks.ld h1).andThen .now
theorem aKc{tp:Value}{R:Result->Shared->Prop}(X:K.In h)(T:ExcK K C)(p:ExcAt a (.ref C) h)(hq:R (.ok (.ret (.ref C))) ⟨h,g,d,t,os⟩) :
  codeAny (model prog w) A (.call (.builtin "getset_descriptor.__get__") ⟨[.builtin "object.__class__",.ref a,tp],[]⟩) R ⟨h,g,d,t,os⟩:=by
 have La:=p.ty (model prog w)
 have Lb:=looks_mroIn (M:=model prog w) X T.mo
 refine aVl KF.slot_gs.plain KF.entry_gs (KF.slot_gs.check _ _ _ _ _ _ _ _ KF.type_class (KF.args_gs _ _ _) ?_)
 unfold Builtin.«getset_descriptor.__get__» descrGet
 rw [dga_obj]
 refine aQl (aQo ?_)
 unfold descrGetter descrCheckInstance descrNameAndClass isInstance
 simp only [KF.owner_class]
 repeat lk
 refine ⟨Code.quiet_builtin _ (by decide +kernel),aUw KF.entry_class ?_⟩
 unfold Builtin.«object.__class__» shownTypeOf
 repeat lk
 exact hq
theorem aD8{tk:Tok}{Q:Fin->Shared->Prop}(X:K.In h)(T:ExcK K C)(p:ExcAt a (.ref C) h)(hq:Q (.done (.ret (.ref C))) ⟨h,g,d,t,os⟩) :
  wpAny (model prog w) A (Builtin.«object.__getattribute__» ⟨[.ref a,.str "__class__" tk],[]⟩) Q E ⟨h,g,d,t,os⟩:=by
 have La:=p.ty (model prog w)
 have Lc:=looks_findIn (M:=model prog w) X T.cl
 have hT5:(⟨h,g,d,t,os⟩:Shared).TypeIs (.builtin "object.__class__") "getset_descriptor":=F.typeOf_object_class
 have e5:=F.typeOf_object_class
 have e6:=F.slot_gs_get.lookup
 have e7:=F.slot_gs_set.lookup
 repeat (any_goals (first | assumption | with_reducible refine Looks.at (by assumption) ?_ | wp_step))
 refine aKc X T p ?_
 repeat (any_goals (first | assumption | wp_step))
theorem aEj{M:Model}{nameV:Value}{Q:Unit->Shared->Prop}(X:K.In h)(T:ExcK K C)(p:ExcAt a (.ref C) h)(hq:Q () ⟨h,g,d,t,os⟩) :
  wpAny M A (checkBuiltinCall "BaseException.__getattribute__" ⟨[.ref a,nameV],[]⟩) Q E ⟨h,g,d,t,os⟩:=by
 have hk:builtinKind "BaseException.__getattribute__" = some .slot:=by decide +kernel
 have hsp:splitId "BaseException.__getattribute__" = some ("BaseException","__getattribute__"):=by decide +kernel
 have La:=p.ty M
 have Lb:=looks_mroIn (M:=M) X T.mb
 have ha:=F.args_bexc_ga (.ref a) nameV
 simp only [checkBuiltinCall,hk,hsp]
 refine aQl ?_
 unfold isInstance
 repeat (any_goals (first | assumption | with_reducible refine Looks.at (by assumption) ?_ | wp_step))
theorem aH8{tk:Tok}{R:Result->Shared->Prop}(X:K.In h)(T:ExcK K C)(p:ExcAt a (.ref C) h)(hq:R (.ok (.ret (.ref C))) ⟨h,g,d,t,os⟩) :
  codeAny (model prog w) A (.call (.builtin "BaseException.__getattribute__") ⟨[.ref a,.str "__class__" tk],[]⟩) R ⟨h,g,d,t,os⟩ :=
 aVl F.attr_ValueError.ga.plain F.entry_bexc_ga (aEj X T p (aD8 X T p hq))
theorem aN5{tk:Tok}{Q:Value->Shared->Prop}(X:K.In h)(T:ExcK K C)(p:ExcAt a (.ref C) h)(hq:Q (.ref C) ⟨h,g,d,t,os⟩):wpAny (model prog w) A (getAttrBy (.ref a) (.str "__class__" tk) false) Q E ⟨h,g,d,t,os⟩:=by
 have La:=p.ty (model prog w)
 have Lg:=looks_findIn (M:=model prog w) X T.ga
 have Lt:=looks_findIn (M:=model prog w) X T.gt
 have f3:=F.attr_ValueError.ga.bind (.ref a)
 have hx0:(false && onTheHeap (Value.builtin "BaseException.__getattribute__"))=false:=rfl
 have hx2:(Value.builtin "BaseException.__getattribute__" == Value.builtin "object.__getattribute__")=false:=by decide +kernel
 have hx1:(onTheHeap (Value.ref C) && Value.builtin "BaseException.__getattribute__" == Value.builtin "object.__getattribute__")=false:=by rw [hx2];rfl
 repeat (any_goals (first | assumption | with_reducible refine Looks.at (by assumption) ?_ | wp_step))
 refine aH8 X T p ?_
 repeat (any_goals (first | assumption | wp_step))
theorem aHr{Q:Option Value->Shared->Prop}(X:K.In h)(T:ExcK K C)(p:ExcAt a (.ref C) h)(hq:Q (some (.ref C)) ⟨h,g,d,t+1,os⟩):wpAny (model prog w) A (getAttr? (.ref a) "__class__") Q E ⟨h,g,d,t,os⟩:=by
 unfold getAttr? getAttrBy?
 repeat (any_goals (first | assumption | with_reducible apply aN5 X T p | wp_step))
theorem kitx_exc(T:ExcK K C):KitX K (.ref a) (.ref C) (ExcAt a (.ref C)) where
 ty:=fun M _ _ p=>p.ty M
 it:=fun _ _ X _=>by
  have hs:=T.ic
  unfold clsIn at hs
  split at hs
  ·rename_i ho
   intro A' Q' E' s' k q
   unfold isType loadHead
   exact aQl (wpAny_loadPart (k _ _ (X _ _ ho)) (aQo q))
  ·cases hs
 ne:=fun h tp dd its n sl X htp=>by
  refine Bool.eq_false_iff.mpr fun q=>?_
  have e:C=tp:=Value.ref.inj (aTk.mp q)
  have hs:=T.ic
  unfold clsIn at hs
  split at hs
  ·rename_i ho
   have z:=X _ _ ho
   rw [e,htp] at z
   cases z
  ·cases hs
 ca:=fun {_ _ _ _ _ s} X p k=>by
  obtain ⟨hh,gg,dd,tt,oo⟩:=s
  exact aHr X T p k
end
end PySem.W
namespace L2
open PySem PySem.Spec PyProof.Rows
structure aL5(P:Program)(w:World)(outer:List Env)(H:Hp)(s:Shared)(ea:Addr)(cls:Value)(H':Hp)(B:Heap)(a0:Value)(s':Shared):Prop where
 os:s'.os=s.os
 bare:AllBare s'.gens
 un:Un (frs outer) [] H H' s.heap s'.heap
 hok:HOk P w H' s'.heap
 fly:Heap.FlyingW B outer ea cls a0 s'.heap
 inB:∀ b o,s'.heap.get? b=some o->(H' b≠none\/((∃ u,s.heap.get? b=some u)/\b∉frs outer))->B.get? b=some o
 new:s.heap.get? ea=none
 nt:H' ea=none
def CXr(P:Program)(w:World):CXT:=fun outer H s E e s' =>
 ∃ (ea:Addr) (cls:Value) (H':Hp) (B:Heap) (a0:Value),e=.ref ea/\aL5 P w outer H s ea cls H' B a0 s'/\E cls none H'
theorem rM{P:Program}{w:World}{H:Hp}{h h':Heap}(ok:HOk P w H h)(k:∀ b o,H b≠none->h.get? b=some o->h'.get? b=some o):HOk P w H h':=fun a o e =>
 (ok a o e).stay (fun b u hb q=>k b u (by
  rcases hb with z | z
  ·rw [z,e];exact fun q=>nomatch q
  ·rw [z];exact fun q=>nomatch q) q) (fun _ q=>q) fun _ _ q=>q
theorem oP{P:Program}{w:World}{H:Hp}{h:Heap}{a:Addr}{o:HO}(x:ObjOk P w H h a o):∃ ob,h.get? a=some ob:=by
 cases o with
 | lst xs=>obtain ⟨_,_,_,_,e⟩:=x;exact ⟨_,e⟩
 | tup xs=>obtain ⟨_,_,_,ob,e,_⟩:=x;exact ⟨_,e⟩
 | dK kvs=>obtain ⟨_,_,_,_,o,_,_,e,_⟩:=x;exact ⟨_,e⟩
 | dT kvs=>obtain ⟨_,_,_,_,o,_,_,e,_⟩:=x;exact ⟨_,e⟩
 | set S n=>obtain ⟨o,_,_,_,e,_⟩:=x;exact ⟨_,e⟩
 | ins C dx fs=>obtain ⟨_,_,_,e,_⟩:=x;exact ⟨_,e⟩
 | own y=>exact x
 | xd fs=>obtain ⟨_,⟨_,_,_,e,_⟩,_⟩:=x;exact ⟨_,e⟩
 | rng lo hi=>obtain ⟨_,_,_,e⟩:=x;exact ⟨_,e⟩
 | frz ob u=>obtain ⟨e,_⟩:=x;exact ⟨_,e⟩
 | tbl ps=>obtain ⟨_,e,_⟩:=x;exact ⟨_,e⟩
 | met f y=>exact ⟨_,(show h.get? a=some _ from x)⟩
 | ext φ=>obtain ⟨_,e,_⟩:=x;exact e
theorem HOk.there{P:Program}{w:World}{H:Hp}{h:Heap}{a:Addr}(x:HOk P w H h)(n:H a≠none):∃ ob,h.get? a=some ob:=by
 cases q:H a with
 | none=>exact absurd q n
 | some u=>exact oP (x a u q)
section
variable {P:Program}{w:World}{K:aQk}{mg:Str->Option Value}{base:Heap}{N:List Str}{qual:Str}{scope:Scope}{f:Addr}{cd:Value}{A:Around}{outer:List Env}{s:Shared}{H:Hp}{E:XK}
theorem qQ{env:Env}{l:List Env}{L:Addr}(h:env.frame=some L):frs (env :: l)=L :: frs l:=by
 unfold frs
 rw [aSd,h]
theorem vK{X:Cx}{pins:List (Addr×Obj)}{σ:St}{H1 H':Hp}{s1:Shared}{B h'':Heap}{ea:Addr}{cls a0:Value}{g':Array GenState}{d':Drawn}{t':Nat}{os':OsState}
  (I:Inv X pins σ H1 s1) (hx:X.ex=[]) (hs:X.env.locals∉frs X.outer)
  (ho:os'=X.s₀.os) (hg:AllBare g')
  (fly:Heap.FlyingW B X.outer ea cls a0 h'')
  (kp:∀ b o,s1.heap.get? b=some o->H1 b=none->b∉frs X.outer->b≠X.env.locals->B.get? b=some o)
  (sl:∀ b o,s1.heap.get? b=some o->b∈frs X.outer->∃ sl,h''.get? b=some { o with slots:=sl })
  (fr:∀ b o,s1.heap.get? b=some o->H1 b=none->H' b=none)
  (tups:∀ b xs,H1 b=some (.tup xs)->H' b=some (.tup xs)) (frzs:∀ b o u,H1 b=some (.frz o u)->H' b=some (.frz o u)) (tbls:∀ b ps,H1 b=some (.tbl ps)->∃ more,H' b=some (.tbl (ps++more)))
  (hok:HOk X.prog X.w H' h'') (inH:∀ b o,h''.get? b=some o->H' b≠none->B.get? b=some o)
  (th:∀ b o,s1.heap.get? b=some o->H1 b≠none->∃ o',h''.get? b=some o')
  (inB:∀ b o,s1.heap.get? b=some o->b∉frs X.outer->b≠X.env.locals->∃ o',B.get? b=some o')
  (new:s1.heap.get? ea=none) (nt:H' ea=none) :
  aL5 X.prog X.w X.outer X.H₀ X.s₀ ea cls H' B a0 ⟨h'',g',d',t',os'⟩:=by
 have hxn:∀ b:Addr,b∉X.ex:=fun b z=>by rw [hx] at z;cases z
 have neL:∀ b o,X.s₀.heap.get? b=some o->b≠X.env.locals:=fun b o e=>aRa (aRc (aQw e) I.ok.above)
 have st:=fly.1
 refine ⟨ho,hg,⟨fun b o e n hb _=>?_,fun b o e n hb _=>?_,fun b o e n _=>?_,fun b o e _=>?_,fun b xs e=>tups b xs (I.base.tups b xs e),fun b o u e=>frzs b o u (I.base.frzs b o u e),fun b ps e=>?_⟩,hok,fly,fun b o e hb=>?_,?_,nt⟩
 ·exact st b o (kp b o (I.base.keep b o e n hb (hxn b)) (I.base.free b o e n (hxn b)) hb (neL b o e))
 ·obtain ⟨l1,e1⟩:=I.base.slot b o e n hb (hxn b)
  obtain ⟨l2,e2⟩:=sl b _ e1 hb
  exact ⟨l2,e2⟩
 ·obtain ⟨o1,e1⟩:=I.base.there b o e (hxn b)
  exact fr b o1 e1 (I.base.free b o e n (hxn b))
 ·obtain ⟨o1,e1⟩:=I.base.there b o e (hxn b)
  by_cases hb:b∈frs X.outer
  ·obtain ⟨l2,e2⟩:=sl b o1 e1 hb
   exact ⟨_,e2⟩
  ·obtain ⟨o2,e2⟩:=inB b o1 e1 hb (neL b o e)
   exact ⟨o2,st b o2 e2⟩
 ·obtain ⟨m1,e1⟩:=I.base.tbls b ps e
  obtain ⟨m2,e2⟩:=tbls b _ e1
  exact ⟨m1++m2,by rw [e2,aV3]⟩
 ·rcases hb with hb | ⟨⟨u,hu⟩,hb⟩
  ·exact inH b o e hb
  ·obtain ⟨o1,e1⟩:=I.base.there b u hu (hxn b)
   obtain ⟨o2,e2⟩:=inB b o1 e1 hb (neL b u hu)
   have e3:=st b o2 e2
   have e4:h''.get? b=some o:=e
   rw [e3] at e4
   cases e4
   exact e2
 ·cases q:X.s₀.heap.get? ea with
  | none=>rfl
  | some o =>
   obtain ⟨o',e'⟩:=I.base.there ea o q (hxn ea)
   rw [new] at e'
   cases e'
theorem aM7:sF (CXr P w) (j8 (CXr P w) P w K mg base N qual scope f cd A outer s H E) E:=by
 intro pins σ H1 s1 e s1' I h
 obtain ⟨ea,cls,H',B,a0,rfl,F,want⟩:=h
 have hfr:(j8 (CXr P w) P w K mg base N qual scope f cd A outer s H E).A.frames=some (envOfC qual scope s.heap.objs.size f cd :: outer):=I.ok.frames
 have hstk:frs (j8 (CXr P w) P w K mg base N qual scope f cd A outer s H E).stack=s.heap.objs.size :: frs outer:=qQ rfl
 have hLo:s.heap.objs.size∉frs outer:=fun z=>by
  obtain ⟨_,o,ho,_⟩:=I.ok.funs.mem z
  exact absurd (aQw ho) (aRt _)
 have nst:∀ {b:Addr},b∉frs outer->b≠s.heap.objs.size->b∉frs (j8 (CXr P w) P w K mg base N qual scope f cd A outer s H E).stack:=fun h1 h2 z=>by
  rw [hstk] at z
  rcases aQy.mp z with z | z
  ·exact h2 z
  ·exact h1 z
 show wpAny (model P w) _ (leaving _ (.ref ea)) _ _ s1'
 refine wpAny_leaves_onW hfr rfl F.fly fun h'' fl' up=>?_
 have inB':∀ b o,s1'.heap.get? b=some o->H' b≠none->h''.get? b=some o:=fun b o e n=>fl'.1 b o (F.inB b o e (.inl n))
 refine ⟨ea,cls,H',B,a0,rfl,vK (X:=j8 (CXr P w) P w K mg base N qual scope f cd A outer s H E) I rfl hLo (F.os.trans I.os) F.bare fl' (fun b o e n hb hL=>?_) (fun b o e hb=>?_) (fun b o e n=>F.un.free b o e n (by simp)) F.un.tups F.un.frzs F.un.tbls
  (rM F.hok fun b o n e=>inB' b o e n) (fun b o e n=>?_) (fun b o e n=>?_) (fun b o e hb hL=>?_) F.new F.nt,want⟩
 ·exact F.inB b o (F.un.keep b o e n (nst hb hL) (by simp)) (.inr ⟨⟨o,e⟩,nst hb hL⟩)
 ·have hb':b∈frs outer:=hb
  have n:H1 b=none:=by
   have:=I.stkFree b (by rw [hstk];exact aRl _ hb')
   exact this
  obtain ⟨l1,e1⟩:=F.un.slot b o e n (by rw [hstk];exact aRl _ hb') (by simp)
  obtain ⟨_,o',ho',hd'⟩:=F.fly.2.2.1.mem (b:=b) (by
   have:b∈frs (j8 (CXr P w) P w K mg base N qual scope f cd A outer s H E).stack:=by rw [hstk];exact aRl _ hb'
   exact this)
  rw [e1] at ho'
  cases ho'
  obtain ⟨l2,e2⟩:=up b _ e1 hd'
  exact ⟨l2,e2⟩
 ·obtain ⟨o1,e1⟩:=F.hok.there n
  have e2:=F.inB b o1 e1 (.inl n)
  have e3:=fl'.1 b o1 e2
  rw [e] at e3
  cases e3
  exact e2
 ·obtain ⟨o1,e1⟩:=F.un.there b o e (by simp)
  by_cases hb:b∈frs outer
  ·have hz:H1 b=none:=I.stkFree b (by rw [hstk];exact aRl _ hb)
   exact absurd hz n
  ·by_cases hL:b=s.heap.objs.size
   ·have hz:H1 b=none:=I.stkFree b (by rw [hstk,hL];exact aTc)
    exact absurd hz n
   ·exact ⟨o1,fl'.1 b o1 (F.inB b o1 e1 (.inr ⟨⟨o,e⟩,nst hb hL⟩))⟩
 ·obtain ⟨o1,e1⟩:=F.un.there b o e (by simp)
  exact ⟨o1,F.inB b o1 e1 (.inr ⟨⟨o,e⟩,nst hb hL⟩)⟩
def aCz(X:Cx)(E:XK):Prop:=∀ (pins:List (Addr×Obj)) (σ:St) (H:Hp) (s:Shared) (C:Addr) (h':Heap) (e:Addr) (vs:List Value),Inv X pins σ H s->Heap.MadeExcOf s.heap h' e (.ref C) vs->E (.ref C) none H->X.xe (.ref e) { s with heap:=h' }
theorem aHj:aCz (j8 (CXr P w) P w K mg base N qual scope f cd A outer s H E) E:=by
 intro pins σ H1 s1 C h' e vs I hx want
 have hstk:frs (j8 (CXr P w) P w K mg base N qual scope f cd A outer s H E).stack=s.heap.objs.size :: frs outer:=qQ rfl
 have hfr:(j8 (CXr P w) P w K mg base N qual scope f cd A outer s H E).A.frames=some (envOfC qual scope s.heap.objs.size f cd :: outer):=I.ok.frames
 have hLo:s.heap.objs.size∉frs outer:=fun z=>by
  obtain ⟨_,o,ho,_⟩:=I.ok.funs.mem z
  exact absurd (aQw ho) (aRt _)
 have st:s1.heap.FunFrames base (envOfC qual scope s.heap.objs.size f cd :: outer):=I.stack
 have fin:s1.heap.FunFrames (PySem.W.hideAll s1.heap (s.heap.objs.size :: frs outer)) (envOfC qual scope s.heap.objs.size f cd :: outer) :=
  PySem.W.funFrames_hide st fun env he a ha=>by
   rw [<- hstk]
   exact aUt.mpr ⟨env,he,ha⟩
 have nfr:∀ {b:Addr},H1 b≠none->b∉s.heap.objs.size :: frs outer:=fun n z=>n (I.stkFree _ (by rw [hstk];exact z))
 have nin:∀ {b:Addr},b∉frs outer->b≠s.heap.objs.size->b∉s.heap.objs.size :: frs outer:=fun h1 h2 z=>(aQy.mp z).elim h2 h1
 show wpAny (model P w) _ (leaving _ (.ref e)) _ _ { s1 with heap:=h' }
 refine wpAny_leaves_madeW (base:=PySem.W.hideAll s1.heap (s.heap.objs.size :: frs outer)) (h:=s1.heap) hfr rfl (fun b o q=>PySem.W.of_hideAll _ q) fin hx fun h'' t fl _ _ up=>?_
 refine ⟨e,.ref C,H1,_,.ref t,rfl,vK (X:=j8 (CXr P w) P w K mg base N qual scope f cd A outer s H E) I rfl hLo I.os I.bare fl (fun b o q n hb hL=>aS9 _ q (nin hb hL)) (fun b o q hb=>?_) (fun _ _ _ n=>n) (fun _ _ q=>q) (fun _ _ _ q=>q)
  (fun b ps q=>⟨#[],by rw [q];simp⟩) (rM I.hok fun b o n q=>fl.1 b o (aS9 _ q (nfr n))) (fun b o q n=>?_) (fun b o q n=>⟨o,fl.1 b o (aS9 _ q (nfr n))⟩) (fun b o q hb hL=>⟨o,aS9 _ q (nin hb hL)⟩) hx.new ?_,want⟩
 ·obtain ⟨_,o',ho',hd'⟩:=st.mem (b:=b) (by
   have:b∈frs (envOfC qual scope s.heap.objs.size f cd :: outer):=by
    rw [qQ rfl]
    exact aRl _ hb
   exact this)
  rw [q] at ho'
  cases ho'
  exact up b o (hx.keeps b o q) hd'
 ·obtain ⟨o1,e1⟩:=I.hok.there n
  have e2:=aS9 _ e1 (nfr n)
  have e3:=fl.1 b o1 e2
  rw [q] at e3
  cases e3
  exact e2
 ·cases q:H1 e with
  | none=>rfl
  | some u =>
   obtain ⟨ob,eo⟩:=oP (I.hok e u q)
   rw [hx.new] at eo
   cases eo
end
section
variable {X:Cx}{E:XK}
def aLk(C:Addr)(E:XK)(t:TA):TS:=fun _ σ H=>t σ H fun vs H1=>vs.length<=sizeLine/\E (.ref C) none H1
theorem aDu{x:Str}{e₀:Expr}{rest:List Expr}{t:TA}{C:Addr}{bm:List Value}{B newId initId:String}{np cpos pos:Pos}(hx:aCz X E)(hc:X.calm=true)(hg:Gl X x)(O:OwnCls x C bm newId X.mg X.base)
  (FB:ExcBaseFacts B newId initId bm) (ha:PA X (e₀ :: rest) t) (hdb:(x == ("__debug__" : Str))=false:=by decide)
  (he:starEach (e₀ :: rest) X.env=(false,eval e₀ X.env) :: starEach rest X.env:=by rfl) (hpl:(backTo cpos (starEach rest X.env)).any (·.1)=false:=by rfl) :
  PS X (.Raise (some (.Call (.Name x np) (e₀ :: rest) [] cpos)) none pos) (aLk C E t):=by
 intro pins s σ H D I h
 obtain ⟨tl,NN,nm,qn,bs,hdc,sn,sb,ab,cl,dd,z0,z1,z2,z3,z5,mN,hC,hN,hni,T⟩:=O.obj
 have hp:(backTo cpos (starEach (e₀ :: rest) X.env)).any (·.1)=false:=by
  rw [he]
  show (false || (backTo cpos (starEach rest X.env)).any (·.1))=false
  rw [hpl]
  all_goals rfl
 have h2:=ha cpos pins s σ H _ I h
 refine wpAny_Raise_call_subT (bm:=tl) (N:=NN) (nm:=nm) (q:=qn) (bs:=bs) (hdct:=hdc) (sn:=sn) (sub:=sb) (ab:=ab) (col:=cl) (dd:=dd) (k0:=z0) (k1:=z1) (k2:=z2) (k3:=z3) (k5:=z5) FB (T.hasType FB.hasBase) (I.ok.hd hc) hp hni
  (qL I hg O.bound ⟨rfl,?_⟩ hdb)
 rw [he] at h2 ⊢
 refine Calls.evalArgs_plain (thn h2 fun us s2 ⟨vs,H1,I1,r,z,w'⟩=>?_)
 exact ⟨rfl,by rw [<- r.length];exact z,I1.bk _ _ hC,hN.keeps I1.bk,T.keeps I1.bk,fun h' e hm=>hx pins σ H1 s2 C h' e us I1 hm w'⟩
end
def kI(CX:CXT)(X:Cx)(E:St->XK):Prop:=∀ (pins:List (Addr×Obj)) (σ:St) (H:Hp) (s:Shared) (e:Value) (s':Shared),Inv X pins σ H s->CX X.stack H s (E σ) e s'->X.xe e s'
def aJw(sp:Sp)(E:St->XK)(t:TA):TE:=fun σ H Q=>t σ H fun vs H1=>sp vs H1 Q (E σ)
section
variable {X:Cx}{CX:CXT}{k:Nat}{f:Addr}{fd:FuncData}{ps:List Str}{sp:Sp}{E:St->XK}{x:Str}{p pos:Pos}{e:Expr}{es:List Expr}{t:TA}
theorem aC4(F:FnOk X.prog X.w X.K X.mg X.base CX k f fd ps sp)(hr:Room k X.A)(hg:Gl X x)(hm:X.mg x=some (.ref f))(hk:PySem.W.keepIn X.K (.ref f)=true)(hb:Binds X.K fd ps [])(hx:kI CX X E)
  (ha:PA X (e :: es) t) (hdb:(x == ("__debug__" : Str))=false:=by decide) (he:starEach (e :: es) X.env=(false,eval e X.env) :: starEach es X.env:=by rfl) (hpl:(backTo pos (starEach es X.env)).any (·.1)=false:=by rfl) :
  PE X (.Call (.Name x p) (e :: es) [] pos) (aJw sp E t):=by
 intro pins s σ H Q I h
 refine aSp (qL I hg hm ?_ hdb)
 refine aV5 (h₀:=X.base) I.ok.mod.kin hk (thn (ha pos pins s σ H _ I h) fun us s1 ⟨vs,H1,I1,r,q⟩=>⟨I1.kIn,?_⟩) he hpl
 have hl:us.length=ps.length:=by rw [<- r.length];exact F.len _ _ _ _ q
 have hb':=hb s1 us I1.kIn (by rw [aSo];exact hl)
 rw [aSo] at hb'
 refine wpAny_call (aUr (F.run X.A X.stack s1 H1 ⟨us,[]⟩ us vs Q (E σ) hr I1.env0 hb' r q) fun rr s' hq=>?_)
 cases rr with
 | error e'=>exact hx pins σ H1 s1 e' s' I1 hq
 | ok fl =>
  cases fl with
  | ret u=>exact I1.after hq
  | next=>exact False.elim hq
  | brk=>exact False.elim hq
  | cont=>exact False.elim hq
end
section
variable {X:Cx}{k:Nat}{f:Addr}{fd:FuncData}{ps:List Str}{sp:Sp}{x:Str}{p pos:Pos}{e:Expr}{es:List Expr}{t:TA}
end
def aO1(e:Addr)(cls:Value):HO:=.ext fun h=>∃ o,h.get? e=some o/\o.cls=cls/\∃ vs,o.data=.fields vs
abbrev cS(X:Cx)(scope:Scope)(cl:List (Str×Addr))(C:Addr)(N:List Str)(s₀:Shared)(H₀:Hp)(ex:List Addr)(pn:List (Addr×Obj)):Cx :=
 { X with env:=compEnvC scope cl C X.env,N:=N,s₀:=s₀,H₀:=H₀,outer:=X.stack,stack:=X.stack,ex:=ex,fn:=fun _=>false,pn:=pn,xe:=fun _ _=>False }
structure aIy(X:Cx)(scope:Scope)(cl:List (Str×Addr)):Prop where
 clos:closureFor scope X.env=pure cl
 sub:∀ y c,cl.lookup y=some c->X.env.cells.lookup y=some c
 has:∀ y,(relabel scope X.env).names.lookup y=some .cell\/(relabel scope X.env).names.lookup y=some .free->∃ c,cl.lookup y=some c
def xB(js:List Nat)(σ:St):St:=js.map fun j=>(σ[j]?).getD none
structure o7(X:Cx)(scope:Scope)(cl:List (Str×Addr))(ys:List Str)(js:List Nat):Prop where
 len:ys.length=js.length
 at_:∀ (i:Nat) (y:Str) (j:Nat),ys[i]? = some y->js[i]? = some j->X.N[j]? = some y/\(X.env.kindOf y=some .cell\/X.env.kindOf y=some .free)/\((relabel scope X.env).names.lookup y=some .cell\/(relabel scope X.env).names.lookup y=some .free)/\(X.env.cells.lookup y).isSome=true/\cl.lookup y=X.env.cells.lookup y
section
variable {X:Cx}
end
def Sz(n:Nat)(x:Int):Prop:=x.natAbs < 2 ^ n
theorem Sz.mono{m n:Nat}{x:Int}(h:Sz m x)(l:m<=n):Sz n x:=aRc h (Nat.pow_le_pow_right (by decide) l)
theorem Sz.mul{m n:Nat}{x y:Int}(hx:Sz m x)(hy:Sz n y):Sz (m+n) (x*y):=by
 unfold Sz at *
 rw [Int.natAbs_mul,Nat.pow_add]
 exact Nat.mul_lt_mul'' hx hy
theorem Sz.add{n:Nat}{x y:Int}(hx:Sz n x)(hy:Sz n y):Sz (n+1) (x+y):=by
 unfold Sz at *
 have:=Int.natAbs_add_le x y
 rw [Nat.pow_succ]
 omega
theorem Sz.neg{n:Nat}{x:Int}(hx:Sz n x):Sz n (-x):=by
 unfold Sz at *
 rw [Int.natAbs_neg]
 exact hx
theorem Sz.le{n:Nat}{x y:Int}(hy:Sz n y)(h:x.natAbs<=y.natAbs):Sz n x:=aT2 h hy
def CMulW(i j:Int):Prop:=Sz 60000 i/\Sz 60000 j
theorem CMulW.ok{i j:Int}(h:CMulW i j):IntMulOk i j:=.of_le (intBits_le_iff.mpr h.1) (intBits_le_iff.mpr h.2) (by decide)
def lE(i j:Int):Prop:=j≠0/\Sz 8000 j
section
variable {X:Cx}
theorem bW:OpR X (binaryOp .Mult) (rI CMulW fun i j=>.int (i*j)):=opI fun _ _ _ _ _ _ _ hc q=>mul_int q hc.ok
theorem log2_small{n:Nat}(h:n < 2 ^ 8000):n.log2 < 9000:=by
 by_cases z:n=0
 ·rw [z];decide
 ·have:n.log2 < 8000:=(Nat.log2_lt z).mpr h
  omega
theorem cA:OpR X (binaryOp .FloorDiv) (rI lE fun i j=>.int (i.fdiv j)):=opI fun _ _ _ _ _ _ _ hc q=>floordiv_int hc.1 q (.inl (PyProof.noPylong_of_log2 (log2_small hc.2)))
inductive TyX(K:aQk)(H:Hp):V->Value->Prop where
 | plain {x:V} {t:Value} (h:wV K H x t):TyX K H x t
 | exc {a C:Addr} (e:H a=some (aO1 a (.ref C))) (T:PySem.W.ExcK K C):TyX K H (.ref a) (.ref C)
theorem RelV.tyOrRef{y:V}{c u:Value}(h:(∃ n,y=.ty n)\/∃ a,y=.ref a)(r:RelV y c)(r':RelV y u):u=c:=by
 rcases h with ⟨n,rfl⟩ | ⟨n,rfl⟩
 ·cases r;cases r';rfl
 ·cases r;cases r';rfl
def aJm(K:aQk):List V->Hp->VK->Prop:=fun xs H Q=>∃ x y t c b,xs=[x,y]/\((∃ n,y=.ty n)\/∃ a,y=.ref a)/\TyX K H x t/\RelV y c/\PySem.W.kitOne K t c=some b/\Q (.bl b) H
theorem aC6:lU X (.builtin "isinstance") (aJm X.K):=by
 intro pins s σ H xs us Q I r h
 obtain ⟨x,y,t,c,b,rfl,hy,ty,rc,e,q⟩:=h
 obtain ⟨u,w',rfl,r1,r2⟩:=vals2 r
 have ec:=RelV.tyOrRef hy rc r2
 subst ec
 cases ty with
 | plain ty=>exact aBc I r1 ty e fun tk=>⟨.bl b,H,I.tok _,rfl,q⟩
 | @exc a C ea T =>
  cases (show u=Value.ref a from r1)
  obtain ⟨p,_,_⟩:=(show ObjOk X.prog X.w H s.heap a (aO1 a (.ref C)) from I.hok a _ ea)
  exact aSg (PySem.W.kitx_exc T) I.kIn p e (fun z=>nomatch z) fun tk=>⟨.bl b,H,I.tok _,rfl,q⟩
end
def aQe(K:aQk)(te:TE)(v:V):TE:=fun σ H Q=>te σ H fun x H1=>aJm K [x,v] H1 Q
theorem aJz{X:Cx}{e c:Expr}{te:TE}{v:V}{p pos:Pos}(hg:Gl X "isinstance")(hm:X.mg "isinstance" = none)(he:PE X e te)(hc:PE X c (tC v))(h1:starEach [e,c] X.env=(false,eval e X.env) :: starEach [c] X.env:=by rfl)
  (h2:(backTo pos (starEach [c] X.env)).any (·.1)=false:=by rfl) (h3:starEach [c] X.env=(false,eval c X.env) :: starEach [] X.env:=by rfl):PE X (.Call (.Name "isinstance" p) [e,c] [] pos) (aQe X.K te v):=fun pins s σ H Q I h =>
 xC aC6 hg hm (by decide +kernel) (i8 he (i8 hc mD h3) h1) (by decide) (by decide) h1 h2 pins s σ H Q I h
theorem Fun.okX{P:Program}{w:World}{K:aQk}{mg:Str->Option Value}{base:Heap}{x qual:Str}{st:Stmt}{f:Addr}{fd:FuncData}{N ps:List Str}{k:Nat}{sp:Sp}(F:Fun K x qual st f fd)(S:bV N ps (aQ st))(len:∀ vs H Q E,sp vs H Q E->vs.length=ps.length)
  (hbody:∀ (cdv:Value) (A:Around) (outer:List Env) (s:Shared) (H:Hp) (vs:List V) (Q:VK) (E:XK),Room k (A.deeper (envOfC qual (aQ st) s.heap.objs.size f cdv))->sp vs H Q E ->
   ∃ t,PSs (j8 (CXr P w) P w K mg base N qual (aQ st) f cdv A outer s H E) (dM st) t/\t { nx:=fun _ H'=>Q .non H',rt:=Q } (start N vs) H):FnOk P w K mg base (CXr P w) (k+1) f fd ps sp:=by
 obtain ⟨oc,od,kV,doc,pm,an,cdv,ct,osl,rfl,lk,hcd⟩:=F.ex
 exact aOc lk hcd S len fun A outer s H vs Q E hr hsp=>hbody cdv A outer s H vs Q E hr hsp
theorem Same.upd{H H':Hp}{p:Addr}(h:Same H H')(hp:H' p=none)(o:HO):Same H (upd H' p o):=fun b u q=>by
 have:=h b u q
 rw [bB (dG this hp)]
 exact this
end L2
namespace FR
theorem wA{a b:Int}(ha:0<=a)(hb:0<=b):Int.gcd b (a % b)=Int.gcd a b:=by
 obtain ⟨m,rfl⟩:=aWk ha
 obtain ⟨n,rfl⟩:=aWk hb
 rw [<- Int.natCast_emod,aWl,aWl,Nat.gcd_comm n,<- Nat.gcd_rec,Nat.gcd_comm]
theorem aAl(a b:Int):Int.gcd (if a < 0 then -a else a) (if b < 0 then -b else b)=Int.gcd a b:=by
 split<;>split<;>simp [Int.gcd_neg,Int.neg_gcd]
theorem aAj{a:Int}(ha:0<=a):((Int.gcd a 0:Nat):Int)=a:=by
 rw [Int.gcd_zero_right]
 omega
def sgn(b:Int)(g:Int):Int:=if b < 0 then -g else g
def mk(t b:Int):Int×Int:=(t.fdiv (sgn b (Int.gcd t b)),b.fdiv (sgn b (Int.gcd t b)))
theorem uX{t b:Int}(hb:b≠0):0 < Int.gcd t b:=Int.gcd_pos_of_ne_zero_right t hb
theorem parts(t b:Int)(hb:b≠0):∃ t' b':Int,t=(Int.gcd t b:Int)*t'/\b=(Int.gcd t b:Int)*b'/\Int.gcd t' b'=1:=by
 obtain ⟨t',ht⟩:=Int.gcd_dvd_left t b
 obtain ⟨b',hb'⟩:=Int.gcd_dvd_right t b
 refine ⟨t',b',ht,hb',?_⟩
 have g0:=uX (t:=t) hb
 have e:Int.gcd t b=Int.gcd t b*Int.gcd t' b':=by
  have h:Int.gcd ((Int.gcd t b:Int)*t') ((Int.gcd t b:Int)*b')=(Int.gcd t b:Int).natAbs*Int.gcd t' b':=Int.gcd_mul_left ..
  rw [<- ht,<- hb'] at h
  simpa using h
 have e2:Int.gcd t b*1=Int.gcd t b*Int.gcd t' b':=by omega
 exact (Nat.eq_of_mul_eq_mul_left g0 e2).symm
theorem aEt{t b g t' b':Int}(g0:0 < g)(ht:t=g*t')(hb:b=g*b'):(t.fdiv (sgn b g)=(if b < 0 then -t' else t'))/\(b.fdiv (sgn b g)=if b < 0 then -b' else b'):=by
 unfold sgn
 by_cases h:b < 0
 ·rw [aQt h,aQt h,aQt h]
  have e1:t=(-g)*(-t'):=by rw [ht,Int.neg_mul_neg]
  have e2:b=(-g)*(-b'):=by rw [hb,Int.neg_mul_neg]
  constructor
  ·conv=>lhs;rw [e1]
   exact aTm _ (by omega)
  ·conv=>lhs;rw [e2]
   exact aTm _ (by omega)
 ·rw [aQv h,aQv h,aQv h]
  constructor
  ·conv=>lhs;rw [ht]
   exact aTm _ (by omega)
  ·conv=>lhs;rw [hb]
   exact aTm _ (by omega)
structure Fr(f:Int×Int):Prop where
 pos:1<=f.2
 low:Int.gcd f.1 f.2=1
theorem zQ{t b:Int}(hb:b≠0):Fr (mk t b)/\(mk t b).1*b=t*(mk t b).2:=by
 obtain ⟨t',b',e1,e2,e3⟩:=parts t b hb
 have g0:(0:Int) < (Int.gcd t b:Int):=by have:=uX (t:=t) hb;omega
 obtain ⟨p1,p2⟩:=aEt g0 e1 e2
 have q1:(mk t b).1=if b < 0 then -t' else t':=p1
 have q2:(mk t b).2=if b < 0 then -b' else b':=p2
 have hs:b < 0↔b' < 0:=by
  constructor
  ·intro h
   rcases Int.lt_or_le b' 0 with z | z
   ·exact z
   ·have:=Int.mul_nonneg (Int.le_of_lt g0) z
    omega
  ·intro h
   have:=Int.mul_neg_of_pos_of_neg g0 h
   omega
 have hb':b'≠0:=by
  rintro rfl
  rw [Int.mul_zero] at e2
  exact hb e2
 refine ⟨⟨?_,?_⟩,?_⟩
 ·rw [q2]
  split
  ·rename_i h
   have:=hs.mp h
   omega
  ·rename_i h
   have:¬ b' < 0:=fun z=>h (hs.mpr z)
   omega
 ·rw [q1,q2]
  split
  ·rw [Int.gcd_neg,Int.neg_gcd,e3]
  ·exact e3
 ·rw [q1,q2]
  generalize hg:(Int.gcd t b:Int)=g at *
  rw [e1,e2]
  split
  ·rw [Int.neg_mul,Int.mul_neg,Int.mul_left_comm,Int.mul_assoc]
  ·rw [Int.mul_left_comm,Int.mul_assoc]
end FR
namespace L2
open PySem PySem.Spec PyProof.Rows
theorem aBl{h h':Heap}{o:Obj}(hk:∀ b x,b∉[h.objs.size]->(h.push o).get? b=some x->h'.get? b=some x):∀ b x,h.get? b=some x->h'.get? b=some x:=fun b x e =>
 hk b x (fun m=>aRt _ (aQ1.mp m▸aQw e)) (aQq _ e)
section
variable {X:Cx}
theorem aBp:∀ {bs:List Bool} {us:List Value},Vals (bs.map V.bl) us->us=bs.map Value.bool
 | [],_,.nil=>rfl
 | _ :: _,_,.cons r t=>by
  have e:_=Value.bool _:=r
  rw [e,aBp t];rfl
end
open PySem.W (Dat kqdP kqdPs kqdOk kqd_lay kqd_eqv)
mutual
inductive HasD(H:Hp):V->Dat->Prop
 | int (i:Int):HasD H (.int i) (.int i)
 | tup {a:Addr} {xs:List V} {ds:List Dat}:H a=some (.tup xs)->HasDs H xs ds->HasD H (.ref a) (.tuple ds)
 | lst {a:Addr} {xs:List V} {ds:List Dat}:H a=some (.lst xs)->HasDs H xs ds->HasD H (.ref a) (.list ds)
inductive HasDs(H:Hp):List V->List Dat->Prop
 | nil:HasDs H [] []
 | cons {x:V} {xs:List V} {d:Dat} {ds:List Dat}:HasD H x d->HasDs H xs ds->HasDs H (x :: xs) (d :: ds)
end
mutual
theorem HasD.keep{H H':Hp}(k:∀ a o,H a=some o->H' a=some o):∀ {v:V} {d:Dat},HasD H v d->HasD H' v d
 | _,_,.int i=>.int i
 | _,_,.tup h r=>.tup (k _ _ h) (HasDs.keep k r)
 | _,_,.lst h r=>.lst (k _ _ h) (HasDs.keep k r)
theorem HasDs.keep{H H':Hp}(k:∀ a o,H a=some o->H' a=some o):∀ {v:List V} {d:List Dat},HasDs H v d->HasDs H' v d
 | _,_,.nil=>.nil
 | _,_,.cons h r=>.cons (HasD.keep k h) (HasDs.keep k r)
end
mutual
theorem HasD.reads{P:Program}{w:World}{H:Hp}{h:Heap}(ok:HOk P w H h):∀ {v:V} {d:Dat},HasD H v d->∀ {u:Value},RelV v u->∃ as,Reads h u (kqdP d) as
 | _,_,.int i,_,⟨t,e⟩=>by subst e;exact ⟨_,Reads.int i t⟩
 | _,_,.tup hh r,_,e=>by
  have e:_=Value.ref _:=e
  subst e
  obtain ⟨_,its,rv,o,ho,hc,n,hd⟩:=(show ObjOk P w H h _ _ from ok _ _ hh)
  obtain ⟨as,q⟩:=HasDs.reads ok r rv
  rw [kqdP]
  exact ⟨as,reads_tuple_at ho hc hd (by simpa using q)⟩
 | _,_,.lst hh r,_,e=>by
  have e:_=Value.ref _:=e
  subst e
  obtain ⟨_,its,n,rv,ho⟩:=(show ObjOk P w H h _ _ from ok _ _ hh)
  obtain ⟨as,q⟩:=HasDs.reads ok r rv
  rw [kqdP]
  exact ⟨_,reads_list_at ho rfl rfl (by simpa using q)⟩
theorem HasDs.reads{P:Program}{w:World}{H:Hp}{h:Heap}(ok:HOk P w H h):∀ {vs:List V} {ds:List Dat},HasDs H vs ds->∀ {us:List Value},Vals vs us->∃ as,ReadsAll h us (kqdPs ds) as
 | _,_,.nil,_,.nil=>⟨_,ReadsAll.nil⟩
 | _,_,.cons hd r,_,.cons rv rt=>by
  obtain ⟨as,q⟩:=HasD.reads ok hd rv
  obtain ⟨bs,p⟩:=HasDs.reads ok r rt
  rw [kqdPs]
  exact ⟨_,ReadsAll.cons q p⟩
end
section
variable {X:Cx}
end
def RawD(h:Heap)(d:Addr)(es:Array DictEntry)(ep:Nat):Prop:=∃ o,h.get? d=some o/\o.ExactDict/\o.data=.dict es ep
theorem RawD.at{h h':Heap}{d:Addr}{es:Array DictEntry}{ep:Nat}(x:RawD h d es ep)(k:∀ o,h.get? d=some o->h'.get? d=some o):RawD h' d es ep:=let ⟨o,ho,r⟩:=x;⟨o,k o ho,r⟩
theorem RawD.lt{h:Heap}{d:Addr}{es:Array DictEntry}{ep:Nat}(x:RawD h d es ep):d < h.objs.size:=let ⟨_,ho,_⟩:=x;aQw ho
theorem RawD.ty{s:Shared}{d:Addr}{es:Array DictEntry}{ep:Nat}(x:RawD s.heap d es ep):s.TypeIs (.ref d) "dict":=let ⟨o,ho,hc,_⟩:=x;⟨o,ho,hc.1⟩
section
variable {prog:Program}{w:World}{A:Around}{E:Value->Shared->Prop}{s:Shared}{d it:Addr}{es:Array DictEntry}{ep i:Nat}
theorem aDo{Q:Value->Shared->Prop}(hd:(d == sysModules)=false)(hm:RawD s.heap d es ep)
  (q:Q (.ref s.heap.objs.size) { s with heap:=s.heap.push { cls:=.type "dict_keyiterator",data:=.fields #[.ref d,.int 0 0,.int es.size 0,.int ep 0] } }):wpAny (model prog w) A (pyIter (.ref d)) Q E s:=by
 have ty:=hm.ty
 obtain ⟨o,ho,hc,hdat⟩:=hm
 refine wpAny_pyIter_slot ty F.slot_dict_iter (aS2 F.slot_dict_iter ty F.entry_dict_iter ?_ (F.args_dict_iter_1 _))
 unfold Builtin.«dict.__iter__» Builtin.Dict.dictSlotNone
 refine aQl (aQl (wpAny_notOrdered_dict ty (aQo ?_)))
 unfold Builtin.Dict.showsAll
 refine aQl (m:=Builtin.Dict.addrOf (Value.ref d)) (aQo ?_)
 rw [aQv (by rw [hd];exact aRd)]
 refine aQl (aQo (aQl (aTn ho hdat (aQl (aVs ho hdat ?_)))))
 exact aQl (aUb (aQo ⟨_,rfl,_,_,⟨_,aQ9 _ rfl,rfl⟩,aSn.lookup,q⟩))
theorem aE3{Q:Option Value->Shared->Prop}(hit:s.heap.IsKeyIter it d i es.size ep)(hm:RawD s.heap d es ep)(lt:i < es.size)
  (q:∀ h',h'.IsKeyIter it d (i+1) es.size ep->Heap.SameBut it s.heap h'->Q (some es[i].key) { s with heap:=h' }):wpAny (model prog w) A (pyNext (.ref it)) Q E s:=by
 have ty:=hit.typeIs
 obtain ⟨o,ho,hc,hd⟩:=hit
 obtain ⟨od,hod,_,hdd⟩:=hm
 have own:Builtin.Dict_items.ownsTuple "dict_keyiterator" = false:=by decide
 have nn:¬ ((i:Int) < 0):=Int.not_lt.mpr (Int.natCast_nonneg i)
 unfold pyNext
 refine aQl (wpAny_attempt (aUx (name:=Str.ofString "__next__") ty aSn (aS2 aSn ty aVj ?_ (aVf _))))
 refine aQl (aQo (aQl (aQl ?_)))
 first | refine aQl (aS3 ty (aQo ?_)) | refine aQl (aTo ty (aQo ?_))
 refine aQl (wpAny_fieldsOf ho hd ?_)
 simp only [own,aQ2,aR1]
 show wpAny _ _ (if (Value.ref d == Value.none)=true then _ else _) _ _ s
 rw [aQv (by intro z;cases z)]
 refine aQl (aQo (aQl (aTn hod hdd ?_)))
 rw [aQv (by simp)]
 refine aQl (aQo (aQl (aVs hod hdd ?_)))
 rw [aQv (by simp)]
 refine aQo ?_
 simp only [nn,aR1,aU7,aRf lt]
 refine aQl ?_
 first | refine aQl (aS3 ty (aQo ?_)) | refine aQl (aTo ty (aQo ?_))
 refine aQl (wpAny_isOneOf_keyiter ty ?_)
 refine aQl (m:=setField (.ref it) 1 (rawInt ((i:Int)+1))) (wpAny_setField ho hd (by simp) ?_)
 have hit':(s.heap.update it (Obj.mapFields (·.setIfInBounds 1 (rawInt ((i:Int)+1))))).IsKeyIter it d (i+1) es.size ep :=
  ⟨_,aT6 _ ho (Obj.isFreed_of_fields (Obj.data_mapFields hd _)),(Obj.cls_mapFields ..).trans hc,(Obj.data_mapFields hd _).trans (by simp [rawInt])⟩
 refine aQl (aSa (aQl (wpAny_isOneOf_keyiter (s:={ s with heap:=s.heap.update it (Obj.mapFields (·.setIfInBounds 1 (rawInt ((i:Int)+1)))) }) hit'.typeIs ?_)))
 exact aQo (aQo ⟨_,rfl,aQo (q _ hit' (aTs ..))⟩)
theorem aGn{Q:Option Value->Shared->Prop}(hh:A.handled=none)(hit:s.heap.IsKeyIter it d es.size es.size ep)(hm:RawD s.heap d es ep)(q:∀ h',Heap.ExtBut it s.heap h'->Q none { s with heap:=h' }):wpAny (model prog w) A (pyNext (.ref it)) Q E s:=by
 have ty:=hit.typeIs
 obtain ⟨o,ho,hc,hd⟩:=hit
 obtain ⟨od,hod,_,hdd⟩:=hm
 have own:Builtin.Dict_items.ownsTuple "dict_keyiterator" = false:=by decide
 have nn:¬ ((es.size:Int) < 0):=Int.not_lt.mpr (Int.natCast_nonneg _)
 unfold pyNext
 refine aQl (wpAny_attempt (aUx (name:=Str.ofString "__next__") ty aSn (aS2 aSn ty aVj ?_ (aVf _))))
 refine aQl (aQo (aQl (aQl ?_)))
 first | refine aQl (aS3 ty (aQo ?_)) | refine aQl (aTo ty (aQo ?_))
 refine aQl (wpAny_fieldsOf ho hd ?_)
 simp only [own,aQ2,aR1]
 show wpAny _ _ (if (Value.ref d == Value.none)=true then _ else _) _ _ s
 rw [aQv (by intro z;cases z)]
 refine aQl (aQo (aQl (aTn hod hdd ?_)))
 rw [aQv (by simp)]
 refine aQl (aQo (aQl (aVs hod hdd ?_)))
 rw [aQv (by simp)]
 refine aQo ?_
 simp only [nn,aR1,aU7,aT0 (aQu es.size)]
 refine aQl ?_
 first | refine aQl (aS3 ty (aQo ?_)) | refine aQl (aTo ty (aQo ?_))
 refine aQl (m:=setField (.ref it) 0 .none) (wpAny_setField ho hd (by simp) ?_)
 refine aQl (m:=newExc (.type "StopIteration") []) ?_
 simp only [newExc,newTuple]
 refine aQl (aUb (aQl (m:=firstArgMember _ _) (aU8 (a:=Value.none) (by first | rfl | (simp only [firstArgMember];rfl)) ?_)) (by size_fits))
 refine aUb ?_ (by size_fits)
 simp only [raiseNew]
 refine aQl (wpAny_handled ?_)
 rw [show A.in1.handled=none from hh]
 refine aQl (aQo (wpAny_throw ?_))
 refine aQl (aTw (T:="StopIteration") (b:=true) ⟨_,aQ9 _ rfl,rfl⟩ isSubtype_stop ?_)
 exact aQo (q _ (((aTs ..).extBut.push _).push _))
theorem aB7(hh:A.handled=none)(I d:Addr)(hne:d≠I)(es:Array DictEntry)(ep:Nat) :
  Walks prog w A I [I,d] [I] es.size (fun i v=>∃ e,es[i]? = some e/\v=e.key) (fun i h=>h.IsKeyIter I d i es.size ep/\RawD h d es ep) where
 sub:=fun b hb=>aQy.mpr (.inl (aQ1.mp hb))
 frame:=fun _ _ _ st hk=>⟨st.1.at fun o e=>hk I (by simp) o e,st.2.at fun o e=>hk d (by simp) o e⟩
 item:=fun i s Q E hi st hQ=>aE3 st.1 st.2 hi fun h' hit' sb=>hQ _ h' s.toks ⟨es[i],by simp [hi],rfl⟩ ⟨hit',st.2.at fun o e=>(sb.2 d hne).trans e⟩ fun b o hb e=>(sb.2 b fun z=>hb (by simp [z])).trans e
 done:=fun s Q E st hQ=>aGn hh st.1 st.2 fun h' he'=>hQ h' s.toks fun b o hb e=>he' b o (fun z=>hb (by simp [z])) e
 self:=fun _ _ _ _ st hQ=>wpAny_pyIter_keyiter st.1 hQ
theorem aH3(lo:(d == sysModules)=false):PySem.W.KdlSrc prog w "dict" d d es.size (fun i v=>∃ e,es[i]? = some e/\v=e.key) (fun h=>RawD h d es ep) where
 type:=fun _ hm=>hm.ty
 there:=fun _ hm=>⟨hm.lt,hm.lt⟩
 keep:=fun _ _ hm hk=>hm.at fun o e=>hk d (.inl rfl) o e
 notList:=by decide
 notTuple:=by decide
 hint:=fun _ _ _ _ hm hq=>PySem.W.kdl_hint_dict hm.ty hq
 iter:=fun _ _ hh hm=>⟨_,_,(fun _ _ hq=>aDo lo hm hq),aB7 hh _ d (aRa hm.lt) es ep,⟨⟨_,aQ9 _ rfl,rfl,rfl⟩,hm.at fun o e=>aQq _ e⟩⟩
end
section
variable {prog:Program}{w:World}{A:Around}{R:Result->Shared->Prop}{s:Shared}
abbrev zJ(ifs:List Expr)(env:Env):Sem Bool:=forIn ifs true fun c r=>if r=true then do let ok <- isTrue c env (eval c env);pure (ForInStep.yield ok) else pure (ForInStep.yield r)
theorem zW{elt target iter:Expr}{ifs:List Expr}{scope:Scope}{pos:Pos}{it acc:Value}{env:Env}(I:Nat->Shared->Prop)
  (turn:∀ n s,I n s->wpAny (model prog w) A (pyNext it) (fun r s₁=>match r with
   | none=>R (.ok .next) s₁
   | some v=>wpAny (model prog w) A (letOwnedTupleGo target it v) (fun _ s₀=>wpAny (model prog w) A (assign target env v) (fun _ s₂ =>
     wpAny (model prog w) A (zJ ifs env) (fun ok s₃ =>
      if ok=true then wpAny (model prog w) A (eval elt env) (fun x s₄ =>
       wpAny (model prog w) A (call (.builtin "list.append") [acc,x]) (fun _ s₅=>∃ m,m < n/\I m s₅) (fun _ _=>False) s₄) (fun _ _=>False) s₃
      else ∃ m,m < n/\I m s₃) (fun _ _=>False) s₂) (fun _ _=>False) s₀) (fun _ _=>False) s₁) (fun _ _=>False) s)
  (n:Nat) (h:I n s):codeAny (model prog w) A (.compLoop (.ListComp elt [⟨target,iter,ifs,0⟩] scope pos) 0 it acc env) R s:=by
 refine codeAny_loop rfl I (fun n s hI=>?_) n h
 show wpAny _ A ((compTurn (.ListComp elt [⟨target,iter,ifs,0⟩] scope pos) 0 it acc env).onRaise (fun x=>do noteFrame x env;theTreesLotGoes x)) _ _ s
 refine wpAny_noted ?_
 rw [compTurn_list]
 refine aQl (aWj (aQl (aR4 (turn n s hI) (fun r s₁ h₁=>?_) fun _ _ z=>z.elim)))
 cases r with
 | none=>exact aQo h₁
 | some v =>
  refine aQl (aR4 h₁ (fun _ s₀ h₀=>?_) fun _ _ z=>z.elim)
  refine aQl (aR4 h₀ (fun _ s₂ h₂=>aQl (aR4 h₂ (fun ok s₃ h₃=>?_) fun _ _ z=>z.elim)) fun _ _ z=>z.elim)
  cases ok with
  | false=>exact aQo ⟨rfl,h₃⟩
  | true =>
   exact aQl (aQl (aR4 h₃ (fun x s₄ h₄=>aQl (aR4 h₄ (fun _ s₅ h₅=>aQo (aQo ⟨rfl,h₅⟩)) fun _ _ z=>z.elim)) fun _ _ z=>z.elim))
end
def PTs(X:Cx)(ifs:List Expr)(t:TT):Prop :=
 ∀ (pins:List (Addr×Obj)) (s:Shared) (σ:St) (H:Hp) (Q:Bool->Hp->Prop),Inv X pins σ H s->t σ H Q->wpAny (model X.prog X.w) X.A (zJ ifs X.env) (TP X pins σ Q) X.xe s
def aQf:TT:=fun _ H Q=>Q true H
theorem aHy{X:Cx}:PTs X [] aQf:=fun _ _ _ H _ I h=>wpAny_tests_nil ⟨H,I,h⟩
def xF(wi:TI)(g:TG)(tt:TT)(te:TE)(n:Nat)(js:List Nat):TE:=fun σ H Q=>wi σ H fun J H1=>∀ D,H1 D=none->∃ (N:Nat) (W:Nat->List V->Hp->Prop),W 0 [] (upd H1 D (.lst []))/\∀ i ys H2,W i ys H2 ->
 (J.stop i H2/\Q (.ref D) H2)\/(i < N/\J.go i H2/\∀ v H3,J.yld i H2 v H3->g v (List.replicate n none++xB js σ) H3 fun σ2 H4=>(σ2.length=n+js.length/\σ2.drop n=xB js σ)/\tt σ2 H4 fun b H5 =>
  if b=true then te σ2 H5 fun y H6=>H6 D=some (.lst ys)/\ys.length < sizeLine/\W (i+1) (ys++[y]) (upd H6 D (.lst (ys++[y]))) else W (i+1) ys H5)
section
variable {X:Cx}
theorem Inv.but{pins:List (Addr×Obj)}{σ:St}{H:Hp}{s:Shared}{C:Addr}{h':Heap}(I:Inv X pins σ H s)(f:aDc X pins H C)(hs:Heap.SameBut C s.heap h'):Inv X pins σ H { s with heap:=h' }:=by
 have ne:∀ b,b∉[C]->b≠C:=fun b hb z=>hb (by rw [z];exact .head _)
 refine I.call' (s':={ s with heap:=h' }) (ch:=[C]) rfl ⟨fun b o e n hb hx=>(hs.2 b (ne b hx)).trans e,fun b o e n hb hx=>⟨o.slots,(hs.2 b (ne b hx)).trans e⟩,fun b o e n hx=>n,fun b o e hx=>⟨o,(hs.2 b (ne b hx)).trans e⟩,fun b xs e=>e,fun b o u e=>e,fun b ps e=>⟨#[],by rw [Array.append_empty];exact e⟩⟩ (rM I.hok fun b o nn e=>(hs.2 b (fun z=>nn (by rw [z];exact f.1))).trans e) I.bare fun b hb=>?_
 rw [aQ1.mp hb]
 exact ⟨f.2.2.2.1,f.2.1,f.2.2.2.2.1,f.2.2.2.2.2⟩
set_option maxHeartbeats 8000000 in
theorem r0{elt iter tg:Expr}{pos:Pos}{scope:Scope}{ifs:List Expr}{wi:TI}{g:TG}{tt:TT}{te:TE}{xs ys:List Str}{js:List Nat}{cl:List (Str×Addr)}(hc:X.calm=true)(hi:PI X tg iter wi)
  (hcl:aIy X scope cl) (hcap:o7 X scope cl ys js) (hcell:∀ y∈scope.names,y.2≠.cell) (hkind:scope.kind=.function) (hnames:∀ y∈scope.names,y.2=.local->scope.names.lookup y.1=some .local)
  (hg:∀ C s₀ H₀ ex pn,PG (cS X scope cl C (xs++ys) s₀ H₀ ex pn) tg g) (ht:∀ C s₀ H₀ ex pn,PTs (cS X scope cl C (xs++ys) s₀ H₀ ex pn) ifs tt) (hb:∀ C s₀ H₀ ex pn,PE (cS X scope cl C (xs++ys) s₀ H₀ ex pn) elt te)
  (hs:∀ x,foldedSetIterable iter X.env x=pure x) {use:Option (Value->Sem Unit)} {QQ:Value->Shared->Prop} {Q:VK} {pins:List (Addr×Obj)} {s:Shared} {σ:St} {H:Hp} {cp:Pos} (I:Inv X pins σ H s)
  (aLd:∀ (C D:Addr) (s':Shared) (H':Hp),Inv X pins σ H' s'->aDc X pins H' C->(∃ m,s'.heap.Ns C m)->Q (.ref D) H'->compPost (model X.prog X.w) X.A X.xe use QQ (.ref D) C (.ok .next) s')
  (h:xF wi g tt te xs.length js σ H Q) :
  wpAny (model X.prog X.w) X.A (comprehension (.ListComp elt [⟨tg,iter,ifs,0⟩] scope pos) scope X.env cp (newList []) false (eval iter X.env) use) QQ X.xe s:=by
 refine wpAny_comprehension_free rfl hs hcl.clos hkind hnames (thn (hi pins s σ H _ I h) fun v s1 h1=>thn h1 fun itv s2 h2=>?_)
 obtain ⟨it,fp,tn,J,H2,e,I2,T,st2,f2,q2⟩:=h2
 subst e
 obtain ⟨n,W,w0,turn⟩:=q2 s2.heap.objs.size I2.fresh
 refine aUb (wpAny_newFunctionEnv hcell (by intro y hy;simp at hy) (fun h₁ hns₁ hsb₁=>?_) hkind)
 dsimp only at hns₁ hsb₁ ⊢
 have I3:=I2.lnew (ys:=[]) (its:=[]) (t':=s2.toks) .nil (aRj _)
 generalize hg3:s2.heap.push { cls:=.type "list",dict:=none,data:=.seq ([]:List Value).toArray }=g3 at hns₁ hsb₁ I3 ⊢
 have sz3:g3.objs.size=s2.heap.objs.size+1:=by rw [<- hg3,aWa]
 generalize hC:g3.objs.size=C at hns₁ hsb₁ ⊢
 have old3:∀ b o,g3.get? b=some o->h₁.get? b=some o:=fun b o q=>hsb₁.extBut b o (by rw [<- hC];exact aRa (aQw q)) (aQq _ q)
 have old2:∀ b o,s2.heap.get? b=some o->g3.get? b=some o:=fun b o q=>by rw [<- hg3];exact aQq _ q
 have fpl:∀ b∈fp,∃ o,s2.heap.get? b=some o/\∀ v,o.data≠.cell v:=T.obj _ _ st2
 have fplt:∀ b∈fp,b < s2.heap.objs.size:=fun b hb=>let ⟨o,q,_⟩:=fpl b hb;aQw q
 have H3n:∀ b,b≠s2.heap.objs.size->upd H2 s2.heap.objs.size (.lst []) b=H2 b:=fun b hb=>bB hb
 have fp3:∀ b∈fp,upd H2 s2.heap.objs.size (.lst []) b=none:=fun b hb=>by rw [H3n b (aRa (fplt b hb))];exact (f2 b hb).1
 have okX:=I3.ok
 have inj:∀ y z c,cl.lookup y=some c->cl.lookup z=some c->y=z:=fun y z c h1 h2=>okX.inj y z c (hcl.sub y c h1) (hcl.sub z c h2)
 have cellE:∀ y c,cl.lookup y=some c->∃ v,g3.IsCell c v:=fun y c q=>I3.cell y c (hcl.sub y c q)
 have st3:g3.FunFrames X.base X.stack:=I3.stack
 have exlt:∀ b∈fp,b≠C:=fun b hb=>by rw [<- hC,sz3];exact aRa (Nat.lt_succ_of_lt (fplt b hb))
 have frlt:∀ b∈frs X.stack,b < g3.objs.size:=fun b hb=>let ⟨_,o,q,_⟩:=st3.mem hb;aQw q
 have okB:(cS X scope cl C (xs++ys) { s2 with heap:=g3 } (upd H2 s2.heap.objs.size (.lst [])) fp (X.pn++pins)).Ok:=by
  refine ⟨okX.mod,hkind,okX.glob,okX.blt,aT4 hC,inj,fun y hy=>hcl.has y hy,(fun y c hf _=>nomatch hf),okX.hd,okX.frames,.inl rfl,fun b hb=>⟨exlt b hb,fun y c q z=>?_⟩,I3.bs,aR0 okX.bsz I3.sz,fun b o q hb=>?_,fun b hb=>?_,st3,I3.stkFree,I3.tab⟩
  ·subst z
   exact (f2 c hb).2.2.2.2.1 y c (hcl.sub y c q) rfl
  ·rcases (f2 b hb).2.2.2.1 with z | z
   ·exact okX.noex b o q z
   ·have:=aQw (okX.bs b o q).1
    exact absurd (aRc this z) (aRt _)
  ·intro hz
   rcases aQy.mp (I3.stkSub b hz) with z | z
   ·exact (f2 b hb).2.1 z
   ·exact (f2 b hb).2.2.1 z
 have tot:∀ tk:Nat,Inv (cS X scope cl C (xs++ys) { s2 with heap:=g3 } (upd H2 s2.heap.objs.size (.lst [])) fp (X.pn++pins)) [] (List.replicate xs.length none++xB js σ) (upd H2 s2.heap.objs.size (.lst [])) { s2 with heap:=h₁,toks:=tk }:=fun tk=>by
  refine ⟨okB,rfl,I3.bare,Un.kept old3,⟨_,hns₁,fun i y v' e1 e2 e3=>?_⟩,fun y c q=>?_,I3.hok.fresh (aT4 hC),fun y c q=>?_,fun p hp=>?_,I3.hok.kept old3,?_⟩
  ·by_cases hix:i < xs.length
   ·rw [aRo (by rw [aRm];exact hix),aS5] at e2
    split at e2<;>cases e2
   ·have hix':xs.length<=i:=by omega
    obtain ⟨k,rfl⟩:∃ k,i=xs.length+k:=⟨i - xs.length,by omega⟩
    have e1':ys[k]? = some y:=by
     rw [aRb (by omega)] at e1
     simpa using e1
    have e2':(xB js σ)[k]? = some (some v'):=by
     rw [aRb (by rw [aRm];omega),aRm] at e2
     simpa using e2
    unfold xB at e2'
    rw [aQ0] at e2'
    cases ej:js[k]? with
    | none=>rw [ej] at e2';cases e2'
    | some j =>
     rw [ej] at e2'
     have e2'':(σ[j]?).getD none=some v':=aQ7 e2'
     have eσ:σ[j]? = some (some v'):=by
      cases es:σ[j]? with
      | none=>rw [es] at e2'';cases e2''
      | some z=>rw [es] at e2'';have:z=some v':=e2'';rw [this]
     obtain ⟨c1,c2,c3,c4,c5⟩:=hcap.at_ k y j e1' ej
     obtain ⟨m0,hn0,hl0⟩:=I3.loc
     obtain ⟨u,r,l⟩:=hl0 j y v' c1 eσ (c2.elim (fun z=>.inr (.inl z)) fun z=>.inr (.inr z))
     refine ⟨u,r,.inr ⟨c3,?_⟩⟩
     rcases l with ⟨l,_⟩ | ⟨_,c,hcc,z⟩
     ·rcases c2 with c2 | c2
      ·rw [c2] at l;cases l
      ·rw [c2] at l;cases l
     ·obtain ⟨o,ho,hd⟩:=z
      exact ⟨c,c5.trans hcc,o,old3 c o ho,hd⟩
  ·obtain ⟨v0,o,ho,hd⟩:=cellE y c q
   exact ⟨v0,o,old3 c o ho,hd⟩
  ·exact I3.freeC y c (hcl.sub y c q)
  ·have hp':p∈X.pn++pins:=by simpa using hp
   obtain ⟨p1,p2,p3,p4,p5⟩:=I3.pin p hp'
   refine ⟨old3 _ _ p1,p2,?_,fun hz=>?_,p5⟩
   ·show p.1≠C
    rw [<- hC]
    exact aRa (aQw p1)
   ·rcases aQy.mp (I3.stkSub p.1 hz) with z | z
    ·exact p3 z
    ·exact p4 z
  ·show (List.replicate xs.length none++xB js σ).length=(xs++ys).length
   unfold xB
   simp [hcap.len]
 have fpB:∀ {H':Hp},(∀ b∈fp,H' b=none)->∀ b∈fp,aDc (cS X scope cl C (xs++ys) { s2 with heap:=g3 } (upd H2 s2.heap.objs.size (.lst [])) fp (X.pn++pins)) [] H' b:=fun hn b hb =>
  ⟨hn b hb,exlt b hb,okB.exfs b hb,.inl hb,(okB.exf b hb).2,fun p hp=>(f2 b hb).2.2.2.2.2 p (by simpa using hp)⟩
 have fin:∀ s':Shared,(∃ i zs σ' H',Inv (cS X scope cl C (xs++ys) { s2 with heap:=g3 } (upd H2 s2.heap.objs.size (.lst [])) fp (X.pn++pins)) [] σ' H' s'/\W i zs H'/\J.stop i H'/\Q (.ref s2.heap.objs.size) H') ->
   compPost (model X.prog X.w) X.A X.xe use QQ (.ref s2.heap.objs.size) C (.ok .next) s':=by
  rintro s' ⟨i,zs,σ',H',Ib,w,stop,q⟩
  obtain ⟨m',hn',_⟩:=Ib.loc
  have ub:=Ib.base
  have un:Un (frs X.stack) fp (upd H2 s2.heap.objs.size (.lst [])) H' g3 s'.heap:=ub
  have IX:Inv X pins σ H' s':=I3.call' (s':=s') (ch:=fp) Ib.os un Ib.hok Ib.bare fun b hb=>⟨(f2 b hb).2.2.2.1,(f2 b hb).2.1,(f2 b hb).2.2.2.2.1,(f2 b hb).2.2.2.2.2⟩
  exact aLd C _ s' H' IX (I3.fpOk (aT4 hC) Ib.free) ⟨m',hn'⟩ q
 have loop:∀ s₃:Shared,(∃ tk,s₃={ s2 with heap:=h₁,toks:=tk }) ->
   codeAny (model X.prog X.w) X.A (.compLoop (.ListComp elt [⟨tg,iter,ifs,0⟩] scope pos) 0 (.ref it) (.ref s2.heap.objs.size) (compEnvC scope cl C X.env)) (compPost (model X.prog X.w) X.A X.xe use QQ (.ref s2.heap.objs.size) C) s₃:=by
  rintro s₃ ⟨tk,rfl⟩
  refine zW (fun k s'=>∃ i zs H',k=n+1 - i/\i<=n/\Inv (cS X scope cl C (xs++ys) { s2 with heap:=g3 } (upd H2 s2.heap.objs.size (.lst [])) fp (X.pn++pins)) [] (List.replicate xs.length none++xB js σ) H' s'/\tn i s'.heap/\(∀ b∈fp,H' b=none)/\W i zs H')
   ?_ (n+1) ⟨0,[],_,rfl,aRj _,tot tk,T.keep _ _ _ st2 fun b hb o q=>old3 b o (old2 b o q),fp3,w0⟩
  rintro k s' ⟨i,zs,H',rfl,hin,Ib,st,fr,w⟩
  rcases turn i zs H' w with ⟨stop,qq⟩ | ⟨hlt,go,step⟩
  ·refine aR4 (T.done (cS X scope cl C (xs++ys) { s2 with heap:=g3 } (upd H2 s2.heap.objs.size (.lst [])) fp (X.pn++pins)) rfl rfl rfl hc i [] s' _ H' (fun _ _=>False) Ib (fpB fr) st stop) (fun r s4 ⟨hr,I4⟩=>?_) fun _ _ z=>z.elim
   subst hr
   exact fin s4 ⟨i,zs,_,H',I4,w,stop,qq⟩
  ·refine aR4 (T.item (cS X scope cl C (xs++ys) { s2 with heap:=g3 } (upd H2 s2.heap.objs.size (.lst [])) fp (X.pn++pins)) rfl rfl rfl hc i [] s' _ H' (fun _ _=>False) Ib (fpB fr) st go) (fun r s4 ⟨u,hr,h4⟩=>?_) fun _ _ z=>z.elim
   subst hr
   refine aR4 h4 (fun _ s5 ⟨v5,H5,I5,r5,y5,st5,fr5⟩=>?_) fun _ _ z=>z.elim
   have I5':=I5.pinned (fpB fr5) (T.obj _ _ st5)
   have hw5:=step v5 H5 y5
   refine aR4 (hg C _ _ fp (X.pn++pins) _ s5 _ H5 v5 u _ I5' r5 hw5) (fun _ s6 ⟨σ6,H6,I6,⟨hl6,hd6⟩,e6⟩=>?_) fun _ _ z=>z.elim
   have back:∀ {H':Hp} {s':Shared} {pins':List (Addr×Obj)},Inv (cS X scope cl C (xs++ys) { s2 with heap:=g3 } (upd H2 s2.heap.objs.size (.lst [])) fp (X.pn++pins)) pins' σ6 H' s'->Inv (cS X scope cl C (xs++ys) { s2 with heap:=g3 } (upd H2 s2.heap.objs.size (.lst [])) fp (X.pn++pins)) pins' (List.replicate xs.length none++xB js σ) H' s':=fun I'=>by
    refine I'.weak ?_ fun j v' e=>?_
    ·rw [hl6];unfold xB;simp
    ·by_cases hj:j < xs.length
     ·rw [aRo (by rw [aRm];exact hj),aS5] at e
      split at e<;>cases e
     ·rw [aRb (by rw [aRm];omega),aRm,<- hd6,aT3] at e
      rw [<- e]
      congr 1
      omega
   refine aR4 (ht C _ _ fp (X.pn++pins) _ s6 _ _ _ I6 e6) (fun ok s6b ⟨H6b,I6b,e6b⟩=>?_) fun _ _ z=>z.elim
   cases ok with
   | false =>
    rw [aQv aRd]
    have e6c:W (i+1) zs H6b:=by simpa using e6b
    have I8:=back I6b
    refine ⟨n+1 - (i+1),by omega,i+1,zs,_,rfl,hlt,I8.unpinned (pins:=[]),?_,fun b hb=>?_,e6c⟩
    ·exact T.keep _ _ _ st5 fun b hb o q=>(I8.pin (b,o) (aQ5 _ (aQ5 _ (gF hb q)))).1
    ·obtain ⟨o,q,d⟩:=T.obj _ _ st5 b hb
     exact (I8.pin (b,o) (aQ5 _ (aQ5 _ (gF hb q)))).2.1
   | true =>
    rw [aQt rfl]
    have e6c:=e6b
    rw [aQt rfl] at e6c
    refine aR4 (hb C _ _ fp (X.pn++pins) _ s6b _ _ _ I6b e6c) (fun y s7 ⟨yv,H7,I7,r7,hD,hz,w7⟩=>?_) fun _ _ z=>z.elim
    obtain ⟨z7,its,n7,rv7,hl7,e7⟩:=I7.lstM hD
    refine append_at (n:=n7) (its:=its.toArray) e7 (fun h₈ sb8 eD8=>?_) (by rw [aQs,<- hl7];exact aUq hz)
    have I8:Inv _ _ _ (upd H7 s2.heap.objs.size (.lst (zs++[yv]))) { s7 with heap:=h₈,toks:=s7.toks }:=I7.write (x:=s2.heap.objs.size) (e:=s2.heap.objs.size) (by rw [hD];exact trivial) (.inl rfl) (fun b u hb q=>(sb8.2 b hb).trans q) ⟨_,eD8⟩
     ⟨by rw [aQz];exact hz,its++[y],n7+1,rv7.append (.cons r7 .nil),by rw [eD8,List.push_toArray]⟩
    have I9:=back I8
    refine ⟨n+1 - (i+1),by omega,i+1,zs++[yv],_,rfl,hlt,I9.unpinned (pins:=[]),?_,fun b hb=>?_,w7⟩
    ·exact T.keep _ _ _ st5 fun b hb o q=>(I8.pin (b,o) (aQ5 _ (aQ5 _ (gF hb q)))).1
    ·obtain ⟨o,q,d⟩:=T.obj _ _ st5 b hb
     exact (I8.pin (b,o) (aQ5 _ (aQ5 _ (gF hb q)))).2.1
 exact codeAny_compStart_list (loop _ ⟨_,rfl⟩) (T.self _ 0 _ _ _ (T.keep _ _ _ st2 fun b hb o q=>old3 b o (old2 b o q)) (loop _ ⟨_,rfl⟩))
theorem aDp{elt iter tg:Expr}{pos:Pos}{scope:Scope}{ifs:List Expr}{wi:TI}{g:TG}{tt:TT}{te:TE}{xs ys:List Str}{js:List Nat}{cl:List (Str×Addr)}(hc:X.calm=true)(hi:PI X tg iter wi)
  (hcl:aIy X scope cl) (hcap:o7 X scope cl ys js) (hcell:∀ y∈scope.names,y.2≠.cell) (hkind:scope.kind=.function) (hnames:∀ y∈scope.names,y.2=.local->scope.names.lookup y.1=some .local)
  (hg:∀ C s₀ H₀ ex pn,PG (cS X scope cl C (xs++ys) s₀ H₀ ex pn) tg g) (ht:∀ C s₀ H₀ ex pn,PTs (cS X scope cl C (xs++ys) s₀ H₀ ex pn) ifs tt) (hb:∀ C s₀ H₀ ex pn,PE (cS X scope cl C (xs++ys) s₀ H₀ ex pn) elt te)
  (hs:∀ x,foldedSetIterable iter X.env x=pure x:=by intro _;rfl) :
  PE X (.ListComp elt [⟨tg,iter,ifs,0⟩] scope pos) (xF wi g tt te xs.length js):=by
 intro pins s σ H Q I h
 rw [eval_ListComp]
 exact r0 hc hi hcl hcap hcell hkind hnames hg ht hb hs (use:=none) (QQ:=EP X pins σ Q) (Q:=Q) I (fun C D s' H' IX f ⟨m,hn⟩ q=>⟨m,hn,fun h' hs'=>⟨.ref D,H',IX.but f hs',rfl,q⟩⟩) h
theorem aE4{elt iter tg:Expr}{pos py spos:Pos}{scope:Scope}{ifs:List Expr}{wi:TI}{g:TG}{tt:TT}{te:TE}{xs ys:List Str}{js:List Nat}{cl:List (Str×Addr)}{i:Nat}{y:Str}(hN:X.N.Nodup)(hiN:X.N[i]? = some y)(hx:Loc X.env.scope y)(hc:X.calm=true)(hi:PI X tg iter wi)
  (hcl:aIy X scope cl) (hcap:o7 X scope cl ys js) (hcell:∀ y∈scope.names,y.2≠.cell) (hkind:scope.kind=.function) (hnames:∀ y∈scope.names,y.2=.local->scope.names.lookup y.1=some .local)
  (hg:∀ C s₀ H₀ ex pn,PG (cS X scope cl C (xs++ys) s₀ H₀ ex pn) tg g) (ht:∀ C s₀ H₀ ex pn,PTs (cS X scope cl C (xs++ys) s₀ H₀ ex pn) ifs tt) (hb:∀ C s₀ H₀ ex pn,PE (cS X scope cl C (xs++ys) s₀ H₀ ex pn) elt te)
  (hsw:swapsWith (.ListComp elt [⟨tg,iter,ifs,0⟩] scope pos) (some (.Name y py)) spos.line X.env=pure true) (hs:∀ x,foldedSetIterable iter X.env x=pure x:=by intro _;rfl)
  (hf:X.fn y=true\/X.env.scope.names.lookup y=some .local:=by first | exact .inl rfl | exact .inr rfl | assumption) :
  PS X (.Assign [.Name y py] (.ListComp elt [⟨tg,iter,ifs,0⟩] scope pos) spos) (aMn (xF wi g tt te xs.length js) (aHn i)):=by
 intro pins s σ H D I h
 rw [exec_Assign_Name_used _ _ _ _ hsw]
 refine aQl (aWj (aQl ?_))
 show wpAny _ X.A (do let _ <- comprehension (.ListComp elt [⟨tg,iter,ifs,0⟩] scope pos) scope X.env _ (newList []) false (eval iter X.env) (some (assign (.Name y py) X.env))) _ _ s
 refine aQl (aR4 (r0 hc hi hcl hcap hcell hkind hnames hg ht hb hs (use:=some (assign (.Name y py) X.env)) (QQ:=fun _ s'=>∃ σ' H',Inv X pins σ' H' s'/\D.nx σ' H') I (fun C L s' H' IX f ⟨m,hn⟩ q=>?_) h) (fun _ s' hq=>aQo (aQo hq)) fun _ _ e=>e)
 obtain ⟨o,es,ep,ho,hd,hr⟩:=id hn
 have IP:=IX.pinned (fp:=[C]) (fun b hb=>by rw [aQ1.mp hb];exact f) (fun b hb=>by rw [aQ1.mp hb];exact ⟨o,ho,fun v z=>by rw [hd] at z;cases z⟩)
 refine aR4 (aCy (pos:=py) hN hiN hx hf _ s' σ H' (.ref L) (.ref L) _ IP rfl q) (fun _ s2 ⟨σ2,H2,I2,q2⟩=>?_) fun _ _ e=>e
 have pc:=I2.pin (C,o) (aQ5 _ (aQ5 _ (gF (.head _) ho)))
 exact ⟨m,⟨o,es,ep,pc.1,hd,hr⟩,fun h' hs'=>⟨σ2,H2,(I2.unpinned (pins:=pins)).but ⟨pc.2.1,f.2⟩ hs',q2⟩⟩
end
end L2
namespace M
open PySem PySem.Spec PyProof.Rows L2
abbrev D:=PyData
inductive Res(α:Type) where
 | ok (a:α)
 | exc (C:Addr)
 | bad
def Res.bind{α β:Type}(r:Res α)(f:α->Res β):Res β:=match r with
 | .ok a=>f a
 | .exc C=>.exc C
 | .bad=>.bad
def wpR{α:Type}(r:Res α)(Q:α->Prop)(E:Addr->Prop):Prop:=match r with
 | .ok a=>Q a
 | .exc C=>E C
 | .bad=>False
theorem b7{α β:Type}{r:Res α}{f:α->Res β}{Q:β->Prop}{E:Addr->Prop}:wpR (r.bind f) Q E=wpR r (fun a=>wpR (f a) Q E) E:=by cases r<;>rfl
theorem bD{α:Type}{r:Res α}{Q Q':α->Prop}{E E':Addr->Prop}(h:wpR r Q E)(hQ:∀ a,Q a->Q' a)(hE:∀ C,E C->E' C):wpR r Q' E':=by
 cases r with
 | ok a=>exact hQ a h
 | exc C=>exact hE C h
 | bad=>exact h
inductive XV where
 | e (C:Addr)
 | i (C:Addr) (fs:List (Str×D))
inductive L where
 | p (d:D)
 | o (d:D)
 | x (C:XV)
 | h (a:Addr)
inductive Ev where
 | p (d:D)
 | f (d:D)
 | b (d:D)
 | x (C:XV)
def Ev.c:Ev->Ev
 | .f d=>.p d
 | r=>r
abbrev En:=List (Option L)
def kD:Key->D
 | .inl i=>.int i
 | .inr x=>.str x
def tkD(ks:List Key):D:=.tuple (ks.map kD)
mutual
inductive Rep(K:aQk)(G:Hp):V->D->Prop
 | non:Rep K G .non .none
 | bl (b:Bool):Rep K G (.bl b) (.bool b)
 | int (i:Int):Rep K G (.int i) (.int i)
 | str (x:Str):Rep K G (.str x) (.str x)
 | tup {a:Addr} {xs:List V} {ds:List D}:G a=some (.tup xs)->Reps K G xs ds->Rep K G (.ref a) (.tuple ds)
 | lst {a:Addr} {xs:List V} {ds:List D}:Rd G a (.lst xs)->Reps K G xs ds->Rep K G (.ref a) (.list ds)
 | dT {a:Addr} {kv:List (List Key×V)} {kvs:List (D×D)}:G a=some (.dT kv)->RepT K G kv kvs->Rep K G (.ref a) (.dict kvs)
 | dK {a:Addr} {kv:List (Key×V)} {kvs:List (D×D)}:G a=some (.dK kv)->RepK K G kv kvs->Rep K G (.ref a) (.dict ((.none,.none) :: kvs))
inductive Reps(K:aQk)(G:Hp):List V->List D->Prop
 | nil:Reps K G [] []
 | cons {x:V} {xs:List V} {d:D} {ds:List D}:Rep K G x d->Reps K G xs ds->Reps K G (x :: xs) (d :: ds)
inductive RepT(K:aQk)(G:Hp):List (List Key×V)->List (D×D)->Prop
 | nil:RepT K G [] []
 | cons {k:List Key} {x:V} {d:D} {kv:List (List Key×V)} {kvs:List (D×D)}:Rep K G x d->RepT K G kv kvs->RepT K G ((k,x) :: kv) ((tkD k,d) :: kvs)
inductive RepK(K:aQk)(G:Hp):List (Key×V)->List (D×D)->Prop
 | nil:RepK K G [] []
 | cons {k:Key} {x:V} {d:D} {kv:List (Key×V)} {kvs:List (D×D)}:Rep K G x d->RepK K G kv kvs->RepK K G ((k,x) :: kv) ((kD k,d) :: kvs)
end
inductive Cont(K:aQk)(G:Hp):HO->D->Prop
 | lst {xs:List V} {ds:List D}:Reps K G xs ds->Cont K G (.lst xs) (.list ds)
 | dT {kv:List (List Key×V)} {kvs:List (D×D)}:RepT K G kv kvs->Cont K G (.dT kv) (.dict kvs)
 | dK {kv:List (Key×V)} {kvs:List (D×D)}:RepK K G kv kvs->Cont K G (.dK kv) (.dict ((.none,.none) :: kvs))
section
variable {K:aQk}{G G' H H':Hp}
theorem jG{a:Addr}{u:HO}(s:Same G G')(h:Rd G a u):Rd G' a u:=by
 rcases h with h | ⟨o,h⟩
 ·exact .inl (s _ _ h)
 ·exact .inr ⟨o,s _ _ h⟩
mutual
theorem Rep.mono(s:Same G G'):∀ {v:V} {d:D},Rep K G v d->Rep K G' v d
 | _,_,.non=>.non
 | _,_,.bl b=>.bl b
 | _,_,.int i=>.int i
 | _,_,.str x=>.str x
 | _,_,.tup h r=>.tup (s _ _ h) (Reps.mono s r)
 | _,_,.lst h r=>.lst (jG s h) (Reps.mono s r)
 | _,_,.dT h r=>.dT (s _ _ h) (RepT.mono s r)
 | _,_,.dK h r=>.dK (s _ _ h) (RepK.mono s r)
theorem Reps.mono(s:Same G G'):∀ {v:List V} {d:List D},Reps K G v d->Reps K G' v d
 | _,_,.nil=>.nil
 | _,_,.cons h r=>.cons (Rep.mono s h) (Reps.mono s r)
theorem RepT.mono(s:Same G G'):∀ {v:List (List Key×V)} {d:List (D×D)},RepT K G v d->RepT K G' v d
 | _,_,.nil=>.nil
 | _,_,.cons h r=>.cons (Rep.mono s h) (RepT.mono s r)
theorem RepK.mono(s:Same G G'):∀ {v:List (Key×V)} {d:List (D×D)},RepK K G v d->RepK K G' v d
 | _,_,.nil=>.nil
 | _,_,.cons h r=>.cons (Rep.mono s h) (RepK.mono s r)
end
theorem Cont.mono(s:Same G G'){o:HO}{d:D}(h:Cont K G o d):Cont K G' o d:=by
 cases h with
 | lst r=>exact .lst (r.mono s)
 | dT r=>exact .dT (r.mono s)
 | dK r=>exact .dK (r.mono s)
theorem Cont.rep{a:Addr}{o:HO}{d:D}(h:Cont K G o d)(e:G a=some o):Rep K G (.ref a) d:=by
 cases h with
 | lst r=>exact .lst (.inl e) r
 | dT r=>exact .dT e r
 | dK r=>exact .dK e r
theorem Reps.length:∀ {xs:List V} {ds:List D},Reps K G xs ds->xs.length=ds.length
 | _,_,.nil=>rfl
 | _,_,.cons _ r=>by rw [aQp,aQp,Reps.length r]
theorem Reps.get:∀ {xs:List V} {ds:List D} {i:Nat} {x:V},Reps K G xs ds->xs[i]? = some x->∃ d,ds[i]? = some d/\Rep K G x d
 | _,_,_,_,.nil,e=>by simp at e
 | _,_,0,_,.cons h _,e=>by simp at e;subst e;exact ⟨_,rfl,h⟩
 | _,_,i+1,_,.cons _ r,e=>by
  have:=Reps.get (i:=i) r (by simpa using e)
  simpa using this
theorem Reps.get':∀ {xs:List V} {ds:List D} {i:Nat} {d:D},Reps K G xs ds->ds[i]? = some d->∃ x,xs[i]? = some x/\Rep K G x d
 | _,_,_,_,.nil,e=>by simp at e
 | _,_,0,_,.cons h _,e=>by simp at e;subst e;exact ⟨_,rfl,h⟩
 | _,_,i+1,_,.cons _ r,e=>by
  have:=Reps.get' (i:=i) r (by simpa using e)
  simpa using this
theorem Reps.append:∀ {xs ys:List V} {ds es:List D},Reps K G xs ds->Reps K G ys es->Reps K G (xs++ys) (ds++es)
 | _,_,_,_,.nil,r=>r
 | _,_,_,_,.cons h t,r=>.cons h (Reps.append t r)
theorem Reps.set{x:V}{d:D}(h:Rep K G x d):∀ {xs:List V} {ds:List D} (i:Nat),Reps K G xs ds->Reps K G (xs.set i x) (ds.set i d)
 | _,_,_,.nil=>.nil
 | _,_,0,.cons _ t=>.cons h t
 | _,_,i+1,.cons q t=>.cons q (Reps.set h i t)
theorem Reps.take:∀ {xs:List V} {ds:List D} (n:Nat),Reps K G xs ds->Reps K G (xs.take n) (ds.take n)
 | _,_,0,_=>.nil
 | _,_,_+1,.nil=>.nil
 | _,_,n+1,.cons h t=>.cons h (Reps.take n t)
theorem Reps.drop:∀ {xs:List V} {ds:List D} (n:Nat),Reps K G xs ds->Reps K G (xs.drop n) (ds.drop n)
 | _,_,0,r=>r
 | _,_,_+1,.nil=>.nil
 | _,_,n+1,.cons _ t=>Reps.drop n t
end
structure Step(G H G' H':Hp):Prop where
 g:Same G G'
 h:Same H H'
 gh:Same G' H'
 new:∀ b,H b≠none->G b=none->G' b=none\/∃ xs,H b=some (.tup xs)
theorem Step.off{G H G' H':Hp}(s:Step G H G' H'){b:Addr}{o:HO}(h:H b=some o)(n:∀ xs,o≠.tup xs)(g:G b=none):G' b=none:=by
 rcases s.new b (by rw [h];exact fun z=>nomatch z) g with z | ⟨xs,z⟩
 ·exact z
 ·rw [h] at z;exact absurd (aQ7 z) (n xs)
theorem oG{H H':Hp}(s:Same H H'){b:Addr}(h:H b≠none):H' b≠none:=by
 cases e:H b with
 | none=>exact absurd e h
 | some o=>rw [s b o e];exact fun z=>nomatch z
theorem Step.refl{G H:Hp}(s:Same G H):Step G H G H:=⟨Same.refl _,Same.refl _,s,fun _ _ h=>.inl h⟩
theorem Step.trans{G H G1 H1 G2 H2:Hp}(a:Step G H G1 H1)(b:Step G1 H1 G2 H2):Step G H G2 H2 :=
 ⟨a.g.trans b.g,a.h.trans b.h,b.gh,fun c hc hg=>by
  rcases a.new c hc hg with z | z
  ·rcases b.new c (oG a.h hc) z with y | ⟨xs,y⟩
   ·exact .inl y
   ·cases e:H c with
    | none=>exact absurd e hc
    | some o =>
     rw [a.h _ _ e] at y
     exact .inr ⟨xs,y⟩
  ·exact .inr z⟩
theorem Step.put{G H:Hp}{a:Addr}{o:HO}(s:Same G H)(e:H a=none):Step G H (upd G a o) (upd H a o) :=
 ⟨Same.upd (Same.refl _) (s.free e) o,Same.upd (Same.refl _) e o,fun b u q=>by
  by_cases z:b=a
  ·subst z;rw [bJ] at q ⊢;exact q
  ·rw [bB z] at q ⊢;exact s b u q,fun b hb hg=>by
  have z:b≠a:=fun z=>hb (z▸e)
  rw [bB z];exact .inl hg⟩
theorem Step.lay{G H:Hp}{a:Addr}{o:HO}(s:Same G H)(e:H a=none):Step G H G (upd H a o) :=
 ⟨Same.refl _,Same.upd (Same.refl _) e o,Same.upd s e o,fun _ _ h=>.inl h⟩
def FRep(K:aQk)(G:Hp):List (Str×V)->List (Str×D)->Prop
 | [],[]=>True
 | g :: gs,f :: fs=>g.1=f.1/\Rep K G g.2 f.2/\FRep K G gs fs
 | _,_=>False
theorem FRep.mono{K:aQk}{G G':Hp}(s:Same G G'):∀ {gs:List (Str×V)} {fs:List (Str×D)},FRep K G gs fs->FRep K G' gs fs
 | [],[],_=>trivial
 | _ :: _,_ :: _,h=>⟨h.1,h.2.1.mono s,FRep.mono s h.2.2⟩
def XOk(K:aQk)(G:Hp)(v:V):XV->Prop
 | .e C=>∃ e,v=.ref e/\G e=some (aO1 e (.ref C))
 | .i C fs=>∃ a dx gs,v=.ref a/\G a=some (.ins C dx gs)/\FRep K G gs fs
theorem XOk.mono{K:aQk}{G G':Hp}(s:Same G G'){v:V}:∀ {x:XV},XOk K G v x->XOk K G' v x
 | .e _,⟨e,h1,h2⟩=>⟨e,h1,s _ _ h2⟩
 | .i _ _,⟨a,dx,gs,h1,h2,h3⟩=>⟨a,dx,gs,h1,s _ _ h2,h3.mono s⟩
def EOk(K:aQk)(W:Addr->Option Nat)(Hs G H:Hp)(v:V):Ev->Prop
 | .p d=>Rep K G v d
 | .f d=>∃ a o,v=.ref a/\Hs a=none/\G a=none/\H a=some o/\Cont K G o d
 | .b d=>∃ a i o,v=.ref a/\W a=some i/\H a=some o/\Cont K G o d
 | .x C=>XOk K G v C
theorem EOk.step{K:aQk}{W:Addr->Option Nat}{Hs Hs' G H G' H':Hp}{v:V}{r:Ev}(h:EOk K W Hs G H v r.c)(s:Step G H G' H'):EOk K W Hs' G' H' v r.c:=by
 cases r with
 | p d=>exact Rep.mono s.g h
 | f d=>exact Rep.mono s.g h
 | b d =>
  obtain ⟨a,i,o,h1,h2,h3,h4⟩:=h
  exact ⟨a,i,o,h1,h2,s.h _ _ h3,h4.mono s.g⟩
 | x C=>exact XOk.mono s.g h
theorem EOk.c{K:aQk}{W:Addr->Option Nat}{G H G1 H1:Hp}{v:V}{r:Ev}(s:Step G H G1 H1)(h:EOk K W H G1 H1 v r):∃ G2,Step G H G2 H1/\EOk K W H G2 H1 v r.c:=by
 cases r with
 | p d=>exact ⟨G1,s,h⟩
 | b d=>exact ⟨G1,s,h⟩
 | x d=>exact ⟨G1,s,h⟩
 | f d =>
  obtain ⟨a,o,rfl,h1,h2,h3,h4⟩:=h
  refine ⟨upd G1 a o,⟨s.g.trans (Same.upd (Same.refl _) h2 o),s.h,fun b u q=>?_,fun b hb hg=>?_⟩,(h4.mono (Same.upd (Same.refl _) h2 o)).rep bJ⟩
  ·by_cases z:b=a
   ·subst z;rw [bJ] at q;rw [h3];exact q
   ·rw [bB z] at q;exact s.gh b u q
  ·have z:b≠a:=fun z=>hb (z▸h1)
   rw [bB z];exact s.new b hb hg
structure SimH(B G0 G:Hp)(W:Addr->Option Nat)(H:Hp):Prop where
 gh:Same G H
 bh:Same B H
 g0:Same G0 G
 gb:∀ b,G b≠none->G0 b≠none\/B b=none\/∃ xs,B b=some (.tup xs)
 wf:∀ a i,W a=some i->G a=none/\B a=none/\∃ o,H a=some o/\∀ xs,o≠.tup xs
theorem SimH.step{B G0 G H G' H':Hp}{W:Addr->Option Nat}(s:SimH B G0 G W H)(t:Step G H G' H'):SimH B G0 G' W H':=by
 refine ⟨t.gh,s.bh.trans t.h,s.g0.trans t.g,fun b hb=>?_,fun a i e=>?_⟩
 ·by_cases z:G b=none
  ·refine .inr ?_
   by_cases y:H b=none
   ·exact .inl (s.bh.free y)
   ·rcases t.new b y z with q | ⟨xs,q⟩
    ·exact absurd q hb
    ·cases e:B b with
     | none=>exact .inl rfl
     | some o=>rw [s.bh _ _ e] at q;exact .inr ⟨xs,q⟩
  ·exact s.gb b z
 ·obtain ⟨h1,h2,o,h3,h4⟩:=s.wf a i e
  exact ⟨t.off h3 h4 h1,h2,o,t.h _ _ h3,h4⟩
theorem Cont.mut{K:aQk}{G:Hp}{o:HO}{d:D}(h:Cont K G o d):∀ xs,o≠.tup xs:=by
 intro xs z
 subst z
 cases h
def Slot(K:aQk)(W:Addr->Option Nat)(G H:Hp)(i:Nat)(v:V):L->Prop
 | .p d=>Rep K G v d
 | .o d=>∃ a o,v=.ref a/\W a=some i/\H a=some o/\Cont K G o d
 | .x C=>XOk K G v C
 | .h a=>v=.ref a
def SimS(K:aQk)(W:Addr->Option Nat)(G H:Hp)(σ:L2.St)(en:En):Prop:=σ.length=en.length/\∀ i l,en[i]? = some (some l)->∃ v,σ[i]? = some (some v)/\Slot K W G H i v l
theorem Slot.step{K:aQk}{W:Addr->Option Nat}{G H G' H':Hp}{i:Nat}{v:V}{l:L}(h:Slot K W G H i v l)(s:Step G H G' H'):Slot K W G' H' i v l:=by
 cases l with
 | p d=>exact Rep.mono s.g h
 | o d =>
  obtain ⟨a,o,h1,h2,h3,h4⟩:=h
  exact ⟨a,o,h1,h2,s.h _ _ h3,h4.mono s.g⟩
 | x C=>exact XOk.mono s.g h
 | h a=>exact h
theorem SimS.step{K:aQk}{W:Addr->Option Nat}{G H G' H':Hp}{σ:L2.St}{en:En}(h:SimS K W G H σ en)(s:Step G H G' H'):SimS K W G' H' σ en :=
 ⟨h.1,fun i l e=>let ⟨v,e1,e2⟩:=h.2 i l e;⟨v,e1,e2.step s⟩⟩
def PostE(K:aQk)(W:Addr->Option Nat)(G H:Hp)(Q:VK)(r:Ev):Prop:=∀ G' H' v,Step G H G' H'->EOk K W H G' H' v r->Q v H'
def PostB(G H:Hp)(Q:Bool->Hp->Prop)(b:Bool):Prop:=∀ G' H',Step G H G' H'->Q b H'
def EOks(K:aQk)(W:Addr->Option Nat)(Hs G H:Hp):List V->List Ev->Prop
 | [],[]=>True
 | v :: vs,r :: rs=>EOk K W Hs G H v r/\EOks K W Hs G H vs rs
 | _,_=>False
def aDy(K:aQk)(W:Addr->Option Nat)(G H:Hp)(Q:List V->Hp->Prop)(rs:List Ev):Prop:=∀ G' H' vs,Step G H G' H'->EOks K W H G' H' vs rs->Q vs H'
def PostX(E:XK)(G H:Hp)(C:Addr):Prop:=∀ G' H',Step G H G' H'->E (.ref C) none H'
theorem PostE.step{K:aQk}{W:Addr->Option Nat}{G H G' H':Hp}{Q:VK}{r:Ev}(h:PostE K W G H Q r)(s:Step G H G' H'):PostE K W G' H' Q r:=fun G2 H2 v s2 e=>h G2 H2 v (s.trans s2) (by
 cases r with
 | p d=>exact e
 | b d=>exact e
 | x d=>exact e
 | f d =>
  obtain ⟨a,o,h1,h2,h3,h4,h5⟩:=e
  exact ⟨a,o,h1,s.h.free h2,h3,h4,h5⟩)
theorem PostX.step{E:XK}{G H G' H':Hp}{C:Addr}(h:PostX E G H C)(s:Step G H G' H'):PostX E G' H' C:=fun G2 H2 s2=>h G2 H2 (s.trans s2)
theorem PostB.step{G H G' H':Hp}{Q:Bool->Hp->Prop}{b:Bool}(h:PostB G H Q b)(s:Step G H G' H'):PostB G' H' Q b:=fun G2 H2 s2=>h G2 H2 (s.trans s2)
def tE(K:aQk)(E:L2.St->XK)(f:En->Res Ev):TE:=fun σ H Q=>∃ B G0 G W en,SimH B G0 G W H/\SimS K W G H σ en/\wpR (f en) (PostE K W G H Q) (PostX (E σ) G H)
def DE(X:Cx)(E:L2.St->XK)(e:Expr)(f:En->Res Ev):Prop:=PE X e (tE X.K E f)
theorem DE.out{X:Cx}{E:L2.St->XK}{e:Expr}{f:En->Res Ev}(h:DE X E e f):∃ t,PE X e t/\∀ B G0 G W H σ en Q,SimH B G0 G W H->SimS X.K W G H σ en->wpR (f en) (PostE X.K W G H Q) (PostX (E σ) G H)->t σ H Q :=
 ⟨_,h,fun B G0 G W H σ en Q h1 h2 h3=>⟨B,G0,G,W,en,h1,h2,h3⟩⟩
theorem DE.in{X:Cx}{E:L2.St->XK}{e:Expr}{f:En->Res Ev}(h:∃ t,PE X e t/\∀ B G0 G W H σ en Q,SimH B G0 G W H->SimS X.K W G H σ en->wpR (f en) (PostE X.K W G H Q) (PostX (E σ) G H)->t σ H Q):DE X E e f :=
 fun pins s σ H Q I ⟨B,G0,G,W,en,h1,h2,h3⟩=>let ⟨_,p,m⟩:=h;p pins s σ H Q I (m B G0 G W H σ en Q h1 h2 h3)
def tT(K:aQk)(E:L2.St->XK)(f:En->Res Bool):TT:=fun σ H Q=>∃ B G0 G W en,SimH B G0 G W H/\SimS K W G H σ en/\wpR (f en) (PostB G H Q) (PostX (E σ) G H)
def tA(K:aQk)(E:L2.St->XK)(f:En->Res (List Ev)):TA:=fun σ H Q=>∃ B G0 G W en,SimH B G0 G W H/\SimS K W G H σ en/\wpR (f en) (aDy K W G H Q) (PostX (E σ) G H)
def DT(X:Cx)(E:L2.St->XK)(e:Expr)(f:En->Res Bool):Prop:=PT X e (tT X.K E f)
def DW(X:Cx)(E:L2.St->XK)(e:Expr)(f:En->Res Bool):Prop:=PW X e (tT X.K E f)
def DA(X:Cx)(E:L2.St->XK)(es:List Expr)(f:En->Res (List Ev)):Prop:=PA X es (tA X.K E f)
section
variable {X:Cx}{E:L2.St->XK}{e:Expr}{es:List Expr}{f:En->Res Bool}{fr:En->Res (List Ev)}
theorem DT.out(h:DT X E e f):∃ t,PT X e t/\∀ B G0 G W H σ en Q,SimH B G0 G W H->SimS X.K W G H σ en->wpR (f en) (PostB G H Q) (PostX (E σ) G H)->t σ H Q :=
 ⟨_,h,fun B G0 G W H σ en Q h1 h2 h3=>⟨B,G0,G,W,en,h1,h2,h3⟩⟩
theorem DT.in(h:∃ t,PT X e t/\∀ B G0 G W H σ en Q,SimH B G0 G W H->SimS X.K W G H σ en->wpR (f en) (PostB G H Q) (PostX (E σ) G H)->t σ H Q):DT X E e f :=
 fun pins s σ H Q I ⟨B,G0,G,W,en,h1,h2,h3⟩=>let ⟨_,p,m⟩:=h;p pins s σ H Q I (m B G0 G W H σ en Q h1 h2 h3)
theorem DW.out(h:DW X E e f):∃ t,PW X e t/\∀ B G0 G W H σ en Q,SimH B G0 G W H->SimS X.K W G H σ en->wpR (f en) (PostB G H Q) (PostX (E σ) G H)->t σ H Q :=
 ⟨_,h,fun B G0 G W H σ en Q h1 h2 h3=>⟨B,G0,G,W,en,h1,h2,h3⟩⟩
theorem DW.in(h:∃ t,PW X e t/\∀ B G0 G W H σ en Q,SimH B G0 G W H->SimS X.K W G H σ en->wpR (f en) (PostB G H Q) (PostX (E σ) G H)->t σ H Q):DW X E e f :=
 fun wh pins s σ H Q I ⟨B,G0,G,W,en,h1,h2,h3⟩=>let ⟨_,p,m⟩:=h;p wh pins s σ H Q I (m B G0 G W H σ en Q h1 h2 h3)
theorem DA.out(h:DA X E es fr):∃ t,PA X es t/\∀ B G0 G W H σ en Q,SimH B G0 G W H->SimS X.K W G H σ en->wpR (fr en) (aDy X.K W G H Q) (PostX (E σ) G H)->t σ H Q :=
 ⟨_,h,fun B G0 G W H σ en Q h1 h2 h3=>⟨B,G0,G,W,en,h1,h2,h3⟩⟩
theorem DA.in(h:∃ t,PA X es t/\∀ B G0 G W H σ en Q,SimH B G0 G W H->SimS X.K W G H σ en->wpR (fr en) (aDy X.K W G H Q) (PostX (E σ) G H)->t σ H Q):DA X E es fr :=
 fun pos pins s σ H Q I ⟨B,G0,G,W,en,h1,h2,h3⟩=>let ⟨_,p,m⟩:=h;p pos pins s σ H Q I (m B G0 G W H σ en Q h1 h2 h3)
end
theorem DW.t{X:Cx}{E:L2.St->XK}{e:Expr}{f:En->Res Bool}(h:DW X E e f):DT X E e f:=h _
section
variable {X:Cx}{E:L2.St->XK}{a b c e:Expr}{es:List Expr}{fa fb:En->Res Ev}{fr:En->Res (List Ev)}{pos:Pos}
theorem DE.go{K:aQk}{W:Addr->Option Nat}{G H:Hp}{EE:XK}{Q:VK}{r:Res Ev}{k:Ev->Res Ev}{Q':VK}(hw:wpR (r.bind k) (PostE K W G H Q) (PostX EE G H))
  (h:∀ (x:Ev) G1 H1 v,Step G H G1 H1->EOk K W H G1 H1 v x.c->wpR (k x) (PostE K W G1 H1 Q) (PostX EE G1 H1)->Q' v H1):wpR r (PostE K W G H Q') (PostX EE G H):=by
 rw [b7] at hw
 refine bD hw (fun x hx G1 H1 v s e=>?_) fun C h=>h
 obtain ⟨G2,s2,e2⟩:=e.c s
 exact h x G2 H1 v s2 e2 (bD hx (fun r h=>h.step s2) fun C h=>h.step s2)
theorem DE.goB{K:aQk}{W:Addr->Option Nat}{G H:Hp}{EE:XK}{Q:Bool->Hp->Prop}{r:Res Ev}{k:Ev->Res Bool}{Q':VK}(hw:wpR (r.bind k) (PostB G H Q) (PostX EE G H))
  (h:∀ (x:Ev) G1 H1 v,Step G H G1 H1->EOk K W H G1 H1 v x.c->wpR (k x) (PostB G1 H1 Q) (PostX EE G1 H1)->Q' v H1):wpR r (PostE K W G H Q') (PostX EE G H):=by
 rw [b7] at hw
 refine bD hw (fun x hx G1 H1 v s e=>?_) fun C h=>h
 obtain ⟨G2,s2,e2⟩:=e.c s
 exact h x G2 H1 v s2 e2 (bD hx (fun r h=>h.step s2) fun C h=>h.step s2)
def OpM(K:aQk)(r:R2)(op:Ev->Ev->Res Ev):Prop:=∀ (W:Addr->Option Nat) (G H:Hp) (v u:V) (x y:Ev) (Q:VK),Same G H->EOk K W H G H v x.c->EOk K W H G H u y.c->wpR (op x.c y.c) (PostE K W G H Q) (fun _=>False)->r v u H Q
def aF(op:Ev->Ev->Res Ev)(fa fb:En->Res Ev):En->Res Ev:=fun en=>(fa en).bind fun x=>(fb en).bind fun y=>op x.c y.c
def NoX(op:Ev->Ev->Res Ev):Prop:=∀ x y C,op x y≠.exc C
theorem noX{α:Type}{r:Res α}{Q:α->Prop}{E E':Addr->Prop}(h:wpR r Q E)(n:∀ C,r≠.exc C):wpR r Q E':=by
 cases r with
 | ok a=>exact h
 | exc C=>exact absurd rfl (n C)
 | bad=>exact h
theorem qX{ta tb:TE}{r:R2}{op:Ev->Ev->Res Ev}(ma:∀ B G0 G W H σ en Q,SimH B G0 G W H->SimS X.K W G H σ en->wpR (fa en) (PostE X.K W G H Q) (PostX (E σ) G H)->ta σ H Q)
  (mb:∀ B G0 G W H σ en Q,SimH B G0 G W H->SimS X.K W G H σ en->wpR (fb en) (PostE X.K W G H Q) (PostX (E σ) G H)->tb σ H Q) (hm:OpM X.K r op) (hn:NoX op) :
  ∀ B G0 G W H σ en Q,SimH B G0 G W H->SimS X.K W G H σ en->wpR (aF op fa fb en) (PostE X.K W G H Q) (PostX (E σ) G H)->tOp r ta tb σ H Q:=by
 intro B G0 G W H σ en Q hh hs hw
 refine ma B G0 G W H σ en _ hh hs (DE.go hw fun x G1 H1 v s1 e1 h1=>?_)
 refine mb B G0 G1 W H1 σ en _ (hh.step s1) (hs.step s1) (DE.go h1 fun y G2 H2 u s2 e2 h2=>?_)
 exact hm W G2 H2 v u x y Q s2.gh (e1.step s2) (by cases y<;>exact e2) (noX h2 (hn _ _))
theorem aS{op:Operator}{r:R2}{f:Ev->Ev->Res Ev}(ho:OpR X (binaryOp op) r)(hm:OpM X.K r f)(hn:NoX f)(ha:DE X E a fa)(hb:DE X E b fb):DE X E (.BinOp a op b pos) (aF f fa fb):=by
 obtain ⟨ta,pa,ma⟩:=ha.out
 obtain ⟨tb,pb,mb⟩:=hb.out
 refine DE.in ?_
 exact ⟨_,aN0 ho pa pb,qX ma mb hm hn⟩
theorem j9{op:CmpOp}{r:R2}{f:Ev->Ev->Res Ev}(ho:OpR X (compareOp op) r)(hm:OpM X.K r f)(hn:NoX f)(ha:DE X E a fa)(hb:DE X E b fb)(hk:behindInMarks op b=false):DE X E (.Compare a [op] [b] pos) (aF f fa fb):=by
 obtain ⟨ta,pa,ma⟩:=ha.out
 obtain ⟨tb,pb,mb⟩:=hb.out
 refine DE.in ?_
 exact ⟨_,aGx ho pa pb hk,qX ma mb hm hn⟩
def gE(r:Ev):Res Bool:=match r with
 | .p (.bool b)=>.ok b
 | _=>.bad
def bH(f:En->Res Ev):En->Res Bool:=fun en=>(f en).bind gE
theorem mV{t:TE}(m:∀ B G0 G W H σ en Q,SimH B G0 G W H->SimS X.K W G H σ en->wpR (fa en) (PostE X.K W G H Q) (PostX (E σ) G H)->t σ H Q) :
  ∀ B G0 G W H σ en Q,SimH B G0 G W H->SimS X.K W G H σ en->wpR (bH fa en) (PostB G H Q) (PostX (E σ) G H)->t σ H fun x H1=>∃ k,x=.bl k/\Q k H1:=by
 intro B G0 G W H σ en Q hh hs hw
 refine m B G0 G W H σ en _ hh hs (DE.goB hw fun x G1 H1 v s1 e1 h1=>?_)
 cases x with
 | p d =>
  cases d with
  | bool k=>cases e1;exact ⟨k,rfl,h1 G1 H1 (Step.refl s1.gh)⟩
  | _=>exact False.elim h1
 | _=>exact False.elim h1
theorem bL{op:CmpOp}{r:R2}{f:Ev->Ev->Res Ev}(ho:OpR X (compareOp op) r)(hm:OpM X.K r f)(hn:NoX f)(ha:DE X E a fa)(hb:DE X E b fb)(hk:behindInMarks op b=false):DT X E (.Compare a [op] [b] pos) (bH (aF f fa fb)):=by
 obtain ⟨ta,pa,ma⟩:=ha.out
 obtain ⟨tb,pb,mb⟩:=hb.out
 refine DT.in ?_
 exact ⟨_,aHa ho pa pb hk,mV (qX ma mb hm hn)⟩
theorem wG(h:DE X E e fa)(he:∀ whole,isTrue e X.env whole=(do let v <- whole;standAt e.pos;holding [v] (truthy v)):=by intro _;rfl):DT X E e (bH fa):=by
 obtain ⟨t,p,m⟩:=h.out
 refine DT.in ?_
 exact ⟨_,aK2 p he,mV m⟩
def aD(i:Nat):En->Res Ev:=fun en=>match en[i]? with
 | some (some (.p d))=>.ok (.p d)
 | some (some (.o d))=>.ok (.b d)
 | some (some (.x C))=>.ok (.x C)
 | _=>.bad
theorem aKx{i:Nat}{x:Str}(hN:X.N[i]? = some x)(hv:Vis X.env.scope x)(hd:(x == ("__debug__" : Str))=false:=by decide)(hcd:(x == ("__classdict__" : Str))=false:=by decide):DE X E (.Name x pos) (aD i):=by
 refine DE.in ?_
 refine ⟨_,xP hN hv hd hcd,fun B G0 G W H σ en Q hh hs hw=>?_⟩
 unfold aD at hw
 split at hw
 ·rename_i d e
  obtain ⟨v,e1,e2⟩:=hs.2 i _ e
  exact ⟨v,e1,hw G H v (Step.refl hh.gh) e2⟩
 ·rename_i d e
  obtain ⟨v,e1,a,o,e2,e3,e4,e5⟩:=hs.2 i _ e
  exact ⟨v,e1,hw G H v (Step.refl hh.gh) ⟨a,i,o,e2,e3,e4,e5⟩⟩
 ·rename_i C e
  obtain ⟨v,e1,e2⟩:=hs.2 i _ e
  exact ⟨v,e1,hw G H v (Step.refl hh.gh) e2⟩
 ·exact hw.elim
def mC(d:D):En->Res Ev:=fun _=>.ok (.p d)
theorem jO{v:V}{d:D}(h:∀ G,Rep X.K G v d):∀ B G0 G W H σ en Q,SimH B G0 G W H->SimS X.K W G H σ en->wpR (mC d en) (PostE X.K W G H Q) (PostX (E σ) G H)->tC v σ H Q :=
 fun B G0 G W H σ en Q hh hs hw=>hw G H v (Step.refl hh.gh) (h G)
theorem aC{i j}:DE X E (.Constant (.int i) j pos) (mC (.int i)):=DE.in ⟨_,aLr,jO fun _=>.int i⟩
theorem uZ{b j}:DE X E (.Constant (.bool b) j pos) (mC (.bool b)):=DE.in ⟨_,aNb,jO fun _=>.bl b⟩
theorem aMk{x j}:DE X E (.Constant (.str x) j pos) (mC (.str x)):=DE.in ⟨_,aMj,jO fun _=>.str x⟩
theorem aEv{x:Str}{i:Int}{t:Tok}(hg:Gl X x)(hm:X.mg x=some (.int i t))(hd:(x == ("__debug__" : Str))=false:=by decide):DE X E (.Name x pos) (mC (.int i)):=DE.in ⟨_,aHf (v:=.int i) hg hm ⟨t,rfl⟩ hd,jO fun _=>.int i⟩
variable {ga gb:En->Res Bool}{rest:List Expr}
def kN(f g:En->Res Bool):En->Res Bool:=fun en=>(f en).bind fun c=>if c=true then g en else .ok false
def mOr(f g:En->Res Bool):En->Res Bool:=fun en=>(f en).bind fun c=>if c=true then .ok true else g en
def nR(f:En->Res Bool):En->Res Bool:=fun en=>(f en).bind fun c=>.ok (!c)
theorem uS(ha:DT X E a ga):DW X E (.BoolOp .And [a] pos) ga:=let ⟨t,p,m⟩:=ha.out;DW.in ⟨t,aIt p,m⟩
theorem oU(ha:DT X E a ga):DW X E (.BoolOp .Or [a] pos) ga:=let ⟨t,p,m⟩:=ha.out;DW.in ⟨t,aLa p,m⟩
theorem pM(ha:DT X E a ga)(hb:DW X E (.BoolOp .And (b :: rest) pos) gb):DW X E (.BoolOp .And (a :: b :: rest) pos) (kN ga gb):=by
 obtain ⟨ta,pa,ma⟩:=ha.out
 obtain ⟨tb,pb,mb⟩:=hb.out
 refine DW.in ?_
 refine ⟨_,aKu pa pb,fun B G0 G W H σ en Q hh hs hw=>ma B G0 G W H σ en _ hh hs ?_⟩
 have hw:wpR ((ga en).bind _) _ _:=hw
 rw [b7] at hw
 refine bD hw (fun c hc G1 H1 s=>?_) fun C h=>h
 cases c with
 | true=>exact mb B G0 G1 W H1 σ en Q (hh.step s) (hs.step s) (bD hc (fun _ h=>h.step s) fun _ h=>h.step s)
 | false=>exact hc G1 H1 s
theorem oE(ha:DT X E a ga)(hb:DW X E (.BoolOp .Or (b :: rest) pos) gb):DW X E (.BoolOp .Or (a :: b :: rest) pos) (mOr ga gb):=by
 obtain ⟨ta,pa,ma⟩:=ha.out
 obtain ⟨tb,pb,mb⟩:=hb.out
 refine DW.in ?_
 refine ⟨_,aNo pa pb,fun B G0 G W H σ en Q hh hs hw=>ma B G0 G W H σ en _ hh hs ?_⟩
 have hw:wpR ((ga en).bind _) _ _:=hw
 rw [b7] at hw
 refine bD hw (fun c hc G1 H1 s=>?_) fun C h=>h
 cases c with
 | false=>exact mb B G0 G1 W H1 σ en Q (hh.step s) (hs.step s) (bD hc (fun _ h=>h.step s) fun _ h=>h.step s)
 | true=>exact hc G1 H1 s
theorem xN(ha:DT X E a ga):DT X E (.UnaryOp .Not a pos) (nR ga):=by
 obtain ⟨ta,pa,ma⟩:=ha.out
 refine DT.in ?_
 refine ⟨_,aLb pa,fun B G0 G W H σ en Q hh hs hw=>ma B G0 G W H σ en _ hh hs ?_⟩
 have hw:wpR ((ga en).bind _) _ _:=hw
 rw [b7] at hw
 exact bD hw (fun c hc=>hc) fun C h=>h
def gW(f g:En->Res Ev):En->Res Ev:=fun en=>(f en).bind fun c=>match c with
 | .p (.bool true)=>g en
 | .p (.bool false)=>.ok (.p (.bool false))
 | _=>.bad
def aI9(f g:En->Res Ev):En->Res Ev:=fun en=>(f en).bind fun c=>match c with
 | .p (.bool false)=>g en
 | .p (.bool true)=>.ok (.p (.bool true))
 | _=>.bad
def mL(f:En->Res Ev):En->Res Ev:=fun en=>(f en).bind fun c=>match c with
 | .p (.bool k)=>.ok (.p (.bool (!k)))
 | _=>.bad
theorem w5{op}(h:DE X E a fa):DE X E (.BoolOp op [a] pos) fa:=let ⟨t,p,m⟩:=h.out;DE.in ⟨t,aJk p,m⟩
theorem pP(ha:DE X E a fa)(hb:DE X E (.BoolOp .And (b :: rest) pos) fb):DE X E (.BoolOp .And (a :: b :: rest) pos) (gW fa fb):=by
 obtain ⟨ta,pa,ma⟩:=ha.out
 obtain ⟨tb,pb,mb⟩:=hb.out
 refine DE.in ?_
 refine ⟨_,aJj pa pb,fun B G0 G W H σ en Q hh hs hw=>ma B G0 G W H σ en _ hh hs (DE.go hw fun x G1 H1 v s1 e1 h1=>?_)⟩
 cases x with
 | p d =>
  cases d with
  | bool k =>
   cases e1
   cases k with
   | true=>exact ⟨true,rfl,mb B G0 G1 W H1 σ en Q (hh.step s1) (hs.step s1) h1⟩
   | false=>exact ⟨false,rfl,h1 G1 H1 _ (Step.refl s1.gh) (.bl false)⟩
  | _=>exact False.elim h1
 | _=>exact False.elim h1
theorem aFp(ha:DE X E a fa):DE X E (.UnaryOp .Not a pos) (mL fa):=by
 obtain ⟨ta,pa,ma⟩:=ha.out
 refine DE.in ?_
 refine ⟨_,aKp pa,fun B G0 G W H σ en Q hh hs hw=>ma B G0 G W H σ en _ hh hs (DE.go hw fun x G1 H1 v s1 e1 h1=>?_)⟩
 cases x with
 | p d =>
  cases d with
  | bool k =>
   cases e1
   exact ⟨k,rfl,h1 G1 H1 _ (Step.refl s1.gh) (.bl _)⟩
  | _=>exact False.elim h1
 | _=>exact False.elim h1
def mIf(c:En->Res Bool)(f g:En->Res Ev):En->Res Ev:=fun en=>(c en).bind fun k=>if k=true then f en else g en
theorem aOf(hc:DT X E c ga)(ha:DE X E a fa)(hb:DE X E b fb):DE X E (.IfExp c a b pos) (mIf ga fa fb):=by
 obtain ⟨tc,pc,mc⟩:=hc.out
 obtain ⟨ta,pa,ma⟩:=ha.out
 obtain ⟨tb,pb,mb⟩:=hb.out
 refine DE.in ?_
 refine ⟨_,aD5 pc pa pb,fun B G0 G W H σ en Q hh hs hw=>mc B G0 G W H σ en _ hh hs ?_⟩
 have hw:wpR ((ga en).bind _) _ _:=hw
 rw [b7] at hw
 refine bD hw (fun k hk G1 H1 s=>?_) fun C h=>h
 have hk':=bD hk (fun _ h=>PostE.step h s) fun _ h=>PostX.step h s
 cases k with
 | true=>exact ma B G0 G1 W H1 σ en Q (hh.step s) (hs.step s) hk'
 | false=>exact mb B G0 G1 W H1 σ en Q (hh.step s) (hs.step s) hk'
def aK:En->Res (List Ev):=fun _=>.ok []
def aB(f:En->Res Ev)(g:En->Res (List Ev)):En->Res (List Ev):=fun en=>(f en).bind fun x=>(g en).bind fun xs=>.ok (x.c :: xs)
theorem aH:DA X E [] aK:=DA.in ⟨_,mD,fun B G0 G W H σ en Q hh hs hw=>hw G H [] (Step.refl hh.gh) trivial⟩
theorem aA(ha:DE X E e fa)(hr:DA X E es fr)(hst:starEach (e :: es) X.env=(false,eval e X.env) :: starEach es X.env:=by rfl):DA X E (e :: es) (aB fa fr):=by
 obtain ⟨ta,pa,ma⟩:=ha.out
 obtain ⟨tr,pr,mr⟩:=hr.out
 refine DA.in ?_
 refine ⟨_,i8 pa pr hst,fun B G0 G W H σ en Q hh hs hw=>ma B G0 G W H σ en _ hh hs ?_⟩
 have hw:wpR ((fa en).bind _) _ _:=hw
 rw [b7] at hw
 refine bD hw (fun x hx G1 H1 v s e1=>?_) fun C h=>h
 obtain ⟨G2,s2,e2⟩:=e1.c s
 refine mr B G0 G2 W H1 σ en _ (hh.step s2) (hs.step s2) ?_
 rw [b7] at hx
 refine bD hx (fun xs hxs G3 H3 vs s3 e3=>?_) fun C h=>h.step s2
 refine hxs G3 H3 (v :: vs) (s2.trans s3) ⟨e2.step s3,?_⟩
 clear hxs hx hw
 induction xs generalizing vs with
 | nil=>cases vs<;>exact e3
 | cons y ys ih =>
  cases vs with
  | nil=>exact e3
  | cons u us =>
   refine ⟨?_,ih us e3.2⟩
   have z:=e3.1
   cases y with
   | p d=>exact z
   | b d=>exact z
   | x d=>exact z
   | f d =>
    obtain ⟨a,o,h1,h2,h3⟩:=z
    exact ⟨a,o,h1,s2.h.free h2,h3⟩
end
inductive Out where
 | nx (en:En)
 | rt (l:L)
 | bk (en:En)
 | ct (en:En)
 | ex (C:Addr) (en:En)
abbrev MS:=En->Option Out
def aIb(K:aQk)(B G H:Hp)(v:V):L->Prop
 | .p d=>Rep K G v d
 | .o d=>∃ a o,v=.ref a/\G a=none/\B a=none/\H a=some o/\Cont K G o d
 | .x C=>XOk K G v C
 | .h _=>False
def PostS(K:aQk)(B G0:Hp)(E:L2.St->XK)(Dn:Ends):Out->Prop
 | .nx en=>∀ G W H σ,SimH B G0 G W H->SimS K W G H σ en->Dn.nx σ H
 | .bk en=>∀ G W H σ,SimH B G0 G W H->SimS K W G H σ en->Dn.bk σ H
 | .ct en=>∀ G W H σ,SimH B G0 G W H->SimS K W G H σ en->Dn.ct σ H
 | .rt l=>∀ G W H v,SimH B G0 G W H->aIb K B G H v l->Dn.rt v H
 | .ex C en=>∀ G W H σ,SimH B G0 G W H->SimS K W G H σ en->E σ (.ref C) none H
def wpO(o:Option Out)(P:Out->Prop):Prop:=match o with
 | some r=>P r
 | none=>False
def tS(K:aQk)(E:L2.St->XK)(f:MS):TS:=fun Dn σ H=>∃ B G0 G W en,SimH B G0 G W H/\SimS K W G H σ en/\wpO (f en) (PostS K B G0 E Dn)
def DS(X:Cx)(E:L2.St->XK)(st:Stmt)(f:MS):Prop:=PS X st (tS X.K E f)
def DSs(X:Cx)(E:L2.St->XK)(st:List Stmt)(f:MS):Prop:=PSs X st (tS X.K E f)
section
variable {X:Cx}{E:L2.St->XK}{st:Stmt}{sts:List Stmt}{f g:MS}{fe:En->Res Ev}{fc:En->Res Bool}{e c:Expr}{pos:Pos}
theorem DS.in(h:∃ t,PS X st t/\∀ B G0 G W H σ en Dn,SimH B G0 G W H->SimS X.K W G H σ en->wpO (f en) (PostS X.K B G0 E Dn)->t Dn σ H):DS X E st f :=
 fun pins s σ H Dn I ⟨B,G0,G,W,en,h1,h2,h3⟩=>let ⟨_,p,m⟩:=h;p pins s σ H Dn I (m B G0 G W H σ en Dn h1 h2 h3)
theorem DSs.in(h:∃ t,PSs X sts t/\∀ B G0 G W H σ en Dn,SimH B G0 G W H->SimS X.K W G H σ en->wpO (f en) (PostS X.K B G0 E Dn)->t Dn σ H):DSs X E sts f :=
 fun pins s σ H Dn I ⟨B,G0,G,W,en,h1,h2,h3⟩=>let ⟨_,p,m⟩:=h;p pins s σ H Dn I (m B G0 G W H σ en Dn h1 h2 h3)
theorem DS.out(h:DS X E st f):∃ t,PS X st t/\∀ B G0 G W H σ en Dn,SimH B G0 G W H->SimS X.K W G H σ en->wpO (f en) (PostS X.K B G0 E Dn)->t Dn σ H :=
 ⟨_,h,fun B G0 G W H σ en Dn h1 h2 h3=>⟨B,G0,G,W,en,h1,h2,h3⟩⟩
theorem DSs.out(h:DSs X E sts f):∃ t,PSs X sts t/\∀ B G0 G W H σ en Dn,SimH B G0 G W H->SimS X.K W G H σ en->wpO (f en) (PostS X.K B G0 E Dn)->t Dn σ H :=
 ⟨_,h,fun B G0 G W H σ en Dn h1 h2 h3=>⟨B,G0,G,W,en,h1,h2,h3⟩⟩
def bR:MS:=fun en=>some (.nx en)
def bC(f g:MS):MS:=fun en=>match f en with
 | some (.nx e)=>g e
 | r=>r
theorem bS:DSs X E [] bR:=DSs.in ⟨_,aAc,fun B G0 G W H σ en Dn hh hs hw=>hw G W H σ hh hs⟩
theorem aR(h:DS X E st f):DSs X E [st] f:=let ⟨t,p,m⟩:=h.out;DSs.in ⟨t,aI3 p,m⟩
theorem aJ(h1:DS X E st f)(h2:DSs X E sts g):DSs X E (st :: sts) (bC f g):=by
 obtain ⟨t,p,m⟩:=h1.out
 obtain ⟨u,q,n⟩:=h2.out
 refine DSs.in ⟨_,qA p q,fun B G0 G W H σ en Dn hh hs hw=>m B G0 G W H σ en _ hh hs ?_⟩
 unfold bC at hw
 cases ef:f en with
 | none=>rw [ef] at hw;exact hw
 | some r =>
  rw [ef] at hw
  cases r with
  | nx e=>exact fun G1 W1 H1 σ1 hh1 hs1=>n B G0 G1 W1 H1 σ1 e Dn hh1 hs1 hw
  | rt l=>exact hw
  | bk e=>exact hw
  | ct e=>exact hw
  | ex C e=>exact hw
theorem SimS.set{K:aQk}{W:Addr->Option Nat}{G H:Hp}{σ:L2.St}{en:En}{i:Nat}{v:V}{l:L}(h:SimS K W G H σ en)(hl:Slot K W G H i v l):SimS K W G H (σ.set i (some v)) (en.set i (some l)):=by
 refine ⟨by rw [aTl,aTl];exact h.1,fun j m e=>?_⟩
 rw [aU9] at e
 rw [aU9]
 by_cases hj:i=j
 ·subst hj
  rw [aQt rfl] at e
  split at e
  ·rename_i hlt
   cases e
   rw [aQt rfl,aQt (by rw [h.1];exact hlt)]
   exact ⟨v,rfl,hl⟩
  ·cases e
 ·rw [aQv hj] at e ⊢
  exact h.2 j m e
def owner(W:Addr->Option Nat)(a:Addr)(i:Nat):Addr->Option Nat:=fun b=>if b=a then some i else W b
theorem aDt{K:aQk}{B G0 G H:Hp}{W:Addr->Option Nat}{σ:L2.St}{en:En}{i:Nat}{a:Addr}{o:HO}{d:D}(hh:SimH B G0 G W H)(hs:SimS K W G H σ en)(hW:W a=none)(hG:G a=none)(hB:B a=none)(hH:H a=some o)(hc:Cont K G o d) :
  SimH B G0 G (owner W a i) H/\SimS K (owner W a i) G H (σ.set i (some (.ref a))) (en.set i (some (.o d))):=by
 refine ⟨⟨hh.gh,hh.bh,hh.g0,hh.gb,fun b j e=>?_⟩,SimS.set ⟨hs.1,fun j l e=>?_⟩ ⟨a,o,rfl,aQt rfl,hH,hc⟩⟩
 ·unfold owner at e
  split at e
  ·rename_i z
   subst z
   exact ⟨hG,hB,o,hH,hc.mut⟩
  ·exact hh.wf b j e
 ·obtain ⟨v,e1,e2⟩:=hs.2 j l e
  refine ⟨v,e1,?_⟩
  cases l with
  | p d=>exact e2
  | x C=>exact e2
  | h a=>exact e2
  | o d =>
   obtain ⟨b,ob,h1,h2,h3,h4⟩:=e2
   refine ⟨b,ob,h1,?_,h3,h4⟩
   unfold owner
   rw [aQv (fun z=>by rw [z,hW] at h2;cases h2)]
   exact h2
def cJ(i:Nat)(fe:En->Res Ev):MS:=fun en=>match fe en with
 | .ok (.p d)=>some (.nx (en.set i (some (.p d))))
 | .ok (.f d)=>some (.nx (en.set i (some (.o d))))
 | .ok (.x C)=>some (.nx (en.set i (some (.x C))))
 | .ok (.b _)=>none
 | .exc C=>some (.ex C en)
 | .bad=>none
theorem SimH.lone{B G0 G H:Hp}{W:Addr->Option Nat}(hh:SimH B G0 G W H){a:Addr}(h:H a=none):W a=none:=by
 cases e:W a with
 | none=>rfl
 | some i =>
  obtain ⟨_,_,o,q,_⟩:=hh.wf a i e
  rw [h] at q;cases q
theorem v7{te:TE}{i:Nat}(m:∀ B G0 G W H σ en Q,SimH B G0 G W H->SimS X.K W G H σ en->wpR (fe en) (PostE X.K W G H Q) (PostX (E σ) G H)->te σ H Q) :
  ∀ B G0 G W H σ en Dn,SimH B G0 G W H->SimS X.K W G H σ en->wpO (cJ i fe en) (PostS X.K B G0 E Dn)->te σ H fun x H1=>Dn.nx (σ.set i (some x)) H1:=by
 intro B G0 G W H σ en Dn hh hs hw
 refine m B G0 G W H σ en _ hh hs ?_
 unfold cJ at hw
 cases ef:fe en with
 | bad=>rw [ef] at hw;exact hw
 | exc C=>rw [ef] at hw;exact fun G1 H1 s=>hw G1 W H1 σ (hh.step s) (hs.step s)
 | ok r =>
  rw [ef] at hw
  cases r with
  | b d=>exact hw.elim
  | p d=>exact fun G1 H1 v s e=>hw G1 W H1 _ (hh.step s) ((hs.step s).set e)
  | x C=>exact fun G1 H1 v s e=>hw G1 W H1 _ (hh.step s) ((hs.step s).set e)
  | f d =>
   rintro G1 H1 v s ⟨a,o,rfl,h1,h2,h3,h4⟩
   obtain ⟨q1,q2⟩:=aDt (i:=i) (hh.step s) (hs.step s) (hh.lone h1) h2 (hh.bh.free h1) h3 h4
   exact hw G1 _ H1 _ q1 q2
theorem a8{i:Nat}{x:Str}{pos':Pos}(hN:X.N.Nodup)(hi:X.N[i]? = some x)(hx:Loc X.env.scope x)(he:DE X E e fe)(hs:swapsWith e (some (.Name x pos')) pos.line X.env=pure false:=by rfl)(hf:X.fn x=true\/X.env.scope.names.lookup x=some .local:=by first | exact .inl rfl | exact .inr rfl | assumption) :
  DS X E (.Assign [.Name x pos'] e pos) (cJ i fe):=by
 obtain ⟨t,p,m⟩:=he.out
 exact DS.in ⟨_,aMg hN hi hx p hs hf,v7 m⟩
def aC1:Ev->L
 | .p d=>.p d
 | .f d=>.o d
 | .b d=>.o d
 | .x C=>.x C
def eX(fe:En->Res Ev):MS:=fun en=>match fe en with
 | .ok r=>some (.rt (aC1 r))
 | .exc C=>some (.ex C en)
 | .bad=>none
theorem cP(he:DE X E e fe):DS X E (.Return (some e) pos) (eX fe):=by
 obtain ⟨t,p,m⟩:=he.out
 refine DS.in ⟨_,aK3 p,fun B G0 G W H σ en Dn hh hs hw=>m B G0 G W H σ en _ hh hs ?_⟩
 unfold eX at hw
 cases ef:fe en with
 | bad=>rw [ef] at hw;exact hw
 | exc C=>rw [ef] at hw;exact fun G1 H1 s=>hw G1 W H1 σ (hh.step s) (hs.step s)
 | ok r =>
  rw [ef] at hw
  intro G1 H1 v s e
  refine hw G1 W H1 v (hh.step s) ?_
  cases r with
  | p d=>exact e
  | x C=>exact e
  | f d =>
   obtain ⟨a,o,h0,h1,h2,h3,h4⟩:=e
   exact ⟨a,o,h0,h2,hh.bh.free h1,h3,h4⟩
  | b d =>
   obtain ⟨a,i,o,h0,h1,h3,h4⟩:=e
   have z:=(hh.step s).wf a i h1
   exact ⟨a,o,h0,z.1,z.2.1,h3,h4⟩
def eA(c:En->Res Bool)(f g:MS):MS:=fun en=>match c en with
 | .ok k=>if k=true then f en else g en
 | .exc C=>some (.ex C en)
 | .bad=>none
theorem eL{A B:List Stmt}(hc:DT X E c fc)(ha:DSs X E A f)(hb:DSs X E B g):DS X E (.If c A B pos) (eA fc f g):=by
 obtain ⟨tc,pc,mc⟩:=hc.out
 obtain ⟨t,p,m⟩:=ha.out
 obtain ⟨u,q,n⟩:=hb.out
 refine DS.in ⟨_,aM1 pc p q,fun B G0 G W H σ en Dn hh hs hw=>mc B G0 G W H σ en _ hh hs ?_⟩
 unfold eA at hw
 cases ef:fc en with
 | bad=>rw [ef] at hw;exact hw
 | exc C=>rw [ef] at hw;exact fun G1 H1 s=>hw G1 W H1 σ (hh.step s) (hs.step s)
 | ok k =>
  rw [ef] at hw
  intro G1 H1 s
  cases k with
  | true=>exact m B G0 G1 W H1 σ en Dn (hh.step s) (hs.step s) hw
  | false=>exact n B G0 G1 W H1 σ en Dn (hh.step s) (hs.step s) hw
def frz(i:Nat)(en:En):En:=match en[i]? with
 | some (some (.o d))=>en.set i (some (.p d))
 | _=>en
theorem aKh{K:aQk}{B G0 G H:Hp}{W:Addr->Option Nat}{σ:L2.St}{en:En}(i:Nat)(hh:SimH B G0 G W H)(hs:SimS K W G H σ en):∃ G' W',SimH B G0 G' W' H/\SimS K W' G' H σ (frz i en):=by
 unfold frz
 split
 ·rename_i d e
  obtain ⟨v,e1,a,o,rfl,e2,e3,e4⟩:=hs.2 i _ e
  obtain ⟨w1,w2,w3⟩:=hh.wf a i e2
  have sg:Same G (upd G a o):=Same.upd (Same.refl _) w1 o
  refine ⟨upd G a o,fun b=>if b=a then none else W b,⟨fun b u q=>?_,hh.bh,hh.g0.trans sg,fun b hb=>?_,fun b j e=>?_⟩,by rw [aTl];exact hs.1,fun j l e5=>?_⟩
  ·by_cases z:b=a
   ·subst z;rw [bJ] at q;rw [e3];exact q
   ·rw [bB z] at q;exact hh.gh b u q
  ·by_cases z:b=a
   ·subst z;exact .inr (.inl w2)
   ·rw [bB z] at hb;exact hh.gb b hb
  ·split at e
   ·cases e
   ·rename_i z
    rw [bB z];exact hh.wf b j e
  ·rw [aU9] at e5
   by_cases hj:i=j
   ·subst hj
    rw [aQt rfl] at e5
    split at e5
    ·cases e5
     exact ⟨_,e1,(e4.mono sg).rep bJ⟩
    ·cases e5
   ·rw [aQv hj] at e5
    obtain ⟨v,f1,f2⟩:=hs.2 j l e5
    refine ⟨v,f1,?_⟩
    cases l with
    | p d=>exact f2.mono sg
    | x C=>exact XOk.mono sg f2
    | h a=>exact f2
    | o d =>
     obtain ⟨b,ob,g1,g2,g3,g4⟩:=f2
     refine ⟨b,ob,g1,?_,g3,g4.mono sg⟩
     show (if b=a then none else W b)=some j
     rw [aQv (fun z=>by rw [z,e2] at g2;exact hj (aQ7 g2))]
     exact g2
 ·exact ⟨G,W,hh,hs⟩
theorem gH(i:Nat)(h:DSs X E sts f):DSs X E sts (fun en=>f (frz i en)):=by
 obtain ⟨t,p,m⟩:=h.out
 refine DSs.in ⟨t,p,fun B G0 G W H σ en Dn hh hs hw=>?_⟩
 obtain ⟨G',W',h1,h2⟩:=aKh i hh hs
 exact m B G0 G' W' H σ _ Dn h1 h2 hw
end
def mWh(c:En->Res Bool)(f:MS):Nat->MS
 | 0,_=>none
 | n+1,en=>match c en with
  | .bad=>none
  | .exc C=>some (.ex C en)
  | .ok false=>some (.nx en)
  | .ok true=>match f en with
   | some (.nx e)=>mWh c f n e
   | some (.ct e)=>mWh c f n e
   | some (.bk e)=>some (.nx e)
   | r=>r
theorem pZ{c:En->Res Bool}{f:MS}:∀ {n:Nat} {en:En} {r:Out},mWh c f n en=some r->mWh c f (n+1) en=some r
 | 0,_,_,h=>by cases h
 | n+1,en,r,h=>by
  unfold mWh at h ⊢
  cases ec:c en with
  | bad=>rw [ec] at h;exact h
  | exc C=>rw [ec] at h;exact h
  | ok k =>
   rw [ec] at h
   cases k with
   | false=>exact h
   | true =>
    dsimp only at h ⊢
    cases ef:f en with
    | none=>rw [ef] at h;exact h
    | some o =>
     rw [ef] at h
     cases o with
     | nx e=>exact pZ (n:=n) h
     | ct e=>exact pZ (n:=n) h
     | bk e=>exact h
     | rt l=>exact h
     | ex C e=>exact h
theorem aFv{c:En->Res Bool}{f:MS}{n m:Nat}{en:En}{r:Out}(h:mWh c f n en=some r)(l:n<=m):mWh c f m en=some r:=by
 induction l with
 | refl=>exact h
 | step _ ih=>exact pZ ih
open Classical in
noncomputable def oO(c:En->Res Bool)(f:MS):MS:=fun en=>if h:∃ n r,mWh c f n en=some r then mWh c f h.choose en else none
theorem sI{c:En->Res Bool}{f:MS}{n:Nat}{en:En}{r:Out}(h:mWh c f n en=some r):oO c f en=some r:=by
 unfold oO
 have hx:∃ n r,mWh c f n en=some r:=⟨n,r,h⟩
 rw [dif_pos hx]
 obtain ⟨r',h'⟩:=hx.choose_spec
 rcases Nat.le_total n hx.choose with l | l
 ·exact aFv h l
 ·have:=aFv h' l
  rw [h] at this
  rw [h'];exact this.symm
theorem vF{c:En->Res Bool}{f:MS}{en:En}{P:Out->Prop}(h:wpO (oO c f en) P):∃ n,wpO (mWh c f n en) P:=by
 unfold oO at h
 split at h
 ·exact ⟨_,h⟩
 ·exact h.elim
section
variable {X:Cx}{E:L2.St->XK}{st:Stmt}{sts:List Stmt}{f g:MS}{fe:En->Res Ev}{fc:En->Res Bool}{e c:Expr}{pos:Pos}
theorem xK(hp:PassesOwn (model X.prog X.w) X.A X.env X.xe)(hc:DT X E c fc)(hb:DSs X E sts f):DS X E (.While c sts [] pos) (oO fc f):=by
 obtain ⟨tc,pc,mc⟩:=hc.out
 obtain ⟨t,p,m⟩:=hb.out
 refine DS.in ⟨_,aDx hp pc p,fun B G0 G W H σ en Dn hh hs hw=>?_⟩
 obtain ⟨n0,hw⟩:=vF hw
 refine ⟨fun n σ H=>∃ G W en,SimH B G0 G W H/\SimS X.K W G H σ en/\wpO (mWh fc f n en) (PostS X.K B G0 E Dn),⟨n0,G,W,en,hh,hs,hw⟩,?_⟩
 rintro n σ H ⟨G,W,en,hh,hs,hw⟩
 cases n with
 | zero=>exact hw.elim
 | succ n =>
  refine mc B G0 G W H σ en _ hh hs ?_
  unfold mWh at hw
  cases ec:fc en with
  | bad=>rw [ec] at hw;exact hw
  | exc C=>rw [ec] at hw;exact fun G1 H1 s=>hw G1 W H1 σ (hh.step s) (hs.step s)
  | ok k =>
   rw [ec] at hw
   intro G1 H1 s
   cases k with
   | false=>exact hw G1 W H1 σ (hh.step s) (hs.step s)
   | true =>
    refine ⟨fun σ' H'=>∃ G W en,SimH B G0 G W H'/\SimS X.K W G H' σ' en/\wpO (mWh fc f n en) (PostS X.K B G0 E Dn),fun σ' H' q=>⟨n,aVi n,q⟩,?_⟩
    refine m B G0 G1 W H1 σ en _ (hh.step s) (hs.step s) ?_
    dsimp only at hw
    cases ef:f en with
    | none=>rw [ef] at hw;exact hw
    | some o =>
     rw [ef] at hw
     cases o with
     | nx e=>exact fun G2 W2 H2 σ2 h2 s2=>⟨G2,W2,e,h2,s2,hw⟩
     | ct e=>exact fun G2 W2 H2 σ2 h2 s2=>⟨G2,W2,e,h2,s2,hw⟩
     | bk e=>exact hw
     | rt l=>exact hw
     | ex C e=>exact hw
end
def aCj(K:aQk)(ds:List D)(G1:Hp)(J:It):Prop:=∀ G H,Same G1 G->Same G H ->
 (∀ i d,ds[i]? = some d->J.go i H/\∀ v H',J.yld i H v H'->∃ G',Step G H G' H'/\Rep K G' v d)/\J.stop ds.length H
def tI(K:aQk)(E:L2.St->XK)(f:En->Res (List D)):TI:=fun σ H R=>∃ B G0 G W en,SimH B G0 G W H/\SimS K W G H σ en/\wpR (f en) (fun ds=>∀ G' H' J,Step G H G' H'->aCj K ds G' J->R J H') (PostX (E σ) G H)
def DI(X:Cx)(E:L2.St->XK)(tg e:Expr)(f:En->Res (List D)):Prop:=PI X tg e (tI X.K E f)
def Kept(ks:List Nat)(σ σ':L2.St):Prop:=σ'.length=σ.length/\∀ j,j∉ks->σ'[j]? = σ[j]?
def tG(K:aQk)(ks:List Nat)(f:D->En->Option En):TG:=fun v σ H Q=>∃ G W en d en',Same G H/\SimS K W G H σ en/\Rep K G v d/\f d en=some en'/\∀ σ',SimS K W G H σ' en'->Kept ks σ σ'->Q σ' H
def tGs(K:aQk)(ks:List Nat)(f:List D->En->Option En):TGs:=fun vs σ H Q=>∃ G W en ds en',Same G H/\SimS K W G H σ en/\Reps K G vs ds/\f ds en=some en'/\∀ σ',SimS K W G H σ' en'->Kept ks σ σ'->Q σ' H
def DG(X:Cx)(tg:Expr)(ks:List Nat)(f:D->En->Option En):Prop:=PG X tg (tG X.K ks f)
def DGs(X:Cx)(tg:List Expr)(ks:List Nat)(f:List D->En->Option En):Prop:=PGs X tg (tGs X.K ks f)
theorem Kept.trans{ks ls:List Nat}{σ σ1 σ2:L2.St}(a:Kept ks σ σ1)(b:Kept ls σ1 σ2):Kept (ks++ls) σ σ2 :=
 ⟨b.1.trans a.1,fun j hj=>(b.2 j fun z=>hj (aQ5 _ z)).trans (a.2 j fun z=>hj (aTh _ z))⟩
def aM(i:Nat):D->En->Option En:=fun d en=>some (en.set i (some (.p d)))
def eP:List D->En->Option En:=fun ds en=>match ds with
 | []=>some en
 | _=>none
def aZ(f:D->En->Option En)(g:List D->En->Option En):List D->En->Option En:=fun ds en=>match ds with
 | []=>none
 | d :: r=>match f d en with
  | none=>none
  | some e=>g r e
def eS(n:Nat)(f:List D->En->Option En):D->En->Option En:=fun d en=>match d with
 | .tuple ds=>if ds.length=n then f ds en else none
 | _=>none
section
variable {X:Cx}{E:L2.St->XK}{pos:Pos}
theorem DI.in{tg e:Expr}{f:En->Res (List D)}(h:∃ t,PI X tg e t/\∀ B G0 G W H σ en R,SimH B G0 G W H->SimS X.K W G H σ en->wpR (f en) (fun ds=>∀ G' H' J,Step G H G' H'->aCj X.K ds G' J->R J H') (PostX (E σ) G H)->t σ H R):DI X E tg e f :=
 fun pins s σ H R I ⟨B,G0,G,W,en,h1,h2,h3⟩=>let ⟨_,p,m⟩:=h;p pins s σ H R I (m B G0 G W H σ en R h1 h2 h3)
theorem a9{i:Nat}{x:Str}(hN:X.N.Nodup)(hi:X.N[i]? = some x)(hx:Loc X.env.scope x)(hf:X.fn x=true\/X.env.scope.names.lookup x=some .local:=by first | exact .inl rfl | exact .inr rfl | assumption):DG X (.Name x pos) [i] (aM i):=by
 intro pins s σ H v u Q I r ⟨G,W,en,d,en',h1,h2,h3,h4,h5⟩
 refine aCy hN hi hx hf pins s σ H v u Q I r ?_
 cases h4
 exact h5 _ (h2.set h3) ⟨aTl ..,fun j hj=>aVk (fun z=>hj (by rw [z];exact .head _))⟩
theorem fT:DGs X [] [] eP:=by
 intro pins s σ H vs us Q I r ⟨G,W,en,ds,en',h1,h2,h3,h4,h5⟩
 refine aHb pins s σ H vs us Q I r ?_
 unfold eP at h4
 split at h4
 ·cases h4;cases h3;exact ⟨rfl,h5 _ h2 ⟨rfl,fun _ _=>rfl⟩⟩
 ·cases h4
theorem bN{e:Expr}{es:List Expr}{ks ls:List Nat}{f:D->En->Option En}{g:List D->En->Option En}(h1:DG X e ks f)(h2:DGs X es ls g)
  (hs:(assignEach (e :: es) X.env).map (·.2)=assign e X.env :: (assignEach es X.env).map (·.2):=by rfl):DGs X (e :: es) (ks++ls) (aZ f g):=by
 intro pins s σ H vs us Q I r ⟨G,W,en,ds,en',k1,k2,k3,k4,k5⟩
 refine aEs h1 h2 hs pins s σ H vs us Q I r ?_
 unfold aZ at k4
 cases k3 with
 | nil=>cases k4
 | @cons x xs d ds hx hr =>
  dsimp only at k4
  split at k4
  ·cases k4
  ·rename_i e1 q1
   exact ⟨x,xs,rfl,G,W,en,d,e1,k1,k2,hx,q1,fun σ' hσ hk=>⟨G,W,e1,ds,en',k1,hσ,hr,k4,fun σ2 q1 q2=>k5 σ2 q1 (hk.trans q2)⟩⟩
theorem iF{es:List Expr}{k:Nat}{ks:List Nat}{f:List D->En->Option En}{n:Nat}(hc:X.calm=true)(h:DGs X es ks f)(hn:(assignEach es X.env).length=n:=by rfl)(hst:(assignEach es X.env).findIdx? (·.1)=none:=by rfl):DG X (.Tuple es k pos) ks (eS n f):=by
 intro pins s σ H v u Q I r ⟨G,W,en,d,en',k1,k2,k3,k4,k5⟩
 refine aL2 hc h hn hst pins s σ H v u Q I r ?_
 unfold eS at k4
 split at k4
 ·rename_i ds
  split at k4
  ·rename_i hl
   cases k3 with
   | @tup a xs _ ha hr=>exact ⟨a,xs,rfl,SqT.of (k1 _ _ ha),by rw [hr.length];exact hl,G,W,en,ds,en',k1,k2,hr,k4,k5⟩
  ·cases k4
 ·cases k4
def vZ(g:D->En->Option En)(fe:En->Res Ev):MS:=fun en=>match fe en with
 | .ok r=>match r.c with
  | .p d=>match g d en with
   | some e=>some (.nx e)
   | none=>none
  | _=>none
 | .exc C=>some (.ex C en)
 | .bad=>none
theorem rZ{tg e:Expr}{ks:List Nat}{g:D->En->Option En}{fe:En->Res Ev}(he:DE X E e fe)(hg:DG X tg ks g)(hs:swapsWithSole [tg] e pos.line X.env=pure false:=by rfl)(hw:swappedStores [tg] e X.env=pure none:=by rfl)
  (h1:(assignEach [tg] X.env).map (·.2)=[assign tg X.env]:=by rfl):DS X E (.Assign [tg] e pos) (vZ g fe):=by
 obtain ⟨t,p,m⟩:=he.out
 refine DS.in ⟨_,s8 p hg hs hw h1,fun B G0 G W H σ en Dn hh hs hw=>m B G0 G W H σ en _ hh hs ?_⟩
 unfold vZ at hw
 cases ef:fe en with
 | bad=>rw [ef] at hw;exact hw
 | exc C=>rw [ef] at hw;exact fun G1 H1 s=>hw G1 W H1 σ (hh.step s) (hs.step s)
 | ok r =>
  rw [ef] at hw
  intro G1 H1 v s e
  obtain ⟨G2,s2,e2⟩:=e.c s
  dsimp only at hw
  cases er:r.c with
  | p d =>
   rw [er] at hw e2
   dsimp only at hw
   cases eg:g d en with
   | none=>rw [eg] at hw;exact hw.elim
   | some e' =>
    rw [eg] at hw
    exact ⟨G2,W,en,d,e',s2.gh,hs.step s2,e2,eg,fun σ' hσ _=>hw G2 W H1 σ' (hh.step s2) hσ⟩
  | f d=>rw [er] at hw;exact hw.elim
  | b d=>rw [er] at hw;exact hw.elim
  | x C=>rw [er] at hw;exact hw.elim
def gY(tg:D->En->Option En)(f:MS):List D->MS
 | [],en=>some (.nx en)
 | d :: ds,en=>match tg d en with
  | none=>none
  | some e1=>match f e1 with
   | some (.nx e2)=>gY tg f ds e2
   | some (.ct e2)=>gY tg f ds e2
   | some (.bk e2)=>some (.nx e2)
   | r=>r
def tV(fi:En->Res (List D))(tg:D->En->Option En)(f:MS):MS:=fun en=>match fi en with
 | .ok ds=>gY tg f ds en
 | .exc C=>some (.ex C en)
 | .bad=>none
theorem SimH.lower{B G0 G1 G H H1:Hp}{W W1:Addr->Option Nat}(h:SimH B G1 G W H)(h1:SimH B G0 G1 W1 H1):SimH B G0 G W H :=
 ⟨h.gh,h.bh,h1.g0.trans h.g0,fun b hb=>(h.gb b hb).elim (fun z=>h1.gb b z) .inr,h.wf⟩
theorem SimH.raise{B G0 G H:Hp}{W:Addr->Option Nat}(h:SimH B G0 G W H):SimH B G G W H:=⟨h.gh,h.bh,Same.refl _,fun _ hb=>.inl hb,h.wf⟩
theorem PostS.lower{K:aQk}{B G0 G1 H1:Hp}{W1:Addr->Option Nat}{Dn:Ends}{r:Out}(h:PostS K B G0 E Dn r)(h1:SimH B G0 G1 W1 H1):PostS K B G1 E Dn r:=by
 cases r with
 | nx en=>exact fun G W H σ a b=>h G W H σ (a.lower h1) b
 | bk en=>exact fun G W H σ a b=>h G W H σ (a.lower h1) b
 | ct en=>exact fun G W H σ a b=>h G W H σ (a.lower h1) b
 | rt l=>exact fun G W H σ a b=>h G W H σ (a.lower h1) b
 | ex C en=>exact fun G W H σ a b=>h G W H σ (a.lower h1) b
theorem jA{tg iter:Expr}{body:List Stmt}{fi:En->Res (List D)}{ks:List Nat}{g:D->En->Option En}{f:MS}(hp:PassesOwn (model X.prog X.w) X.A X.env X.xe)(hc:X.calm=true)(hi:DI X E tg iter fi)(hg:DG X tg ks g)(hb:DSs X E body f)
  (hs:∀ x,foldedSetIterable iter X.env x=pure x:=by intro _;rfl):DS X E (.For tg iter body [] pos) (tV fi g f):=by
 obtain ⟨t,p,m⟩:=hb.out
 refine DS.in ⟨_,aK9 hp hc hi hg p hs,fun B G0 G W H σ en Dn hh hs hw=>⟨B,G0,G,W,en,hh,hs,?_⟩⟩
 unfold tV at hw
 cases ef:fi en with
 | bad=>rw [ef] at hw;exact hw
 | exc C=>rw [ef] at hw;exact fun G1 H1 s=>hw G1 W H1 σ (hh.step s) (hs.step s)
 | ok ds =>
  rw [ef] at hw
  intro G1 H1 J s1 hJ
  have hh1:=hh.step s1
  refine ⟨fun i n σ H=>n=ds.length - i/\i<=ds.length/\∃ G W en,SimH B G1 G W H/\SimS X.K W G H σ en/\wpO (gY g f (ds.drop i) en) (PostS X.K B G0 E Dn),
   ⟨ds.length,rfl,aRj _,G1,W,en,hh1.raise,hs.step s1,hw⟩,?_⟩
  rintro i n σ H ⟨rfl,hi,G,W,en,hh,hs,hw⟩
  obtain ⟨j1,j2⟩:=hJ G H hh.g0 hh.gh
  by_cases hlt:i < ds.length
  ·refine .inr ?_
   obtain ⟨jg,jy⟩:=j1 i ds[i] (aQn hlt)
   rw [aWb hlt] at hw
   unfold gY at hw
   refine ⟨jg,fun σ' H'=>∃ G W en,SimH B G1 G W H'/\SimS X.K W G H' σ' en/\wpO (gY g f (ds.drop (i+1)) en) (PostS X.K B G0 E Dn),fun σ' H' q=>⟨ds.length - (i+1),by omega,rfl,hlt,q⟩,fun v H' hy=>?_⟩
   obtain ⟨G2,s2,rv⟩:=jy v H' hy
   cases eg:g ds[i] en with
   | none=>rw [eg] at hw;exact hw.elim
   | some e1 =>
    rw [eg] at hw
    dsimp only at hw
    refine ⟨G2,W,en,ds[i],e1,s2.gh,hs.step s2,rv,eg,fun σ' hσ _=>?_⟩
    refine m B G1 G2 W H' σ' e1 _ (hh.step s2) hσ ?_
    cases ef2:f e1 with
    | none=>rw [ef2] at hw;exact hw
    | some o =>
     rw [ef2] at hw
     cases o with
     | nx e=>exact fun G2 W2 H2 σ2 h2 s2=>⟨G2,W2,e,h2,s2,hw⟩
     | ct e=>exact fun G2 W2 H2 σ2 h2 s2=>⟨G2,W2,e,h2,s2,hw⟩
     | bk e=>exact PostS.lower (E:=E) (Dn:=Dn) (r:=.nx e) hw hh1
     | rt l=>exact PostS.lower (E:=E) (Dn:=Dn) (r:=.rt l) hw hh1
     | ex C e=>exact PostS.lower (E:=E) (Dn:=Dn) (r:=.ex C e) hw hh1
  ·have e:i=ds.length:=by omega
   subst e
   rw [List.drop_length] at hw
   exact .inl ⟨j2,hw G W H σ (hh.lower hh1) hs⟩
def aIo(r:Ev):Res (List D):=match r with
 | .p (.list ds)=>.ok ds
 | _=>.bad
def iE(fe:En->Res Ev):En->Res (List D):=fun en=>(fe en).bind fun r=>aIo r.c
theorem d4{tg e:Expr}{fe:En->Res Ev}(he:DE X E e fe):DI X E tg e (iE fe):=by
 obtain ⟨t,p,m⟩:=he.out
 refine DI.in ⟨_,aHp p,fun B G0 G W H σ en R hh hs hw=>m B G0 G W H σ en _ hh hs ?_⟩
 have hw:wpR ((fe en).bind _) _ _:=hw
 rw [b7] at hw
 refine bD hw (fun r hr G1 H1 v s e=>?_) fun C h=>h
 obtain ⟨G2,s2,e2⟩:=e.c s
 cases er:r.c with
 | p d =>
  rw [er] at hr e2
  cases d with
  | list ds =>
   cases e2 with
   | @lst a xs _ ha hrs =>
    refine ⟨a,rfl,⟨xs,s2.gh.seq (.inl ha)⟩,hr G2 H1 _ s2 fun G3 H3 k1 k2=>⟨fun i d ed=>?_,xs,(k1.trans k2).seq (.inl ha),aT4 hrs.length⟩⟩
    obtain ⟨x,ex,rx⟩:=hrs.get' ed
    refine ⟨⟨xs,x,(k1.trans k2).seq (.inl ha),ex⟩,fun v H' hy=>?_⟩
    obtain ⟨rfl,hy⟩:=hy
    have:=hy xs ((k1.trans k2).seq (.inl ha))
    rw [ex] at this
    cases this
    exact ⟨G3,Step.refl k2,rx.mono k1⟩
  | _=>exact False.elim hr
 | f d=>rw [er] at hr;exact False.elim hr
 | b d=>rw [er] at hr;exact False.elim hr
 | x C=>rw [er] at hr;exact False.elim hr
def mR(lo:Int)(n:Nat):List D:=(List.range n).map fun (k:Nat)=>PyData.int (lo+(k:Int))
def lM(rs:List Ev):Res (List D):=match rs with
 | [.p (.int j)]=>if -(2 ^ 62)<=j/\j < 2 ^ 62 then .ok (mR 0 j.toNat) else .bad
 | _=>.bad
theorem yI(K:aQk)(lo:Int)(n:Nat)(G1:Hp):aCj K (mR lo n) G1 (Itr lo n):=fun G H _ k2=>by
 refine ⟨fun i d ed=>?_,by show n<=_;unfold mR;rw [aQm,aR5];exact aQu _⟩
 unfold mR at ed
 rw [aQ0] at ed
 by_cases hi:i < n
 ·rw [aTt hi] at ed
  cases ed
  refine ⟨hi,fun v H' hy=>?_⟩
  obtain ⟨rfl,rfl⟩:=hy
  exact ⟨G,Step.refl k2,.int _⟩
 ·rw [aRi (by rw [aR5];omega)] at ed
  cases ed
def t8(r:List Ev->Res (List D))(fr:En->Res (List Ev)):En->Res (List D):=fun en=>(fr en).bind r
theorem iZ{tg a:Expr}{fr:En->Res (List Ev)}{p:Pos}(hg:Gl X "range")(hm:X.mg "range" = none)(ha:DA X E [a] fr)(hs:starEach [a] X.env=[(false,eval a X.env)]:=by rfl):DI X E tg (.Call (.Name "range" p) [a] [] pos) (t8 lM fr):=by
 obtain ⟨t,q,m⟩:=ha.out
 refine DI.in ⟨_,aCo hg hm q hs,fun B G0 G W H σ en R hh hs hw=>m B G0 G W H σ en _ hh hs ?_⟩
 have hw:wpR ((fr en).bind _) _ _:=hw
 rw [b7] at hw
 refine bD hw (fun rs hr G1 H1 vs s e=>?_) fun C h=>h
 unfold lM at hr
 split at hr
 ·rename_i j
  split at hr
  ·rename_i hj
   match vs,e with
   | [v],⟨e1,_⟩ =>
    cases e1
    exact ⟨j,rfl,hj.1,hj.2,hr G1 H1 _ s (yI _ _ _ _)⟩
  ·exact False.elim hr
 ·exact False.elim hr
end
def sA:Ev->Option L
 | .p d=>some (.p d)
 | .x C=>some (.x C)
 | .b _=>none
 | .f _=>none
def yO:Ev->Option L
 | .p d=>some (.p d)
 | .b d=>some (.p d)
 | .x _=>none
 | .f _=>none
def gJ(g:Ev->Option L):List Ev->Option (List L)
 | []=>some []
 | r :: rs=>match g r with
  | none=>none
  | some l=>match gJ g rs with
   | none=>none
   | some ls=>some (l :: ls)
def qT:L->Ev
 | .p d=>.p d
 | .o d=>.f d
 | .x C=>.x C
 | .h a=>.x (.e a)
mutual
def lfD:D->Bool
 | .list _=>false
 | .dict _=>false
 | .tuple ds=>lfA ds
 | _=>true
def lfA:List D->Bool
 | []=>true
 | d :: ds=>lfD d && lfA ds
end
def lfP:List (D×D)->Bool
 | []=>true
 | p :: r=>lfD p.2 && lfP r
def aH6:L->Bool
 | .p d=>lfD d
 | .o (.list ds)=>lfA ds
 | .o (.dict kvs)=>lfP kvs
 | _=>false
def iW(n:Nat)(m:List L->Res L)(rs:List Ev):Res Ev:=match gJ sA rs with
 | some ls=>if ls.length=n then (m ls).bind fun l=>.ok (qT l) else .bad
 | none=>match gJ yO rs with
  | some ls=>if ls.length=n then (m ls).bind fun l=>if aH6 l=true then .ok (qT l) else .bad else .bad
  | none=>.bad
def aV(n:Nat)(m:List L->Res L)(fr:En->Res (List Ev)):En->Res Ev:=fun en=>(fr en).bind (iW n m)
def aNh(K:aQk)(G:Hp)(v:V):L->Prop
 | .p d=>Rep K G v d
 | .o _=>False
 | .x C=>XOk K G v C
 | .h _=>False
def ArgsOk(K:aQk)(G:Hp):List V->List L->Prop
 | [],[]=>True
 | v :: vs,l :: ls=>aNh K G v l/\ArgsOk K G vs ls
 | _,_=>False
theorem ArgsOk.length{K:aQk}{G:Hp}:∀ {vs:List V} {ls:List L},ArgsOk K G vs ls->vs.length=ls.length
 | [],[],_=>rfl
 | _ :: _,_ :: _,h=>by rw [aQp,aQp,ArgsOk.length h.2]
def spM(K:aQk)(n:Nat)(m:List L->Res L):Sp:=fun vs H Q E=>vs.length=n/\∃ G ls,Same G H/\ArgsOk K G vs ls /\
 wpR (m ls) (fun l=>∀ G' H' v,Step G H G' H'->aIb K H G' H' v l->Q v H') (fun C=>∀ G' H',Step G H G' H'->E (.ref C) none H')
theorem aBm{K:aQk}{W:Addr->Option Nat}{Hs G H:Hp}:∀ {rs:List Ev} {ls:List L} {vs:List V},gJ sA rs=some ls->EOks K W Hs G H vs rs->ArgsOk K G vs ls
 | [],_,[],h,_=>by cases h;exact trivial
 | [],_,_ :: _,_,e=>e.elim
 | _ :: _,_,[],_,e=>e.elim
 | r :: rs,ls,v :: vs,h,e=>by
  unfold gJ at h
  cases r with
  | p d =>
   cases er:gJ sA rs with
   | none=>rw [er] at h;cases h
   | some ls'=>rw [er] at h;cases h;exact ⟨e.1,aBm er e.2⟩
  | x C =>
   cases er:gJ sA rs with
   | none=>rw [er] at h;cases h
   | some ls'=>rw [er] at h;cases h;exact ⟨e.1,aBm er e.2⟩
  | b d=>cases h
  | f d=>cases h
def both(W:Addr->Option Nat)(G H:Hp):Hp:=fun b=>match W b with
 | some _=>H b
 | none=>G b
theorem kY{W:Addr->Option Nat}{B G0 G H:Hp}(hh:SimH B G0 G W H):Same G (both W G H)/\Same (both W G H) H:=by
 refine ⟨fun b o e=>?_,fun b o e=>?_⟩
 ·unfold both
  cases ew:W b with
  | none=>exact e
  | some i=>rw [(hh.wf b i ew).1] at e;cases e
 ·unfold both at e
  cases ew:W b with
  | none=>rw [ew] at e;exact hh.gh b o e
  | some i=>rw [ew] at e;exact e
theorem xT{K:aQk}{W:Addr->Option Nat}{Hs B G0 G H:Hp}(hh:SimH B G0 G W H):∀ {rs:List Ev} {ls:List L} {vs:List V},gJ yO rs=some ls->EOks K W Hs G H vs rs->ArgsOk K (both W G H) vs ls
 | [],_,[],h,_=>by cases h;exact trivial
 | [],_,_ :: _,_,e=>e.elim
 | _ :: _,_,[],_,e=>e.elim
 | r :: rs,ls,v :: vs,h,e=>by
  unfold gJ at h
  cases r with
  | p d =>
   cases er:gJ yO rs with
   | none=>rw [er] at h;cases h
   | some ls'=>rw [er] at h;cases h;exact ⟨Rep.mono (kY hh).1 e.1,xT hh er e.2⟩
  | b d =>
   cases er:gJ yO rs with
   | none=>rw [er] at h;cases h
   | some ls' =>
    rw [er] at h;cases h
    refine ⟨?_,xT hh er e.2⟩
    obtain ⟨a,i,o,rfl,h1,h2,h3⟩:=e.1
    exact (h3.mono (kY hh).1).rep (by unfold both;rw [h1];exact h2)
  | x d=>cases h
  | f d=>cases h
mutual
theorem tN{K:aQk}{G G':Hp}(k:∀ b xs,G b=some (.tup xs)->G' b=some (.tup xs)):∀ {v:V} {d:D},lfD d=true->Rep K G v d->Rep K G' v d
 | _,_,_,.non=>.non
 | _,_,_,.bl b=>.bl b
 | _,_,_,.int i=>.int i
 | _,_,_,.str x=>.str x
 | _,_,hf,.tup h r=>.tup (k _ _ h) (rJ k (by unfold lfD at hf;exact hf) r)
 | _,_,hf,.lst _ _=>by unfold lfD at hf;cases hf
 | _,_,hf,.dT _ _=>by unfold lfD at hf;cases hf
 | _,_,hf,.dK _ _=>by unfold lfD at hf;cases hf
theorem rJ{K:aQk}{G G':Hp}(k:∀ b xs,G b=some (.tup xs)->G' b=some (.tup xs)):∀ {vs:List V} {ds:List D},lfA ds=true->Reps K G vs ds->Reps K G' vs ds
 | _,_,_,.nil=>.nil
 | _,_,hf,.cons h r=>by
  unfold lfA at hf
  have hf:=aRh.mp hf
  exact .cons (tN k hf.1 h) (rJ k hf.2 r)
end
theorem aBd{K:aQk}{G G':Hp}(k:∀ b xs,G b=some (.tup xs)->G' b=some (.tup xs)):∀ {kv:List (List Key×V)} {kvs:List (D×D)},lfP kvs=true->RepT K G kv kvs->RepT K G' kv kvs
 | _,_,_,.nil=>.nil
 | _,_,hf,.cons h r=>by
  unfold lfP at hf
  have hf:=aRh.mp hf
  exact .cons (tN k hf.1 h) (aBd k hf.2 r)
theorem aAk{K:aQk}{G G':Hp}(k:∀ b xs,G b=some (.tup xs)->G' b=some (.tup xs)):∀ {kv:List (Key×V)} {kvs:List (D×D)},lfP kvs=true->RepK K G kv kvs->RepK K G' kv kvs
 | _,_,_,.nil=>.nil
 | _,_,hf,.cons h r=>by
  unfold lfP at hf
  have hf:=aRh.mp hf
  exact .cons (tN k hf.1 h) (aAk k hf.2 r)
def g6(W:Addr->Option Nat)(G:Hp):Hp:=fun b=>match W b with
 | some _=>none
 | none=>G b
theorem aD4{K:aQk}{W:Addr->Option Nat}{H1 G H Hs:Hp}{v:V}{l:L}(hf:aH6 l=true)(hH:Hs=Hs)(hs:∀ b,H1 b=none->Hs b=none)(k:∀ b xs,G b=some (.tup xs)->g6 W G b=some (.tup xs))(h:aIb K H1 G H v l):EOk K W Hs (g6 W G) H v (qT l):=by
 have n0:∀ b,G b=none->g6 W G b=none:=fun b e=>by
  unfold g6
  cases W b with
  | none=>exact e
  | some _=>rfl
 cases l with
 | x C=>cases hf
 | h a=>cases hf
 | p d=>exact tN k hf h
 | o d =>
  obtain ⟨a,o,rfl,h1,h2,h3,h4⟩:=h
  refine ⟨a,o,rfl,hs _ h2,n0 _ h1,h3,?_⟩
  cases h4 with
  | lst r=>exact .lst (rJ k hf r)
  | dT r=>exact .dT (aBd k hf r)
  | dK r=>exact .dK (aAk k (by unfold aH6 at hf;unfold lfP at hf;exact (aRh.mp hf).2) r)
theorem rQ{K:aQk}{W:Addr->Option Nat}{B G0 G H G1 H1:Hp}{n:Nat}{m:List L->Res L}{rs:List Ev}{vs:List V}{Q:VK}{EE:XK}(hh:SimH B G0 G W H)(s:Step G H G1 H1)(e:EOks K W H G1 H1 vs rs)
  (hr:wpR (iW n m rs) (PostE K W G H Q) (PostX EE G H)):spM K n m vs H1 Q EE:=by
 unfold iW at hr
 split at hr
 ·rename_i ls el
  split at hr
  ·rename_i hn
   have ha:=aBm el e
   refine ⟨by rw [ha.length];exact hn,G1,ls,s.gh,ha,?_⟩
   rw [b7] at hr
   refine bD hr (fun l hl G2 H2 v s2 rv=>hl G2 H2 v (s.trans s2) ?_) fun C h G2 H2 s2=>h G2 H2 (s.trans s2)
   cases l with
   | p d=>exact rv
   | x C=>exact rv
   | h a=>exact rv.elim
   | o d =>
    obtain ⟨a,o,h1,h2,h3,h4,h5⟩:=rv
    exact ⟨a,o,h1,s.h.free h3,h2,h4,h5⟩
  ·exact hr.elim
 ·split at hr
  ·rename_i ls el
   split at hr
   ·rename_i hn
    have hh1:=hh.step s
    have ha:=xT hh1 el e
    obtain ⟨k1,k2⟩:=kY hh1
    refine ⟨by rw [ha.length];exact hn,both W G1 H1,ls,k2,ha,?_⟩
    rw [b7] at hr
    refine bD hr (fun l hl G2 H2 v s2 rv=>?_) fun C h G2 H2 s2=>h G1 H2 (s.trans ⟨Same.refl _,s2.h,s.gh.trans s2.h,fun _ _ q=>.inl q⟩)
    split at hl
    ·rename_i hf
     have kt:∀ b xs,G2 b=some (.tup xs)->g6 W G2 b=some (.tup xs):=fun b xs eb=>by
      unfold g6
      cases ew:W b with
      | none=>exact eb
      | some i =>
       obtain ⟨_,_,o,e1,e2⟩:=hh1.wf b i ew
       have e3:=s2.gh _ _ eb
       rw [s2.h _ _ e1] at e3
       exact absurd (aQ7 e3) (e2 xs)
     refine hl (g6 W G2) H2 v ⟨fun b o eb=>?_,s.h.trans s2.h,fun b o eb=>?_,fun b hb hg=>?_⟩ (aD4 hf rfl (fun b e=>s.h.free e) kt rv)
     ·have e1:=s.g _ _ eb
      unfold g6
      cases ew:W b with
      | none=>exact s2.g _ _ (k1 _ _ e1)
      | some i=>rw [(hh1.wf b i ew).1] at e1;cases e1
     ·unfold g6 at eb
      cases ew:W b with
      | none=>rw [ew] at eb;exact s2.gh _ _ eb
      | some i=>rw [ew] at eb;cases eb
     ·unfold g6
      cases ew:W b with
      | some i=>exact .inl rfl
      | none =>
       rcases s.new b hb hg with z | z
       ·have z2:both W G1 H1 b=none:=by unfold both;rw [ew];exact z
        rcases s2.new b (oG s.h hb) z2 with y | ⟨xs,y⟩
        ·exact .inl y
        ·cases e:H b with
         | none=>exact absurd e hb
         | some o=>rw [s.h _ _ e] at y;exact .inr ⟨xs,y⟩
       ·exact .inr z
    ·exact hl.elim
   ·exact hr.elim
  ·exact hr.elim
section
variable {X:Cx}{E:L2.St->XK}{k:Nat}{f:Addr}{fd:FuncData}{ps:List Str}{x:Str}{p pos:Pos}{e:Expr}{es:List Expr}{fr:En->Res (List Ev)}{n:Nat}{m:List L->Res L}
theorem aHw(F:FnOk X.prog X.w X.K X.mg X.base (CXr X.prog X.w) k f fd ps (spM X.K n m))(hr:Room k X.A)(hg:Gl X x)(hm:X.mg x=some (.ref f))(hk:PySem.W.keepIn X.K (.ref f)=true)(hb:Binds X.K fd ps [])(hx:kI (CXr X.prog X.w) X E)
  (ha:DA X E (e :: es) fr) (hdb:(x == ("__debug__" : Str))=false:=by decide) (he:starEach (e :: es) X.env=(false,eval e X.env) :: starEach es X.env:=by rfl) (hpl:(backTo pos (starEach es X.env)).any (·.1)=false:=by rfl) :
  DE X E (.Call (.Name x p) (e :: es) [] pos) (aV n m fr):=by
 obtain ⟨t,q,mm⟩:=ha.out
 refine DE.in ⟨_,aC4 F hr hg hm hk hb hx q hdb he hpl,fun B G0 G W H σ en Q hh hs hw=>mm B G0 G W H σ en _ hh hs ?_⟩
 have hw:wpR ((fr en).bind _) _ _:=hw
 rw [b7] at hw
 exact bD hw (fun rs hr G1 H1 vs s e=>rQ hh s e hr) fun C h=>h
def nN(K:aQk)(r:List V->Hp->VK->Prop)(f:List Ev->Res Ev):Prop:=∀ (W:Addr->Option Nat) (Hs G H:Hp) (vs:List V) (rs:List Ev) (Q:VK),Same G H->EOks K W Hs G H vs rs->wpR (f rs) (PostE K W G H Q) (fun _=>False)->r vs H Q
def aA8(f:List Ev->Res Ev):Prop:=∀ rs C,f rs≠.exc C
def aE(f:List Ev->Res Ev)(fr:En->Res (List Ev)):En->Res Ev:=fun en=>(fr en).bind f
theorem pS{r:List V->Hp->VK->Prop}{f:List Ev->Res Ev}{t:TA}(hm:nN X.K r f)(hn:aA8 f)(mm:∀ B G0 G W H σ en Q,SimH B G0 G W H->SimS X.K W G H σ en->wpR (fr en) (aDy X.K W G H Q) (PostX (E σ) G H)->t σ H Q) :
  ∀ B G0 G W H σ en Q,SimH B G0 G W H->SimS X.K W G H σ en->wpR (aE f fr en) (PostE X.K W G H Q) (PostX (E σ) G H)->tCB r t σ H Q:=by
 intro B G0 G W H σ en Q hh hs hw
 refine mm B G0 G W H σ en _ hh hs ?_
 have hw:wpR ((fr en).bind _) _ _:=hw
 rw [b7] at hw
 exact bD hw (fun rs hr G1 H1 vs s e=>hm W H G1 H1 vs rs Q s.gh e (noX (bD hr (fun _ h=>h.step s) fun _ h=>h) (hn rs))) fun C h=>h
theorem bX{id:String}{r:List V->Hp->VK->Prop}{f:List Ev->Res Ev}(hc:lU X (.builtin id) r)(hM:nN X.K r f)(hn:aA8 f)(hg:Gl X x)(hm:X.mg x=none)(hv:bootBuiltins x=some (.builtin id))(ha:DA X E (e :: es) fr)(hnn:x≠"__name__":=by decide)(hdb:(x == ("__debug__" : Str))=false:=by decide)
  (he:starEach (e :: es) X.env=(false,eval e X.env) :: starEach es X.env:=by rfl) (hpl:(backTo pos (starEach es X.env)).any (·.1)=false:=by rfl):DE X E (.Call (.Name x p) (e :: es) [] pos) (aE f fr):=by
 obtain ⟨t,q,mm⟩:=ha.out
 exact DE.in ⟨_,xC hc hg hm hv q hnn hdb he hpl,pS hM hn mm⟩
theorem k9{T:String}{r:List V->Hp->VK->Prop}{f:List Ev->Res Ev}(hc:lU X (.type T) r)(hM:nN X.K r f)(hn:aA8 f)(hg:Gl X x)(hm:X.mg x=none)(hv:bootBuiltins x=some (.type T))(ha:DA X E (e :: es) fr)(hnn:x≠"__name__":=by decide)(hdb:(x == ("__debug__" : Str))=false:=by decide)
  (he:starEach (e :: es) X.env=(false,eval e X.env) :: starEach es X.env:=by rfl) (hpl:(backTo pos (starEach es X.env)).any (·.1)=false:=by rfl):DE X E (.Call (.Name x p) (e :: es) [] pos) (aE f fr):=by
 obtain ⟨t,q,mm⟩:=ha.out
 exact DE.in ⟨_,aA3 hc hg hm hv q hnn hdb he hpl,pS hM hn mm⟩
end
def cW(n:Nat)(ls:List L):En:=ls.map some++List.replicate (n - ls.length) none
def gS(n:Nat)(f:MS)(ls:List L):Res L:=match f (cW n ls) with
 | some (.nx _)=>.ok (.p .none)
 | some (.rt l)=>.ok l
 | some (.ex C _)=>.exc C
 | _=>.bad
theorem lV{K:aQk}{W:Addr->Option Nat}{G H:Hp}:∀ {vs:List V} {ls:List L} (i:Nat) (l:L),ArgsOk K G vs ls->ls[i]? = some l->∃ v,vs[i]? = some v/\∀ j,Slot K W G H j v l
 | [],[],_,_,_,e=>by simp at e
 | v :: vs,l :: ls,0,m,h,e=>by
  simp at e;subst e
  refine ⟨v,rfl,fun j=>?_⟩
  have z:=h.1
  cases l with
  | p d=>exact z
  | x C=>exact z
  | h a=>exact z.elim
  | o d=>exact z.elim
 | v :: vs,l :: ls,i+1,m,h,e=>by
  have:=lV (W:=W) (H:=H) i m h.2 (by simpa using e)
  simpa using this
theorem aAb{K:aQk}{W:Addr->Option Nat}{G H:Hp}{N:List Str}{vs:List V}{ls:List L}(h:ArgsOk K G vs ls):SimS K W G H (L2.start N vs) (cW N.length ls):=by
 have hl:=h.length
 refine ⟨by unfold L2.start cW;simp [hl],fun i l e=>?_⟩
 unfold cW at e
 by_cases hi:i < ls.length
 ·rw [aRo (by rw [aQm];exact hi),aQ0] at e
  cases e2:ls[i]? with
  | none=>rw [e2] at e;cases e
  | some l' =>
   rw [e2] at e
   cases e
   obtain ⟨v,e3,e4⟩:=lV (W:=W) (H:=H) i l h e2
   refine ⟨v,?_,e4 i⟩
   unfold L2.start
   rw [aRo (by rw [aQm,hl];exact hi),aQ0,e3]
   rfl
 ·rw [aRb (by rw [aQm];omega),aS5] at e
  split at e<;>cases e
theorem uF{G H G' H':Hp}{W:Addr->Option Nat}(h:SimH H G G' W H'):Step G H G' H':=⟨h.g0,h.bh,h.gh,fun b hb hg=>by
 cases e:G' b with
 | none=>exact .inl rfl
 | some o =>
  rcases h.gb b (by rw [e];exact fun z=>nomatch z) with z | z | z
  ·exact absurd hg z
  ·exact absurd z hb
  ·exact .inr z⟩
theorem zR{K:aQk}{N:List Str}{n:Nat}{m:List L->Res L}{fm:MS}{vs:List V}{H:Hp}{Q:VK}{E:XK}(h:spM K n m vs H Q E)(hm:∀ ls,m ls=.bad\/gS N.length fm ls=m ls) :
  tS K (fun _=>E) fm { nx:=fun _ H'=>Q .non H',rt:=Q } (L2.start N vs) H:=by
 obtain ⟨hl,G,ls,gh,ha,hw⟩:=h
 refine ⟨H,G,G,fun _=>none,cW N.length ls,⟨gh,Same.refl _,Same.refl _,fun _ hb=>.inl hb,fun a i e=>nomatch e⟩,aAb ha,?_⟩
 rcases hm ls with e | e
 ·rw [e] at hw;exact hw.elim
 ·rw [<- e] at hw
  unfold gS at hw
  cases ef:fm (cW N.length ls) with
  | none=>rw [ef] at hw;exact hw
  | some o =>
   rw [ef] at hw
   cases o with
   | nx en=>exact fun G' W' H' σ' h1 _=>hw G' H' .non (uF h1) .non
   | rt l=>exact fun G' W' H' v h1 h2=>hw G' H' v (uF h1) h2
   | bk en=>exact hw.elim
   | ct en=>exact hw.elim
   | ex C en=>exact fun G' W' H' σ' h1 _=>hw G' H' (uF h1)
section
variable {P:Program}{w:World}{K:aQk}{mg:Str->Option Value}{base:Heap}
theorem cR{N:List Str}{qual:Str}{scope:Scope}{f:Addr}{cd:Value}{A:Around}{outer:List Env}{s:Shared}{H:Hp}{E:XK}:kI (CXr P w) (j8 (CXr P w) P w K mg base N qual scope f cd A outer s H E) (fun _=>E) :=
 fun pins σ H s e s' I h=>aM7 pins σ H s e s' I h
theorem aIg{X:Cx}:kI (CXr P w) X (fun _=>E0):=fun _ _ _ _ _ _ _ ⟨_,_,_,_,_,_,_,z⟩=>z.elim
theorem fnM{x qual:Str}{st:Stmt}{f:Addr}{fd:FuncData}{N ps:List Str}{k n:Nat}{m:List L->Res L}(F:Fun K x qual st f fd)(S:bV N ps (aQ st))(hn:n=ps.length)
  (hbody:∀ (cdv:Value) (A:Around) (outer:List Env) (s:Shared) (H:Hp) (E:XK),Room k (A.deeper (envOfC qual (aQ st) s.heap.objs.size f cdv)) ->
   ∃ fm,DSs (j8 (CXr P w) P w K mg base N qual (aQ st) f cdv A outer s H E) (fun _=>E) (dM st) fm/\∀ ls,m ls=.bad\/gS N.length fm ls=m ls):FnOk P w K mg base (CXr P w) (k+1) f fd ps (spM K n m):=by
 refine F.okX S (fun vs H Q E h=>?_) (fun cdv A outer s H vs Q E hr h=>?_)
 ·rw [<- hn];exact h.1
 ·obtain ⟨fm,hd,hm⟩:=hbody cdv A outer s H E hr
  exact ⟨_,hd,zR h hm⟩
end
def lA(C:Addr)(fr:En->Res (List Ev)):MS:=fun en=>match fr en with
 | .ok rs=>if rs.length<=1000 then some (.ex C en) else none
 | .exc C=>some (.ex C en)
 | .bad=>none
theorem EOks.length{K:aQk}{W:Addr->Option Nat}{Hs G H:Hp}:∀ {vs:List V} {rs:List Ev},EOks K W Hs G H vs rs->vs.length=rs.length
 | [],[],_=>rfl
 | [],_ :: _,h=>h.elim
 | _ :: _,[],h=>h.elim
 | _ :: _,_ :: _,h=>by rw [aQp,aQp,EOks.length h.2]
section
variable {X:Cx}
theorem aEy{E:XK}{x:Str}{e₀:Expr}{rest:List Expr}{fr:En->Res (List Ev)}{C:Addr}{bm:List Value}{B newId initId:String}{np cpos pos:Pos}(hx:aCz X E)(hc:X.calm=true)(hg:Gl X x)(O:OwnCls x C bm newId X.mg X.base)
  (FB:ExcBaseFacts B newId initId bm) (ha:DA X (fun _=>E) (e₀ :: rest) fr) (hdb:(x == ("__debug__" : Str))=false:=by decide)
  (he:starEach (e₀ :: rest) X.env=(false,eval e₀ X.env) :: starEach rest X.env:=by rfl) (hpl:(backTo cpos (starEach rest X.env)).any (·.1)=false:=by rfl) :
  DS X (fun _=>E) (.Raise (some (.Call (.Name x np) (e₀ :: rest) [] cpos)) none pos) (lA C fr):=by
 obtain ⟨t,q,m⟩:=ha.out
 refine DS.in ⟨_,aDu hx hc hg O FB q hdb he hpl,fun B G0 G W H σ en Dn hh hs hw=>m B G0 G W H σ en _ hh hs ?_⟩
 unfold lA at hw
 cases ef:fr en with
 | bad=>rw [ef] at hw;exact hw
 | exc C=>rw [ef] at hw;exact fun G1 H1 s=>hw G1 W H1 σ (hh.step s) (hs.step s)
 | ok rs =>
  rw [ef] at hw
  intro G1 H1 vs s e
  dsimp only at hw
  split at hw
  ·rename_i hl
   exact ⟨by rw [e.length];exact aR0 hl (by decide),hw G1 W H1 σ (hh.step s) (hs.step s)⟩
  ·exact hw.elim
end
def kH:List Ev->Option (List D)
 | []=>some []
 | r :: rs=>match r with
  | .p d=>match kH rs with
   | some ds=>some (d :: ds)
   | none=>none
  | _=>none
theorem nW{K:aQk}{W:Addr->Option Nat}{Hs G H:Hp}:∀ {rs:List Ev} {ds:List D} {vs:List V},kH rs=some ds->EOks K W Hs G H vs rs->Reps K G vs ds
 | [],_,[],h,_=>by cases h;exact .nil
 | [],_,_ :: _,_,e=>e.elim
 | _ :: _,_,[],_,e=>e.elim
 | r :: rs,ds,v :: vs,h,e=>by
  unfold kH at h
  cases r with
  | p d =>
   dsimp only at h
   cases er:kH rs with
   | none=>rw [er] at h;cases h
   | some ds'=>rw [er] at h;cases h;exact .cons e.1 (nW er e.2)
  | x C=>cases h
  | b d=>cases h
  | f d=>cases h
def aT(rs:List Ev):Res Ev:=match kH rs with
 | some ds=>if ds.length<=1000 then .ok (.p (.tuple ds)) else .bad
 | none=>.bad
def fI(rs:List Ev):Res Ev:=match kH rs with
 | some ds=>if ds.length<=1000 then .ok (.f (.list ds)) else .bad
 | none=>.bad
section
variable {X:Cx}{E:L2.St->XK}{es:List Expr}{fr:En->Res (List Ev)}{pos:Pos}
theorem aW{x1}(h:DA X E es fr):DE X E (.Tuple es x1 pos) (aE aT fr):=by
 obtain ⟨t,q,m⟩:=h.out
 refine DE.in ⟨_,aJr q,fun B G0 G W H σ en Q hh hs hw=>m B G0 G W H σ en _ hh hs ?_⟩
 have hw:wpR ((fr en).bind _) _ _:=hw
 rw [b7] at hw
 refine bD hw (fun rs hr G1 H1 vs s e=>?_) fun C h=>h
 unfold aT at hr
 split at hr
 ·rename_i ds el
  have rp:=nW el e
  split at hr
  ·rename_i hl
   refine ⟨by rw [rp.length];exact aR0 hl (by decide),fun p hp=>?_⟩
   have st:=Step.put (o:=.tup vs) s.gh hp
   exact hr _ _ _ (s.trans st) (.tup bJ (rp.mono st.g))
  ·exact False.elim hr
 ·exact False.elim hr
theorem iC(h:DA X E es fr):DE X E (.List es pos) (aE fI fr):=by
 obtain ⟨t,q,m⟩:=h.out
 refine DE.in ⟨_,aLq q,fun B G0 G W H σ en Q hh hs hw=>m B G0 G W H σ en _ hh hs ?_⟩
 have hw:wpR ((fr en).bind _) _ _:=hw
 rw [b7] at hw
 refine bD hw (fun rs hr G1 H1 vs s e=>?_) fun C h=>h
 unfold fI at hr
 split at hr
 ·rename_i ds el
  have rp:=nW el e
  split at hr
  ·rename_i hl
   refine ⟨by rw [rp.length];exact aR0 hl (by decide),fun p hp=>?_⟩
   have st:=Step.lay (o:=.lst vs) s.gh hp
   exact hr _ _ _ (s.trans st) ⟨p,_,rfl,s.h.free hp,s.gh.free hp,bJ,.lst rp⟩
  ·exact False.elim hr
 ·exact False.elim hr
end
def oX(g:D->Option (Option D)):List D->Option (List D)
 | []=>some []
 | d :: ds=>match g d with
  | none=>none
  | some o=>match oX g ds with
   | none=>none
   | some r=>some (match o with
    | some y=>y :: r
    | none=>r)
def aFc(o:Option (Option L)):Option L:=match o with
 | some (some (.p d))=>some (.p d)
 | some (some (.x C))=>some (.x C)
 | _=>none
def zV(js:List Nat)(en:En):En:=js.map fun j=>aFc en[j]?
def hV:En->Res Bool:=fun _=>.ok true
def cB(n:Nat)(js:List Nat)(tg:D->En->Option En)(ft:En->Res Bool)(fe:En->Res Ev)(en:En)(d:D):Option (Option D):=match tg d (List.replicate n none++zV js en) with
 | none=>none
 | some e=>match ft e with
  | .ok true=>match fe e with
   | .ok r=>match r.c with
    | .p y=>some (some y)
    | _=>none
   | _=>none
  | .ok false=>some none
  | _=>none
def aEb(g:D->Option (Option D))(ds:List D):Res Ev:=if ds.length<=100000 then match oX g ds with
  | some r=>.ok (.f (.list r))
  | none=>.bad
 else .bad
def fQ(n:Nat)(js:List Nat)(fi:En->Res (List D))(tg:D->En->Option En)(ft:En->Res Bool)(fe:En->Res Ev):En->Res Ev:=fun en=>(fi en).bind fun ds=>aEb (cB n js tg ft fe en) ds
def DTs(X:Cx)(ifs:List Expr)(f:En->Res Bool):Prop:=PTs X ifs (tT X.K (fun _=>E0) f)
theorem aMm{G H:Hp}(h:Same G H):SimH H G G (fun _=>none) H:=⟨h,Same.refl _,Same.refl _,fun _ hb=>.inl hb,fun a i e=>nomatch e⟩
theorem aC7{K:aQk}{W:Addr->Option Nat}{G H:Hp}{σ:L2.St}{en:En}(n:Nat)(js:List Nat)(h:SimS K W G H σ en):SimS K (fun _=>none) G H (List.replicate n none++xB js σ) (List.replicate n none++zV js en):=by
 refine ⟨by unfold xB zV;simp,fun i l e=>?_⟩
 by_cases hi:i < n
 ·rw [aRo (by rw [aRm];exact hi),aS5] at e
  split at e<;>cases e
 ·rw [aRb (by rw [aRm];omega),aRm] at e ⊢
  unfold zV at e
  unfold xB
  rw [aQ0] at e ⊢
  cases ej:js[i - n]? with
  | none=>rw [ej] at e;cases e
  | some j =>
   rw [ej] at e
   have e':aFc en[j]? = some l:=aQ7 e
   unfold aFc at e'
   split at e'
   ·rename_i d q
    cases e'
    obtain ⟨v,h1,h2⟩:=h.2 j _ q
    exact ⟨v,by show some ((σ[j]?).getD none)=_;rw [h1];rfl,h2⟩
   ·rename_i d q
    cases e'
    obtain ⟨v,h1,h2⟩:=h.2 j _ q
    exact ⟨v,by show some ((σ[j]?).getD none)=_;rw [h1];rfl,h2⟩
   ·cases e'
section
variable {X:Cx}{E:L2.St->XK}{pos:Pos}
theorem fS:DTs X [] hV:=fun pins s σ H Q I ⟨B,G0,G,W,en,h1,h2,h3⟩=>aHy pins s σ H Q I (h3 G H (Step.refl h1.gh))
theorem vY{elt iter tg:Expr}{scope:Scope}{ifs:List Expr}{n:Nat}{js ks:List Nat}{fi:En->Res (List D)}{g:D->En->Option En}{ft:En->Res Bool}{fe:En->Res Ev}{xs ys:List Str}{cl:List (Str×Addr)}(hc:X.calm=true)(hi:DI X E tg iter fi)
  (hcl:aIy X scope cl) (hcap:o7 X scope cl ys js) (hcell:∀ y∈scope.names,y.2≠.cell) (hkind:scope.kind=.function) (hnames:∀ y∈scope.names,y.2=.local->scope.names.lookup y.1=some .local) (hn:xs.length=n) (hks:∀ j∈ks,j < n)
  (hg:∀ C s₀ H₀ ex pn,DG (cS X scope cl C (xs++ys) s₀ H₀ ex pn) tg ks g) (ht:∀ C s₀ H₀ ex pn,DTs (cS X scope cl C (xs++ys) s₀ H₀ ex pn) ifs ft) (hb:∀ C s₀ H₀ ex pn,DE (cS X scope cl C (xs++ys) s₀ H₀ ex pn) (fun _=>E0) elt fe)
  : ∀ B G0 G W H σ en Q,SimH B G0 G W H->SimS X.K W G H σ en->wpR (fQ n js fi g ft fe en) (PostE X.K W G H Q) (PostX (E σ) G H)->xF (tI X.K E fi) (tG X.K ks g) (tT X.K (fun _=>E0) ft) (tE X.K (fun _=>E0) fe) xs.length js σ H Q:=by
 subst hn
 refine fun B G0 G W H σ en Q hh hs hw=>⟨B,G0,G,W,en,hh,hs,?_⟩
 have hw:wpR ((fi en).bind _) _ _:=hw
 rw [b7] at hw
 refine bD hw (fun ds hds G1 H1 J s1 hJ D hD=>?_) fun C h=>h
 unfold aEb at hds
 split at hds
 case isFalse=>exact hds.elim
 rename_i hlen
 split at hds
 case h_2=>exact hds.elim
 rename_i r em
 have gD:G1 D=none:=s1.gh.free hD
 have aOz:∀ {G2 H2:Hp} {y:List V},Step G1 H1 G2 H2->G2 D=none->Step G1 H1 G2 (upd H2 D (.lst y)):=fun st hg2=>by
  refine ⟨st.g,fun b o e=>?_,fun b o e=>?_,st.new⟩
  ·rw [bB (dG e hD)];exact st.h b o e
  ·rw [bB (dG e hg2)];exact st.gh b o e
 refine ⟨ds.length,fun i ys H2=>i<=ds.length/\ys.length<=i/\∃ G2 rs rest,Step G1 H1 G2 H2/\G2 D=none/\H2 D=some (.lst ys)/\Reps X.K G2 ys rs/\oX (cB xs.length js g ft fe en) (ds.drop i)=some rest/\rs++rest=r,
  ⟨aRj _,aRj _,G1,[],r,Step.lay s1.gh hD,gD,bJ,.nil,em,rfl⟩,?_⟩
 rintro i zs H2 ⟨hi,hzl,G2,rs,rest,st,g2,h2,rp,em2,er⟩
 obtain ⟨j1,j2⟩:=hJ G2 H2 st.g st.gh
 by_cases hlt:i < ds.length
 ·refine .inr ⟨hlt,?_⟩
  obtain ⟨jg,jy⟩:=j1 i ds[i] (aQn hlt)
  refine ⟨jg,fun v H3 hy=>?_⟩
  obtain ⟨G3,s3,rv⟩:=jy v H3 hy
  rw [aWb hlt] at em2
  unfold oX at em2
  cases ec:cB xs.length js g ft fe en ds[i] with
  | none=>rw [ec] at em2;cases em2
  | some o =>
   rw [ec] at em2
   dsimp only at em2
   cases em3:oX (cB xs.length js g ft fe en) (ds.drop (i+1)) with
   | none=>rw [em3] at em2;cases em2
   | some rest' =>
    rw [em3] at em2
    have em2:=aQ7 em2
    unfold cB at ec
    split at ec
    ·cases ec
    ·rename_i e eg
     have in3:=aC7 xs.length js (hs.step ((s1.trans st).trans s3))
     refine ⟨G3,fun _=>none,_,ds[i],e,s3.gh,in3,rv,eg,fun σ' hσ hk=>⟨⟨?_,?_⟩,?_⟩⟩
     ·rw [hk.1];unfold xB;simp
     ·refine aS8 fun j=>?_
      rw [aT3,hk.2 (xs.length+j) fun z=>absurd (hks _ z) (by omega),aRb (by rw [aRm];omega),aRm]
      congr 1
      omega
     ·refine ⟨_,_,G3,fun _=>none,e,aMm s3.gh,hσ,?_⟩
      cases et:ft e with
      | bad=>rw [et] at ec;cases ec
      | exc C=>rw [et] at ec;cases ec
      | ok k =>
       rw [et] at ec
       intro G5 H5 s5
       cases k with
       | false =>
        cases ec
        rw [aQv aRd]
        have s25:=s3.trans s5
        exact ⟨hlt,Nat.le_succ_of_le hzl,G5,rs,rest',st.trans s25,s25.off h2 (fun xs z=>nomatch z) g2,s25.h _ _ h2,rp.mono s25.g,em3,by rw [<- er,<- em2]⟩
       | true =>
        rw [aQt rfl]
        refine ⟨_,_,G5,fun _=>none,e,aMm s5.gh,hσ.step s5,?_⟩
        dsimp only at ec
        cases ee:fe e with
        | bad=>rw [ee] at ec;cases ec
        | exc C=>rw [ee] at ec;cases ec
        | ok q =>
         rw [ee] at ec
         intro G6 H6 y s6 ey
         obtain ⟨G7,s7,e7⟩:=EOk.c s6 ey
         dsimp only at ec
         split at ec
         ·rename_i y' eq
          cases ec
          rw [eq] at e7
          have s27:=(s3.trans s5).trans s7
          have g7:=s27.off h2 (fun xs z=>nomatch z) g2
          refine ⟨s27.h _ _ h2,aT2 (aR0 hzl (aR0 hi hlen)) (by decide),hlt,by rw [aQz];exact Nat.succ_le_succ hzl,G7,rs++[y'],rest',aOz (st.trans s27) g7,g7,bJ,(rp.mono s27.g).append (.cons e7 .nil),em3,?_⟩
          rw [<- er,<- em2,aWe]
          rfl
         ·cases ec
 ·have e:i=ds.length:=by omega
  subst e
  rw [List.drop_length] at em2
  cases em2
  rw [aSo] at er
  subst er
  exact .inl ⟨j2,hds G2 H2 _ (s1.trans st) ⟨D,_,rfl,s1.h.free hD,g2,h2,.lst rp⟩⟩
theorem gK{elt iter tg:Expr}{scope:Scope}{ifs:List Expr}{n:Nat}{js ks:List Nat}{fi:En->Res (List D)}{g:D->En->Option En}{ft:En->Res Bool}{fe:En->Res Ev}{xs ys:List Str}{cl:List (Str×Addr)}(hc:X.calm=true)(hi:DI X E tg iter fi)
  (hcl:aIy X scope cl) (hcap:o7 X scope cl ys js) (hcell:∀ y∈scope.names,y.2≠.cell) (hkind:scope.kind=.function) (hnames:∀ y∈scope.names,y.2=.local->scope.names.lookup y.1=some .local) (hn:xs.length=n) (hks:∀ j∈ks,j < n)
  (hg:∀ C s₀ H₀ ex pn,DG (cS X scope cl C (xs++ys) s₀ H₀ ex pn) tg ks g) (ht:∀ C s₀ H₀ ex pn,DTs (cS X scope cl C (xs++ys) s₀ H₀ ex pn) ifs ft) (hb:∀ C s₀ H₀ ex pn,DE (cS X scope cl C (xs++ys) s₀ H₀ ex pn) (fun _=>E0) elt fe)
  (hs:∀ x,foldedSetIterable iter X.env x=pure x:=by intro _;rfl):DE X E (.ListComp elt [⟨tg,iter,ifs,0⟩] scope pos) (fQ n js fi g ft fe) :=
 DE.in ⟨_,aDp (xs:=xs) (g:=tG X.K ks g) (tt:=tT X.K (fun _=>E0) ft) (te:=tE X.K (fun _=>E0) fe) hc hi hcl hcap hcell hkind hnames hg ht hb hs,vY hc hi hcl hcap hcell hkind hnames hn hks hg ht hb⟩
theorem aIc{i:Nat}{y:Str}{py spos:Pos}(hN:X.N.Nodup)(hiN:X.N[i]? = some y)(hx:Loc X.env.scope y){elt iter tg:Expr}{scope:Scope}{ifs:List Expr}{n:Nat}{js ks:List Nat}{fi:En->Res (List D)}{g:D->En->Option En}{ft:En->Res Bool}{fe:En->Res Ev}{xs ys:List Str}{cl:List (Str×Addr)}(hc:X.calm=true)(hi:DI X E tg iter fi)
  (hcl:aIy X scope cl) (hcap:o7 X scope cl ys js) (hcell:∀ y∈scope.names,y.2≠.cell) (hkind:scope.kind=.function) (hnames:∀ y∈scope.names,y.2=.local->scope.names.lookup y.1=some .local) (hn:xs.length=n) (hks:∀ j∈ks,j < n)
  (hg:∀ C s₀ H₀ ex pn,DG (cS X scope cl C (xs++ys) s₀ H₀ ex pn) tg ks g) (ht:∀ C s₀ H₀ ex pn,DTs (cS X scope cl C (xs++ys) s₀ H₀ ex pn) ifs ft) (hb:∀ C s₀ H₀ ex pn,DE (cS X scope cl C (xs++ys) s₀ H₀ ex pn) (fun _=>E0) elt fe)
  (hsw:swapsWith (.ListComp elt [⟨tg,iter,ifs,0⟩] scope pos) (some (.Name y py)) spos.line X.env=pure true:=by rfl) (hs:∀ x,foldedSetIterable iter X.env x=pure x:=by intro _;rfl)
  (hf:X.fn y=true\/X.env.scope.names.lookup y=some .local:=by first | exact .inl rfl | exact .inr rfl | assumption):DS X E (.Assign [.Name y py] (.ListComp elt [⟨tg,iter,ifs,0⟩] scope pos) spos) (cJ i (fQ n js fi g ft fe)) :=
 DS.in ⟨_,aE4 (xs:=xs) (g:=tG X.K ks g) (tt:=tT X.K (fun _=>E0) ft) (te:=tE X.K (fun _=>E0) fe) hN hiN hx hc hi hcl hcap hcell hkind hnames hg ht hb hsw hs hf,v7 (vY hc hi hcl hcap hcell hkind hnames hn hks hg ht hb)⟩
end
section
variable {X:Cx}{K:aQk}
def rOr(r r':R2):R2:=fun x y H Q=>r x y H Q\/r' x y H Q
theorem OpR.or'{f:Value->Value->Sem Value}{r r':R2}(h:OpR X f r)(h':OpR X f r'):OpR X f (rOr r r'):=OpR.or h h'
def aMe:R2:=fun x y H Q=>∃ l b xs zs,x=.ref l/\y=.ref b/\Rd H l (.lst xs)/\Rd H b (.lst zs)/\xs.length+zs.length<=sizeLine/\∀ p,H p=none->Q (.ref p) (upd H p (.lst (xs++zs)))
theorem aIe:OpR X (binaryOp .Add) aMe:=by
 intro pins s σ H x y v u Q I rx ry h
 obtain ⟨l,b,xs,zs,rfl,rfl,hH,hB,hz,q⟩:=h
 cases rx
 cases ry
 obtain ⟨z,its,n,r,e⟩:=hH.ok I.hok
 obtain ⟨z2,its2,n2,r2,e2⟩:=hB.ok I.hok
 have hl:=r.length
 have hl2:=r2.length
 refine PySem.P.add_list e e2 ?_ (by rw [aQs,aQs];omega)
 have ea:its.toArray++its2.toArray=(its++its2).toArray:=by simp
 rw [ea]
 exact ⟨.ref _,_,I.lnew (t':=s.toks) (r.append r2) (by rw [aQz];omega),rfl,q _ I.fresh⟩
def aHm:R2:=fun x y H Q=>∃ i j,x=.str i/\y=.str j/\i.length+j.length<=sizeLine/\Q (.str (i++j)) H
def iO:Ev->Option (List D)
 | .p (.list ds)=>some ds
 | .b (.list ds)=>some ds
 | _=>none
theorem n9{W:Addr->Option Nat}{Hs G H:Hp}{v:V}{r:Ev}{ds:List D}(gh:Same G H)(h:EOk K W Hs G H v r)(e:iO r=some ds):∃ a xs,v=.ref a/\Rd H a (.lst xs)/\Reps K G xs ds:=by
 cases r with
 | p d =>
  cases d with
  | list es =>
   cases e
   cases h with
   | @lst a xs _ h1 h2=>exact ⟨a,xs,rfl,jG gh h1,h2⟩
  | _=>cases e
 | b d =>
  cases d with
  | list es =>
   cases e
   obtain ⟨a,i,o,rfl,h1,h2,h3⟩:=h
   cases h3 with
   | @lst xs _ h4=>exact ⟨a,xs,rfl,.inl h2,h4⟩
  | _=>cases e
 | f d=>cases e
 | x C=>cases e
def dat:Ev->Option D
 | .p d=>some d
 | .b d=>some d
 | _=>none
theorem EOk.read{W:Addr->Option Nat}{Hs G H:Hp}{v:V}{r:Ev}{d:D}(gh:Same G H)(h:EOk K W Hs G H v r)(e:dat r=some d):Rep K H v d:=by
 cases r with
 | p d=>cases e;exact Rep.mono gh h
 | b d =>
  cases e
  obtain ⟨a,i,o,rfl,h1,h2,h3⟩:=h
  exact (h3.mono gh).rep h2
 | f d=>cases e
 | x C=>cases e
open Classical in
noncomputable def sM(C:Int->Int->Prop)(g:Int->Int->D)(x y:Ev):Res Ev:=match x,y with
 | .p (.int i),.p (.int j)=>if C i j then .ok (.p (g i j)) else .bad
 | _,_=>.bad
def iU(g:Int->Int->D)(x y:Ev):Res Ev:=match x,y with
 | .p (.int i),.p (.int j)=>.ok (.p (g i j))
 | _,_=>.bad
theorem aI{C:Int->Int->Prop}{g:Int->Int->D}:NoX (sM C g):=by
 intro x y A h
 unfold sM at h
 split at h
 ·split at h<;>cases h
 ·cases h
theorem bY{g:Int->Int->D}:NoX (iU g):=by
 intro x y A h
 unfold iU at h
 split at h<;>cases h
theorem wX{C:Int->Int->Prop}{g:Int->Int->D}{gv:Int->Int->V}(hg:∀ G i j,Rep K G (gv i j) (g i j)):OpM K (rI C gv) (sM C g):=by
 intro W G H v u x y Q gh hx hy hw
 unfold sM at hw
 split at hw
 ·rename_i i j e1 e2
  rw [e1] at hx;rw [e2] at hy
  cases hx;cases hy
  split at hw
  ·rename_i hc
   exact ⟨i,j,rfl,rfl,hc,hw G H _ (Step.refl gh) (hg G i j)⟩
  ·exact hw.elim
 ·exact hw.elim
theorem aBh{g:Int->Int->D}{gv:Int->Int->V}(hg:∀ G i j,Rep K G (gv i j) (g i j)):OpM K (rI0 gv) (iU g):=by
 intro W G H v u x y Q gh hx hy hw
 unfold iU at hw
 split at hw
 ·rename_i i j e1 e2
  rw [e1] at hx;rw [e2] at hy
  cases hx;cases hy
  exact ⟨i,j,rfl,rfl,hw G H _ (Step.refl gh) (hg G i j)⟩
 ·exact hw.elim
noncomputable abbrev g8:Ev->Ev->Res Ev:=sM CMulW fun i j=>.int (i*j)
noncomputable abbrev b8:Ev->Ev->Res Ev:=sM lE fun i j=>.int (i.fdiv j)
noncomputable abbrev cU:Ev->Ev->Res Ev:=sM (fun _ j=>j≠0) fun i j=>.int (i.fmod j)
noncomputable abbrev aLn:Ev->Ev->Res Ev:=sM aJa fun i j=>.int (i ^ j.toNat)
abbrev uU:Ev->Ev->Res Ev:=iU fun i j=>.int (i - j)
abbrev ltE:Ev->Ev->Res Ev:=iU fun i j=>.bool (decide (i < j))
abbrev gtE:Ev->Ev->Res Ev:=iU fun i j=>.bool (decide (j < i))
theorem cZ:OpM K (rI CMulW fun i j=>.int (i*j)) g8:=wX fun _ _ _=>.int _
theorem dA:OpM K (rI lE fun i j=>.int (i.fdiv j)) b8:=wX fun _ _ _=>.int _
theorem bM:OpM K (rI (fun _ j=>j≠0) fun i j=>.int (i.fmod j)) cU:=wX fun _ _ _=>.int _
theorem aF2:OpM K (rI aJa fun i j=>.int (i ^ j.toNat)) aLn:=wX fun _ _ _=>.int _
theorem kX:OpM K (rI0 fun i j=>.int (i - j)) uU:=aBh fun _ _ _=>.int _
def fP(x y:Ev):Res Ev:=match x,y with
 | .p (.int i),.p (.int j)=>.ok (.p (.int (i+j)))
 | .p (.str i),.p (.str j)=>if i.length+j.length<=100000 then .ok (.p (.str (i++j))) else .bad
 | x,y=>match iO x,iO y with
  | some ds,some es=>if ds.length+es.length<=100000 then .ok (.f (.list (ds++es))) else .bad
  | _,_=>.bad
theorem cG:NoX fP:=by
 intro x y A h
 unfold fP at h
 split at h
 ·cases h
 ·split at h<;>cases h
 ·split at h
  ·split at h<;>cases h
  ·cases h
abbrev aMa:R2:=rOr (rI0 fun i j=>.int (i+j)) (rOr aHm aMe)
theorem cF:OpR X (binaryOp .Add) aMa:=OpR.or' aKd (OpR.or' x6 aIe)
theorem dF:OpM K aMa fP:=by
 intro W G H v u x y Q gh hx hy hw
 unfold fP at hw
 split at hw
 ·rename_i i j e1 e2
  rw [e1] at hx;rw [e2] at hy
  cases hx;cases hy
  exact .inl ⟨i,j,rfl,rfl,hw G H _ (Step.refl gh) (.int _)⟩
 ·rename_i i j e1 e2
  rw [e1] at hx;rw [e2] at hy
  cases hx;cases hy
  split at hw
  ·rename_i hl
   exact .inr (.inl ⟨i,j,rfl,rfl,aR0 hl (by decide),hw G H _ (Step.refl gh) (.str _)⟩)
  ·exact hw.elim
 ·split at hw
  ·rename_i ds es e1 e2
   obtain ⟨a,xs,rfl,h1,h2⟩:=n9 gh hx e1
   obtain ⟨b,ys,rfl,h3,h4⟩:=n9 gh hy e2
   split at hw
   ·rename_i hl
    refine .inr (.inr ⟨a,b,xs,ys,rfl,rfl,h1,h3,by rw [h2.length,h4.length];exact aR0 hl (by decide),fun p hp=>?_⟩)
    exact hw _ _ _ (Step.lay gh hp) ⟨p,_,rfl,hp,gh.free hp,bJ,.lst (h2.append h4)⟩
   ·exact hw.elim
  ·exact hw.elim
theorem iY{p:Int->Int->Bool}:OpM K (rI0 fun i j=>.bl (p i j)) (iU fun i j=>.bool (p i j)):=aBh fun _ _ _=>.bl _
mutual
theorem Rep.reads{P:Program}{w:World}{H:Hp}{h:Heap}(ok:HOk P w H h):∀ {v:V} {d:D},Rep K H v d->d.canLay0=true->∀ {u:Value},RelV v u->∃ as,Reads h u d as
 | _,_,.non,_,_,e=>by cases e;exact ⟨_,Reads.none⟩
 | _,_,.bl b,_,_,e=>by cases e;exact ⟨_,Reads.bool b⟩
 | _,_,.int i,_,_,⟨t,e⟩=>by subst e;exact ⟨_,Reads.int i t⟩
 | _,_,.str i,_,_,⟨t,e⟩=>by subst e;exact ⟨_,Reads.str i t⟩
 | _,_,.tup hh r,hc,_,e=>by
  have e:_=Value.ref _:=e
  subst e
  obtain ⟨_,its,rv,o,ho,hcl,n,hd⟩:=(show ObjOk P w H h _ _ from ok _ _ hh)
  obtain ⟨as,q⟩:=Reps.reads ok r (by simpa [PyData.canLay0] using hc) rv
  exact ⟨as,reads_tuple_at ho hcl hd (by simpa using q)⟩
 | _,_,.lst hh r,hc,_,e=>by
  have e:_=Value.ref _:=e
  subst e
  obtain ⟨_,its,n,rv,ho⟩:=hh.ok ok
  obtain ⟨as,q⟩:=Reps.reads ok r (by simpa [PyData.canLay0] using hc) rv
  exact ⟨_,reads_list_at ho rfl rfl (by simpa using q)⟩
 | _,_,.dT _ _,hc,_,_=>by simp [PyData.canLay0] at hc
 | _,_,.dK _ _,hc,_,_=>by simp [PyData.canLay0] at hc
theorem Reps.reads{P:Program}{w:World}{H:Hp}{h:Heap}(ok:HOk P w H h):∀ {vs:List V} {ds:List D},Reps K H vs ds->PyData.canLayAll0 ds=true->∀ {us:List Value},Vals vs us->∃ as,ReadsAll h us ds as
 | _,_,.nil,_,_,.nil=>⟨_,ReadsAll.nil⟩
 | _,_,.cons hd r,hc,_,.cons rv rt=>by
  simp only [PyData.canLayAll0,aS1] at hc
  obtain ⟨as,q⟩:=Rep.reads ok hd hc.1 rv
  obtain ⟨bs,p⟩:=Reps.reads ok r hc.2 rt
  exact ⟨_,ReadsAll.cons q p⟩
end
def aOt(K:aQk)(ng:Bool):R2:=fun x y H Q=>∃ d e,Rep K H x d/\Rep K H y e/\SeqAt.shaped d=true/\SeqAt.shaped e=true/\Q (.bl (if ng then !PyData.eqv d e else PyData.eqv d e)) H
theorem cV{K:aQk}(hu:X.A.units+64 < cLine):OpR X (compareOp .Eq) (aOt K false):=by
 intro pins s σ H x y v u Q I rx ry h
 obtain ⟨d,e,h1,h2,o1,o2,q⟩:=h
 obtain ⟨as,r1⟩:=h1.reads I.hok (aRh.mp o1).1 rx
 obtain ⟨bs,r2⟩:=h2.reads I.hok (aRh.mp o2).1 ry
 exact eq_dataH r1 r2 o1 o2 hu ⟨.bl _,H,I,rfl,q⟩
theorem tQ{K:aQk}(hu:X.A.units+64 < cLine):OpR X (compareOp .NotEq) (aOt K true):=by
 intro pins s σ H x y v u Q I rx ry h
 obtain ⟨d,e,h1,h2,o1,o2,q⟩:=h
 obtain ⟨as,r1⟩:=h1.reads I.hok (aRh.mp o1).1 rx
 obtain ⟨bs,r2⟩:=h2.reads I.hok (aRh.mp o2).1 ry
 exact ne_dataH r1 r2 o1 o2 hu ⟨.bl _,H,I,rfl,q⟩
def eqE(ng:Bool)(x y:Ev):Res Ev:=match dat x,dat y with
 | some d,some e=>if SeqAt.shaped d=true/\SeqAt.shaped e=true then .ok (.p (.bool (if ng then !PyData.eqv d e else PyData.eqv d e))) else .bad
 | _,_=>.bad
theorem cH{ng:Bool}:NoX (eqE ng):=by
 intro x y A h
 unfold eqE at h
 split at h
 ·split at h<;>cases h
 ·cases h
theorem dW{ng:Bool}:OpM K (aOt K ng) (eqE ng):=by
 intro W G H v u x y Q gh hx hy hw
 unfold eqE at hw
 split at hw
 ·rename_i d e e1 e2
  split at hw
  ·rename_i hs
   exact ⟨d,e,hx.read gh e1,hy.read gh e2,hs.1,hs.2,hw G H _ (Step.refl gh) (.bl _)⟩
  ·exact hw.elim
 ·exact hw.elim
def mUn(op:Ev->Res Ev)(fa:En->Res Ev):En->Res Ev:=fun en=>(fa en).bind fun x=>op x.c
variable {E:L2.St->XK}{a b:Expr}{fa fb:En->Res Ev}{pos:Pos}
def rO(x:Ev):Res Ev:=match x with
 | .p (.int i)=>.ok (.p (.int (-i)))
 | _=>.bad
theorem wN(ha:DE X E a fa):DE X E (.UnaryOp .USub a pos) (mUn rO fa):=by
 obtain ⟨t,p,m⟩:=ha.out
 refine DE.in ⟨_,aM9 aKo p,fun B G0 G W H σ en Q hh hs hw=>m B G0 G W H σ en _ hh hs (DE.go hw fun x G1 H1 v s1 e1 h1=>?_)⟩
 unfold rO at h1
 split at h1
 ·rename_i i e
  rw [e] at e1
  cases e1
  exact ⟨i,rfl,h1 G1 H1 _ (Step.refl s1.gh) (.int _)⟩
 ·exact h1.elim
def jF:Ev->Option (List D)
 | .p (.list ds)=>some ds
 | .b (.list ds)=>some ds
 | .p (.tuple ds)=>some ds
 | _=>none
def ixE(x y:Ev):Res Ev:=match y with
 | .p (.int i)=>match jF x with
  | some ds=>match atI ds i with
   | some d=>.ok (.p d)
   | none=>.bad
  | none=>.bad
 | _=>.bad
theorem aJv:NoX ixE:=by
 intro x y A h
 unfold ixE at h
 split at h
 ·split at h
  ·split at h<;>cases h
  ·cases h
 ·cases h
theorem uV{G:Hp}{xs:List V}{ds:List D}{i:Int}{d:D}(r:Reps K G xs ds)(h:atI ds i=some d):∃ x,atI xs i=some x/\Rep K G x d:=by
 unfold atI at h ⊢
 rw [r.length]
 cases e:ixN ds.length i with
 | none=>rw [e] at h;cases h
 | some j =>
  rw [e] at h
  exact r.get' h
def aO3(K:aQk):R2:=fun x y H Q=>aPg K x y H Q\/aPb K x y H Q
theorem aPp:IxR X (aO3 X.K):=ix_list.or aJp
theorem aNp:OpM K (aO3 K) ixE:=by
 intro W G H v u x y Q gh hx hy hw
 unfold ixE at hw
 split at hw
 ·rename_i i ey
  rw [ey] at hy
  cases hy
  split at hw
  ·rename_i ds ed
   split at hw
   ·rename_i d ea
    cases ex:x.c with
    | p dd =>
     rw [ex] at ed hx
     cases dd with
     | list es =>
      cases ed
      cases hx with
      | @lst a xs _ h1 h2 =>
       obtain ⟨z,h3,h4⟩:=uV h2 ea
       exact .inl ⟨a,xs,i,z,rfl,rfl,.inl (jG gh h1),h3,hw G H _ (Step.refl gh) h4⟩
     | tuple es =>
      cases ed
      cases hx with
      | @tup a xs _ h1 h2 =>
       obtain ⟨z,h3,h4⟩:=uV h2 ea
       exact .inr ⟨a,xs,i,z,rfl,rfl,SqT.of (gh _ _ h1),h3,hw G H _ (Step.refl gh) h4⟩
     | _=>cases ed
    | b dd =>
     rw [ex] at ed hx
     cases dd with
     | list es =>
      cases ed
      obtain ⟨a,k,o,rfl,h1,h2,h3⟩:=hx
      cases h3 with
      | @lst xs _ h4 =>
       obtain ⟨z,h5,h6⟩:=uV h4 ea
       exact .inl ⟨a,xs,i,z,rfl,rfl,.inl (.inl h2),h5,hw G H _ (Step.refl gh) h6⟩
     | _=>cases ed
    | f dd=>rw [ex] at ed;cases ed
    | x C=>rw [ex] at ed;cases ed
   ·exact hw.elim
  ·exact hw.elim
 ·exact hw.elim
theorem aX(ha:DE X E a fa)(hb:DE X E b fb)(hs:aAo b):DE X E (.Subscript a b pos) (aF ixE fa fb):=by
 obtain ⟨ta,pa,ma⟩:=ha.out
 obtain ⟨tb,pb,mb⟩:=hb.out
 exact DE.in ⟨_,aMy aPp pa pb hs,qX ma mb aNp aJv⟩
def g9(rs:List Ev):Res Ev:=match rs with
 | [x]=>match jF x with
  | some ds=>.ok (.p (.int ds.length))
  | none=>.bad
 | _=>.bad
theorem fJ:aA8 g9:=by
 intro rs C h
 unfold g9 at h
 split at h
 ·split at h<;>cases h
 ·cases h
theorem hX:nN K (fun xs H Q=>∃ p ys,xs=[.ref p]/\(SqL K H p ys\/SqT K H p ys)/\Q (.int ys.length) H) g9:=by
 intro W Hs G H vs rs Q gh he hw
 unfold g9 at hw
 split at hw
 ·rename_i x
  match vs,he with
  | [v],⟨h1,_⟩ =>
   split at hw
   ·rename_i ds ed
    cases x with
    | p dd =>
     cases dd with
     | list es =>
      cases ed
      cases h1 with
      | @lst a xs _ k1 k2=>exact ⟨a,xs,rfl,.inl (.inl (jG gh k1)),by rw [k2.length];exact hw G H _ (Step.refl gh) (.int _)⟩
     | tuple es =>
      cases ed
      cases h1 with
      | @tup a xs _ k1 k2=>exact ⟨a,xs,rfl,.inr (SqT.of (gh _ _ k1)),by rw [k2.length];exact hw G H _ (Step.refl gh) (.int _)⟩
     | _=>cases ed
    | b dd =>
     cases dd with
     | list es =>
      cases ed
      obtain ⟨a,k,o,rfl,k1,k2,k3⟩:=h1
      cases k3 with
      | @lst xs _ k4=>exact ⟨a,xs,rfl,.inl (.inl (.inl k2)),by rw [k4.length];exact hw G H _ (Step.refl gh) (.int _)⟩
     | _=>cases ed
    | f dd=>cases ed
    | x C=>cases ed
   ·exact hw.elim
 ·exact hw.elim
def aGh(rs:List Ev):Res Ev:=match rs with
 | [.p (.int i)]=>.ok (.p (.int (if i < 0 then -i else i)))
 | _=>.bad
theorem qV:aA8 aGh:=by
 intro rs C h
 unfold aGh at h
 split at h<;>cases h
theorem vT:nN K (fun xs H Q=>∃ i,xs=[.int i]/\Q (.int (if i < 0 then -i else i)) H) aGh:=by
 intro W Hs G H vs rs Q gh he hw
 unfold aGh at hw
 split at hw
 ·rename_i i
  match vs,he with
  | [v],⟨h1,_⟩=>cases h1;exact ⟨i,rfl,hw G H _ (Step.refl gh) (.int _)⟩
 ·exact hw.elim
def aH7(f:Int->Int->Int)(rs:List Ev):Res Ev:=match rs with
 | [.p (.int i),.p (.int j)]=>.ok (.p (.int (f i j)))
 | _=>.bad
theorem aHq{f:Int->Int->Int}:aA8 (aH7 f):=by
 intro rs C h
 unfold aH7 at h
 split at h<;>cases h
theorem aJh{f:Int->Int->Int}:nN K (fun xs H Q=>∃ i j,xs=[.int i,.int j]/\Q (.int (f i j)) H) (aH7 f):=by
 intro W Hs G H vs rs Q gh he hw
 unfold aH7 at hw
 split at hw
 ·rename_i i j
  match vs,he with
  | [v,u],⟨h1,h2,_⟩=>cases h1;cases h2;exact ⟨i,j,rfl,hw G H _ (Step.refl gh) (.int _)⟩
 ·exact hw.elim
def sJ:List D->Option (List Bool)
 | []=>some []
 | .bool b :: ds=>match sJ ds with
  | some bs=>some (b :: bs)
  | none=>none
 | _=>none
theorem v8{G:Hp}:∀ {ds:List D} {bs:List Bool} {xs:List V},sJ ds=some bs->Reps K G xs ds->xs=bs.map V.bl
 | [],_,_,h,.nil=>by cases h;rfl
 | d :: ds,bs,_,h,.cons r t=>by
  cases d with
  | bool b =>
   unfold sJ at h
   cases e:sJ ds with
   | none=>rw [e] at h;cases h
   | some bs' =>
    rw [e] at h
    cases h
    cases r
    rw [v8 e t]
    rfl
  | _=>cases h
def listE(rs:List Ev):Res Ev:=match rs with
 | [x]=>match jF x with
  | some ds=>.ok (.f (.list ds))
  | none=>.bad
 | _=>.bad
theorem mS:aA8 listE:=by
 intro rs C h
 unfold listE at h
 split at h
 ·split at h<;>cases h
 ·cases h
theorem qP:nN K (fun xs H Q=>∃ p ys,xs=[.ref p]/\(SqL K H p ys\/SqT K H p ys)/\∀ l,H l=none->Q (.ref l) (upd H l (.lst ys))) listE:=by
 intro W Hs G H vs rs Q gh he hw
 unfold listE at hw
 split at hw
 ·rename_i x
  match vs,he with
  | [v],⟨h1,_⟩ =>
   split at hw
   ·rename_i ds ed
    have fin:∀ {xs:List V},Reps K G xs ds->∀ l,H l=none->Q (.ref l) (upd H l (.lst xs)):=fun r l hl =>
     hw _ _ _ (Step.lay gh hl) ⟨l,_,rfl,hl,gh.free hl,bJ,.lst r⟩
    cases x with
    | p dd =>
     cases dd with
     | list es =>
      cases ed
      cases h1 with
      | @lst a xs _ k1 k2=>exact ⟨a,xs,rfl,.inl (.inl (jG gh k1)),fin k2⟩
     | tuple es =>
      cases ed
      cases h1 with
      | @tup a xs _ k1 k2=>exact ⟨a,xs,rfl,.inr (SqT.of (gh _ _ k1)),fin k2⟩
     | _=>cases ed
    | b dd =>
     cases dd with
     | list es =>
      cases ed
      obtain ⟨a,k,o,rfl,k1,k2,k3⟩:=h1
      cases k3 with
      | @lst xs _ k4=>exact ⟨a,xs,rfl,.inl (.inl (.inl k2)),fin k4⟩
     | _=>cases ed
    | f dd=>cases ed
    | x C=>cases ed
   ·exact hw.elim
 ·exact hw.elim
def tyD:D->String
 | .none=>"NoneType"
 | .bool _=>"bool"
 | .int _=>"int"
 | .str _=>"str"
 | .list _=>"list"
 | .tuple _=>"tuple"
 | .dict _=>"dict"
def vU(K:aQk)(c:Value)(x:Ev):Res Ev:=match dat x with
 | some d=>match PySem.W.kitOne K (.type (tyD d)) c with
  | some b=>.ok (.p (.bool b))
  | none=>.bad
 | none=>.bad
theorem aKw{H:Hp}{v:V}{d:D}(h:Rep K H v d):wV K H v (.type (tyD d)):=by
 cases h with
 | non=>exact .non
 | bl b=>exact .bl b
 | int i=>exact .int i
 | str i=>exact .str i
 | tup h _=>exact .tup h
 | lst h _ =>
  rcases h with h | ⟨o,h⟩
  ·exact .lst h
  ·exact .frz h
 | dT h _=>exact .dT h
 | dK h _=>exact .dK h
theorem aGl{e c:Expr}{v:V}{cv:Value}{p:Pos}(hg:Gl X "isinstance")(hm:X.mg "isinstance" = none)(hv:(∃ n,v=.ty n)\/∃ a,v=.ref a)(hr:RelV v cv)(he:DE X E e fa)(hc:PE X c (tC v))
  (h1:starEach [e,c] X.env=(false,eval e X.env) :: starEach [c] X.env:=by rfl) (h2:(backTo pos (starEach [c] X.env)).any (·.1)=false:=by rfl) (h3:starEach [c] X.env=(false,eval c X.env) :: starEach [] X.env:=by rfl) :
  DE X E (.Call (.Name "isinstance" p) [e,c] [] pos) (mUn (vU X.K cv) fa):=by
 obtain ⟨t,q,m⟩:=he.out
 refine DE.in ⟨_,aJz hg hm q hc h1 h2 h3,fun B G0 G W H σ en Q hh hs hw=>m B G0 G W H σ en _ hh hs (DE.go hw fun x G1 H1 u s1 e1 k1=>?_)⟩
 unfold vU at k1
 split at k1
 ·rename_i d ed
  split at k1
  ·rename_i b eb
   exact ⟨u,v,.type (tyD d),cv,b,rfl,hv,.plain (aKw (EOk.read s1.gh e1 ed)),hr,eb,k1 G1 H1 _ (Step.refl s1.gh) (.bl _)⟩
  ·exact k1.elim
 ·exact k1.elim
end
section
variable {P:Program}{w:World}{K:aQk}{mg:Str->Option Value}{base:Heap}
structure Def(K:aQk)(mg:Str->Option Value)(x:Str)(ps:List Str)(st:Stmt):Prop where
 ex:∃ f fd,Fun K x x st f fd/\Binds K fd ps []/\PySem.W.keepIn K (.ref f)=true/\mg x=some (.ref f)
structure Cal(P:Program)(w:World)(K:aQk)(mg:Str->Option Value)(base:Heap)(k:Nat)(x:Str)(n:Nat)(m:List L->Res L):Prop where
 ex:∃ f fd ps,FnOk P w K mg base (CXr P w) k f fd ps (spM K n m)/\Binds K fd ps []/\PySem.W.keepIn K (.ref f)=true/\mg x=some (.ref f)
theorem oW{x:Str}{st:Stmt}{N ps:List Str}{k n:Nat}{m:List L->Res L}(Df:Def K mg x ps st)(S:bV N ps (aQ st))(hn:n=ps.length)
  (hbody:∀ (f:Addr) (cdv:Value) (A:Around) (outer:List Env) (s:Shared) (H:Hp) (E:XK),Room k (A.deeper (envOfC x (aQ st) s.heap.objs.size f cdv)) ->
   ∃ fm,DSs (j8 (CXr P w) P w K mg base N x (aQ st) f cdv A outer s H E) (fun _=>E) (dM st) fm/\∀ ls,m ls=.bad\/gS N.length fm ls=m ls):Cal P w K mg base (k+1) x n m:=by
 obtain ⟨f,fd,F,b,kp,h⟩:=Df.ex
 exact ⟨f,fd,ps,fnM F S hn fun cdv A outer s H E hr=>hbody f cdv A outer s H E hr,b,kp,h⟩
end
section
variable {X:Cx}{E:L2.St->XK}{k j:Nat}{x:Str}{p pos:Pos}{e:Expr}{es:List Expr}{fr:En->Res (List Ev)}{n:Nat}{m:List L->Res L}
theorem aU(c:Cal X.prog X.w X.K X.mg X.base j x n m)(hr:Room k X.A)(hx:kI (CXr X.prog X.w) X E)(ha:DA X E (e :: es) fr)(hg:Gl X x:=by rfl)(hjk:j<=k:=by decide)(hdb:(x == ("__debug__" : Str))=false:=by decide)
  (he:starEach (e :: es) X.env=(false,eval e X.env) :: starEach es X.env:=by rfl) (hpl:(backTo pos (starEach es X.env)).any (·.1)=false:=by rfl) :
  DE X E (.Call (.Name x p) (e :: es) [] pos) (aV n m fr):=by
 obtain ⟨f,fd,ps,F,b,kp,h⟩:=c.ex
 exact aHw (F.mono hjk) hr hg h kp b hx ha hdb he hpl
theorem dv(i:Nat)(hN:X.N[i]? = some x:=by rfl)(hv:Vis X.env.scope x:=by first | exact Or.inl rfl | exact Or.inr (Or.inl rfl) | exact Or.inr (Or.inr rfl))(hd:(x == ("__debug__" : Str))=false:=by decide)(hcd:(x == ("__classdict__" : Str))=false:=by decide) :
  DE X E (.Name x pos) (aD i):=aKx hN hv hd hcd
theorem u64{A:Around}(hr:Room k A):A.units+64 < cLine:=by have:=hr.un;omega
theorem u1{A:Around}(hr:Room k A):A.units+1 < cLine:=by have:=hr.un;omega
theorem cO{scope:Scope}{cl:List (Str×Addr)}:o7 X scope cl [] []:=⟨rfl,fun i y j h _=>by simp at h⟩
theorem eJ{scope:Scope}{cl:List (Str×Addr)}{y:Str}{ys:List Str}{j:Nat}{js:List Nat}(h:X.N[j]? = some y/\(X.env.kindOf y=some .cell\/X.env.kindOf y=some .free)/\((relabel scope X.env).names.lookup y=some .cell\/(relabel scope X.env).names.lookup y=some .free)/\(X.env.cells.lookup y).isSome=true/\cl.lookup y=X.env.cells.lookup y)
  (t:o7 X scope cl ys js):o7 X scope cl (y :: ys) (j :: js) :=
 ⟨by rw [aQp,aQp,t.len],fun i z q e1 e2=>by
  cases i with
  | zero=>simp at e1 e2;subst e1 e2;exact h
  | succ i=>exact t.at_ i z q (by simpa using e1) (by simpa using e2)⟩
theorem lC{scope:Scope}{cl:List (Str×Addr)}{ys:List Str}{js:List Nat}(clos:closureFor scope X.env=pure cl)(sub:∀ q∈cl,X.env.cells.lookup q.1=some q.2)(cap:o7 X scope cl ys js)(hcell:∀ y∈scope.names,y.2≠.cell)(hfree:∀ q∈scope.names,q.2=.free->q.1∈ys):aIy X scope cl:=by
 refine ⟨clos,fun y c h=>sub _ (aSm h),fun y hy=>?_⟩
 have hm:y∈ys:=by
  rcases hy with hy | hy
  ·have m:=aSm hy
   obtain ⟨⟨n0,k0⟩,m0,e0⟩:=aRk.mp m
   dsimp only at e0
   split at e0
   ·rename_i z
    injection e0 with e1 e2
    subst e1
    have:k0=.free:=by
     cases k0<;>simp at z ⊢
    exact hfree _ m0 this
   ·injection e0 with e1 e2
    exact absurd e2 (hcell _ m0)
  ·have m:=aSm hy
   obtain ⟨⟨n0,k0⟩,m0,e0⟩:=aRk.mp m
   dsimp only at e0
   split at e0
   ·injection e0 with e1 e2
    cases e2
   ·injection e0 with e1 e2
    subst e1
    exact hfree _ m0 e2
 obtain ⟨i,hi,e⟩:=aTi.mp hm
 have hj:i < js.length:=by rw [<- cap.len];exact hi
 obtain ⟨_,_,_,h4,h5⟩:=cap.at_ i y js[i] (by rw [aQn hi,e]) (aQn hj)
 rw [h5]
 exact aRw.mp h4
theorem jR{K:aQk}{B G0 G H:Hp}{W:Addr->Option Nat}{σ:L2.St}{en:En}{i:Nat}{a:Addr}{o':HO}{d':D}(hh:SimH B G0 G W H)(hs:SimS K W G H σ en)(hW:W a=some i)(hv:σ[i]? = some (some (.ref a)))(hc:Cont K G o' d') :
  SimH B G0 G W (upd H a o')/\SimS K W G (upd H a o') σ (en.set i (some (.o d'))):=by
 obtain ⟨g1,g2,g3⟩:=hh.wf a i hW
 refine ⟨⟨fun b o e=>?_,fun b o e=>?_,hh.g0,hh.gb,fun b j e=>?_⟩,by rw [aTl];exact hs.1,fun j l e=>?_⟩
 ·rw [bB (dG e g1)];exact hh.gh b o e
 ·rw [bB (dG e g2)];exact hh.bh b o e
 ·obtain ⟨k1,k2,o,k3,k4⟩:=hh.wf b j e
  refine ⟨k1,k2,?_⟩
  by_cases z:b=a
  ·rw [z,bJ];exact ⟨_,rfl,hc.mut⟩
  ·rw [bB z];exact ⟨o,k3,k4⟩
 ·rw [aU9] at e
  by_cases hj:i=j
  ·subst hj
   rw [aQt rfl] at e
   split at e
   ·cases e
    exact ⟨_,hv,a,o',rfl,hW,bJ,hc⟩
   ·cases e
  ·rw [aQv hj] at e
   obtain ⟨v,e1,e2⟩:=hs.2 j l e
   refine ⟨v,e1,?_⟩
   cases l with
   | p d=>exact e2
   | x C=>exact e2
   | h a=>exact e2
   | o d =>
    obtain ⟨b,ob,h1,h2,h3,h4⟩:=e2
    refine ⟨b,ob,h1,h2,?_,h4⟩
    rw [bB (fun z=>by rw [z,hW] at h2;exact hj (aQ7 h2))]
    exact h3
def gU(i:Nat)(fe:En->Res Ev):MS:=fun en=>match en[i]? with
 | some (some (.o (.list ds)))=>match fe en with
  | .ok r=>match r.c with
   | .p d=>if ds.length<=100000 then some (.nx (en.set i (some (.o (.list (ds++[d])))))) else none
   | _=>none
  | .exc C=>some (.ex C en)
  | .bad=>none
 | _=>none
theorem jM{i:Nat}{fe:En->Res Ev}{st:Stmt}(he:DE X E e fe)(hp:∀ t,PE X e t->PS X st (aCg (tBM X.K "list" y8 (xX i) (aHi t aNn)))):DS X E st (gU i fe):=by
 obtain ⟨t,q,mm⟩:=he.out
 refine DS.in ⟨_,hp t q,fun B G0 G W H σ en Dn hh hs hw=>?_⟩
 unfold gU at hw
 split at hw
 ·rename_i ds ei
  obtain ⟨v,e1,a,o,rfl,e2,e3,e4⟩:=hs.2 i _ ei
  cases e4 with
  | @lst xs _ rp =>
  refine ⟨_,e1,.inl ⟨rfl,_,SqL.of e3⟩,mm B G0 G W H σ en _ hh hs ?_⟩
  cases ef:fe en with
  | bad=>rw [ef] at hw;exact hw
  | exc C=>rw [ef] at hw;exact fun G1 H1 s=>hw G1 W H1 σ (hh.step s) (hs.step s)
  | ok r =>
   rw [ef] at hw
   intro G1 H1 y s ey
   obtain ⟨G2,s2,ey2⟩:=ey.c s
   dsimp only at hw
   cases er:r.c with
   | p d =>
    rw [er] at hw ey2
    dsimp only at hw
    split at hw
    ·rename_i hl
     have hx:=s2.h _ _ e3
     refine ⟨a,xs,y,rfl,rfl,hx,aT2 (by rw [rp.length];exact hl) (by decide),?_⟩
     obtain ⟨w1,w2⟩:=jR (o':=.lst (xs++[y])) (d':=.list (ds++[d])) (hh.step s2) (hs.step s2) e2 e1 (.lst ((rp.mono s2.g).append (.cons ey2 .nil)))
     exact hw _ _ _ _ w1 w2
    ·exact hw.elim
   | f d=>rw [er] at hw;exact hw.elim
   | b d=>rw [er] at hw;exact hw.elim
   | x C=>rw [er] at hw;exact hw.elim
 ·exact hw.elim
end
section
variable {X:Cx}{K:aQk}{E:L2.St->XK}{a b:Expr}{fa fb:En->Res Ev}{pos:Pos}
def aF8:D->Option Key
 | .int i=>some (.inl i)
 | .str x=>some (.inr x)
 | _=>none
def vI:List D->Option (List Key)
 | []=>some []
 | d :: ds=>match aF8 d with
  | none=>none
  | some k=>match vI ds with
   | none=>none
   | some ks=>some (k :: ks)
def aJc:D->Option (List Key)
 | .tuple ds=>vI ds
 | _=>none
theorem rB{d:D}{k:Key}(h:aF8 d=some k):d=kD k:=by
 cases d<;>first | (cases h;rfl) | cases h
theorem u6(k:Key):aF8 (kD k)=some k:=by cases k<;>rfl
theorem w8:∀ {ds:List D} {ks:List Key},vI ds=some ks->ds=ks.map kD
 | [],_,h=>by cases h;rfl
 | d :: ds,ks,h=>by
  unfold vI at h
  cases e:aF8 d with
  | none=>rw [e] at h;cases h
  | some k =>
   rw [e] at h
   cases e2:vI ds with
   | none=>rw [e2] at h;cases h
   | some ks' =>
    rw [e2] at h
    cases h
    rw [rB e,w8 e2]
    rfl
theorem vN:∀ ks:List Key,vI (ks.map kD)=some ks
 | []=>rfl
 | k :: ks=>by
  show (match aF8 (kD k) with | none=>none | some k=>match vI (ks.map kD) with | none=>none | some ks=>some (k :: ks))=_
  rw [u6,vN ks]
theorem vE{d:D}{ks:List Key}(h:aJc d=some ks):d=tkD ks:=by
 cases d with
 | tuple ds=>unfold tkD;rw [<- w8 h]
 | _=>cases h
theorem vS(ks:List Key):aJc (tkD ks)=some ks:=vN ks
theorem aB6{k k':List Key}(h:tkD k=tkD k'):k=k':=by
 have:=vS k
 rw [h,vS] at this
 exact (aQ7 this).symm
theorem aFg{k k':Key}(h:kD k=kD k'):k=k':=by
 have:=u6 k
 rw [h,u6] at this
 exact (aQ7 this).symm
theorem aAt{G:Hp}:∀ {ks:List Key} {xs:List V},Reps K G xs (ks.map kD)->xs=ks.map kV
 | [],_,.nil=>rfl
 | k :: ks,_,.cons r t=>by
  rw [aAt t]
  cases k with
  | inl i=>cases r;rfl
  | inr x=>cases r;rfl
theorem aFt{G:Hp}{v:V}{d:D}{ks:List Key}(h:Rep K G v d)(e:aJc d=some ks):∃ b,v=.ref b/\G b=some (.tup (ks.map kV)):=by
 have:=vE e
 subst this
 cases h with
 | @tup b xs _ h1 h2 =>
  rw [aAt h2] at h1
  exact ⟨b,rfl,h1⟩
theorem aCx{G:Hp}{v:V}{d:D}{k:Key}(h:Rep K G v d)(e:aF8 d=some k):v=kV k:=by
 have:=rB e
 subst this
 cases k with
 | inl i=>cases h;rfl
 | inr x=>cases h;rfl
open Classical in
noncomputable def xE:List (D×D)->D->Option D
 | [],_=>none
 | p :: r,k=>if p.1=k then some p.2 else xE r k
open Classical in
noncomputable def aFu(k v:D):List (D×D)->List (D×D)
 | []=>[]
 | p :: r=>(if p.1=k then (p.1,v) else p) :: aFu k v r
open Classical in
noncomputable def aC3(kvs:List (D×D))(k v:D):List (D×D):=if (xE kvs k).isSome=true then aFu k v kvs else kvs++[(k,v)]
theorem aOw{G:Hp}(ks:List Key):∀ {kv:List (List Key×V)} {kvs:List (D×D)},RepT K G kv kvs->(xE kvs (tkD ks)=none/\rN kv ks=none)\/∃ d v,xE kvs (tkD ks)=some d/\rN kv ks=some v/\Rep K G v d
 | _,_,.nil=>.inl ⟨rfl,rfl⟩
 | _,_,.cons (k:=k) (x:=x) (d:=d) r t=>by
  by_cases e:k=ks
  ·subst e
   refine .inr ⟨d,x,?_,kZ (p:=(k,x)) rfl,r⟩
   unfold xE
   rw [aQt rfl]
  ·have e2:tkD k≠tkD ks:=fun z=>e (aB6 z)
   unfold xE
   rw [aQv e2,kQ (p:=(k,x)) e]
   exact aOw ks t
theorem aOy{G:Hp}(ks:Key):∀ {kv:List (Key×V)} {kvs:List (D×D)},RepK K G kv kvs->(xE kvs (kD ks)=none/\rN kv ks=none)\/∃ d v,xE kvs (kD ks)=some d/\rN kv ks=some v/\Rep K G v d
 | _,_,.nil=>.inl ⟨rfl,rfl⟩
 | _,_,.cons (k:=k) (x:=x) (d:=d) r t=>by
  by_cases e:k=ks
  ·subst e
   refine .inr ⟨d,x,?_,kZ (p:=(k,x)) rfl,r⟩
   unfold xE
   rw [aQt rfl]
  ·have e2:kD k≠kD ks:=fun z=>e (aFg z)
   unfold xE
   rw [aQv e2,kQ (p:=(k,x)) e]
   exact aOy ks t
theorem aNc{G:Hp}{ks:List Key}{v:V}{d:D}(h:Rep K G v d):∀ {kv:List (List Key×V)} {kvs:List (D×D)},RepT K G kv kvs->RepT K G (kv.map fun p=>if p.1=ks then (p.1,v) else p) (aFu (tkD ks) d kvs)
 | _,_,.nil=>.nil
 | _,_,.cons (k:=k) (x:=x) (d:=d0) r t=>by
  unfold aFu
  rw [aQx]
  by_cases e:k=ks
  ·subst e
   rw [aQt rfl,aQt rfl]
   exact .cons h (aNc h t)
  ·have e2:tkD k≠tkD ks:=fun z=>e (aB6 z)
   rw [aQv e,aQv e2]
   exact .cons r (aNc h t)
theorem aNm{G:Hp}{ks:Key}{v:V}{d:D}(h:Rep K G v d):∀ {kv:List (Key×V)} {kvs:List (D×D)},RepK K G kv kvs->RepK K G (kv.map fun p=>if p.1=ks then (p.1,v) else p) (aFu (kD ks) d kvs)
 | _,_,.nil=>.nil
 | _,_,.cons (k:=k) (x:=x) (d:=d0) r t=>by
  unfold aFu
  rw [aQx]
  by_cases e:k=ks
  ·subst e
   rw [aQt rfl,aQt rfl]
   exact .cons h (aNm h t)
  ·have e2:kD k≠kD ks:=fun z=>e (aFg z)
   rw [aQv e,aQv e2]
   exact .cons r (aNm h t)
theorem RepT.app{G:Hp}:∀ {kv kv':List (List Key×V)} {kvs kvs':List (D×D)},RepT K G kv kvs->RepT K G kv' kvs'->RepT K G (kv++kv') (kvs++kvs')
 | _,_,_,_,.nil,r=>r
 | _,_,_,_,.cons h t,r=>.cons h (RepT.app t r)
theorem RepK.app{G:Hp}:∀ {kv kv':List (Key×V)} {kvs kvs':List (D×D)},RepK K G kv kvs->RepK K G kv' kvs'->RepK K G (kv++kv') (kvs++kvs')
 | _,_,_,_,.nil,r=>r
 | _,_,_,_,.cons h t,r=>.cons h (RepK.app t r)
theorem RepT.len{G:Hp}:∀ {kv:List (List Key×V)} {kvs:List (D×D)},RepT K G kv kvs->kv.length=kvs.length
 | _,_,.nil=>rfl
 | _,_,.cons _ r=>by rw [aQp,aQp,RepT.len r]
theorem RepK.len{G:Hp}:∀ {kv:List (Key×V)} {kvs:List (D×D)},RepK K G kv kvs->kv.length=kvs.length
 | _,_,.nil=>rfl
 | _,_,.cons _ r=>by rw [aQp,aQp,RepK.len r]
theorem aQh{G:Hp}{ks:List Key}{v:V}{d:D}(h:Rep K G v d){kv:List (List Key×V)}{kvs:List (D×D)}(r:RepT K G kv kvs):RepT K G (putK kv ks v) (aC3 kvs (tkD ks) d):=by
 unfold putK aC3
 rw [mQ]
 rcases aOw ks r with ⟨e1,e2⟩ | ⟨d0,v0,e1,e2,_⟩
 ·rw [e1,e2,aQv (by simp),aQv (by simp)]
  exact r.app (.cons h .nil)
 ·rw [e1,e2,aQt (show (some v0).isSome=true from rfl),aQt (show (some d0).isSome=true from rfl)]
  exact aNc h r
theorem aOo{G:Hp}{ks:Key}{v:V}{d:D}(h:Rep K G v d){kv:List (Key×V)}{kvs:List (D×D)}(r:RepK K G kv kvs):RepK K G (putK kv ks v) (aC3 kvs (kD ks) d):=by
 unfold putK aC3
 rw [mQ]
 rcases aOy ks r with ⟨e1,e2⟩ | ⟨d0,v0,e1,e2,_⟩
 ·rw [e1,e2,aQv (by simp),aQv (by simp)]
  exact r.app (.cons h .nil)
 ·rw [e1,e2,aQt (show (some v0).isSome=true from rfl),aQt (show (some d0).isSome=true from rfl)]
  exact aNm h r
def dsp(kvs:List (D×D)):Bool×List (D×D):=match kvs with
 | (.none,.none) :: r=>(true,r)
 | r=>(false,r)
theorem aGs{G:Hp}{kv:List (List Key×V)}{kvs:List (D×D)}(r:RepT K G kv kvs):dsp kvs=(false,kvs):=by
 cases r with
 | nil=>rfl
 | cons _ _=>rfl
def jX:Ev->Option (List (D×D))
 | .p (.dict kvs)=>some kvs
 | .b (.dict kvs)=>some kvs
 | _=>none
noncomputable def rP(kvs:List (D×D))(k:D):Option (Option D):=match dsp kvs with
 | (true,r)=>if (aF8 k).isSome=true then some (xE r k) else none
 | (false,r)=>if (aJc k).isSome=true then some (xE r k) else none
theorem w9{W:Addr->Option Nat}{Hs G H:Hp}{v:V}{r:Ev}{kvs:List (D×D)}(gh:Same G H)(h:EOk K W Hs G H v r)(e:jX r=some kvs) :
  ∃ a,v=.ref a/\((∃ kv,H a=some (.dT kv)/\RepT K G kv kvs)\/∃ kv r,kvs=(.none,.none) :: r/\H a=some (.dK kv)/\RepK K G kv r):=by
 cases r with
 | p d =>
  cases d with
  | dict es =>
   cases e
   cases h with
   | @dT a kv _ h1 h2=>exact ⟨a,rfl,.inl ⟨kv,gh _ _ h1,h2⟩⟩
   | @dK a kv r h1 h2=>exact ⟨a,rfl,.inr ⟨kv,r,rfl,gh _ _ h1,h2⟩⟩
  | _=>cases e
 | b d =>
  cases d with
  | dict es =>
   cases e
   obtain ⟨a,i,o,rfl,h1,h2,h3⟩:=h
   cases h3 with
   | @dT kv _ h4=>exact ⟨a,rfl,.inl ⟨kv,h2,h4⟩⟩
   | @dK kv r h4=>exact ⟨a,rfl,.inr ⟨kv,r,rfl,h2,h4⟩⟩
  | _=>cases e
 | f d=>cases e
 | x C=>cases e
def aOd(K:aQk)(G:Hp):Option D->Option V->Prop
 | none,w=>w=none
 | some d,w=>∃ x,w=some x/\Rep K G x d
theorem zP{W:Addr->Option Nat}{Hs Hs' G H:Hp}{v u:V}{r:Ev}{k:D}{kvs:List (D×D)}{o:Option D}(gh:Same G H)(h:EOk K W Hs G H v r)(e:jX r=some kvs)(hk:Rep K G u k)(el:rP kvs k=some o) :
  ∃ a w,v=.ref a/\DGet H a u w/\aOd K G o w:=by
 obtain ⟨a,rfl,hh⟩:=w9 gh h e
 rcases hh with ⟨kv,h1,h2⟩ | ⟨kv,r,rfl,h1,h2⟩
 ·unfold rP at el
  rw [aGs h2] at el
  dsimp only at el
  split at el
  ·rename_i z
   obtain ⟨ks,ek⟩:=aRw.mp z
   obtain ⟨b,rfl,hb⟩:=aFt hk ek
   have:=vE ek
   subst this
   cases el
   refine ⟨a,rN kv ks,rfl,.t h1 (gh _ _ hb),?_⟩
   rcases aOw ks h2 with ⟨e1,e2⟩ | ⟨d0,v0,e1,e2,e3⟩
   ·rw [e1,e2];exact rfl
   ·rw [e1,e2];exact ⟨v0,rfl,e3⟩
  ·cases el
 ·unfold rP at el
  dsimp only [dsp] at el
  split at el
  ·rename_i z
   obtain ⟨ks,ek⟩:=aRw.mp z
   have hb:=aCx hk ek
   subst hb
   have:=rB ek
   subst this
   cases el
   refine ⟨a,rN kv ks,rfl,.k h1,?_⟩
   rcases aOy ks h2 with ⟨e1,e2⟩ | ⟨d0,v0,e1,e2,e3⟩
   ·rw [e1,e2];exact rfl
   ·rw [e1,e2];exact ⟨v0,rfl,e3⟩
  ·cases el
noncomputable def o5(x y:Ev):Res Ev:=match y with
 | .p k=>match jX x with
  | some kvs=>match rP kvs k with
   | some (some d)=>.ok (.p d)
   | _=>.bad
  | none=>.bad
 | _=>.bad
noncomputable def yH(ng:Bool)(y x:Ev):Res Ev:=match y with
 | .p k=>match jX x with
  | some kvs=>match rP kvs k with
   | some o=>.ok (.p (.bool (if ng then !o.isSome else o.isSome)))
   | none=>.bad
  | none=>.bad
 | _=>.bad
theorem uW(hu:X.A.units+1 < cLine)(ha:DE X E a fa)(hb:DE X E b fb)(hs:aM6 b):DE X E (.Subscript a b pos) (aF o5 fa fb):=by
 obtain ⟨ta,pa,ma⟩:=ha.out
 obtain ⟨tb,pb,mb⟩:=hb.out
 refine DE.in ⟨_,aIh hu pa pb hs,fun B G0 G W H σ en Q hh hs hw=>ma B G0 G W H σ en _ hh hs (DE.go hw fun x G1 H1 v s1 e1 h1=>?_)⟩
 refine mb B G0 G1 W H1 σ en _ (hh.step s1) (hs.step s1) (DE.go h1 fun y G2 H2 u s2 e2 h2=>?_)
 unfold o5 at h2
 split at h2
 ·rename_i k ey
  rw [ey] at e2
  split at h2
  ·rename_i kvs ed
   split at h2
   ·rename_i d el
    obtain ⟨a,w,rfl,hg,x,rfl,hx⟩:=zP (Hs':=H1) s2.gh (e1.step (Hs':=H1) s2) ed e2 el
    exact ⟨a,x,rfl,hg,h2 G2 H2 _ (Step.refl s2.gh) hx⟩
   ·exact h2.elim
  ·exact h2.elim
 ·exact h2.elim
theorem xG{ta tb:TE}{ng:Bool}(ma:∀ B G0 G W H σ en Q,SimH B G0 G W H->SimS X.K W G H σ en->wpR (fa en) (PostE X.K W G H Q) (PostX (E σ) G H)->ta σ H Q)
  (mb:∀ B G0 G W H σ en Q,SimH B G0 G W H->SimS X.K W G H σ en->wpR (fb en) (PostE X.K W G H Q) (PostX (E σ) G H)->tb σ H Q) :
  ∀ B G0 G W H σ en Q,SimH B G0 G W H->SimS X.K W G H σ en->wpR (aF (yH ng) fa fb en) (PostE X.K W G H Q) (PostX (E σ) G H) ->
   ta σ H fun y H1=>tb σ H1 fun x H2=>∃ a o,x=.ref a/\DGet H2 a y o/\Q (.bl (if ng then !o.isSome else o.isSome)) H2:=by
 intro B G0 G W H σ en Q hh hs hw
 refine ma B G0 G W H σ en _ hh hs (DE.go hw fun y G1 H1 u s1 e1 h1=>?_)
 refine mb B G0 G1 W H1 σ en _ (hh.step s1) (hs.step s1) (DE.go h1 fun x G2 H2 v s2 e2 h2=>?_)
 have e1':=e1.step (Hs':=H1) s2
 unfold yH at h2
 split at h2
 ·rename_i k ey
  rw [ey] at e1'
  split at h2
  ·rename_i kvs ed
   split at h2
   ·rename_i o el
    obtain ⟨a,w,rfl,hg,hx⟩:=zP (Hs':=H1) s2.gh e2 ed e1' el
    refine ⟨a,w,rfl,hg,?_⟩
    have z:=h2 G2 H2 _ (Step.refl s2.gh) (.bl _)
    cases o with
    | none=>rw [show w=none from hx];exact z
    | some d=>obtain ⟨x',rfl,_⟩:=hx;exact z
   ·exact h2.elim
  ·exact h2.elim
 ·exact h2.elim
theorem aJq(hu:X.A.units+1 < cLine)(ha:DE X E a fa)(hb:DE X E b fb)(hk:behindInMarks .In b=false:=by with_unfolding_all rfl):DT X E (.Compare a [.In] [b] pos) (bH (aF (yH false) fa fb)):=by
 obtain ⟨ta,pa,ma⟩:=ha.out
 obtain ⟨tb,pb,mb⟩:=hb.out
 exact DT.in ⟨_,aF1 (aK8 hu pa pb) hk,mV (t:=aO9 ta tb) (xG (ng:=false) ma mb)⟩
theorem aBb(hu:X.A.units+1 < cLine)(ha:DE X E a fa)(hb:DE X E b fb)(hk:behindInMarks .NotIn b=false:=by with_unfolding_all rfl):DT X E (.Compare a [.NotIn] [b] pos) (bH (aF (yH true) fa fb)):=by
 obtain ⟨ta,pa,ma⟩:=ha.out
 obtain ⟨tb,pb,mb⟩:=hb.out
 exact DT.in ⟨_,aF1 (aCe hu pa pb) hk,mV (t:=y6 ta tb) (xG (ng:=true) ma mb)⟩
def mDT:En->Res Ev:=fun _=>.ok (.f (.dict []))
theorem qE:DE X E (.Dict [] [] pos) mDT :=
 DE.in ⟨_,aDg,fun B G0 G W H σ en Q hh hs hw p hp=>hw _ _ _ (Step.lay hh.gh hp) ⟨p,_,rfl,hp,hh.gh.free hp,bJ,.dT .nil⟩⟩
noncomputable def yW(kvs:List (D×D))(k v:D):Option (List (D×D)):=match dsp kvs with
 | (true,r)=>if (aF8 k).isSome=true/\r.length<=100000 then some ((.none,.none) :: aC3 r k v) else none
 | (false,r)=>if (aJc k).isSome=true/\r.length<=100000 then some (aC3 r k v) else none
noncomputable def lG(i:Nat)(fk fv:En->Res Ev):MS:=fun en=>match en[i]? with
 | some (some (.o (.dict kvs)))=>match fv en with
  | .exc C=>some (.ex C en)
  | .bad=>none
  | .ok rv=>match fk en with
   | .exc C=>some (.ex C en)
   | .bad=>none
   | .ok rk=>match rv.c with
    | .p v=>match rk.c with
     | .p k=>match yW kvs k v with
      | some kvs'=>some (.nx (en.set i (some (.o (.dict kvs')))))
      | none=>none
     | _=>none
    | _=>none
 | _=>none
theorem nL{i:Nat}{x:Str}{pos' np:Pos}{ek ev:Expr}{fk fv:En->Res Ev}(hu:X.A.units+1 < cLine)(hd:PE X (.Name x np) (xX i))(hk:DE X E ek fk)(hv:DE X E ev fv)(hs:swapsWith ev (some (.Subscript (.Name x np) ek pos')) pos.line X.env=pure false) :
  DS X E (.Assign [.Subscript (.Name x np) ek pos'] ev pos) (lG i fk fv):=by
 obtain ⟨tk,pk,mk⟩:=hk.out
 obtain ⟨tv,pv',mv⟩:=hv.out
 refine DS.in ⟨_,aGt hu hd pk pv' hs,fun B G0 G W H σ en Dn hh hs hw=>mv B G0 G W H σ en _ hh hs ?_⟩
 unfold lG at hw
 split at hw
 ·rename_i kvs ei
  obtain ⟨v0,f1,a,o,rfl,f2,f3,f4⟩:=hs.2 i _ ei
  cases ev':fv en with
  | bad=>rw [ev'] at hw;exact hw
  | exc C=>rw [ev'] at hw;exact fun G1 H1 s=>hw G1 W H1 σ (hh.step s) (hs.step s)
  | ok rv =>
   rw [ev'] at hw
   intro G1 H1 v s1 e1
   obtain ⟨G2,s2,e2⟩:=e1.c s1
   dsimp only at hw
   refine ⟨_,f1,mk B G0 G2 W H1 σ en _ (hh.step s2) (hs.step s2) ?_⟩
   cases ek':fk en with
   | bad=>rw [ek'] at hw;exact hw
   | exc C=>rw [ek'] at hw;exact fun G3 H3 s=>hw G3 W H3 σ ((hh.step s2).step s) ((hs.step s2).step s)
   | ok rk =>
    rw [ek'] at hw
    intro G3 H3 u s3 e3
    obtain ⟨G4,s4,e4⟩:=e3.c s3
    have e2':=e2.step (Hs':=H1) s4
    have s24:=s2.trans s4
    dsimp only at hw
    split at hw
    ·rename_i vd erv
     rw [erv] at e2'
     split at hw
     ·rename_i kd erk
      rw [erk] at e4
      split at hw
      ·rename_i kvs' ep
       have hx:=s24.h _ _ f3
       refine ⟨a,?_⟩
       unfold yW at ep
       have f5:=f4.mono s24.g
       cases f5 with
       | @dT kv _ rT =>
        rw [aGs rT] at ep
        dsimp only at ep
        split at ep
        ·rename_i hz
         cases ep
         obtain ⟨ks,ek⟩:=aRw.mp hz.1
         obtain ⟨b,rfl,hb⟩:=aFt e4 ek
         have:=vE ek
         subst this
         obtain ⟨w1,w2⟩:=jR (o':=.dT (putK kv ks v)) (d':=.dict (aC3 kvs (tkD ks) vd)) (hh.step s24) (hs.step s24) f2 f1 (.dT (aQh e2' rT))
         exact ⟨_,rfl,.t hx (s4.gh _ _ hb) (aT2 (by rw [rT.len];exact hz.2) (by decide)),hw _ _ _ _ w1 w2⟩
        ·cases ep
       | @dK kv r rK =>
        dsimp only [dsp] at ep
        split at ep
        ·rename_i hz
         cases ep
         obtain ⟨ks,ek⟩:=aRw.mp hz.1
         have hb:=aCx e4 ek
         subst hb
         have:=rB ek
         subst this
         obtain ⟨w1,w2⟩:=jR (o':=.dK (putK kv ks v)) (d':=.dict ((.none,.none) :: aC3 r (kD ks) vd)) (hh.step s24) (hs.step s24) f2 f1 (.dK (aOo e2' rK))
         exact ⟨_,rfl,.k hx (aT2 (by rw [rK.len];exact hz.2) (by decide)),hw _ _ _ _ w1 w2⟩
        ·cases ep
      ·exact hw.elim
     ·exact hw.elim
    ·exact hw.elim
 ·exact hw.elim
def k7(rs:List Ev):Res Ev:=match rs with
 | [x]=>match jX x with
  | some kvs=>.ok (.p (.int ((dsp kvs).2.length:Nat)))
  | none=>.bad
 | _=>.bad
theorem vM:aA8 k7:=by
 intro rs C h
 unfold k7 at h
 split at h
 ·split at h<;>cases h
 ·cases h
def lX(i:Nat)(fk fv:En->Res Ev):MS:=fun en=>match en[i]? with
 | some (some (.o (.list ds)))=>match fv en with
  | .exc C=>some (.ex C en)
  | .bad=>none
  | .ok rv=>match fk en with
   | .exc C=>some (.ex C en)
   | .bad=>none
   | .ok rk=>match rv.c with
    | .p v=>match rk.c with
     | .p (.int k)=>match ixN ds.length k with
      | some j=>some (.nx (en.set i (some (.o (.list (ds.set j v))))))
      | none=>none
     | _=>none
    | _=>none
 | _=>none
theorem q0{i:Nat}{ek ev:Expr}{fk fv:En->Res Ev}{st:Stmt}(hk:DE X E ek fk)(hv:DE X E ev fv)(hp:∀ tk tv,PE X ek tk->PE X ev tv->PS X st (aMn tv (aPc (xX i) tk aJ1))):DS X E st (lX i fk fv):=by
 obtain ⟨tk,pk,mk⟩:=hk.out
 obtain ⟨tv,pv',mv⟩:=hv.out
 refine DS.in ⟨_,hp tk tv pk pv',fun B G0 G W H σ en Dn hh hs hw=>mv B G0 G W H σ en _ hh hs ?_⟩
 unfold lX at hw
 split at hw
 ·rename_i ds ei
  obtain ⟨v0,f1,a,o,rfl,f2,f3,f4⟩:=hs.2 i _ ei
  cases f4 with
  | @lst xs _ rp =>
  cases ev':fv en with
  | bad=>rw [ev'] at hw;exact hw
  | exc C=>rw [ev'] at hw;exact fun G1 H1 s=>hw G1 W H1 σ (hh.step s) (hs.step s)
  | ok rv =>
   rw [ev'] at hw
   intro G1 H1 v s1 e1
   obtain ⟨G2,s2,e2⟩:=e1.c s1
   dsimp only at hw
   refine ⟨_,f1,mk B G0 G2 W H1 σ en _ (hh.step s2) (hs.step s2) ?_⟩
   cases ek':fk en with
   | bad=>rw [ek'] at hw;exact hw
   | exc C=>rw [ek'] at hw;exact fun G3 H3 s=>hw G3 W H3 σ ((hh.step s2).step s) ((hs.step s2).step s)
   | ok rk =>
    rw [ek'] at hw
    intro G3 H3 u s3 e3
    obtain ⟨G4,s4,e4⟩:=e3.c s3
    have e2':=e2.step (Hs':=H1) s4
    have s24:=s2.trans s4
    dsimp only at hw
    split at hw
    ·rename_i vd erv
     rw [erv] at e2'
     split at hw
     ·rename_i k erk
      rw [erk] at e4
      cases e4
      split at hw
      ·rename_i j ej
       obtain ⟨w1,w2⟩:=jR (o':=.lst (xs.set j v)) (d':=.list (ds.set j vd)) (hh.step s24) (hs.step s24) f2 f1 (.lst ((rp.mono s24.g).set e2' j))
       exact ⟨a,xs,k,j,rfl,rfl,s24.h _ _ f3,by rw [rp.length];exact ej,hw _ _ _ _ w1 w2⟩
      ·exact hw.elim
     ·exact hw.elim
    ·exact hw.elim
 ·exact hw.elim
end
end M
namespace SRT
open PySem PySem.W PyProof.Rows
structure Ord(lt:Nat->Nat->Bool):Prop where
 as:∀ i j,lt i j=true->lt j i=false
 tr:∀ i j k,lt j i=false->lt k j=false->lt k i=false
section
variable {lt:Nat->Nat->Bool}{n:Nat}{cmp:Nat->Nat->(Bool->Shared->Prop)->Shared->Prop}{s:Shared}
def le(lt:Nat->Nat->Bool)(a b:Nat):Prop:=lt b a=false
theorem Ord.rf(o:Ord lt)(i:Nat):le lt i i:=by
 cases e:lt i i with
 | false=>exact e
 | true=>have:=o.as i i e;rw [e] at this;cases this
theorem Ord.tot(o:Ord lt){i j:Nat}(h:lt i j=true):le lt i j:=o.as i j h
def Pt(p:Array Nat)(i:Nat):Nat:=p.getD i 0
def Sd(lt:Nat->Nat->Bool)(p:Array Nat)(m:Nat):Prop:=∀ i j,i<=j->j < m->le lt (Pt p i) (Pt p j)
def NI(lt:Nat->Nat->Bool)(p:Array Nat)(m:Nat):Prop:=∀ i j,i<=j->j < m->le lt (Pt p j) (Pt p i)
def Pm(n:Nat)(p:Array Nat):Prop:=p.Perm (List.range n).toArray
theorem Pm.size{p:Array Nat}(h:Pm n p):p.size=n:=by
 have:=h.size_eq
 simpa using this
theorem Pm.bd{p:Array Nat}(h:Pm n p)(hn:0 < n)(i:Nat):Pt p i < n:=by
 unfold Pt
 by_cases hi:i < p.size
 ·have e:p.getD i 0=p[i]:=by simp [Array.getD,hi]
  rw [e]
  have:p[i]∈(List.range n).toArray:=h.mem_iff.mp (Array.getElem_mem hi)
  simpa using this
 ·have e:p.getD i 0=0:=by simp [Array.getD,hi]
  rw [e];exact hn
theorem aAy{p q:Array Nat}{i j:Nat}(h:p[i]? = q[j]?):Pt p i=Pt q j:=by
 unfold Pt
 rw [aRy,aRy,h]
theorem sC{p:Array Nat}(h:Pm n p)(i j:Nat):Pm n (kas_rev p i j):=(mirror_perm _ _ _ _).trans h
theorem tX{p:Array Nat}{i j:Nat}(hj:j<=p.size)(k:Nat):Pt (kas_rev p i j) k=if i<=k/\k < j then Pt p (i+j - 1 - k) else Pt p k:=by
 have e:=getElem?_mirror_all (xs:=p) (i:=i) hj k
 split
 ·rename_i h
  rw [aQt h] at e
  exact aAy e
 ·rename_i h
  rw [aQv h] at e
  exact aAy e
variable (hc:∀ i j C,i < n->j < n->C (lt i j) s->cmp i j C s)(hn:0 < n)(o:Ord lt)
include hc hn
theorem zN{Q:Nat->Shared->Prop}{p:Array Nat}(hp:Pm n p):∀ (f a:Nat),(∀ m,a<=m->m<=a+f->(∀ k,a<=k->k < m->le lt (Pt p (k - 1)) (Pt p k))->(m < a+f->lt (Pt p m) (Pt p (m - 1))=true)->Q m s) ->
  (kas_asc p f a).kasWp cmp Q s
 | 0,a,h=>h a (aQu _) (aQu _) (fun k h1 h2=>absurd h2 (by omega)) (fun h=>absurd h (by omega))
 | f+1,a,h=>by
  refine hc _ _ _ (hp.bd hn _) (hp.bd hn _) ?_
  show KasT.kasWp cmp (if lt (Pt p a) (Pt p (a - 1))=true then .ret a else kas_asc p f (a+1)) Q s
  cases e:lt (Pt p a) (Pt p (a - 1)) with
  | true =>
   rw [aQt rfl]
   exact h a (aQu _) (by omega) (fun k h1 h2=>absurd h2 (by omega)) fun _=>e
  | false =>
   rw [aQv aRd]
   refine zN hp f (a+1) fun m h1 h2 h3 h4=>h m (by omega) (by omega) (fun k k1 k2=>?_) fun z=>h4 (by omega)
   by_cases ek:k=a
   ·subst ek;exact e
   ·exact h3 k (by omega) k2
include o
omit hc hn in
theorem aLt{p:Array Nat}{a m:Nat}(h1:1<=a)(hs:Sd lt p a)(hk:∀ k,a<=k->k < m->le lt (Pt p (k - 1)) (Pt p k)):Sd lt p m:=by
 intro i j hij hj
 induction j with
 | zero =>
  have:i=0:=by omega
  subst this
  exact o.rf _
 | succ j ih =>
  by_cases e:i=j+1
  ·subst e;exact o.rf _
  ·have ih:=ih (by omega) (by omega)
   by_cases hja:j+1 < a
   ·exact hs i (j+1) hij hja
   ·have:=hk (j+1) (by omega) hj
    exact o.tr _ _ _ ih this
omit hc hn in
theorem aKi{p:Array Nat}{m:Nat}(hm:m<=p.size)(h:NI lt p m):Sd lt (kas_rev p 0 m) m:=by
 intro i j hij hj
 rw [tX hm,tX hm,aQt ⟨aRj _,by omega⟩,aQt ⟨aRj _,hj⟩]
 exact h _ _ (by omega) (by omega)
theorem aBa{Q:Nat×Array Nat->Shared->Prop}{p:Array Nat}{a r:Nat}(hp:Pm n p)(h1:1<=a)(ha:a<=r)(hr:r<=n)(hni:NI lt p a)(h:∀ m q,1<=m->m<=r->Pm n q->Sd lt q m->Q (m,q) s):(kas_tail3 a r p).kasWp cmp Q s:=by
 unfold kas_tail3
 rw [aUy]
 have hz:a<=p.size:=by rw [hp.size];omega
 refine zN hc hn (sC hp 0 a) _ _ fun m h2 h3 h4 _=>?_
 exact h m _ (by omega) (by omega) (sC hp 0 a) (aLt o h1 (aKi o hz hni) h4)
omit hc hn in
theorem rev_eq{p:Array Nat}{i j:Nat}(hj:j<=p.size)(he:∀ a b,i<=a->a < j->i<=b->b < j->le lt (Pt p a) (Pt p b))(k:Nat):le lt (Pt (kas_rev p i j) k) (Pt p k)/\le lt (Pt p k) (Pt (kas_rev p i j) k):=by
 rw [tX hj]
 split
 ·rename_i h
  exact ⟨he _ _ (by omega) (by omega) h.1 h.2,he _ _ h.1 h.2 (by omega) (by omega)⟩
 ·exact ⟨o.rf _,o.rf _⟩
omit hc hn in
theorem n8{p:Array Nat}{i j m:Nat}(hj:j<=p.size)(he:∀ a b,i<=a->a < j->i<=b->b < j->le lt (Pt p a) (Pt p b))(h:NI lt p m):NI lt (kas_rev p i j) m:=fun a b hab hb =>
 o.tr _ _ _ (rev_eq o hj he b).1 (o.tr _ _ _ (h a b hab hb) (rev_eq o hj he a).2)
theorem qI{Q:Array Nat×Nat×Nat->Shared->Prop}{r:Nat}(hr:r<=n):∀ (f:Nat) (p:Array Nat) (a q:Nat),Pm n p->a+f<=r->q+1<=a->NI lt p a->(∀ x y,a - (q+1)<=x->x < a->a - (q+1)<=y->y < a->le lt (Pt p x) (Pt p y)) ->
  (∀ p' a' q',Pm n p'->a<=a'->a'<=r->q'+1<=a'->NI lt p' a'->(∀ x y,a' - (q'+1)<=x->x < a'->a' - (q'+1)<=y->y < a'->le lt (Pt p' x) (Pt p' y))->Q (p',a',q') s)->(kas_desc f p a q).kasWp cmp Q s
 | 0,p,a,q,hp,hf,hq,hni,he,h=>h p a q hp (aQu _) (by omega) hq hni he
 | f+1,p,a,q,hp,hf,hq,hni,he,h=>by
  have hz:a<=p.size:=by rw [hp.size];omega
  refine hc _ _ _ (hp.bd hn _) (hp.bd hn _) ?_
  show KasT.kasWp cmp (if lt (Pt p a) (Pt p (a - 1))=true then (if q > 0 then kas_desc f (kas_rev p (a - (q+1)) a) (a+1) 0 else kas_desc f p (a+1) 0)
   else .ask (Pt p (a - 1)) (Pt p a) fun d=>if d=true then .ret (p,a,q) else kas_desc f p (a+1) (q+1)) Q s
  have grow:∀ {p':Array Nat},NI lt p' a->le lt (Pt p' a) (Pt p' (a - 1))->NI lt p' (a+1):=fun {p'} h1 h2 i j hij hj=>by
   by_cases e:j=a
   ·subst e
    by_cases e2:i=j
    ·subst e2;exact o.rf _
    ·exact o.tr _ _ _ h2 (h1 i (j - 1) (by omega) (by omega))
   ·exact h1 i j hij (by omega)
  cases e:lt (Pt p a) (Pt p (a - 1)) with
  | true =>
   rw [aQt rfl]
   by_cases hq0:q > 0
   ·rw [aQt hq0]
    have n1:=n8 o hz he hni
    have e1:Pt (kas_rev p (a - (q+1)) a) a=Pt p a:=by rw [tX hz,aQv (by omega)]
    have le1:le lt (Pt (kas_rev p (a - (q+1)) a) a) (Pt (kas_rev p (a - (q+1)) a) (a - 1)):=by
     rw [e1]
     exact o.tr _ _ _ (o.tot e) (rev_eq o hz he (a - 1)).2
    refine qI hr f _ (a+1) 0 (sC hp _ _) (by omega) (by omega) (grow n1 le1) (fun x y h1 h2 h3 h4=>?_) fun p' a' q' k1 k2 k3 k4 k5 k6=>h p' a' q' k1 (by omega) k3 k4 k5 k6
    have:x=y:=by omega
    subst this;exact o.rf _
   ·rw [aQv hq0]
    refine qI hr f _ (a+1) 0 hp (by omega) (by omega) (grow hni (o.tot e)) (fun x y h1 h2 h3 h4=>?_) fun p' a' q' k1 k2 k3 k4 k5 k6=>h p' a' q' k1 (by omega) k3 k4 k5 k6
    have:x=y:=by omega
    subst this;exact o.rf _
  | false =>
   rw [aQv aRd]
   refine hc _ _ _ (hp.bd hn _) (hp.bd hn _) ?_
   show KasT.kasWp cmp (if lt (Pt p (a - 1)) (Pt p a)=true then .ret (p,a,q) else kas_desc f p (a+1) (q+1)) Q s
   cases e2:lt (Pt p (a - 1)) (Pt p a) with
   | true =>
    rw [aQt rfl]
    exact h p a q hp (aQu _) (by omega) hq hni he
   | false =>
    rw [aQv aRd]
    have eq1:le lt (Pt p (a - 1)) (Pt p a):=e
    have eq2:le lt (Pt p a) (Pt p (a - 1)):=e2
    refine qI hr f p (a+1) (q+1) hp (by omega) (by omega) (grow hni eq2) (fun x y h1 h2 h3 h4=>?_) fun p' a' q' k1 k2 k3 k4 k5 k6=>h p' a' q' k1 (by omega) k3 k4 k5 k6
    by_cases hx:x=a
    ·subst hx
     by_cases hy:y=x
     ·subst hy;exact o.rf _
     ·exact o.tr _ _ _ eq2 (he _ _ (by omega) (by omega) (by omega) (by omega))
    ·by_cases hy:y=a
     ·subst hy
      exact o.tr _ _ _ (he _ (y - 1) (by omega) (by omega) (by omega) (by omega)) eq1
     ·exact he _ _ (by omega) (by omega) (by omega) (by omega)
theorem oN{Q:Nat×Array Nat->Shared->Prop}{p:Array Nat}{a r:Nat}(hp:Pm n p)(h1:1<=a)(ha:a+1<=r)(hr:r<=n)(hni:NI lt p (a+1))(h:∀ m q,1<=m->m<=r->Pm n q->Sd lt q m->Q (m,q) s):(kas_descPart a r p).kasWp cmp Q s:=by
 unfold kas_descPart
 rw [aUy]
 refine qI hc hn o hr _ p (a+1) 0 hp (by omega) (by omega) hni (fun x y h1 h2 h3 h4=>?_) fun p' a' q' k1 k2 k3 k4 k5 k6=>?_
 ·have:x=y:=by omega
  subst this;exact o.rf _
 ·have hz:a'<=p'.size:=by rw [k1.size];omega
  show KasT.kasWp cmp (if q' > 0 then kas_tail3 a' r (kas_rev p' (a' - (q'+1)) a') else kas_tail3 a' r p') Q s
  by_cases hq:q' > 0
  ·rw [aQt hq]
   exact aBa hc hn o (sC k1 _ _) (by omega) k3 hr (n8 o hz k6 k5) h
  ·rw [aQv hq]
   exact aBa hc hn o k1 (by omega) k3 hr k5 h
theorem aD2{Q:Nat×Array Nat->Shared->Prop}{p:Array Nat}{r:Nat}(hp:Pm n p)(h1:1<=r)(hr:r<=n)(h:∀ m q,1<=m->m<=r->Pm n q->Sd lt q m->Q (m,q) s):(kas_count r p).kasWp cmp Q s:=by
 unfold kas_count
 rw [aUy]
 have s1:Sd lt p 1:=fun i j hij hj=>by
  have:i=j:=by omega
  subst this;exact o.rf _
 refine zN hc hn hp _ _ fun m h2 h3 h4 h5=>?_
 have sm:=aLt o (aQu 1) s1 h4
 show KasT.kasWp cmp (if (m == r)=true then .ret (m,p) else if m > 1 then .ask (Pt p 0) (Pt p (m - 1)) fun c=>if c=true then .ret (m,p) else kas_descPart m r (kas_rev p 0 m) else kas_descPart m r p) Q s
 by_cases em:m=r
 ·rw [aQt (by simp [em])]
  exact h m p h2 (by omega) hp sm
 ·rw [aQv (by simp [em])]
  have hlt:=h5 (by omega)
  have hz:m<=p.size:=by rw [hp.size];omega
  by_cases hm:m > 1
  ·rw [aQt hm]
   refine hc _ _ _ (hp.bd hn _) (hp.bd hn _) ?_
   show KasT.kasWp cmp (if lt (Pt p 0) (Pt p (m - 1))=true then .ret (m,p) else kas_descPart m r (kas_rev p 0 m)) Q s
   cases e:lt (Pt p 0) (Pt p (m - 1)) with
   | true=>rw [aQt rfl];exact h m p h2 (by omega) hp sm
   | false =>
    rw [aQv aRd]
    have e:le lt (Pt p (m - 1)) (Pt p 0):=e
    have he:∀ a b,0<=a->a < m->0<=b->b < m->le lt (Pt p a) (Pt p b):=fun a b _ ha _ hb =>
     o.tr _ _ _ (sm a (m - 1) (by omega) (by omega)) (o.tr _ _ _ e (sm 0 b (by omega) hb))
    have nm:NI lt p m:=fun i j hij hj=>he j i (by omega) hj (by omega) (by omega)
    have n2:=n8 o hz he nm
    have em1:Pt (kas_rev p 0 m) m=Pt p m:=by rw [tX hz,aQv (by omega)]
    refine oN hc hn o (sC hp 0 m) (by omega) (by omega) hr (fun i j hij hj=>?_) h
    by_cases ej:j=m
    ·subst ej
     by_cases ei:i=j
     ·subst ei;exact o.rf _
     ·rw [em1]
      refine o.tr _ _ _ (o.tot hlt) (o.tr _ _ _ (rev_eq o hz he (j - 1)).2 ?_)
      exact n2 i (j - 1) (by omega) (by omega)
    ·exact n2 i j hij (by omega)
  ·rw [aQv hm]
   have e1:m=1:=by omega
   subst e1
   refine oN hc hn o hp (aQu 1) (by omega) hr (fun i j hij hj=>?_) h
   by_cases ei:i=j
   ·subst ei;exact o.rf _
   ·have:i=0/\j=1:=by omega
    obtain ⟨rfl,rfl⟩:=this
    exact o.tot hlt
theorem qF{Q:Nat->Shared->Prop}{p:Array Nat}{k:Nat}(hp:Pm n p)(hs:Sd lt p k):∀ (f l r:Nat),l<=r->r<=k->r - l<=f->(∀ i,i < l->le lt (Pt p i) (Pt p k))->(∀ i,r<=i->i < k->lt (Pt p k) (Pt p i)=true) ->
  (∀ m,m<=k->(∀ i,i < m->le lt (Pt p i) (Pt p k))->(∀ i,m<=i->i < k->lt (Pt p k) (Pt p i)=true)->Q m s)->(kas_place p k f l r).kasWp cmp Q s
 | 0,l,r,h1,h2,h3,h4,h5,h=>by
  have:l=r:=by omega
  subst this
  exact h l h2 h4 h5
 | f+1,l,r,h1,h2,h3,h4,h5,h=>by
  unfold kas_place
  by_cases e:l ≥ r
  ·rw [aQt e]
   have:l=r:=by omega
   subst this
   exact h l h2 h4 h5
  ·rw [aQv e]
   refine hc _ _ _ (hp.bd hn _) (hp.bd hn _) ?_
   show KasT.kasWp cmp (if lt (Pt p k) (Pt p ((l+r) / 2))=true then kas_place p k f l ((l+r) / 2) else kas_place p k f ((l+r) / 2+1) r) Q s
   cases ec:lt (Pt p k) (Pt p ((l+r) / 2)) with
   | true =>
    rw [aQt rfl]
    refine qF hp hs f l ((l+r) / 2) (by omega) (by omega) (by omega) h4 (fun i i1 i2=>?_) h
    cases ei:lt (Pt p k) (Pt p i) with
    | true=>rfl
    | false =>
     have:=o.tr _ _ _ (hs ((l+r) / 2) i i1 i2) ei
     rw [ec] at this;cases this
   | false =>
    rw [aQv aRd]
    refine qF hp hs f ((l+r) / 2+1) r (by omega) h2 (by omega) (fun i i1=>?_) h5 h
    exact o.tr _ _ _ (hs i ((l+r) / 2) (by omega) (by omega)) ec
omit hc hn in
theorem aF9{p:Array Nat}{k l:Nat}(hk:k < p.size)(hl:l<=k)(i:Nat):Pt (bubble p k (k - l)) i=if i=l then Pt p k else if l < i/\i<=k then Pt p (i - 1) else Pt p i:=by
 have e:=getElem?_bubble hk (k - l) (by omega) i
 have e1:k - (k - l)=l:=by omega
 rw [e1] at e
 repeat' split
 ·rename_i h;rw [aQt h] at e;exact aAy e
 ·rename_i h h2;rw [aQv h,aQt h2] at e;exact aAy e
 ·rename_i h h2;rw [aQv h,aQv h2] at e;exact aAy e
theorem aFo{Q:Array Nat->Shared->Prop}:∀ (f:Nat) (p:Array Nat) (k:Nat),Pm n p->k+f<=n->Sd lt p k->(∀ q,Pm n q->Sd lt q (k+f)->Q q s)->(kas_bin f p k).kasWp cmp Q s
 | 0,p,k,hp,_,hs,h=>h p hp hs
 | f+1,p,k,hp,hk,hs,h=>by
  unfold kas_bin
  rw [aUy]
  have hz:k < p.size:=by rw [hp.size];omega
  refine qF hc hn o hp hs k 0 k (aRj _) (aQu _) (by omega) (fun i h=>absurd h (by omega)) (fun i h1 h2=>absurd h2 (by omega)) fun l hl h1 h2=>?_
  refine aFo f _ (k+1) ((bubble_perm _ _ _).trans hp) (by omega) (fun i j hij hj=>?_) fun q q1 q2=>h q q1 (by rw [show k+(f+1)=k+1+f by omega];exact q2)
  rw [aF9 o hz hl,aF9 o hz hl]
  by_cases ei:i=l
  ·rw [aQt ei]
   by_cases ej:j=l
   ·rw [aQt ej];exact o.rf _
   ·rw [aQv ej,aQt ⟨by omega,by omega⟩]
    exact o.tot (h2 (j - 1) (by omega) (by omega))
  ·rw [aQv ei]
   by_cases ej:j=l
   ·rw [aQt ej,aQv (by omega)]
    exact h1 i (by omega)
   ·rw [aQv ej]
    by_cases hi:l < i/\i<=k
    ·rw [aQt hi,aQt ⟨by omega,by omega⟩]
     exact hs _ _ (by omega) (by omega)
    ·rw [aQv hi]
     by_cases hj2:l < j/\j<=k
     ·rw [aQt hj2]
      exact hs _ _ (by omega) (by omega)
     ·rw [aQv hj2]
      exact hs _ _ (by omega) (by omega)
theorem aAu{Q:Array Nat->Shared->Prop}(h:∀ q,Pm n q->Sd lt q n->Q q s):(kas_sort n).kasWp cmp Q s:=by
 unfold kas_sort
 rw [aUy]
 refine aD2 hc hn o (aW2 _) hn (aQu n) fun m q h1 h2 h3 h4=>?_
 show KasT.kasWp cmp (if m < n then kas_bin (n - max m 1) q (max m 1) else .ret q) Q s
 have em:max m 1=m:=by omega
 by_cases e:m < n
 ·rw [aQt e,em]
  refine aFo hc hn o _ _ _ h3 (by omega) h4 fun q' k1 k2=>h q' k1 (by rw [show m+(n - m)=n by omega] at k2;exact k2)
 ·rw [aQv e]
  have:m=n:=by omega
  subst this
  exact h q h3 h4
end
end SRT
namespace SRT
open PySem PySem.W PyProof.Rows L2
def TupI(h:Heap)(v:Value)(ns:List Int):Prop:=∃ t o xs c,v=.ref t/\h.get? t=some o/\o.cls=.type "tuple"/\o.data=.seq xs c/\IntsAre xs.toList ns
theorem TupI.at{h h':Heap}{v:Value}{ns:List Int}(x:TupI h v ns)(k:∀ t o,v=.ref t->h.get? t=some o->h'.get? t=some o):TupI h' v ns :=
 let ⟨t,o,xs,c,e,ho,r⟩:=x;⟨t,o,xs,c,e,k t o e ho,r⟩
theorem pY:∀ {vs:List Value} {ns:List Int},IntsAre vs ns->vs.length=ns.length
 | _,_,.nil=>rfl
 | _,_,.cons _ _ r=>by rw [aQp,aQp,pY r]
theorem zC:∀ a b:List Int,HT.lexLt a b=true->HT.lexLt b a=false
 | [],[],h=>by cases h
 | [],_ :: _,_=>rfl
 | _ :: _,[],h=>by cases h
 | x :: a,y :: b,h=>by
  rw [HT.dH] at h ⊢
  by_cases e:x=y
  ·rw [aQt e] at h;rw [aQt e.symm];exact zC a b h
  ·rw [aQv e] at h;rw [aQv (aU6 e)]
   have:=aWf h
   exact aQr (by omega)
theorem zG:∀ a b c:List Int,HT.lexLt b a=false->HT.lexLt c b=false->HT.lexLt c a=false
 | [],_,[],_,_=>rfl
 | [],b,_ :: _,_,_=>rfl
 | _ :: _,[],_,h,_=>by cases h
 | x :: a,y :: b,[],_,h=>by cases h
 | x :: a,y :: b,z :: c,h1,h2=>by
  rw [HT.dH] at h1 h2 ⊢
  by_cases e1:y=x
  ·subst e1
   rw [aQt rfl] at h1
   by_cases e2:z=y
   ·subst e2
    rw [aQt rfl] at h2 ⊢
    exact zG a b c h1 h2
   ·rw [aQv e2] at h2 ⊢
    exact h2
  ·rw [aQv e1] at h1
   have q1:=aTd h1
   by_cases e2:z=y
   ·subst e2
    rw [aQv e1]
    exact h1
   ·rw [aQv e2] at h2
    have q2:=aTd h2
    have e3:z≠x:=by omega
    rw [aQv e3]
    exact aQr (by omega)
theorem aFx:∀ a b:List Int,HT.lexLt a b=false->HT.lexLt b a=false->a=b
 | [],[],_,_=>rfl
 | [],_ :: _,h,_=>by cases h
 | _ :: _,[],_,h=>by cases h
 | x :: a,y :: b,h1,h2=>by
  rw [HT.dH] at h1 h2
  by_cases e:x=y
  ·subst e
   rw [aQt rfl] at h1 h2
   rw [aFx a b h1 h2]
  ·rw [aQv e] at h1;rw [aQv (aU6 e)] at h2
   have q1:=aTd h1
   have q2:=aTd h2
   omega
theorem qY(ks:List (List Int)):Ord fun i j=>HT.lexLt (ks.getD i []) (ks.getD j []):=⟨fun _ _=>zC _ _,fun _ _ _=>zG _ _ _⟩
section
variable {prog:Program}{w:World}{A:Around}{E:Value->Shared->Prop}{s:Shared}
theorem aFf{b fin:Bool}{Q:Bool->Shared->Prop}:∀ {us ws:List Value} {ns ms:List Int} (i:Nat),IntsAre us ns->IntsAre ws ms->(fin=decide (ns.length < ms.length))->Q (HT.lexLt ns ms) s->KatLex prog w A b fin Q (us.zip ws) i s
 | _,_,[],[],i,.nil,.nil,hf,q=>by
  rw [hf];exact q
 | _,_,[],m :: ms,i,.nil,.cons _ _ _,hf,q=>by
  rw [hf]
  show Q (decide (0 < ms.length+1)) s
  rw [aQ3 (aTe _)]
  exact q
 | _,_,n :: ns,[],i,.cons _ _ _,.nil,hf,q=>by
  rw [hf]
  show Q (decide (ns.length+1 < 0)) s
  rw [aQr (aUz _)]
  exact q
 | _,_,n :: ns,m :: ms,i,.cons _ t hi,.cons _ u hj,hf,q=>by
  rw [HT.dH] at q
  refine kat_cons (aUm ?_)
  by_cases e:n=m
  ·rw [aQt e] at q
   rw [show (n == m)=true by simp [e]]
   exact kat_yes (aFf (i+1) hi hj (by rw [hf];simp) q)
  ·rw [aQv e] at q
   rw [show (n == m)=false by simp [e]]
   refine kat_no ?_
   cases eb:(b && i == 0) with
   | true=>exact oneLt_int q
   | false=>exact kat_one _ _ (lt_int q)
theorem aC5{x y:Value}{ns ms:List Int}{Q:Bool->Shared->Prop}(b:Bool)(hx:TupI s.heap x ns)(hy:TupI s.heap y ms)(q:Q (HT.lexLt ns ms) s):wpAny (model prog w) A (keyLt' (tuples' b) x y) Q E s:=by
 obtain ⟨t,o,xs,c,rfl,ho,hc,hd,hi⟩:=hx
 obtain ⟨t2,o2,xs2,c2,rfl,ho2,hc2,hd2,hi2⟩:=hy
 refine kat_lt ho hd ho2 hd2 (aFf 0 hi hi2 ?_ q)
 have e1:=pY hi
 have e2:=pY hi2
 rw [aQ4] at e1 e2
 rw [e1,e2]
def TupsI(h:Heap)(vs:List Value)(ks:List (List Int)):Prop:=vs.length=ks.length/\∀ (i:Nat) (v:Value) (k:List Int),vs[i]? = some v->ks[i]? = some k->TupI h v k/\k≠[]
theorem TupsI.cons{h:Heap}{v:Value}{vs:List Value}{ks:List (List Int)}(x:TupsI h (v :: vs) ks):∃ k r,ks=k :: r/\TupI h v k/\k≠[]/\TupsI h vs r:=by
 obtain ⟨hl,ha⟩:=x
 cases ks with
 | nil=>simp at hl
 | cons k r =>
  obtain ⟨h1,h2⟩:=ha 0 v k rfl rfl
  exact ⟨k,r,rfl,h1,h2,by simpa using hl,fun i v k e1 e2=>ha (i+1) v k (by simpa using e1) (by simpa using e2)⟩
theorem aO2{h:Heap}:∀ {vs:List Value} {ks:List (List Int)},TupsI h vs ks->∃ fs,KatTups h vs fs/\fs.length=vs.length/\∀ f∈fs,∃ i t,f=Value.int i t
 | [],_,_=>⟨[],KatTups.nil,rfl,fun _ z=>nomatch z⟩
 | v :: vs,ks,x=>by
  obtain ⟨k,r,rfl,⟨t,o,xs,c,rfl,ho,hc,hd,hi⟩,hk,hr⟩:=x.cons
  obtain ⟨fs,h1,h2,h3⟩:=aO2 hr
  cases k with
  | nil=>exact absurd rfl hk
  | cons n k =>
   cases hx:xs.toList with
   | nil=>rw [hx] at hi;cases hi
   | cons y ys =>
    rw [hx] at hi
    cases hi with
    | cons _ tt _ =>
     refine ⟨.int n tt :: fs,KatTups.cons ho hc hd ?_ h1,by simp [h2],fun f hf=>?_⟩
     ·have:xs.toList[0]? = some (Value.int n tt):=by rw [hx];rfl
      simpa using this
     ·rcases aQy.mp hf with rfl | hf
      ·exact ⟨n,tt,rfl⟩
      ·exact h3 f hf
theorem range_getD(vs:List Value):((List.range vs.length).map fun i=>vs.getD i Value.none)=vs:=by
 refine aS8 fun i=>?_
 rw [aQ0]
 by_cases hi:i < vs.length
 ·rw [aTt hi]
  simp [hi]
 ·rw [aRi (by rw [aR5];omega),aRi (by omega)]
  rfl
theorem rD{a:Addr}{vs:List Value}{n:Nat}{ks:List (List Int)}{P:PySem.Fin->Shared->Prop}(ho:s.heap.get? a=some (seqObj "list" vs.toArray n))(ht:TupsI s.heap vs ks)(hna:∀ v∈vs,v≠.ref a)(h64:vs.length < 64)
  (h:∀ q:Array Nat,Pm vs.length q->Sd (fun i j=>HT.lexLt (ks.getD i []) (ks.getD j [])) q vs.length->P (.done (.ret .none)) { s with heap:=sortedHeap s.heap a vs (q.toList.map fun i=>vs.getD i Value.none).toArray }) :
  wpAny (model prog w) A (Builtin.«list.sort» ⟨[.ref a],[]⟩) P E s:=by
 rw [list_sort_plain]
 have ha:a < s.heap.objs.size:=aQw ho
 refine aQl (listItems_at ho rfl ?_)
 refine aQl (aU0 ho rfl ?_ (by rw [aQs,aR9];omega) (aRj _))
 obtain ⟨e1,ho1⟩:∃ e1,(s.heap.update a (Obj.mapSeq fun _=>(#[]:Array Value))).get? a=some (seqObj "list" #[] e1):=⟨_,aVt ho (fun _=>#[])⟩
 refine aQl (aVu ho1 rfl ?_)
 refine aQl (wpAny_newTuple ?_ (by show vs.length<=_;rw [aR9];omega))
 refine aQl (aWm ?_ (aRj _))
 refine aSa ?_
 have keep:∀ b o,b≠a->s.heap.get? b=some o->(((s.heap.update a (Obj.mapSeq fun _=>(#[]:Array Value))).push (seqObj "tuple" vs.toArray 0)).push (seqObj "list" #[] 0)).get? b=some o:=fun b o hb e=>by
  refine aQq _ (aQq _ ?_)
  rw [aTu _ _ _ _ hb]
  exact e
 have ho6:(((s.heap.update a (Obj.mapSeq fun _=>(#[]:Array Value))).push (seqObj "tuple" vs.toArray 0)).push (seqObj "list" #[] 0)).get? a=some (seqObj "list" #[] e1):=aQq _ (aQq _ ho1)
 show wpAny (model prog w) A _ P E { s with heap:=((s.heap.update a (Obj.mapSeq fun _=>(#[]:Array Value))).push (seqObj "tuple" vs.toArray 0)).push (seqObj "list" #[] 0) }
 dsimp only
 by_cases h2:vs.toArray.size < 2
 ·rw [aQt h2,aQt h2]
  refine aQl (aQo ?_)
  rw [StateT.run_pure]
  refine aQl (aQo ?_)
  dsimp only
  have e0:(arrOf (SortSt.mk' general' (vs.toArray.zip vs.toArray) #[] 7 none)).map (·.2)=((List.range vs.length).toArray.toList.map fun i=>vs.getD i Value.none).toArray:=by
   show (vs.toArray.zip vs.toArray).map (·.2)=_
   rw [aRv,range_getD]
   apply aWt.mp
   simp [List.map_snd_zip]
  rw [e0]
  refine aQl (aVu ho6 rfl ?_)
  refine aQl (aU0 ho6 rfl ?_ (aRj _) (by rw [aRv,range_getD,aQs,aR9];omega))
  simp only [aVa,aQ2,aR1]
  refine aQo (h (List.range vs.length).toArray (aW2 _) fun i j hij hj=>?_)
  have:i=j:=by rw [aQs] at h2;omega
  subst this
  exact (qY ks).rf _
 ·rw [aQv h2,aQv h2]
  have h2':2<=vs.length:=by rw [aQs] at h2;omega
  have ht6:TupsI (((s.heap.update a (Obj.mapSeq fun _=>(#[]:Array Value))).push (seqObj "tuple" vs.toArray 0)).push (seqObj "list" #[] 0)) vs ks:=⟨ht.1,fun i v k q1 q2=>by
   obtain ⟨z1,z2⟩:=ht.2 i v k q1 q2
   exact ⟨z1.at fun t o ev et=>keep t o (fun z=>hna v (aS4 q1) (by rw [ev,z])) et,z2⟩⟩
  obtain ⟨fs,f1,f2,f3⟩:=aO2 ht6
  refine aQl (kat_kind (T:=.type "int") f1 (by rw [f2];omega) (fun v hv=>?_) rfl ?_)
  ·obtain ⟨i,t,rfl⟩:=f3 v hv
   exact .now
  refine aQl (aR4 (kat_run (κ:=tuples' (Value.type "int" != Value.type "tuple")) (ks:=vs) (Q:=fun st' s'=>∃ p:Array Nat,s'={ s with heap:=((s.heap.update a (Obj.mapSeq fun _=>(#[]:Array Value))).push (seqObj "tuple" vs.toArray 0)).push (seqObj "list" #[] 0) }/\p.size=vs.length/\arrOf st'=p.map (kas_item (vs.toArray.zip vs.toArray))/\failedOf st'=none/\Pm vs.length p/\Sd (fun i j=>HT.lexLt (ks.getD i []) (ks.getD j [])) p vs.length)
   (G:=fun p s'=>s'={ s with heap:=((s.heap.update a (Obj.mapSeq fun _=>(#[]:Array Value))).push (seqObj "tuple" vs.toArray 0)).push (seqObj "list" #[] 0) }/\Pm vs.length p/\Sd (fun i j=>HT.lexLt (ks.getD i []) (ks.getD j [])) p vs.length)
   rfl h2' h64 (fun p st' s' a1 a2 a3 a4=>⟨p,a4.1,a1,a2,a3,a4.2⟩) (aAu (n:=vs.length) (lt:=fun i j=>HT.lexLt (ks.getD i []) (ks.getD j [])) (fun i j C hi hj hC=>?_) (by omega) (qY ks) fun q q1 q2=>⟨rfl,q1,q2⟩)) ?_ fun _ _ e=>e)
  ·unfold kas_ask
   have hi':vs[i]? = some vs[i]:=aQn hi
   have hj':vs[j]? = some vs[j]:=aQn hj
   have ki:i < ks.length:=by rw [<- ht.1];exact hi
   have kj:j < ks.length:=by rw [<- ht.1];exact hj
   have di:vs.getD i Value.none=vs[i]:=by simp [hi]
   have dj:vs.getD j Value.none=vs[j]:=by simp [hj]
   have ei:ks.getD i []=ks[i]:=by simp [ki]
   have ej:ks.getD j []=ks[j]:=by simp [kj]
   rw [di,dj]
   rw [ei,ej] at hC
   exact aC5 _ (ht6.2 i _ _ hi' (aQn ki)).1 (ht6.2 j _ _ hj' (aQn kj)).1 hC
  ·rintro ⟨⟨⟩,st'⟩ s' ⟨p,rfl,hp,har,hf,hpm,hsd⟩
   dsimp only
   have hout:=kat_snds (ks:=vs) (vs:=vs) rfl har
   have hsz:(List.toArray (p.toList.map fun i=>vs.getD i Value.none)).size=vs.length:=by rw [aQs,aQm,aQ4,hp]
   rw [hout]
   refine aQl (aVu ho6 rfl ?_)
   refine aQl (aU0 ho6 rfl ?_ (aRj _) (aR0 (aT4 hsz) (by rw [aR9];omega)))
   rw [hf]
   simp only [aVa,aQ2,aR1]
   exact aQo (h p hpm hsd)
theorem nC{h:Heap}{a:Addr}{vs:List Value}{out:Array Value}{b:Addr}{o:Obj}(hb:b≠a)(e:h.get? b=some o):(sortedHeap h a vs out).get? b=some o:=by
 unfold sortedHeap
 rw [aTu _ _ _ _ hb]
 refine aQq _ (aQq _ ?_)
 rw [aTu _ _ _ _ hb]
 exact e
theorem oF{h:Heap}{a:Addr}{vs:List Value}{n:Nat}{out:Array Value}(e:h.get? a=some (seqObj "list" vs.toArray n)):∃ c,(sortedHeap h a vs out).get? a=some (seqObj "list" out c):=by
 obtain ⟨e1,ho1⟩:∃ e1,(h.update a (Obj.mapSeq fun _=>(#[]:Array Value))).get? a=some (seqObj "list" #[] e1):=⟨_,aVt e (fun _=>#[])⟩
 exact ⟨_,aVt (aQq _ (aQq _ ho1)) fun _=>out⟩
theorem yE{r:Addr}{Q:Value->Shared->Prop}{Ok:List Value->Prop}(hcol:∀ R:List Value->Shared->Prop,(∀ h' tk vs,(∀ b o,s.heap.get? b=some o->h'.get? b=some o)->Ok vs->R vs { s with heap:=h',toks:=tk })->wpAny (model prog w) A.in1 (collect (.ref r)) R E s)
  (ks:List (List Int)) (hok:∀ vs,Ok vs->TupsI s.heap vs ks/\vs.length < 64)
  (h:∀ (h' hf:Heap) (tk c:Nat) (vs:List Value) (q:Array Nat),(∀ b o,s.heap.get? b=some o->h'.get? b=some o)->(∀ b o,h'.get? b=some o->hf.get? b=some o)->Ok vs->Pm vs.length q->Sd (fun i j=>HT.lexLt (ks.getD i []) (ks.getD j [])) q vs.length ->
   hf.get? h'.objs.size=some (seqObj "list" (q.toList.map fun i=>vs.getD i Value.none).toArray c)->Q (.ref h'.objs.size) { s with heap:=hf,toks:=tk }) :
  wpAny (model prog w) A (call (.builtin "sorted") [.ref r]) Q E s:=by
 refine aUj kind_sorted plain_sorted entry_sorted (args_sorted1 _) ?_
 unfold Builtin.«sorted»
 refine aQl (m:=checkCount "sorted" 1 1 _) (aQo ?_)
 refine aQl (hcol _ fun h' tk vs keep ov=>?_)
 obtain ⟨ht,h64⟩:=hok vs ov
 refine aQl (aWm ?_ (by rw [aR9];omega))
 have hoL:(h'.push (seqObj "list" vs.toArray 0)).get? h'.objs.size=some (seqObj "list" vs.toArray 0):=aQ9 _ rfl
 have keep2:∀ b o,s.heap.get? b=some o->(h'.push (seqObj "list" vs.toArray 0)).get? b=some o:=fun b o e=>aQq _ (keep b o e)
 have lt:∀ b o,s.heap.get? b=some o->b≠h'.objs.size:=fun b o e=>aRa (aQw (keep b o e))
 have tat:∀ v∈vs,∃ t o,v=.ref t/\s.heap.get? t=some o:=fun v hv=>by
  obtain ⟨i,hi,e⟩:=aTi.mp hv
  have ki:i < ks.length:=by rw [<- ht.1];exact hi
  obtain ⟨⟨t,o,_,_,e1,e2,_⟩,_⟩:=ht.2 i v ks[i] (by rw [aQn hi,e]) (aQn ki)
  exact ⟨t,o,e1,e2⟩
 have ht2:TupsI (h'.push (seqObj "list" vs.toArray 0)) vs ks:=⟨ht.1,fun i v k q1 q2=>let ⟨z1,z2⟩:=ht.2 i v k q1 q2;⟨z1.at fun t o _ et=>keep2 t o et,z2⟩⟩
 refine aQl (aSa (aS2 slot_list_sort ⟨_,hoL,rfl⟩ entry_list_sort (rD (s:={ s with heap:=h'.push (seqObj "list" vs.toArray 0),toks:=tk }) hoL ht2 (fun v hv z=>?_) h64 fun q a1 a2=>⟨_,rfl,?_⟩) (args_list_sort _)))
 ·obtain ⟨t,o,e1,e2⟩:=tat v hv
  rw [e1] at z
  injection z with z
  exact lt t o e2 z
 ·obtain ⟨c,hc⟩:=oF (out:=(q.toList.map fun i=>vs.getD i Value.none).toArray) hoL
  exact aQo ⟨_,rfl,h h' _ tk c vs q keep (fun b o e=>nC (aRa (aQw e)) (aQq _ e)) ov a1 a2 hc⟩
def aNi(H:Hp)(ts:List V)(ks:List (List Int)):Prop:=ts.length=ks.length/\∀ (i:Nat) (t:V) (k:List Int),ts[i]? = some t->ks[i]? = some k->(∃ b,t=.ref b/\H b=some (.tup (k.map V.int)))/\k≠[]
end
theorem aCf{P:Program}{w:World}{H:Hp}{h:Heap}{ts:List V}{ks:List (List Int)}{vs:List Value}(ok:HOk P w H h)(r:aNi H ts ks)(v:Vals ts vs):TupsI h vs ks:=by
 have hl:=v.length
 refine ⟨by rw [<- hl];exact r.1,fun i u k e1 e2=>?_⟩
 have hi:i < ts.length:=by
  have:=(aRe.mp e1).1
  omega
 obtain ⟨⟨b,eb,hb⟩,hk⟩:=r.2 i ts[i] k (aQn hi) e2
 obtain ⟨u',e3,ru⟩:=v.get (i:=i) (x:=ts[i]) (aQn hi)
 rw [e1] at e3
 cases e3
 rw [eb] at ru
 cases (show u=Value.ref b from ru)
 obtain ⟨_,its,rv,o,ho,hc,n,hd⟩:=(show ObjOk P w H h b (.tup (k.map V.int)) from ok b _ hb)
 exact ⟨⟨b,o,_,n,rfl,ho,hc,hd,by rw [aRv];exact intsAre_of rv⟩,hk⟩
def aDk(ks:List (List Int)):Nat->Nat->Bool:=fun i j=>HT.lexLt (ks.getD i []) (ks.getD j [])
theorem rR{ts:List V}{vs:List Value}(v:Vals ts vs):∀ (l:List Nat),(∀ i∈l,i < ts.length)->Vals (l.map fun i=>ts.getD i .non) (l.map fun i=>vs.getD i Value.none)
 | [],_=>.nil
 | i :: l,h=>by
  have hi:=h i (.head _)
  obtain ⟨u,e,r⟩:=v.get (i:=i) (x:=ts[i]) (aQn hi)
  have e1:ts.getD i .non=ts[i]:=by simp [hi]
  have e2:vs.getD i Value.none=u:=by simp [e]
  refine .cons ?_ (rR v l fun j hj=>h j (.tail _ hj))
  show RelV (ts.getD i .non) (vs.getD i Value.none)
  rw [e1,e2];exact r
theorem Paired.get{α β:Type}{F:α->β->Prop}:∀ {l₁:List α} {l₂:List β} {i:Nat} {a:α},Paired F l₁ l₂->l₁[i]? = some a->∃ b,l₂[i]? = some b/\F a b
 | _,_,_,_,.nil,e=>by simp at e
 | _,_,0,_,.cons h _,e=>by simp at e;subst e;exact ⟨_,rfl,h⟩
 | _,_,i+1,_,.cons _ r,e=>by
  have:=Paired.get (i:=i) r (by simpa using e)
  simpa using this
theorem tJ{κ:Type}:∀ l:List (κ×Addr×Value),Vals (l.map fun x=>V.ref x.2.1) (l.map fun x=>Value.ref x.2.1)
 | []=>.nil
 | _ :: l=>.cons rfl (tJ l)
section
variable {X:Cx}
theorem wB{pins:List (Addr×Obj)}{σ:L2.St}{H:Hp}{s:Shared}{Q:VK}{ts:List V}{vs:List Value}{h' hf:Heap}{tk c:Nat}{q:Array Nat}(I:Inv X pins σ H s)(v:Vals ts vs)(h64:vs.length < 64)(k1:∀ b o,s.heap.get? b=some o->h'.get? b=some o)(k2:∀ b o,h'.get? b=some o->hf.get? b=some o)(hp:Pm vs.length q)
  (hc:hf.get? h'.objs.size=some (seqObj "list" (q.toList.map fun i=>vs.getD i Value.none).toArray c)) (hq:∀ D,H D=none->Q (.ref D) (upd H D (.lst (q.toList.map fun i=>ts.getD i .non)))):EP X pins σ Q (.ref h'.objs.size) { s with heap:=hf,toks:=tk }:=by
 have I1:Inv X pins σ H { s with heap:=h',toks:=tk }:=I.kept (t':=tk) k1
 have hb:∀ i∈q.toList,i < ts.length:=fun i hi=>by
  have:i∈(List.range vs.length).toArray:=hp.mem_iff.mp (aR6.mp hi)
  rw [v.length]
  simpa using this
 have hl:q.toList.length=vs.length:=by rw [aQ4];exact hp.size
 refine ⟨.ref h'.objs.size,_,I1.laid (a:=h'.objs.size) (o:=.lst (q.toList.map fun i=>ts.getD i .non)) (t':=tk) k2 (aQu _) ⟨?_,_,c,rR v _ hb,hc⟩,rfl,hq _ (I1.hok.fresh (aQu _))⟩
 rw [aQm,hl,aR9]
 omega
def aF5:List V->Hp->VK->Prop:=fun xs H Q=>∃ a kv ks,xs=[.ref a]/\H a=some (.dT kv)/\kv.map (·.1)=ks.map (List.map Sum.inl)/\(∀ k∈ks,k≠[])/\kv.length < 64 /\
 ∀ ts D q,aNi H ts ks->H D=none->Pm ts.length q->Sd (aDk ks) q ts.length->Q (.ref D) (upd H D (.lst (q.toList.map fun i=>ts.getD i .non)))
theorem pJ(hcm:X.calm=true):lU X (.builtin "sorted") aF5:=by
 intro pins s σ H xs us Q I r h
 obtain ⟨a,kv,ks,rfl,ha,hk,hne,h64,q⟩:=h
 obtain ⟨u,rfl,ru⟩:=vals1 r
 cases (show u=Value.ref a from ru)
 obtain ⟨hz,hsys,es0,rel,o,es,ep,h1,h2,h3,h4,h5⟩:=(show ObjOk X.prog X.w H s.heap a (.dT kv) from I.hok a _ ha)
 have hraw:RawD s.heap a es ep:=⟨o,h1,h2,h3⟩
 have len1:kv.length=es0.length:=rel.length
 have len2:es.size=es0.length:=by rw [<- aQ4,h4,aQm]
 have len3:ks.length=kv.length:=by
  have:=aUn List.length hk
  simpa using this.symm
 have hts:aNi H (es0.map fun x=>V.ref x.2.1) ks:=by
  refine ⟨by rw [aQm];omega,fun i t k e1 e2=>?_⟩
  rw [aQ0] at e1
  cases ex:es0[i]? with
  | none=>rw [ex] at e1;cases e1
  | some x =>
   rw [ex] at e1
   cases e1
   have hi:i < kv.length:=by rw [len1];exact (aRe.mp ex).1
   obtain ⟨y,ey,hy1,hy2,_⟩:=Paired.get rel (aQn hi)
   rw [ex] at ey
   cases ey
   refine ⟨⟨x.2.1,rfl,?_⟩,hne k (aS4 e2)⟩
   have hkk:(kv.map (·.1))[i]? = (ks.map (List.map Sum.inl))[i]?:=by rw [hk]
   rw [aQ0,aQ0,aQn hi,e2] at hkk
   have hkk:kv[i].1=k.map Sum.inl:=aQ7 hkk
   rw [hkk,aR7] at hy2
   exact hy2
 have hvs:∀ vs:List Value,vs.length=es.size->(∀ (j:Nat) v,vs[j]? = some v->∃ e,es[j]? = some e/\v=e.key)->Vals (es0.map fun x=>V.ref x.2.1) vs:=fun vs hl hv=>by
  have ev:vs=es0.map fun x=>Value.ref x.2.1:=by
   refine aS8 fun i=>?_
   rw [aQ0]
   by_cases hi:i < vs.length
   ·have hi2:i < es0.length:=by omega
    obtain ⟨e,e1,e2⟩:=hv i vs[i] (aQn hi)
    have e3:es.toList[i]? = some e:=by simpa using e1
    rw [h4,aQ0,aQn hi2] at e3
    have e3:=aQ7 e3
    rw [aQn hi,aQn hi2,e2,<- e3]
    rfl
   ·rw [aRi (by omega),aRi (by omega)]
    rfl
  rw [ev]
  exact tJ _
 refine yE (Ok:=fun vs=>vs.length=es.size/\∀ (j:Nat) v,vs[j]? = some v->∃ e,es[j]? = some e/\v=e.key) (fun R hR=>?_) ks (fun vs e=>⟨aCf I.hok hts (hvs vs e.1 e.2),by omega⟩) fun h' hf tk c vs q' k1 k2 e p1 p2 hc=>?_
 ·refine kdu_collect (A:=X.A.in1) (aH3 (prog:=X.prog) (w:=X.w) (ep:=ep) (es:=es) hsys) (I.ok.hd hcm) hraw (by omega) fun h' tk acc hk hacc=>hR h' tk _ hk ⟨by rw [aQ4];exact hacc.1,fun j v e=>hacc.2 j v (by simpa using e)⟩
 ·have rv:=hvs vs e.1 e.2
  have hlen:=rv.length
  exact wB I rv (by omega) k1 k2 p1 hc fun D hD=>q _ D q' hts hD (hlen▸p1) (hlen▸p2)
end
end SRT
namespace M
open PySem PySem.Spec PyProof.Rows L2 SRT
def oZ(k:List Int):D:=.tuple (k.map .int)
def uD:List D->Option (List Int)
 | []=>some []
 | .int i :: ds=>match uD ds with
  | some r=>some (i :: r)
  | none=>none
 | _=>none
def vC:D->Option (List Int)
 | .tuple ds=>uD ds
 | _=>none
def uQ:List D->Option (List (List Int))
 | []=>some []
 | d :: ds=>match vC d with
  | none=>none
  | some k=>match uQ ds with
   | none=>none
   | some ks=>some (k :: ks)
theorem w4:∀ {ds:List D} {k:List Int},uD ds=some k->ds=k.map .int
 | [],_,h=>by cases h;rfl
 | d :: ds,k,h=>by
  cases d with
  | int i =>
   unfold uD at h
   cases e:uD ds with
   | none=>rw [e] at h;cases h
   | some r=>rw [e] at h;cases h;rw [w4 e];rfl
  | _=>cases h
theorem sV:∀ k:List Int,uD (k.map .int)=some k
 | []=>rfl
 | i :: k=>by
  show (match uD (k.map .int) with | some r=>some (i :: r) | none=>none)=_
  rw [sV k]
theorem aCd(k:List Int):vC (oZ k)=some k:=sV k
theorem vV{d:D}{k:List Int}(h:vC d=some k):d=oZ k:=by
 cases d with
 | tuple ds=>unfold oZ;rw [<- w4 h]
 | _=>cases h
theorem wW:∀ {ds:List D} {ks:List (List Int)},uQ ds=some ks->ds=ks.map oZ
 | [],_,h=>by cases h;rfl
 | d :: ds,ks,h=>by
  unfold uQ at h
  cases e:vC d with
  | none=>rw [e] at h;cases h
  | some k =>
   rw [e] at h
   cases e2:uQ ds with
   | none=>rw [e2] at h;cases h
   | some ks'=>rw [e2] at h;cases h;rw [vV e,wW e2];rfl
theorem sH:∀ ks:List (List Int),uQ (ks.map oZ)=some ks
 | []=>rfl
 | k :: ks=>by
  show (match vC (oZ k) with | none=>none | some k=>match uQ (ks.map oZ) with | none=>none | some ks=>some (k :: ks))=_
  rw [aCd,sH ks]
def aG8(k:List Int):List (List Int)->List (List Int)
 | []=>[k]
 | x :: r=>if HT.lexLt k x=true then k :: x :: r else x :: aG8 k r
def i6:List (List Int)->List (List Int)
 | []=>[]
 | k :: ks=>aG8 k (i6 ks)
def leK(a b:List Int):Prop:=HT.lexLt b a=false
theorem oV(k:List Int):∀ l,(aG8 k l).Perm (k :: l)
 | []=>.refl _
 | x :: r=>by
  unfold aG8
  split
  ·exact .refl _
  ·exact ((oV k r).cons x).trans (List.Perm.swap k x r)
theorem fN:∀ l,(i6 l).Perm l
 | []=>.refl _
 | k :: ks=>(oV k _).trans ((fN ks).cons k)
theorem aEa{k y:List Int}{l:List (List Int)}(h:y∈aG8 k l):y=k\/y∈l:=by
 have:=(oV k l).mem_iff.mp h
 exact aQy.mp this
theorem oT(k:List Int):∀ l,l.Pairwise leK->(aG8 k l).Pairwise leK
 | [],_=>aWn _ _
 | x :: r,h=>by
  unfold aG8
  obtain ⟨h1,h2⟩:=aSy.mp h
  split
  ·rename_i e
   have e1:=zC _ _ e
   exact aSy.mpr ⟨fun y hy=>by
    rcases aQy.mp hy with rfl | hy
    ·exact e1
    ·exact zG _ _ _ e1 (h1 y hy),h⟩
  ·rename_i e
   refine aSy.mpr ⟨fun y hy=>?_,oT k r h2⟩
   rcases aEa hy with rfl | hy
   ·exact Bool.eq_false_iff.mpr e
   ·exact h1 y hy
theorem jH:∀ l,(i6 l).Pairwise leK
 | []=>.nil
 | k :: ks=>oT k _ (jH ks)
theorem nM:∀ {a b:List (List Int)},a.Perm b->a.Pairwise leK->b.Pairwise leK->a=b
 | [],b,p,_,_=>(List.Perm.nil_eq p)
 | x :: a,[],p,_,_=>absurd p.length_eq (by simp)
 | x :: a,y :: b,p,ha,hb=>by
  obtain ⟨a1,a2⟩:=aSy.mp ha
  obtain ⟨b1,b2⟩:=aSy.mp hb
  have hx:x∈y :: b:=p.mem_iff.mp (.head _)
  have hy:y∈x :: a:=p.mem_iff.mpr (.head _)
  have e:x=y:=by
   rcases aQy.mp hx with e | hx
   ·exact e
   ·rcases aQy.mp hy with e | hy
    ·exact e.symm
    ·exact aFx _ _ (b1 x hx) (a1 y hy)
  subst e
  rw [nM (List.Perm.cons_inv p) a2 b2]
theorem picked{ks:List (List Int)}{q:Array Nat}{n:Nat}(hn:n=ks.length)(hp:Pm n q)(hs:Sd (aDk ks) q n):(q.toList.map fun i=>ks.getD i [])=i6 ks:=by
 subst hn
 have e0:((List.range ks.length).map fun i=>ks.getD i [])=ks:=by
  refine aS8 fun i=>?_
  rw [aQ0]
  by_cases hi:i < ks.length
  ·rw [aTt hi];simp [hi]
  ·rw [aRi (by rw [aR5];omega),aRi (by omega)];rfl
 have p1:q.toList.Perm (List.range ks.length):=by
  have:=hp.toList
  simpa using this
 have p2:(q.toList.map fun i=>ks.getD i []).Perm ks:=by
  have:=p1.map (fun i=>ks.getD i [])
  rwa [e0] at this
 refine nM (p2.trans (fN ks).symm) ?_ (jH ks)
 rw [aUk]
 intro i j hi hj hij
 rw [aQm] at hi hj
 rw [List.getElem_map,List.getElem_map]
 have sz:q.toList.length=ks.length:=by rw [aQ4];exact hp.size
 have:=hs i j (aUq hij) (by omega)
 unfold SRT.le aDk Pt at this
 have e1:q.getD i 0=q.toList[i]:=by
  have:i < q.size:=by rw [<- aQ4];exact hi
  simp [Array.getD,this]
 have e2:q.getD j 0=q.toList[j]:=by
  have:j < q.size:=by rw [<- aQ4];exact hj
  simp [Array.getD,this]
 rw [e1,e2] at this
 exact this
section
variable {X:Cx}{K:aQk}
theorem aDf{G:Hp}{v:V}{k:List Int}(h:Rep K G v (oZ k)):∃ b,v=.ref b/\G b=some (.tup (k.map V.int)):=by
 cases h with
 | @tup b xs _ h1 h2 =>
  refine ⟨b,rfl,?_⟩
  have:xs=k.map V.int:=by
   clear h1
   induction k generalizing xs with
   | nil=>cases h2;rfl
   | cons i k ih =>
    cases h2 with
    | cons r t=>cases r;rw [ih t];rfl
  rw [<- this];exact h1
theorem aEh{G:Hp}{b:Addr}{k:List Int}(h:G b=some (.tup (k.map V.int))):Rep K G (.ref b) (oZ k):=by
 refine .tup h ?_
 clear h
 induction k with
 | nil=>exact .nil
 | cons i k ih=>exact .cons (.int i) ih
theorem rS{G:Hp}{ts:List V}{ks:List (List Int)}(h:∀ (i:Nat),i < ks.length->Rep K G (ts.getD i .non) (oZ (ks.getD i []))):∀ l:List Nat,(∀ i∈l,i < ks.length)->Reps K G (l.map fun i=>ts.getD i .non) ((l.map fun i=>ks.getD i []).map oZ)
 | [],_=>.nil
 | i :: l,hl=>.cons (h i (hl i (.head _))) (rS h l fun j hj=>hl j (.tail _ hj))
theorem aLh{n:Nat}{q:Array Nat}(hp:Pm n q):∀ i∈q.toList,i < n:=fun i hi=>by
 have:i∈(List.range n).toArray:=hp.mem_iff.mp (aR6.mp hi)
 simpa using this
theorem aAd{ks:List (List Int)}(h:(ks.all fun k=>!k.isEmpty)=true):∀ k∈ks,k≠[]:=fun k hk z=>by
 have:=aSi.mp h k hk
 rw [z] at this
 cases this
def wt(G H:Hp):Hp:=fun b=>match G b with
 | some o=>some o
 | none=>match H b with
  | some (.tup xs)=>some (.tup xs)
  | _=>none
theorem aIn{G H:Hp}:Same G (wt G H):=fun b o e=>by unfold wt;rw [e]
theorem aIs{G H:Hp}(gh:Same G H):Same (wt G H) H:=fun b o e=>by
 unfold wt at e
 cases eg:G b with
 | some u=>rw [eg] at e;cases e;exact gh _ _ eg
 | none =>
  rw [eg] at e
  dsimp only at e
  split at e
  ·rename_i xs eh
   cases e;exact eh
  ·cases e
theorem aJ0{G H:Hp}(gh:Same G H){b:Addr}{xs:List V}(e:H b=some (.tup xs)):wt G H b=some (.tup xs):=by
 unfold wt
 cases eg:G b with
 | some u =>
  have:=gh _ _ eg
  rw [e] at this
  exact this.symm
 | none=>dsimp only;rw [e]
theorem aGq{G H:Hp}(gh:Same G H):Step G H (wt G H) H:=⟨aIn,Same.refl _,aIs gh,fun b hb hg=>by
 unfold wt
 rw [hg]
 dsimp only
 split
 ·rename_i xs eh;exact .inr ⟨xs,eh⟩
 ·exact .inl rfl⟩
def fF(rs:List Ev):Res Ev:=match rs with
 | [x]=>match jX x with
  | some kvs=>if (dsp kvs).1=false then match uQ (kvs.map (·.1)) with
    | some ks=>if (ks.all fun k=>!k.isEmpty)=true/\ks.length < 64 then .ok (.f (.list ((i6 ks).map oZ))) else .bad
    | none=>.bad
   else .bad
  | none=>.bad
 | _=>.bad
theorem nO:aA8 fF:=by
 intro rs C h
 unfold fF at h
 split at h
 ·split at h
  ·split at h
   ·split at h
    ·split at h<;>cases h
    ·cases h
   ·cases h
  ·cases h
 ·cases h
theorem aDz{k:List Key}{n:List Int}(h:tkD k=oZ n):k=n.map Sum.inl:=by
 unfold tkD oZ at h
 injection h with h
 induction k generalizing n with
 | nil=>cases n with
  | nil=>rfl
  | cons _ _=>cases h
 | cons x k ih =>
  cases n with
  | nil=>cases h
  | cons y n =>
   rw [aQx,aQx] at h
   injection h with h1 h2
   cases x with
   | inl i=>cases h1;rw [ih h2];rfl
   | inr i=>cases h1
theorem sQ{G:Hp}:∀ {kv:List (List Key×V)} {kvs:List (D×D)} {ks:List (List Int)},RepT K G kv kvs->kvs.map (·.1)=ks.map oZ->kv.map (·.1)=ks.map (List.map Sum.inl)
 | _,_,[],.nil,_=>rfl
 | _,_,_ :: _,.nil,h=>by cases h
 | _,_,[],.cons _ _,h=>by cases h
 | _,_,k :: ks,.cons _ t,h=>by
  rw [aQx,aQx] at h
  injection h with h1 h2
  rw [aQx,aQx,sQ t h2,aDz h1]
theorem pD:nN K aF5 fF:=by
 intro W Hs G H vs rs Q gh he hw
 unfold fF at hw
 split at hw
 ·rename_i x
  match vs,he with
  | [v],⟨h1,_⟩ =>
   split at hw
   ·rename_i kvs ed
    obtain ⟨a,rfl,hd⟩:=w9 gh h1 ed
    split at hw
    ·rename_i hk
     rcases hd with ⟨kv,k1,k2⟩ | ⟨kv,r,rfl,k1,k2⟩
     ·split at hw
      ·rename_i ks ek
       split at hw
       ·rename_i hz
        have ek:=wW ek
        have hne:=aAd hz.1
        have hl:kv.length=ks.length:=by rw [k2.len,<- aQm (f:=(·.1)),ek,aQm]
        refine ⟨a,kv,ks,rfl,k1,sQ k2 ek,hne,by omega,fun ts D q rI hD hp hs=>?_⟩
        have hl2:ts.length=ks.length:=rI.1
        have ep:=picked hl2 hp hs
        have st:=(aGq gh).trans (Step.lay (o:=.lst (q.toList.map fun i=>ts.getD i .non)) (aIs gh) hD)
        refine hw _ _ _ st ⟨D,_,rfl,hD,(aIs gh).free hD,bJ,.lst ?_⟩
        rw [<- ep]
        refine rS (fun i hi=>?_) _ fun i hi=>by rw [<- hl2];exact aLh hp i hi
        have hi':i < ts.length:=by omega
        obtain ⟨⟨b,eb,hb⟩,_⟩:=rI.2 i ts[i] ks[i] (aQn hi') (aQn hi)
        have e1:ts.getD i .non=ts[i]:=by simp [hi']
        have e2:ks.getD i []=ks[i]:=by simp [hi]
        rw [e1,e2,eb]
        exact aEh (aJ0 gh hb)
       ·exact hw.elim
      ·exact hw.elim
     ·cases hk
    ·exact hw.elim
   ·exact hw.elim
 ·exact hw.elim
theorem aG5{prog:Program}{w:World}{A:Around}{E:Value->Shared->Prop}{s:Shared}{d:Addr}{es:Array DictEntry}{ep:Nat}{Q:Value->Shared->Prop}(hd:(d == sysModules)=false)(hm:RawD s.heap d es ep)(hfit:(es.size:Int) < 2 ^ 63)
  (h:Q (.int es.size (s.toks+1)) { s with toks:=s.toks+1+1 }):wpAny (model prog w) A (call (.builtin "len") [.ref d]) Q E s:=by
 refine aUj kind_len plain_len entry_len (args_len1 _) ?_
 unfold Builtin.«len»
 refine aQl (m:=oneArg "len" _) (aQo ?_)
 have meets:MeetsIn prog w (Builtin.«dict.__len__» ⟨[.ref d],[]⟩) (fun _ R s=>RawD s.heap d es ep/\R (.ok (.ret (.int es.size s.toks))) { s with toks:=s.toks+1 }) :=
  .of_wp fun A R s ⟨hm,h⟩=>by
   obtain ⟨o,ho,hc,hdat⟩:=hm
   show wpAny _ _ (dictSize d >>= _) _ _ s
   unfold dictSize
   refine aQl (aQl (aTn ho hdat (aQo ?_)))
   show wpAny _ _ (Builtin.Dict.pendingCount d >>= _) _ _ s
   refine aQl (wpAny_pendingCount_other hd ?_)
   refine wpAny_ret_mkInt ?_
   rw [Nat.add_zero];exact h
 refine aQl (m:=callSpecial? (.ref d) (Str.ofString "__len__")) (aUx (name:=Str.ofString "__len__") hm.ty F.slot_dict_len
  (call_meetsIn F.slot_dict_len hm.ty F.entry_dict_len (F.args_dict_len_1 _) meets ⟨hm,?_⟩))
 show wpAny _ _ _ _ _ { s with toks:=s.toks+1 }
 refine aQl (aSa (aQo ?_))
 refine aQl (wpAny_letGo ?_)
 show wpAny _ _ (if ((es.size:Nat):Int) < 0 then _ else _) _ _ _
 rw [aQv (by omega)]
 show wpAny _ _ (if ((es.size:Nat):Int) ≥ 2 ^ 63 then _ else _) _ _ _
 rw [aQv (by omega)]
 exact aQl (wpAny_mkInt (aQo ⟨_,rfl,h⟩))
def aLz:List V->Hp->VK->Prop:=fun xs H Q=>∃ a,xs=[.ref a]/\((∃ kv,H a=some (.dT kv)/\Q (.int kv.length) H)\/∃ kv,H a=some (.dK kv)/\Q (.int kv.length) H)
theorem pC:lU X (.builtin "len") aLz:=by
 intro pins s σ H xs us Q I r h
 obtain ⟨a,rfl,h⟩:=h
 obtain ⟨u,rfl,ru⟩:=vals1 r
 cases (show u=Value.ref a from ru)
 rcases h with ⟨kv,ha,q⟩ | ⟨kv,ha,q⟩
 ·obtain ⟨hz,hsys,es0,rel,o,es,ep,h1,h2,h3,h4,h5⟩:=(show ObjOk X.prog X.w H s.heap a (.dT kv) from I.hok a _ ha)
  have len1:kv.length=es0.length:=rel.length
  have len2:es.size=es0.length:=by rw [<- aQ4,h4,aQm]
  rw [aR9] at hz
  refine aG5 hsys ⟨o,h1,h2,h3⟩ (by omega) ⟨.int kv.length,H,I.tok _,⟨s.toks+1,by rw [len2,len1]⟩,q⟩
 ·exact aNf I (.inl ha) fun t s' I'=>⟨.int kv.length,H,I',⟨t,rfl⟩,q⟩
theorem aAm:nN K aLz k7:=by
 intro W Hs G H vs rs Q gh he hw
 unfold k7 at hw
 split at hw
 ·rename_i x
  match vs,he with
  | [v],⟨h1,_⟩ =>
   split at hw
   ·rename_i kvs ed
    obtain ⟨a,rfl,hd⟩:=w9 gh h1 ed
    refine ⟨a,rfl,?_⟩
    rcases hd with ⟨kv,k1,k2⟩ | ⟨kv,r,rfl,k1,k2⟩
    ·refine .inl ⟨kv,k1,?_⟩
     rw [aGs k2] at hw
     rw [k2.len]
     exact hw G H _ (Step.refl gh) (.int _)
    ·refine .inr ⟨kv,k1,?_⟩
     rw [k2.len]
     exact hw G H _ (Step.refl gh) (.int _)
   ·exact hw.elim
 ·exact hw.elim
end
end M
namespace L2
open PySem PySem.Spec PyProof.Rows
def Ite(K:aQk)(a:Addr):It :=
 ⟨fun i H=>∃ xs x,SqL K H a xs/\xs[i]? = some x,fun i H v H'=>∃ p x,H p=none/\v=.ref p/\(∀ xs,SqL K H a xs->xs[i]? = some x)/\H'=upd H p (.tup [.int i,x]),fun i H=>∃ xs,SqL K H a xs/\xs.length<=i⟩
theorem aA5{P:Program}{w:World}{K:aQk}{elts:List Expr}{x1}{tp:Pos}(a e it:Addr)(hne:e≠it):Turn P w K (.Tuple elts x1 tp) (Ite K a) [e,it] e (fun i h=>(∃ old,IsEnum h e it ((i:Nat):Int) old)/\h.IsListIter it a i) where
 mem:=by simp
 obj:=fun i h st b hb=>by
  rcases aQy.mp hb with rfl | hb
  ·obtain ⟨⟨old,q⟩,_⟩:=st
   exact ⟨_,q,fun v z=>nomatch z⟩
  ·have:b=it:=by simpa using hb
   subst this
   obtain ⟨_,o,q,c,d⟩:=st
   exact ⟨o,q,fun v z=>by rw [d] at z;cases z⟩
 keep:=fun i h h' st k=>⟨let ⟨old,q⟩:=st.1;⟨old,k e (by simp) _ q⟩,st.2.at fun o q=>k it (by simp) o q⟩
 item:=by
  intro X hP hw hK hc i pins s σ H E I hf st hg
  subst hP hw hK
  obtain ⟨⟨old,he⟩,hit⟩:=st
  obtain ⟨xs,x,hq,hx⟩:=hg
  obtain ⟨its,rv,p,hz⟩:=I.list hq
  obtain ⟨u,hu,ru⟩:=rv.get hx
  obtain ⟨f0,f1,f2,f3,f4,f5⟩:=hf e (by simp)
  obtain ⟨g0,g1,g2,g3,g4,g5⟩:=hf it (by simp)
  refine wpAny_pyNext_enum_item he hit p.isList (x:=u) (by simpa using hu) hne fun h₁ heo hit₁ ht₁ hz₁ hk₁=>?_
  refine ⟨_,rfl,wpAny_letOwnedTupleGo_enum heo fun h₂ he₂ hs₂=>?_⟩
  have hs₂:Heap.SameBut e h₁ h₂:=hs₂
  have hn:H s.heap.objs.size=none:=I.fresh
  have nn:∀ b o,H b=some o->b≠s.heap.objs.size:=fun b o q=>dG q hn
  have eE:e < s.heap.objs.size:=aQw he
  have keep:∀ b o,b∉[e,it]->s.heap.get? b=some o->h₂.get? b=some o:=fun b o hb q=>by
   have b1:b≠e:=fun z=>hb (by simp [z])
   have b2:b≠it:=fun z=>hb (by simp [z])
   exact (hs₂.2 b b1).trans (hk₁ b o b1 b2 q)
  have trk:∀ b o,H b=some o->b∉[e,it]:=fun b o q hb=>by
   rcases aQy.mp hb with z | hb
   ·rw [z,f0] at q;cases q
   ·rw [aQ1.mp hb,g0] at q;cases q
  refine ⟨.ref s.heap.objs.size,upd H s.heap.objs.size (.tup [.int i,x]),?_,rfl,⟨_,x,hn,rfl,fun ys hy=>by rw [I.list_inj hy hq];exact hx,rfl⟩,⟨⟨u,?_⟩,?_⟩,fun b hb=>?_⟩
  ·refine Inv.step (X:=X) (pins:=pins) (σ:=σ) (H:=H) (s:=s) (H':=upd H s.heap.objs.size (.tup [.int i,x])) (h':=h₂) (g':=s.gens) (d':=s.drawn) (t':=s.toks+1) (ch:=[e,it]) I (fun b hb=>?_) (fun b o _ _ hb q _=>keep b o hb q) (fun b o _ _ hb q _=>⟨o.slots,keep b o hb q⟩) (fun b o _ q n=>?_) (fun b o hb q=>⟨o,keep b o hb q⟩)
    (fun b ys q=>?_) (fun b o v q=>?_) (fun b ps q=>⟨#[],?_⟩) (fun m hm=>?_) (fun b v q=>?_) I.bare
   ·rcases aQy.mp hb with z | hb
    ·subst z;exact ⟨f3,f1,f4,f5⟩
    ·have z:=aQ1.mp hb
     subst z;exact ⟨g3,g1,g4,g5⟩
   ·rw [bB (aRa (aQw q))];exact n
   ·rw [bB (nn b _ q)];exact q
   ·rw [bB (nn b _ q)];exact q
   ·rw [bB (nn b _ q),q];simp
   ·obtain ⟨o,es,ep,ho,r⟩:=hm
    exact ⟨o,es,ep,keep _ o (fun z=>by
     rcases aQy.mp z with y | y
     ·exact f1 y.symm
     ·exact g1 (aQ1.mp y).symm) ho,r⟩
   ·by_cases hb:b=s.heap.objs.size
    ·subst hb
     rw [bJ] at q
     cases q
     refine ⟨by show 2<=sizeLine;decide,[.int i s.toks,u],.cons ⟨_,rfl⟩ (.cons ru .nil),_,(hs₂.2 _ (aV4 eE)).trans ht₁,rfl,_,rfl⟩
    ·rw [bB hb] at q
     refine (I.hok b v q).stay (fun c w' hc q'=>keep c w' ?_ q') (fun c q'=>?_) (fun c ys q'=>?_) fun c ys q'=>by rw [bB (nn c _ q')];exact q'
     ·rcases hc with z | z
      ·rw [z];exact trk b v q
      ·exact trk c _ z
     ·rw [bB (nn c _ q')];exact q'
     ·rw [bB (nn c _ q')];exact q'
  ·have:(((i+1:Nat)):Int)=(i:Int)+1:=by push_cast;rfl
   rw [this];exact he₂
  ·exact hit₁.at fun o q=>(hs₂.2 it (aU6 hne)).trans q
  ·have hb':=(hf b hb).1
   have:b≠s.heap.objs.size:=by
    rcases aQy.mp hb with z | z
    ·rw [z];exact aRa eE
    ·rw [aQ1.mp z]
     obtain ⟨o,q,_⟩:=id hit
     exact aRa (aQw q)
   rw [bB this];exact hb'
 done:=by
  intro X hP hw hK hc i pins s σ H E I hf st hg
  subst hP hw hK
  obtain ⟨⟨old,he⟩,hit⟩:=st
  obtain ⟨xs,hq,hx⟩:=hg
  obtain ⟨its,rv,p,hz⟩:=I.list hq
  obtain ⟨g0,g1,g2,g3,g4,g5⟩:=hf it (by simp)
  have hl:=rv.length
  exact wpAny_pyNext_enum_end (I.ok.hd hc) he hit p.isList (by simp;omega) fun h' eb=>⟨rfl,I.turned (t':=s.toks) (fun b o hb q=>eb b o hb q) g0 g1 g3 g4 g5⟩
 self:=fun _ _ _ _ _ st h=>let ⟨_,q⟩:=st.1;wpAny_pyIter_enum q h
section
variable {X:Cx}
def aNt(K:aQk)(ta:TA):TI:=fun σ H R=>ta σ H fun vs H1=>∃ a xs,vs=[.ref a]/\Rd H1 a (.lst xs)/\R (Ite K a) H1
theorem zA:bootBuiltins "enumerate" = some (.type "enumerate"):=by decide +kernel
theorem aGy{a:Expr}{ta:TA}{p pos tp:Pos}{elts:List Expr}{x1}(hg:Gl X "enumerate")(hm:X.mg "enumerate" = none)(ha:PA X [a] ta)(hs:starEach [a] X.env=[(false,eval a X.env)]:=by rfl):PI X (.Tuple elts x1 tp) (.Call (.Name "enumerate" p) [a] [] pos) (aNt X.K ta):=by
 intro pins s σ H R I h
 refine Call_ (lB I hg hm zA (aSf (thn (ha pos pins s σ H _ I h) fun us s1 ⟨vs,H1,I1,r1,q1⟩=>?_) hs rfl))
 obtain ⟨a,xs,rfl,hr,q⟩:=q1
 obtain ⟨u,rfl,ru⟩:=vals1 r1
 cases (show u=Value.ref a from ru)
 obtain ⟨_,its,n,rv,ho⟩:=hr.ok I1.hok
 refine call_enumerate_1 ho fun h' he hit hz hk=>?_
 refine wpAny_pyIter_enum (s:={ s1 with heap:=h' }) he ?_
 refine ⟨s1.heap.objs.size+1,[s1.heap.objs.size+1,s1.heap.objs.size],_,_,H1,rfl,I1.kept (t':=s1.toks) hk,aA5 a _ _ (aV4 (aVi _)),⟨⟨_,he⟩,hit⟩,fun b hb=>?_,q⟩
 have hle:s1.heap.objs.size<=b:=by
  rcases aQy.mp hb with z | z
  ·rw [z];exact aT5 _
  ·rw [aQ1.mp z];exact aQu _
 exact I1.fpOk hle (I1.hok.fresh hle)
end
end L2
namespace M
open PySem PySem.Spec PyProof.Rows L2
def tH(k:Nat):List D->List D
 | []=>[]
 | d :: ds=>.tuple [.int (k:Int),d] :: tH (k+1) ds
theorem tY:∀ (ds:List D) (k:Nat),(tH k ds).length=ds.length
 | [],_=>rfl
 | _ :: ds,k=>by unfold tH;rw [aQp,aQp,tY ds]
theorem rY:∀ (ds:List D) (k i:Nat),(tH k ds)[i]? = (ds[i]?).map fun d=>.tuple [.int ((k+i:Nat):Int),d]
 | [],_,_=>by simp [tH]
 | d :: ds,k,0=>by simp [tH]
 | d :: ds,k,i+1=>by
  unfold tH
  rw [aQ6,aQ6,rY ds (k+1) i]
  have:k+1+i=k+(i+1):=by omega
  rw [this]
def aHu(rs:List Ev):Res (List D):=match rs with
 | [.p (.list ds)]=>.ok (tH 0 ds)
 | _=>.bad
theorem aI4{X:Cx}{E:L2.St->XK}{a:Expr}{fr:En->Res (List Ev)}{p pos tp:Pos}{elts:List Expr}{x1}(hg:Gl X "enumerate")(hm:X.mg "enumerate" = none)(ha:DA X E [a] fr)(hs:starEach [a] X.env=[(false,eval a X.env)]:=by rfl) :
  DI X E (.Tuple elts x1 tp) (.Call (.Name "enumerate" p) [a] [] pos) (t8 aHu fr):=by
 obtain ⟨t,q,m⟩:=ha.out
 refine DI.in ⟨_,aGy hg hm q hs,fun B G0 G W H σ en R hh hs hw=>m B G0 G W H σ en _ hh hs ?_⟩
 have hw:wpR ((fr en).bind _) _ _:=hw
 rw [b7] at hw
 refine bD hw (fun rs hr G1 H1 vs s e=>?_) fun C h=>h
 unfold aHu at hr
 split at hr
 ·rename_i ds
  match vs,e with
  | [v],⟨e1,_⟩ =>
   cases e1 with
   | @lst a xs _ h1 h2 =>
    refine ⟨a,xs,rfl,jG s.gh h1,hr G1 H1 _ s fun G3 H3 k1 k2=>⟨fun i d ed=>?_,?_⟩⟩
    ·rw [rY,aTz] at ed
     obtain ⟨d',ed,rfl⟩:=ed
     obtain ⟨x,ex,rx⟩:=h2.get' ed
     have sq:SqL X.K H3 a xs:=.inl (jG (k1.trans k2) h1)
     refine ⟨⟨xs,x,sq,ex⟩,fun v H' hy=>?_⟩
     obtain ⟨p,x',hp,rfl,hy,rfl⟩:=hy
     have:=hy xs sq
     rw [ex] at this
     cases this
     have st:=Step.put (o:=.tup [.int i,x]) k2 hp
     refine ⟨_,st,.tup bJ (.cons ?_ (.cons (rx.mono (k1.trans st.g)) .nil))⟩
     have:((0+i:Nat):Int)=(i:Int):=by simp
     rw [this]
     exact .int _
    ·refine ⟨xs,.inl (jG (k1.trans k2) h1),?_⟩
     rw [tY,h2.length]
     exact aQu _
 ·exact hr.elim
section
variable {X:Cx}{E:L2.St->XK}
def aGp(i:Nat)(g:List D->Option (List D)):MS:=fun en=>match en[i]? with
 | some (some (.o (.list ds)))=>match g ds with
  | some es=>some (.nx (en.set i (some (.o (.list es)))))
  | none=>none
 | _=>none
theorem aHv{i:Nat}{st:Stmt}{r:V->List V->Hp->VK->Prop}{g:List D->Option (List D)}(hp:PS X st (aCg (aN6 X.K "list" r (xX i))))
  (hg:∀ (G H:Hp) (a:Addr) (xs:List V) (ds es:List D) (Q:VK),H a=some (.lst xs)->Reps X.K G xs ds->g ds=some es->(∀ u ys,Reps X.K G ys es->Q u (upd H a (.lst ys)))->r (.ref a) [] H Q):DS X E st (aGp i g):=by
 refine DS.in ⟨_,hp,fun B G0 G W H σ en Dn hh hs hw=>?_⟩
 unfold aGp at hw
 split at hw
 ·rename_i ds ei
  obtain ⟨v,e1,a,o,rfl,e2,e3,e4⟩:=hs.2 i _ ei
  cases e4 with
  | @lst xs _ rp =>
  cases eg:g ds with
  | none=>rw [eg] at hw;exact hw.elim
  | some es =>
   rw [eg] at hw
   refine ⟨_,e1,.inl ⟨rfl,_,SqL.of e3⟩,hg G H a xs ds es _ e3 rp eg fun u ys ry=>?_⟩
   obtain ⟨w1,w2⟩:=jR (o':=.lst ys) (d':=.list es) hh hs e2 e1 (.lst ry)
   exact hw _ _ _ _ w1 w2
 ·exact hw.elim
theorem Reps.rev{K:aQk}{G:Hp}:∀ {xs:List V} {ds:List D},Reps K G xs ds->Reps K G xs.reverse ds.reverse
 | _,_,.nil=>.nil
 | _,_,.cons h r=>by
  rw [aVb,aVb]
  exact (Reps.rev r).append (.cons h .nil)
def oH(i:Nat):MS:=aGp i fun _=>some []
theorem aEu{i:Nat}{st:Stmt}(hp:PS X st (aCg (aN6 X.K "list" aFk (xX i)))):DS X E st (oH i) :=
 aHv hp fun G H a xs ds es Q h rp e q=>by
  cases e
  exact ⟨a,xs,rfl,rfl,h,q _ _ .nil⟩
def cutD(ds:List D)(lo hi:Option Int):List D:=(ds.drop (HT.sIx ds.length 0 lo)).take (HT.sIx ds.length ds.length hi - HT.sIx ds.length 0 lo)
theorem Reps.cut{K:aQk}{G:Hp}{xs:List V}{ds:List D}(r:Reps K G xs ds)(lo hi:Option Int):Reps K G (aI6 xs lo hi) (cutD ds lo hi):=by
 unfold aI6 cutD
 rw [r.length]
 exact (r.drop _).take _
def aMp:En->Res (Option Int):=fun _=>.ok none
def mPt(fe:En->Res Ev):En->Res (Option Int):=fun en=>(fe en).bind fun x=>match x.c with
 | .p (.int i)=>.ok (some i)
 | _=>.bad
def tP(K:aQk)(E:L2.St->XK)(f:En->Res (Option Int)):TO:=fun σ H R=>∃ B G0 G W en,SimH B G0 G W H/\SimS K W G H σ en/\wpR (f en) (fun k=>∀ G' H',Step G H G' H'->R k H') (PostX (E σ) G H)
def DP(X:Cx)(E:L2.St->XK)(o:Option Expr)(f:En->Res (Option Int)):Prop:=PO X o (tP X.K E f)
theorem aI2:DP X E none aMp:=fun pins s σ H R I ⟨B,G0,G,W,en,hh,hs,hw⟩=>aG6 pins s σ H R I (hw G H (Step.refl hh.gh))
theorem u4{e:Expr}{fe:En->Res Ev}(he:DE X E e fe):DP X E (some e) (mPt fe):=fun pins s σ H R I ⟨B,G0,G,W,en,hh,hs,hw⟩=>by
 obtain ⟨t,p,m⟩:=he.out
 refine aGv p pins s σ H R I (m B G0 G W H σ en _ hh hs ?_)
 unfold mPt at hw
 rw [b7] at hw
 refine bD hw (fun x hx G1 H1 v s1 e1=>?_) fun C h=>h
 obtain ⟨G2,s2,e2⟩:=e1.c s1
 cases ex:x.c with
 | p d =>
  rw [ex] at hx e2
  cases d with
  | int i=>cases e2;exact ⟨i,rfl,hx G2 H1 s2⟩
  | _=>exact hx.elim
 | f d=>rw [ex] at hx;exact hx.elim
 | b d=>rw [ex] at hx;exact hx.elim
 | x C=>rw [ex] at hx;exact hx.elim
def mSl(fe:En->Res Ev)(fl fh:En->Res (Option Int)):En->Res Ev:=fun en=>(fe en).bind fun x=>(fl en).bind fun l=>(fh en).bind fun u=>match iO x.c with
 | some ds=>.ok (.f (.list (cutD ds l u)))
 | none=>.bad
theorem aJ4{e:Expr}{lo hi:Option Expr}{fe:En->Res Ev}{fl fh:En->Res (Option Int)}{p2 pos:Pos}(he:DE X E e fe)(hl:DP X E lo fl)(hu:DP X E hi fh):DE X E (.Subscript e (.Slice lo hi none p2) pos) (mSl fe fl fh):=by
 obtain ⟨t,p,m⟩:=he.out
 refine DE.in ⟨_,aEi aIf p hl hu,fun B G0 G W H σ en Q hh hs hw=>?_⟩
 unfold mSl at hw
 refine m B G0 G W H σ en _ hh hs (DE.go hw fun x G1 H1 v s1 e1 h1=>?_)
 refine ⟨B,G0,G1,W,en,hh.step s1,hs.step s1,?_⟩
 rw [b7] at h1
 refine bD h1 (fun l hx G2 H2 s2=>?_) fun C h=>h
 refine ⟨B,G0,G2,W,en,(hh.step s1).step s2,(hs.step s1).step s2,?_⟩
 have hx':=bD hx (fun r h=>h.step s2) (fun C h=>h.step s2)
 rw [b7] at hx'
 refine bD hx' (fun u hy G3 H3 s3=>?_) fun C h=>h
 cases ex:iO x.c with
 | none=>rw [ex] at hy;exact hy.elim
 | some ds =>
  rw [ex] at hy
  obtain ⟨a,xs,rfl,rd,rp⟩:=n9 (Hs:=H) s3.gh (e1.step (s2.trans s3)) ex
  exact ⟨a,xs,rfl,.inl rd,fun p hp=>hy _ _ _ (s3.trans (Step.lay s3.gh hp)) ⟨p,_,rfl,s3.h.free hp,s3.gh.free hp,bJ,.lst (rp.cut l u)⟩⟩
def aMv(i j:Nat)(fr:En->Res (List Ev)):MS:=fun en=>match fr en with
 | .ok rs=>match rs with
  | [.p d,.p e]=>some (.nx ((en.set i (some (.p d))).set j (some (.p e))))
  | _=>none
 | .exc C=>some (.ex C en)
 | .bad=>none
theorem aL7{i j:Nat}{x y:Str}{a b:Expr}{fr:En->Res (List Ev)}{px py pt pos:Pos}{kt k2 pt2}(hc:X.calm=true)(hN:X.N.Nodup)(hi:X.N[i]? = some x)(hj:X.N[j]? = some y)(hij:i≠j)
  (hx:X.env.scope.names.lookup x=some .local) (hy:X.env.scope.names.lookup y=some .local) (ha:DA X E [a,b] fr)
  (hw:swappedStores [.Tuple [.Name x px,.Name y py] kt pt] (.Tuple [a,b] k2 pt2) X.env=pure (some [x,y]):=by rfl)
  (hs:swapsWithSole [.Tuple [.Name x px,.Name y py] kt pt] (.Tuple [a,b] k2 pt2) pos.line X.env=pure false:=by rfl) :
  DS X E (.Assign [.Tuple [.Name x px,.Name y py] kt pt] (.Tuple [a,b] k2 pt2) pos) (aMv i j fr):=by
 obtain ⟨t,p,m⟩:=ha.out
 refine DS.in ⟨_,aKf hc hN hi hj hij hx hy p hw hs,fun B G0 G W H σ en Dn hh hs hw=>m B G0 G W H σ en _ hh hs ?_⟩
 unfold aMv at hw
 cases ef:fr en with
 | bad=>rw [ef] at hw;exact hw
 | exc C=>rw [ef] at hw;exact fun G1 H1 s=>hw G1 W H1 σ (hh.step s) (hs.step s)
 | ok rs =>
  rw [ef] at hw
  dsimp only at hw
  split at hw
  ·rename_i d e
   intro G1 H1 vs s ev
   match vs,ev with
   | [v,w],⟨e1,e2,_⟩=>exact ⟨v,w,rfl,hw G1 W H1 _ (hh.step s) (((hs.step s).set (i:=i) (l:=.p d) e1).set (i:=j) (l:=.p e) e2)⟩
  ·exact hw.elim
end
end M
namespace L2
open PySem PySem.Spec PyProof.Rows
theorem yN{prog:Program}{w:World}{A:Around}{E:Value->Shared->Prop}{s:Shared}{nm:String}{a b:Addr}{oa ob:Obj}{ea:Array DictEntry}{pa pb:Nat}{Q:Bool->Shared->Prop}
  (ma:(a == sysModules)=false) (mb:(b == sysModules)=false) (ha:s.heap.get? a=some oa) (da:oa.data=.dict ea pa) (hb:s.heap.get? b=some ob) (db:ob.data=.dict #[] pb) (q:Q (ea.size == 0) s) :
  wpAny (model prog w) A (Builtin.Dict.samePairs nm a b) Q E s:=by
 unfold Builtin.Dict.samePairs
 refine aQl ?_
 unfold Builtin.Dict.showsAll
 rw [ma]
 refine aQo ?_
 refine aQl ?_
 rw [mb]
 refine aQo ?_
 refine aQl (aTn ha da ?_)
 dsimp only
 refine aQl (aTn hb db ?_)
 by_cases h0:ea.size=0
 ·rw [h0]
  rw [h0] at q
  refine aQl (aVs ha da ?_)
  refine aQl ?_
  rw [Std.Legacy.Range.forIn_eq_forIn_range']
  simp only [Std.Legacy.Range.size]
  refine aQo ?_
  exact aQo q
 ·have:(ea.size != (#[]:Array DictEntry).size)=true:=by simp [h0]
  rw [aQt this]
  refine aQl (wpAny_rule ?_)
  refine aQo ?_
  have e:(ea.size == 0)=false:=by simp [h0]
  rw [e] at q
  exact q
theorem aCt(a b:Addr):Builtin.«dict.__eq__» ⟨[.ref a,.ref b],[]⟩=(do
   let x <- Builtin.Dict.dictSlotArgs "__eq__" ⟨[.ref a,.ref b],[]⟩
   match x with
   | (self,other)=>do
    let i <- PySem.isInstance other (Value.type "dict")
    if (!i)=true then do
     rule (toString "dict."++toString "__eq__"++toString ".not-a-dict")
     ret Value.notImplemented
    else do
     let p <- Builtin.Dict.addrOf self
     let q <- Builtin.Dict.addrOf other
     let r <- Builtin.Dict.samePairs (toString "dict."++toString "__eq__") p q
     ret (Value.bool (r == true))):=by
 unfold Builtin.«dict.__eq__»
 rfl
theorem zF{prog:Program}{w:World}{A:Around}{E:Value->Shared->Prop}{s:Shared}{a b:Addr}{oa ob:Obj}{Q:Value->Shared->Prop}
  (ha:s.heap.get? a=some oa) (xa:oa.ExactDict) (hb:s.heap.get? b=some ob) (xb:ob.ExactDict)
  (hu:A.units < cLine) (q:wpAny (model prog w) A.in1 (Builtin.«dict.__eq__» ⟨[.ref a,.ref b],[]⟩) (fun fin s'=>∃ v,fin=Fin.done (Flow.ret v)/\v≠Value.notImplemented/\Q v s') E s):wpAny (model prog w) A (compareOp .Eq (.ref a) (.ref b)) Q E s:=by
 have t1:s.TypeIs (.ref a) "dict":=⟨oa,ha,xa.1⟩
 have t2:s.TypeIs (.ref b) "dict":=⟨ob,hb,xb.1⟩
 show wpAny (model prog w) A (richCompare .Eq (.ref a) (.ref b)) Q E s
 refine wpAny_richCompare_same_room (op:=.Eq) t1 t2 F.slot_dict_eq ?_ hu
 exact aS2 F.slot_dict_eq t1 F.entry_dict_eq q (F.args_dict_eq_2 _ _)
theorem x8{prog:Program}{w:World}{A:Around}{E:Value->Shared->Prop}{s:Shared}{a b:Addr}{n:Nat}{Q:Fin->Shared->Prop}(t1:s.TypeIs (.ref a) "dict")(t2:s.TypeIs (.ref b) "dict")
 (hs:∀ {R:Bool->Shared->Prop},R (n == 0) s->wpAny (model prog w) A (Builtin.Dict.samePairs (toString "dict."++toString "__eq__") a b) R E s) (q:Q (Fin.done (Flow.ret (.bool ((n == 0) == true)))) s):wpAny (model prog w) A (do
   let x <- Builtin.Dict.dictSlotArgs "__eq__" ⟨[.ref a,.ref b],[]⟩
   match x with
   | (self,other)=>do
    let i <- PySem.isInstance other (Value.type "dict")
    if (!i)=true then do
     rule (toString "dict."++toString "__eq__"++toString ".not-a-dict")
     ret Value.notImplemented
    else do
     let p <- Builtin.Dict.addrOf self
     let q <- Builtin.Dict.addrOf other
     let r <- Builtin.Dict.samePairs (toString "dict."++toString "__eq__") p q
     ret (Value.bool (r == true))) Q E s:=by
 refine aQl ?_
 unfold Builtin.Dict.dictSlotArgs
 refine aQl (wpAny_notOrdered_dict t1 (aQl ?_))
 unfold slotArgs
 dsimp only
 rw [aQv (by decide),aQv (by simp)]
 refine aQo ?_
 dsimp only
 refine aQo ?_
 dsimp only
 refine aQl (aTw t2 F.sub_dict_dict ?_)
 rw [aQv (by decide)]
 refine aQl ?_
 unfold Builtin.Dict.addrOf
 dsimp only
 refine aQo ?_
 refine aQl (aQo ?_)
 refine aQl (hs ?_)
 exact aQo q
theorem eq_empty{prog:Program}{w:World}{A:Around}{E:Value->Shared->Prop}{s:Shared}{a b:Addr}{oa ob:Obj}{ea:Array DictEntry}{pa pb:Nat}{Q:Value->Shared->Prop}
  (ma:(a == sysModules)=false) (mb:(b == sysModules)=false) (ha:s.heap.get? a=some oa) (xa:oa.ExactDict) (da:oa.data=.dict ea pa) (hb:s.heap.get? b=some ob) (xb:ob.ExactDict) (db:ob.data=.dict #[] pb)
  (hu:A.units < cLine) (q:Q (.bool (ea.size == 0)) s):wpAny (model prog w) A (compareOp .Eq (.ref a) (.ref b)) Q E s:=by
 refine zF ha xa hb xb hu ?_
 rw [aCt]
 refine x8 ⟨oa,ha,xa.1⟩ ⟨ob,hb,xb.1⟩ (n:=ea.size) (fun q=>yN ma mb ha da hb db q) ⟨_,rfl,(fun z=>nomatch z),?_⟩
 have:(((ea.size == 0) == true))=(ea.size == 0):=by cases (ea.size == 0)<;>rfl
 rw [this]
 exact q
section
variable {X:Cx}
def aPl:R2:=fun x y H Q=>∃ a b kv,x=.ref a/\y=.ref b/\H a=some (.dT kv)/\H b=some (.dT [])/\Q (.bl (kv.isEmpty)) H
theorem aJy(hu:X.A.units < cLine):OpR X (compareOp .Eq) aPl:=by
 intro pins s σ H x y v u Q I rx ry h
 obtain ⟨a,b,kv,rfl,rfl,ha,hb,q⟩:=h
 cases rx
 cases ry
 obtain ⟨_,ma,xs,r,oa,ea,pa,h1,h2,h3,h4,h5⟩:=(show ObjOk X.prog X.w H s.heap a (.dT kv) from I.hok a _ ha)
 obtain ⟨_,mb,ys,r2,ob,eb,pb,g1,g2,g3,g4,g5⟩:=(show ObjOk X.prog X.w H s.heap b (.dT []) from I.hok b _ hb)
 cases r2
 have eb0:eb=#[]:=by
  have:eb.toList=[]:=g4
  exact Array.toList_eq_nil_iff.mp this
 subst eb0
 refine eq_empty ma mb h1 h2 h3 g1 g2 g3 hu ⟨.bl kv.isEmpty,H,I,?_,q⟩
 have hl:ea.size=kv.length:=by
  have e1:ea.toList.length=xs.length:=by rw [h4,aQm]
  rw [aQ4] at e1
  rw [e1]
  exact (Paired.length r).symm
 show Value.bool _=Value.bool _
 rw [hl]
 cases kv<;>rfl
end
end L2
namespace M
open PySem PySem.Spec PyProof.Rows L2
variable {K:aQk}
def aE1(x y:Ev):Res Ev:=match jX x,y with
 | some kvs,.p (.dict [])=>if (dsp kvs).1=false then .ok (.p (.bool kvs.isEmpty)) else .bad
 | _,_=>.bad
theorem aHo:NoX aE1:=by
 intro x y A h
 unfold aE1 at h
 split at h
 ·split at h<;>cases h
 ·cases h
theorem aJl:OpM K aPl aE1:=by
 intro W G H v u x y Q gh hx hy hw
 unfold aE1 at hw
 split at hw
 ·rename_i kvs e1 e2
  split at hw
  ·rename_i hd
   obtain ⟨a,rfl,hh⟩:=w9 gh hx e1
   rw [e2] at hy
   have hy:Rep K G u (.dict []):=hy
   rcases hh with ⟨kv,h1,h2⟩ | ⟨kv,r,rfl,h1,h2⟩
   ·cases hy with
    | @dT b kv2 _ g1 g2 =>
     cases g2
     refine ⟨a,b,kv,rfl,rfl,h1,gh _ _ g1,?_⟩
     have e:kv.isEmpty=kvs.isEmpty:=by cases h2<;>rfl
     rw [e]
     exact hw G H _ (Step.refl gh) (.bl _)
   ·cases hd
  ·exact hw.elim
 ·exact hw.elim
section
variable {X:Cx}{E:L2.St->XK}{e:Expr}
end
section
variable {X:Cx}{K:aQk}
def aM5(K:aQk)(ng:Bool):R2:=fun x y H Q=>∃ d ds,Rep K H x d/\Rep K H y (.list ds)/\SeqAt.shaped d=true/\SeqAt.shaped (.list ds)=true/\(∀ z∈ds,SeqAt.noMix z d=true)/\Q (.bl (if ng then !decide (countIn d ds≠0) else decide (countIn d ds≠0))) H
theorem aFj{K:aQk}(hu:X.A.units+65 < cLine):OpR X (compareOp .In) (aM5 K false):=by
 intro pins s σ H x y v u Q I rx ry h
 obtain ⟨d,ds,h1,h2,o1,o2,hm,q⟩:=h
 obtain ⟨as,r1⟩:=h1.reads I.hok (aRh.mp o1).1 rx
 obtain ⟨bs,r2⟩:=h2.reads I.hok (aRh.mp o2).1 ry
 exact in_list_dataH r2 r1 o2 o1 hu hm ⟨.bl _,H,I,rfl,q⟩
theorem rF{K:aQk}(hu:X.A.units+65 < cLine):OpR X (compareOp .NotIn) (aM5 K true):=by
 intro pins s σ H x y v u Q I rx ry h
 obtain ⟨d,ds,h1,h2,o1,o2,hm,q⟩:=h
 obtain ⟨as,r1⟩:=h1.reads I.hok (aRh.mp o1).1 rx
 obtain ⟨bs,r2⟩:=h2.reads I.hok (aRh.mp o2).1 ry
 exact notIn_list_dataH r2 r1 o2 o1 hu hm ⟨.bl _,H,I,rfl,q⟩
open Classical in
noncomputable def pW(ng:Bool)(x y:Ev):Res Ev:=match dat x,dat y with
 | some d,some (.list ds)=>if SeqAt.shaped d=true/\SeqAt.shaped (.list ds)=true/\∀ z∈ds,SeqAt.noMix z d=true then .ok (.p (.bool (if ng then !decide (countIn d ds≠0) else decide (countIn d ds≠0)))) else .bad
 | _,_=>.bad
theorem lJ{ng:Bool}:NoX (pW ng):=by
 intro x y A h
 unfold pW at h
 split at h
 ·split at h<;>cases h
 ·cases h
theorem pN{ng:Bool}:OpM K (aM5 K ng) (pW ng):=by
 intro W G H v u x y Q gh hx hy hw
 unfold pW at hw
 split at hw
 ·rename_i d ds e1 e2
  split at hw
  ·rename_i hs
   exact ⟨d,ds,hx.read gh e1,hy.read gh e2,hs.1,hs.2.1,hs.2.2,hw G H _ (Step.refl gh) (.bl _)⟩
  ·exact hw.elim
 ·exact hw.elim
end
theorem u65{k:Nat}{A:Around}(hr:Room k A):A.units+65 < cLine:=by have:=hr.un;omega
end M
namespace L2
open PySem PySem.Spec PyProof.Rows
theorem aAf:typeLookup (Value.type "list_reverseiterator") (Str.ofString "__len__")=pure none:=by rfl
theorem aEr:typeLookup (Value.type "list_reverseiterator") (Str.ofString "__length_hint__")=pure (some (Value.builtin "list_reverseiterator.__length_hint__")):=by rfl
theorem aG7:isSubtype (Value.type "list_reverseiterator") (Value.type "list_reverseiterator")=pure true:=by rfl
theorem aB8{prog:Program}{w:World}{A:Around}(hh:A.handled=none){I l:Addr}(hne:l≠I)(items:Array Value) :
  WalksS prog w A I [I,l] [I] Eq items.size (fun i v=>items[items.size - 1 - i]? = some v) (fun i s=>s.heap.IsRevIter I l ((items.size:Int) - 1 - i)/\s.heap.IsList l items) where
 sub:=fun b hb=>by rw [aQ1.mp hb];exact .head _
 grefl:=fun _=>rfl
 gtrans:=fun _ _ _ h1 h2=>h1.trans h2
 frame:=fun i s h' tk st _ k=>by
  obtain ⟨⟨o,h1,h2,h3⟩,⟨p,h4,h5⟩⟩:=st
  exact ⟨⟨o,k I (.head _) o h1,h2,h3⟩,⟨p,k l (.tail _ (.head _)) p h4,h5⟩⟩
 item:=fun i s Q E hi st k=>by
  obtain ⟨st1,st2⟩:=st
  have e:((items.size:Int) - 1 - i)=((items.size - 1 - i:Nat):Int):=by omega
  rw [e] at st1
  have hx:items.size - 1 - i < items.size:=by omega
  refine wpAny_pyNext_rev_item st1 st2 (x:=items[items.size - 1 - i]) (by simp [hx]) fun h' g1 g2=>?_
  refine k _ _ (by simp [hx]) ⟨?_,?_⟩ ⟨fun b o hb q=>?_,rfl,rfl,rfl,aQu _⟩
  ·have e2:((items.size - 1 - i:Nat):Int) - 1=(items.size:Int) - 1 - ((i+1:Nat):Int):=by omega
   rw [<- e2]
   exact g1
  ·obtain ⟨p,h4,h5⟩:=st2
   exact ⟨p,(g2.2 l hne).trans h4,h5⟩
  ·exact (g2.2 b (fun z=>hb (by rw [z];exact .head _))).trans q
 done:=fun s Q E st k=>by
  obtain ⟨st1,st2⟩:=st
  have e:((items.size:Int) - 1 - (items.size:Nat)) = -1:=by omega
  rw [e] at st1
  exact wpAny_pyNext_rev_end hh st1 fun h' g=>k _ ⟨fun b o hb q=>g b o (fun z=>hb (by rw [z];exact .head _)) q,rfl,rfl,rfl,aQu _⟩
 self:=fun i s Q E st h=>wpAny_pyIter_revIter st.1 h
theorem aEz{prog:Program}{w:World}{A:Around}{E:Value->Shared->Prop}{s:Shared}{I:Addr}{Q:Bool->Shared->Prop}(t:s.TypeIs (.ref I) "list_reverseiterator")(q:Q false s):wpAny (model prog w) A (Builtin.List.listLengthHint (.ref I)) Q E s:=by
 unfold Builtin.List.listLengthHint
 refine aQl (aSx t aAf ?_)
 refine aQl (aSx t aEr ?_)
 refine aQl (aTw t aG7 ?_)
 exact aQo q
theorem yK{prog:Program}{w:World}{A:Around}(hh:A.in1.handled=none){s:Shared}{R:Result->Shared->Prop}{I l:Addr}{items:Array Value}(hne:l≠I)(hI:s.heap.IsRevIter I l ((items.size:Int) - 1))(hl:s.heap.IsList l items)(S:Addr)(hS1:S≠I)(hS2:S≠l)(res:Value)(c₀:Nat)
  (hS:s.heap.get? S=some { cls:=Value.type "list",data:=Data.seq #[] c₀ }) (hz:items.size<=sizeLine)
  (k:∀ (s':Shared) (acc':Array Value) (c':Nat),Moved [S,I] Eq s s'->s'.heap.get? S=some { cls:=Value.type "list",data:=Data.seq acc' c' }->ItemsOf (fun i v=>items[items.size - 1 - i]? = some v) acc' items.size->R (.ok (.ret res)) s') :
  wpAny (model prog w) A.in1 (Builtin.List.listExtendWith (.ref S) (.ref I) res) (fun fin s'=>match fin with
   | Fin.done f=>R (.ok f) s'
   | Fin.again c'=>c'.quiet=true/\codeAny (model prog w) A c' R s') (fun e s'=>R (.error e) s') s:=by
 have t:s.TypeIs (.ref I) "list_reverseiterator":=by
  obtain ⟨o,h1,h2,_⟩:=hI
  exact ⟨o,h1,h2⟩
 unfold Builtin.List.listExtendWith
 refine aQl (wpAny_typeOf t ?_)
 have e:(Builtin.List.listSameRef (.ref S) (.ref I) || Value.type "list_reverseiterator" == Value.type "list" || Value.type "list_reverseiterator" == Value.type "tuple")=false:=by
  have:(S == I)=false:=aVv hS1
  show ((S == I) || _ || _)=false
  rw [this]
  decide
 rw [e,aQv (by decide)]
 refine aQl (wpAny_pyIter_revIter hI ?_)
 refine aQl (aSa (aEz t ?_))
 refine aQo ?_
 refine ⟨plainId_quiet F.plain_extend_loop _,?_⟩
 exact codeAny_extend_loopS (aB8 hh hne items) hz S (by simp [hS1,hS2]) res items.size 0 s #[] c₀ rfl (aRj _) ⟨by simpa using hI,hl⟩ hS ⟨rfl,fun j v h=>by simp at h⟩ k
theorem qG{prog:Program}{w:World}{A:Around}{E:Value->Shared->Prop}(hh:A.in1.in1.handled=none){s:Shared}{Q:Value->Shared->Prop}{I l:Addr}{items:Array Value}(hne:l≠I)(hI:s.heap.IsRevIter I l ((items.size:Int) - 1))(hl:s.heap.IsList l items)(hz:items.size<=sizeLine)
  (k:∀ (s':Shared) (acc':Array Value) (c':Nat),(∀ b o,b≠I->s.heap.get? b=some o->s'.heap.get? b=some o)->s'.gens=s.gens->s'.drawn=s.drawn->s'.os=s.os->s'.heap.get? s.heap.objs.size=some { cls:=Value.type "list",data:=Data.seq acc' c' }->ItemsOf (fun i v=>items[items.size - 1 - i]? = some v) acc' items.size->Q (.ref s.heap.objs.size) s') :
  wpAny (model prog w) A (call (.type "list") [.ref I]) Q E s:=by
 obtain ⟨oI,hI1,hI2,hI3⟩:=id hI
 obtain ⟨ol,hl1,hl2⟩:=id hl
 have lI:I < s.heap.objs.size:=aQw hI1
 have ll:l < s.heap.objs.size:=aQw hl1
 refine callType_codes F.called_list (F.typeCall_list_1 _) F.entry_list_init (code_list_new _ ?_) ?_ (Q₁:=fun obj s₁=>obj=.ref s.heap.objs.size/\s₁={ s with heap:=s.heap.push { cls:=Value.type "list",data:=Data.seq #[] } })
 ·exact ⟨rfl,rfl⟩
 ·rintro obj s₁ ⟨rfl,rfl⟩
  have hS:(s.heap.push { cls:=Value.type "list",data:=Data.seq #[] }).get? s.heap.objs.size=some { cls:=Value.type "list",data:=Data.seq #[] }:=aQ9 s.heap rfl
  refine ⟨⟨_,hS,rfl⟩,F.args_list_init_2 _ _,?_⟩
  have hI':(s.heap.push { cls:=Value.type "list",data:=Data.seq #[] }).get? I=some oI:=aQq _ hI1
  have hl':(s.heap.push { cls:=Value.type "list",data:=Data.seq #[] }).get? l=some ol:=aQq _ hl1
  have u1:((s.heap.push { cls:=Value.type "list",data:=Data.seq #[] }).update s.heap.objs.size (Obj.mapSeq fun _=>#[])).get? s.heap.objs.size=some { cls:=Value.type "list",data:=Data.seq #[] }:=(aT6 _ hS rfl).trans rfl
  have u2:∀ b o,b≠s.heap.objs.size->(s.heap.push { cls:=Value.type "list",data:=Data.seq #[] }).get? b=some o->((s.heap.push { cls:=Value.type "list",data:=Data.seq #[] }).update s.heap.objs.size (Obj.mapSeq fun _=>#[])).get? b=some o:=fun b o hb q=>(aU5 _ _ (aU6 hb)).trans q
  refine aQl ?_
  unfold Builtin.List.listItems
  refine aQl (aTx hS rfl (aQo ?_))
  refine aQl (wpAny_updateSeq hS rfl ?_ (by decide) (by decide))
  refine aQl (wpAny_letGo ?_)
  refine yK (A:=A.in1) hh hne ⟨oI,u2 I oI (aRa lI) hI',hI2,hI3⟩ ⟨ol,u2 l ol (aRa ll) hl',hl2⟩ s.heap.objs.size (aV4 lI) (aV4 ll) .none 0 u1 hz fun s' acc' c' mv g it=>?_
  exact ⟨rfl,k s' acc' c' (fun b o hb q=>mv.heap b o (by
   have:b≠s.heap.objs.size:=aRa (aQw q)
   simp [hb,this]) (u2 b o (aRa (aQw q)) (aQq _ q))) mv.gens.symm mv.drawn mv.os g it⟩
section
variable {X:Cx}
theorem aGw:bootBuiltins "reversed" = some (.type "reversed"):=by decide +kernel
theorem aE2:bootBuiltins "list" = some (.type "list"):=by decide +kernel
def tLR(K:aQk)(te:TE):TE:=fun σ H Q=>te σ H fun x H1=>∃ a xs,x=.ref a/\SqL K H1 a xs/\∀ l,H1 l=none->Q (.ref l) (upd H1 l (.lst xs.reverse))
theorem aE7{xs:List V}{its:List Value}(r:Vals xs its){acc:Array Value}(h:ItemsOf (fun i v=>its.toArray[its.toArray.size - 1 - i]? = some v) acc its.toArray.size):acc.toList=its.reverse:=by
 obtain ⟨h1,h2⟩:=h
 have h1:acc.size=its.length:=h1.trans (aQs ..)
 apply aS8
 intro i
 rw [aQ8]
 by_cases hi:i < its.length
 ·have hx:i < acc.size:=by omega
  have this:=h2 i acc[i] (by simp [hx])
  have this:its.toArray[its.toArray.size - 1 - i]? = some acc[i]:=this
  rw [aRf hx,List.getElem?_reverse hi]
  rw [aQs,aVg] at this
  exact this.symm
 ·rw [aT0 (by omega),aRi (by rw [aVw];omega)]
theorem l6:∀ {xs:List V} {us:List Value},Vals xs us->Vals xs.reverse us.reverse
 | _,_,.nil=>.nil
 | _,_,.cons r t=>by
  rw [aVb,aVb]
  exact (l6 t).append (.cons r .nil)
theorem yM{e:Expr}{te:TE}{p1 p2 pos1 pos2:Pos}(hc:X.calm=true)(hg1:Gl X "list")(hm1:X.mg "list" = none)(hg2:Gl X "reversed")(hm2:X.mg "reversed" = none)(he:PE X e te)
  (hs1:starEach [.Call (.Name "reversed" p2) [e] [] pos2] X.env=(false,eval (.Call (.Name "reversed" p2) [e] [] pos2) X.env) :: starEach [] X.env:=by rfl) (hs2:starEach [e] X.env=(false,eval e X.env) :: starEach [] X.env:=by rfl) :
  PE X (.Call (.Name "list" p1) [.Call (.Name "reversed" p2) [e] [] pos2] [] pos1) (tLR X.K te):=by
 intro pins s σ H Q I h
 refine aSp (lB I hg1 hm1 aE2 (aSf ?_ hs1 rfl))
 rw [hs1]
 show wpAny _ _ (spliced ((false,eval _ X.env) :: backTo pos1 (starEach [] X.env))) _ _ s
 refine aT1 (aSp (lB I hg2 hm2 aGw (aSf ?_ hs2 rfl)))
 rw [hs2]
 show wpAny _ _ (spliced ((false,eval _ X.env) :: backTo pos2 (starEach [] X.env))) _ _ s
 refine aT1 (thn (he pins s σ H _ I h) fun u s1 ⟨x,H1,I1,r1,a,xs,ex,hq,q⟩=>aUc ?_)
 subst ex
 cases (show u=Value.ref a from r1)
 obtain ⟨its,rv,pl,hz⟩:=I1.list hq
 refine call_reversed_list pl.isList (aUc ?_)
 have hlen:=rv.length
 have kp:∀ b o,s1.heap.get? b=some o->(s1.heap.push (revObj a ((its.toArray.size:Int) - 1))).get? b=some o:=fun b o q=>aQq _ q
 have I2:Inv X pins σ H1 { s1 with heap:=s1.heap.push (revObj a ((its.toArray.size:Int) - 1)) }:=I1.kept (t':=s1.toks) kp
 have hR:(s1.heap.push (revObj a ((its.toArray.size:Int) - 1))).get? s1.heap.objs.size=some (revObj a ((its.toArray.size:Int) - 1)):=aQ9 _ rfl
 have hp:=I1.fpOk (aQu _) (I1.hok.fresh (aQu s1.heap.objs.size))
 obtain ⟨o,n,ho,hoc,hod,hos⟩:=pl
 have lt:a < s1.heap.objs.size:=aQw ho
 refine qG (s:={ s1 with heap:=s1.heap.push (revObj a ((its.toArray.size:Int) - 1)) }) (I:=s1.heap.objs.size) (l:=a) (items:=its.toArray) (I.ok.hd hc) (aRa lt) ⟨_,hR,rfl,rfl⟩ ⟨o,kp a o ho,hoc,n,hos⟩ (by rw [aQs];omega) fun s' acc c' k1 k2 k3 k4 k5 k6=>?_
 have ev:=aE7 rv k6
 have hsz:(s1.heap.push (revObj a ((its.toArray.size:Int) - 1))).objs.size=s1.heap.objs.size+1:=by simp [Heap.push]
 have hH:H1 (s1.heap.objs.size+1)=none:=I2.hok.fresh (a:=s1.heap.objs.size+1) (by show (s1.heap.push _).objs.size<=_;rw [hsz];exact aQu _)
 rw [show ({ s1 with heap:=s1.heap.push (revObj a ((its.toArray.size:Int) - 1)) }:Shared).heap.objs.size=s1.heap.objs.size+1 from hsz] at k5 ⊢
 obtain ⟨f0,f1,f2,f3,f4,f5⟩:=hp
 have keep:∀ b o,b∉[s1.heap.objs.size]->(s1.heap.push (revObj a ((its.toArray.size:Int) - 1))).get? b=some o->s'.heap.get? b=some o:=fun b o hb q=>k1 b o (fun z=>hb (by rw [z];exact .head _)) q
 have trk:∀ b o,H1 b=some o->b∉[s1.heap.objs.size]:=fun b o q hb=>by rw [aQ1.mp hb,f0] at q;cases q
 have nn:∀ b o,H1 b=some o->b≠s1.heap.objs.size+1:=fun b o q z=>by rw [z,hH] at q;cases q
 refine ⟨.ref (s1.heap.objs.size+1),upd H1 (s1.heap.objs.size+1) (.lst xs.reverse),?_,rfl,q _ hH⟩
 have st:=Inv.step (X:=X) (pins:=pins) (σ:=σ) (H:=H1) (s:={ s1 with heap:=s1.heap.push (revObj a ((its.toArray.size:Int) - 1)) }) (H':=upd H1 (s1.heap.objs.size+1) (.lst xs.reverse)) (h':=s'.heap) (g':=s1.gens) (d':=s1.drawn) (t':=s'.toks) (ch:=[s1.heap.objs.size]) I2 (fun b hb=>by rw [aQ1.mp hb];exact ⟨f3,f1,f4,f5⟩) (fun b o _ _ hb q _=>keep b o hb q) (fun b o _ _ hb q _=>⟨o.slots,keep b o hb q⟩)
  (fun b o _ q n=>by rw [bB (fun z=>by have:=aQw q;rw [z] at this;exact absurd (show s1.heap.objs.size+1 < s1.heap.objs.size+1 by rw [<- hsz];exact hsz▸this) (aRt _))];exact n) (fun b o hb q=>⟨o,keep b o hb q⟩)
  (fun b ys q=>by rw [bB (nn b _ q)];exact q) (fun b o v q=>by rw [bB (nn b _ q)];exact q) (fun b ps q=>⟨#[],by rw [bB (nn b _ q),q];simp⟩) (fun m hm=>by
   obtain ⟨o,es,ep,ho,r⟩:=hm
   exact ⟨o,es,ep,keep _ o (fun z=>f1 (aQ1.mp z).symm) ho,r⟩) (fun b v q=>by
   by_cases hb:b=s1.heap.objs.size+1
   ·subst hb
    rw [bJ] at q
    cases q
    refine ⟨by rw [aVw];exact hz,its.reverse,c',l6 rv,?_⟩
    rw [k5,<- ev]
   ·rw [bB hb] at q
    refine (I2.hok b v q).stay (fun c w' hc q'=>keep c w' ?_ q') (fun c q'=>?_) (fun c ys q'=>?_) fun c ys q'=>by rw [bB (nn c _ q')];exact q'
    ·rcases hc with z | z
     ·rw [z];exact trk b v q
     ·exact trk c _ z
    ·rw [bB (nn c _ q')];exact q'
    ·rw [bB (nn c _ q')];exact q') I1.bare
 have es:s'={ heap:=s'.heap,gens:=s1.gens,drawn:=s1.drawn,toks:=s'.toks,os:=s1.os }:=by
  cases s'
  cases k2
  cases k3
  cases k4
  rfl
 rw [es]
 exact st
end
end L2
namespace M
open PySem PySem.Spec PyProof.Rows L2
def aMq(x:Ev):Res Ev:=match iO x with
 | some ds=>.ok (.f (.list ds.reverse))
 | none=>.bad
theorem yR{X:Cx}{E:L2.St->XK}{e:Expr}{fe:En->Res Ev}{p1 p2 pos1 pos2:Pos}(hc:X.calm=true)(hg1:Gl X "list")(hm1:X.mg "list" = none)(hg2:Gl X "reversed")(hm2:X.mg "reversed" = none)(he:DE X E e fe)
  (hs1:starEach [.Call (.Name "reversed" p2) [e] [] pos2] X.env=(false,eval (.Call (.Name "reversed" p2) [e] [] pos2) X.env) :: starEach [] X.env:=by rfl) (hs2:starEach [e] X.env=(false,eval e X.env) :: starEach [] X.env:=by rfl) :
  DE X E (.Call (.Name "list" p1) [.Call (.Name "reversed" p2) [e] [] pos2] [] pos1) (mUn aMq fe):=by
 obtain ⟨t,q,m⟩:=he.out
 refine DE.in ⟨_,yM hc hg1 hm1 hg2 hm2 q hs1 hs2,fun B G0 G W H σ en Q hh hs hw=>m B G0 G W H σ en _ hh hs ?_⟩
 have hw:wpR ((fe en).bind _) _ _:=hw
 rw [b7] at hw
 refine bD hw (fun r hr G1 H1 v s e=>?_) fun C h=>h
 obtain ⟨G2,s2,e2⟩:=e.c s
 unfold aMq at hr
 cases el:iO r.c with
 | none=>rw [el] at hr;exact hr.elim
 | some ds =>
  rw [el] at hr
  obtain ⟨a,xs,rfl,h1,h2⟩:=n9 s2.gh e2 el
  refine ⟨a,xs,rfl,.inl h1,fun l hl=>?_⟩
  exact hr G2 _ _ (s2.trans (Step.lay s2.gh hl)) ⟨l,_,rfl,s2.h.free hl,s2.gh.free hl,bJ,.lst h2.rev⟩
end M
namespace HS
open PySem
theorem aFi{α:Type}[DecidableEq α]:∀ {l m:List α},l.Nodup->(∀ x∈l,x∈m)->l.length<=m.length
 | [],m,_,_=>aRj _
 | x :: l,m,h,s=>by
  obtain ⟨h1,h2⟩:=aR3.mp h
  have hx:=s x (.head _)
  have q:=aFi (m:=m.erase x) h2 fun y hy=>(aVm (show y≠x from fun z=>h1 (by rw [<- z];exact hy))).mpr (s y (.tail _ hy))
  rw [aWg hx] at q
  have:=List.length_pos_of_mem hx
  rw [aQp]
  omega
def adv(mask:Nat)(p:SetTable.Probe):SetTable.Probe:=if p.more > 0 then { p with j:=p.j+1,more:=p.more - 1 } else
 { p with j:=(SetTable.leap mask p.i p.perturb).1,more:=SetTable.runEnd mask (SetTable.leap mask p.i p.perturb).1 - (SetTable.leap mask p.i p.perturb).1,i:=(SetTable.leap mask p.i p.perturb).1,perturb:=(SetTable.leap mask p.i p.perturb).2 }
def aAg(mask i p:Nat):SetTable.Probe:={ j:=i,more:=SetTable.runEnd mask i - i,i,perturb:=p,dummy:=none }
def pst(mask:Nat)(h:Int):SetTable.Probe:=aAg mask (SetTable.bits h % (mask+1)) (SetTable.bits h)
def nZ(mask:Nat):Nat->SetTable.Probe->SetTable.Probe
 | 0,p=>p
 | k+1,p=>adv mask (nZ mask k p)
def pth(mask:Nat)(h:Int)(k:Nat):Nat:=(nZ mask k (pst mask h)).j
theorem aNs(mask:Nat)(p:SetTable.Probe):(adv mask p).dummy=p.dummy:=by
 unfold adv
 split<;>rfl
theorem aGf(mask:Nat)(p:SetTable.Probe):∀ k,(nZ mask k p).dummy=p.dummy
 | 0=>rfl
 | k+1=>(aNs mask _).trans (aGf mask p k)
theorem mW(mask:Nat)(p:SetTable.Probe)(a:Nat):∀ b,nZ mask (a+b) p=nZ mask b (nZ mask a p)
 | 0=>rfl
 | b+1=>aUn (adv mask) (mW mask p a b)
theorem aCl(mask i p:Nat):∀ r,r<=SetTable.runEnd mask i - i->nZ mask r (aAg mask i p)={ j:=i+r,more:=SetTable.runEnd mask i - i - r,i,perturb:=p,dummy:=none }
 | 0,_=>rfl
 | r+1,h=>by
  show adv mask (nZ mask r (aAg mask i p))=_
  rw [aCl mask i p r (by omega)]
  unfold adv
  rw [aQt (show SetTable.runEnd mask i - i - r > 0 by omega)]
  congr 1
theorem aFz(mask i p:Nat):nZ mask (SetTable.runEnd mask i - i+1) (aAg mask i p)=aAg mask (SetTable.leap mask i p).1 (SetTable.leap mask i p).2:=by
 show adv mask (nZ mask (SetTable.runEnd mask i - i) (aAg mask i p))=_
 rw [aCl mask i p _ (aQu _)]
 unfold adv
 rw [aQv (by simp)]
 rfl
theorem aPh(mask i:Nat):SetTable.runEnd mask i - i<=9:=by unfold SetTable.runEnd;split<;>omega
def lpN(mask:Nat)(i p:Nat):Nat->Nat×Nat
 | 0=>(i,p)
 | m+1=>lpN mask (SetTable.leap mask i p).1 (SetTable.leap mask i p).2 m
theorem aB0(mask:Nat):∀ (a b i p:Nat),lpN mask i p (a+b)=lpN mask (lpN mask i p a).1 (lpN mask i p a).2 b
 | 0,b,i,p=>by rw [aR8];rfl
 | a+1,b,i,p=>by
  rw [Nat.succ_add]
  show lpN mask _ _ (a+b)=_
  rw [aB0 mask a b]
  rfl
theorem aLc(mask:Nat):∀ (m i p:Nat),(lpN mask i p m).2=p / 32 ^ m
 | 0,i,p=>by simp [lpN]
 | m+1,i,p=>by
  show (lpN mask _ (p / 32) m).2=_
  rw [aLc mask m,Nat.div_div_eq_div_mul,Nat.pow_succ,Nat.mul_comm]
theorem aJu(mask:Nat):∀ (m i p:Nat),i<=mask->(lpN mask i p m).1<=mask
 | 0,i,p,h=>h
 | m+1,i,p,_=>by
  show (lpN mask ((i*5+1+p / 32) % (mask+1)) (p / 32) m).1<=mask
  exact aJu mask m _ _ (aUd (aXb _ (aTe _)))
theorem vX(mask:Nat):∀ (m i p:Nat),∃ k,k<=10*m/\nZ mask k (aAg mask i p)=aAg mask (lpN mask i p m).1 (lpN mask i p m).2
 | 0,i,p=>⟨0,aQu _,rfl⟩
 | m+1,i,p=>by
  have r9:=aPh mask i
  obtain ⟨k,h1,h2⟩:=vX mask m (SetTable.leap mask i p).1 (SetTable.leap mask i p).2
  refine ⟨(SetTable.runEnd mask i - i)+1+k,by omega,?_⟩
  rw [mW,aFz]
  exact h2
def orb(mask:Nat):Nat->Nat->List Nat
 | 0,_=>[]
 | n+1,i=>i :: orb mask n ((i*5+1) % (mask+1))
theorem aFe(mask:Nat):∀ (n i q:Nat),q∈orb mask n i->∃ m,m < n/\(lpN mask i 0 m).1=q
 | n+1,i,q,h=>by
  rcases aQy.mp h with z | z
  ·exact ⟨0,aTe _,z.symm⟩
  ·obtain ⟨m,hm,e⟩:=aFe mask n _ q z
   exact ⟨m+1,aWu hm,e⟩
def MOk(mask:Nat):Prop:=mask=7\/mask=31\/mask=127
def aFn(l:List Nat):Nat:=l.foldl (fun a q=>a ||| (1 <<< q)) 0
theorem xJ:∀ (l:List Nat) (a q:Nat),(l.foldl (fun a q=>a ||| (1 <<< q)) a).testBit q=true->a.testBit q=true\/q∈l
 | [],a,q,h=>.inl h
 | x :: l,a,q,h=>by
  rcases xJ l _ q h with z | z
  ·rw [Nat.testBit_or,Bool.or_eq_true] at z
   rcases z with z | z
   ·exact .inl z
   ·rw [Nat.one_shiftLeft,Nat.testBit_two_pow] at z
    exact .inr (by rw [<- aWf z];exact .head _)
  ·exact .inr (.tail _ z)
theorem aHs{mask:Nat}(hm:MOk mask){i q:Nat}(hi:i<=mask)(hq:q<=mask):q∈orb mask (mask+1) i:=by
 have key:∀ mask,MOk mask->(List.range (mask+1)).all (fun i=>Nat.beq (aFn (orb mask (mask+1) i)) (2 ^ (mask+1) - 1))=true:=by
  rintro _ (rfl | rfl | rfl)<;>decide +kernel
 have a:=aSi.mp (key mask hm) i (aRz.mpr (Nat.lt_succ_of_le hi))
 have a:=Nat.eq_of_beq_eq_true a
 have t:(aFn (orb mask (mask+1) i)).testBit q=true:=by
  rw [a,Nat.testBit_two_pow_sub_one]
  exact aQ3 (Nat.lt_succ_of_le hq)
 rcases xJ _ 0 q t with z | z
 ·rw [Nat.zero_testBit] at z
  cases z
 ·exact z
theorem aA0(h:Int):SetTable.bits h < 2 ^ 64:=by
 unfold SetTable.bits
 omega
theorem xM{mask:Nat}(hm:MOk mask){i p q:Nat}(hi:i<=mask)(hp:p < 2 ^ 64)(hq:q<=mask):∃ m,m<=13+mask/\(lpN mask i p m).1=q:=by
 have e2:(lpN mask i p 13).2=0:=by
  rw [aLc]
  exact Nat.div_eq_of_lt (aRc hp (by decide))
 obtain ⟨m,h1,h2⟩:=aFe mask _ _ _ (aHs hm (aJu mask 13 i p hi) hq)
 refine ⟨13+m,by omega,?_⟩
 rw [aB0,e2]
 exact h2
theorem aAv{mask:Nat}(hm:MOk mask)(h:Int){q:Nat}(hq:q<=mask):∃ k,k<=10*(13+mask)/\pth mask h k=q:=by
 obtain ⟨m,m1,m2⟩:=xM hm (aUd (aXb (SetTable.bits h) (aTe mask))) (aA0 h) hq
 obtain ⟨k,k1,k2⟩:=vX mask m (SetTable.bits h % (mask+1)) (SetTable.bits h)
 refine ⟨k,by omega,?_⟩
 show (nZ mask k (aAg mask _ _)).j=q
 rw [k2]
 exact m2
theorem miss{mask:Nat}{l:List Nat}(h:l.length<=mask):∃ q,q<=mask/\q∉l:=by
 by_cases z:∀ q∈List.range (mask+1),q∈l
 ·have:=aFi List.nodup_range z
  rw [aR5] at this
  omega
 ·obtain ⟨q,hq⟩:=Classical.not_forall.mp z
  obtain ⟨h1,h2⟩:=Classical.not_imp.mp hq
  exact ⟨q,aUd (aRz.mp h1),h2⟩
def Ris(xs:Array Nat):Prop:=∀ (i j a b:Nat),i < j->xs[i]? = some a->xs[j]? = some b->a < b
theorem qS(xs:Array Nat)(j:Nat)(hr:Ris xs):∀ (fuel lo hi:Nat),hi - lo<=fuel->lo<=hi->hi<=xs.size->(∀ i a,i < lo->xs[i]? = some a->a < j)->(∀ i a,hi<=i->xs[i]? = some a->j<=a) ->
  SetTable.below.go xs j fuel lo hi<=xs.size/\(∀ i a,i < SetTable.below.go xs j fuel lo hi->xs[i]? = some a->a < j)/\(∀ i a,SetTable.below.go xs j fuel lo hi<=i->xs[i]? = some a->j<=a)
 | 0,lo,hi,hf,h1,h2,h3,h4=>by
  have:lo=hi:=by omega
  subst this
  exact ⟨h2,h3,h4⟩
 | fuel+1,lo,hi,hf,h1,h2,h3,h4=>by
  unfold SetTable.below.go
  by_cases z:lo < hi
  ·rw [aQt z]
   dsimp only
   have m1:lo<=(lo+hi) / 2:=by omega
   have m2:(lo+hi) / 2 < hi:=by omega
   have m3:(lo+hi) / 2 < xs.size:=by omega
   have g:xs.getD ((lo+hi) / 2) j=xs[(lo+hi) / 2]:=by simp [Array.getD,m3]
   rw [g]
   have gm:xs[(lo+hi) / 2]? = some xs[(lo+hi) / 2]:=aRf m3
   by_cases y:xs[(lo+hi) / 2] < j
   ·rw [aQt y]
    refine qS xs j hr fuel _ _ (by omega) (by omega) h2 (fun i a hi' e=>?_) h4
    rcases aSr i ((lo+hi) / 2) with w | w
    ·exact aW1 (hr _ _ _ _ w e gm) y
    ·have:i=(lo+hi) / 2:=by omega
     subst this
     rw [gm] at e
     cases e
     exact y
   ·rw [aQv y]
    refine qS xs j hr fuel _ _ (by omega) (by omega) (by omega) h3 (fun i a hi' e=>?_)
    rcases aSr ((lo+hi) / 2) i with w | w
    ·have:=hr _ _ _ _ w gm e
     omega
    ·have:i=(lo+hi) / 2:=by omega
     subst this
     rw [gm] at e
     cases e
     omega
  ·rw [aQv z]
   have:lo=hi:=by omega
   subst this
   exact ⟨h2,h3,h4⟩
theorem mY{xs:Array Nat}(hr:Ris xs)(j:Nat):SetTable.below xs j<=xs.size/\(∀ i a,i < SetTable.below xs j->xs[i]? = some a->a < j)/\(∀ i a,SetTable.below xs j<=i->xs[i]? = some a->j<=a):=by
 unfold SetTable.below
 refine qS xs j hr _ _ _ (aQu _) (aRj _) (aQu _) (fun i a h=>absurd h (aUz _)) (fun i a h e=>?_)
 rw [aT0 h] at e
 cases e
theorem aBg{t:SetTable}(hr:Ris t.place){j:Nat}(h:j∈t.place.toList):∃ i,t.slot j=.live i/\t.place[i]? = some j:=by
 obtain ⟨i,hi⟩:=aTf.mp h
 rw [aQ8] at hi
 obtain ⟨b1,b2,b3⟩:=mY hr j
 have e:SetTable.below t.place j=i:=by
  rcases aUe (SetTable.below t.place j) i with z | z | z
  ·have hb:SetTable.below t.place j < t.place.size:=aW1 z (aSl.mp hi).1
   have a:=b3 _ _ (aQu _) (aRf hb)
   have b:=hr _ _ _ _ z (aRf hb) hi
   omega
  ·exact z
  ·have:=b2 i j z hi
   omega
 refine ⟨i,?_,hi⟩
 unfold SetTable.slot
 dsimp only
 rw [e,aQt (by rw [hi];exact aWv _)]
theorem aEq{t:SetTable}(hd:t.dummies=#[]){j:Nat}(h:j∉t.place.toList):t.slot j=.empty:=by
 unfold SetTable.slot SetTable.has
 rw [hd]
 dsimp only
 have:(t.place[SetTable.below t.place j]? == some j)=false:=by
  rw [aSt]
  exact fun z=>h (aR6.mpr (aT8 z))
 rw [this]
 simp
theorem iT{α:Type}(xs:Array α)(p:Nat)(x:α):(SetTable.insertAt xs p x).toList=xs.toList.take p++x :: xs.toList.drop p:=by
 unfold SetTable.insertAt
 simp
 exact List.take_of_length_le (by simp)
theorem xS{xs:Array Nat}(h:xs.toList.Pairwise (· < ·)):Ris xs:=fun i j a b hij hi hj=>by
 rw [<- aQ8] at hi hj
 obtain ⟨h1,e1⟩:=aRe.mp hi
 obtain ⟨h2,e2⟩:=aRe.mp hj
 rw [<- e1,<- e2]
 exact aUk.mp h i j h1 h2 hij
theorem aE0{xs:Array Nat}(h:Ris xs):xs.toList.Pairwise (· < ·):=aUk.mpr fun i j h1 h2 hij=>h i j _ _ hij (by rw [<- aQ8];exact aQn h1) (by rw [<- aQ8];exact aQn h2)
theorem aHt{xs:Array Nat}(hr:Ris xs){j:Nat}(h:j∉xs.toList):Ris (SetTable.insertAt xs (SetTable.below xs j) j):=by
 obtain ⟨b1,b2,b3⟩:=mY hr j
 have l:=aE0 hr
 refine xS ?_
 rw [iT]
 have lo:∀ a∈xs.toList.take (SetTable.below xs j),a < j:=fun a ha=>by
  obtain ⟨i,hi⟩:=aTf.mp ha
  rw [aU1] at hi
  split at hi
  ·rename_i z
   rw [aQ8] at hi
   exact b2 i a z hi
  ·cases hi
 have hi:∀ a∈xs.toList.drop (SetTable.below xs j),j < a:=fun a ha=>by
  obtain ⟨i,hi⟩:=aTf.mp ha
  rw [aT3,aQ8] at hi
  have:=b3 _ a (aUo _ _) hi
  have ne:a≠j:=fun z=>h (z▸aVn ha)
  omega
 rw [List.pairwise_append]
 refine ⟨aT9 (List.take_sublist _ _) l,aSy.mpr ⟨hi,aT9 (List.drop_sublist _ _) l⟩,fun a ha b hb=>?_⟩
 rcases aQy.mp hb with z | z
 ·rw [z];exact lo a ha
 ·exact aW1 (lo a ha) (hi b z)
theorem aJx{t:SetTable}(hd:t.dummies=#[])(hr:Ris t.place){f:Nat->Int}{h:Int}:∀ (n fuel k:Nat),n < fuel->(pth t.mask h (k+n)∉t.place.toList\/∃ i,t.place[i]? = some (pth t.mask h (k+n))/\f i=h) ->
  (∃ k',k<=k'/\k'<=k+n/\pth t.mask h k'∉t.place.toList/\(∀ q,k<=q->q < k'->∃ i,t.place[i]? = some (pth t.mask h q)/\f i≠h)/\SetTable.probe.go t f h fuel (nZ t.mask k (pst t.mask h))=some (.empty (pth t.mask h k') none)) \/
  (∃ k' i,k<=k'/\k'<=k+n/\t.place[i]? = some (pth t.mask h k')/\f i=h/\(∀ q,k<=q->q < k'->∃ i,t.place[i]? = some (pth t.mask h q)/\f i≠h)/\SetTable.probe.go t f h fuel (nZ t.mask k (pst t.mask h))=some (.candidate (pth t.mask h k') i (nZ t.mask (k'+1) (pst t.mask h))))
 | n,fuel+1,k,hn,he=>by
  unfold SetTable.probe.go
  by_cases z:pth t.mask h k∈t.place.toList
  ·obtain ⟨i,s1,s2⟩:=aBg hr z
   have s1:t.slot (nZ t.mask k (pst t.mask h)).j=.live i:=s1
   rw [s1]
   dsimp only
   by_cases y:f i=h
   ·rw [aQt (by rw [aTk];exact y)]
    exact .inr ⟨k,i,aQu _,aUo _ _,s2,y,fun q h1 h2=>by omega,rfl⟩
   ·rw [aQv (by rw [aTk];exact y)]
    cases n with
    | zero =>
     rcases he with e | ⟨i',e1,e2⟩
     ·exact absurd z e
     ·have:i=i':=by
       rcases aUe i i' with w | w | w
       ·exact absurd (hr _ _ _ _ w s2 e1) (aRt _)
       ·exact w
       ·exact absurd (hr _ _ _ _ w e1 s2) (aRt _)
      rw [this] at y
      exact absurd e2 y
    | succ n =>
     have ad:t.advance (nZ t.mask k (pst t.mask h))=nZ t.mask (k+1) (pst t.mask h):=rfl
     rw [ad]
     have ek:k+1+n=k+(n+1):=by omega
     rcases aJx hd hr n fuel (k+1) (by omega) (by rw [ek];exact he) with ⟨k',a1,a2,a3,a4,a5⟩ | ⟨k',i',a1,a2,a3,a4,a5,a6⟩
     ·refine .inl ⟨k',by omega,by omega,a3,fun q h1 h2=>?_,a5⟩
      rcases aSr k q with w | w
      ·exact a4 q w h2
      ·have:q=k:=by omega
       rw [this];exact ⟨i,s2,y⟩
     ·refine .inr ⟨k',i',by omega,by omega,a3,a4,fun q h1 h2=>?_,a6⟩
      rcases aSr k q with w | w
      ·exact a5 q w h2
      ·have:q=k:=by omega
       rw [this];exact ⟨i,s2,y⟩
  ·have s1:t.slot (nZ t.mask k (pst t.mask h)).j=.empty:=aEq hd z
   rw [s1]
   dsimp only
   rw [aGf]
   exact .inl ⟨k,aQu _,aUo _ _,z,fun q h1 h2=>by omega,rfl⟩
structure Tab(t:SetTable)(hs:List Int):Prop where
 d:t.dummies=#[]
 m:MOk t.mask
 r:Ris t.place
 s:t.place.size=hs.length
 z:hs.length<=t.mask
 p:∀ (i:Nat) h j,hs[i]? = some h->t.place[i]? = some j->∃ k,k<=10*(13+t.mask)/\pth t.mask h k=j/\∀ q,q < k->pth t.mask h q∈t.place.toList
theorem oA(t:SetTable)(j:Nat):(t.put j).1.place=SetTable.insertAt t.place (SetTable.below t.place j) j/\(t.put j).2=SetTable.below t.place j:=⟨rfl,rfl⟩
theorem aHk{t:SetTable}(hd:t.dummies=#[])(j:Nat):(t.put j).1.dummies=#[]:=by
 unfold SetTable.put
 rw [hd]
 rfl
theorem Tab.put{t:SetTable}{hs:List Int}(T:Tab t hs){h:Int}{k:Nat}(hk:k<=10*(13+t.mask))(hn:pth t.mask h k∉t.place.toList)(hp:∀ q,q < k->pth t.mask h q∈t.place.toList)(hz:hs.length+1<=t.mask) :
  Tab (t.put (pth t.mask h k)).1 (hs.take (t.put (pth t.mask h k)).2++h :: hs.drop (t.put (pth t.mask h k)).2):=by
 obtain ⟨b1,_,_⟩:=mY T.r (pth t.mask h k)
 have pl:=(oA t (pth t.mask h k)).1
 have pe:=(oA t (pth t.mask h k)).2
 have sub:∀ x∈t.place.toList,x∈(t.put (pth t.mask h k)).1.place.toList:=fun x hx=>by
  rw [pl,iT]
  rw [<- List.take_append_drop (SetTable.below t.place (pth t.mask h k)) t.place.toList] at hx
  rcases aSe.mp hx with z | z
  ·exact aTh _ z
  ·exact aQ5 _ (.tail _ z)
 have lt:(hs.take (t.put (pth t.mask h k)).2).length=SetTable.below t.place (pth t.mask h k):=by
  rw [pe,aSh]
  have:=T.s
  omega
 have lp:(t.place.toList.take (SetTable.below t.place (pth t.mask h k))).length=SetTable.below t.place (pth t.mask h k):=by
  rw [aSh,aQ4]
  omega
 refine ⟨aHk T.d _,T.m,by rw [pl];exact aHt T.r hn,?_,?_,fun i h' j e1 e2=>?_⟩
 ·rw [<- aQ4,pl,iT,aQz,aQz,aQp,aQp,lp,lt,aTa,aTa,aQ4,pe,T.s]
 ·rw [aQz,aQp,lt,aTa,pe]
  have:=T.s
  show _<=t.mask
  omega
 ·have up:∀ {h' j},(∃ k,k<=10*(13+t.mask)/\pth t.mask h' k=j/\∀ q,q < k->pth t.mask h' q∈t.place.toList)->∃ k',k'<=10*(13+t.mask)/\pth t.mask h' k'=j/\∀ q,q < k'->pth t.mask h' q∈(t.put (pth t.mask h k)).1.place.toList:=fun ⟨k',a,b,c⟩=>⟨k',a,b,fun q hq=>sub _ (c q hq)⟩
  rw [<- aQ8,pl,iT] at e2
  rcases aUe i (SetTable.below t.place (pth t.mask h k)) with z | z | z
  ·rw [aRo (by rw [lt];exact z),aU1] at e1
   rw [aRo (by rw [lp];exact z),aU1] at e2
   rw [pe,aQt z] at e1
   rw [aQt z,aQ8] at e2
   exact up (T.p i h' j e1 e2)
  ·rw [aRb (by rw [lt];omega),lt,z,aW3] at e1
   rw [aRb (by rw [lp];omega),lp,z,aW3] at e2
   cases e1
   cases e2
   exact ⟨k,hk,rfl,fun q hq=>sub _ (hp q hq)⟩
  ·rw [aRb (by rw [lt];omega),lt] at e1
   rw [aRb (by rw [lp];omega),lp] at e2
   obtain ⟨d,hd⟩:∃ d,i - SetTable.below t.place (pth t.mask h k)=d+1:=⟨i - SetTable.below t.place (pth t.mask h k) - 1,by omega⟩
   rw [hd,aQ6,aT3] at e1 e2
   rw [pe] at e1
   rw [aQ8] at e2
   exact up (T.p _ h' j e1 e2)
def aGc(l:List (Option Nat)):Nat:=(l.filterMap id).length
theorem y7:∀ (l:List (Option Nat)) (j k:Nat),l[j]? = some none->aGc (l.set j (some k))=aGc l+1
 | none :: l,0,k,_=>by simp [aGc]
 | x :: l,j+1,k,h=>by
  have ih:=y7 l j k h
  cases x<;>simp_all [aGc]
theorem aGd:∀ l:List (Option Nat),aGc l < l.length->∃ q:Nat,l[q]? = some none
 | none :: l,_=>⟨0,rfl⟩
 | some x :: l,h=>by
  have h:aGc l+1 < l.length+1:=h
  obtain ⟨q,hq⟩:=aGd l (by omega)
  exact ⟨q+1,hq⟩
theorem aCu:∀ n:Nat,aGc (List.replicate n none)=0
 | 0=>rfl
 | n+1=>aCu n
def Occ(ow:Array (Option Nat))(j:Nat):Prop:=∃ y,ow[j]? = some (some y)
theorem sG{mask:Nat}{ow:Array (Option Nat)}(hs:ow.size=mask+1){h:Int}:∀ (m fuel i p b:Nat),m < fuel->i<=mask->nZ mask b (pst mask h)=aAg mask i p->(∀ q,q < b->Occ ow (pth mask h q))->ow[(lpN mask i p m).1]? = some none ->
  ∃ j n,SetTable.layClean.free mask ow fuel i p=some j/\ow[j]? = some none/\n<=b+10*m/\pth mask h n=j/\∀ q,q < n->Occ ow (pth mask h q)
 | m,fuel+1,i,p,b,hk,hi,hb,hq,he=>by
  unfold SetTable.layClean.free
  have rl:SetTable.runEnd mask i<=mask/\i<=SetTable.runEnd mask i:=by unfold SetTable.runEnd;split<;>omega
  have r9:=aPh mask i
  have gd:∀ j,(ow.getD j (some 0)).isNone=true->ow[j]? = some none:=fun j z=>by
   cases q:ow[j]? with
   | none=>rw [aRy,q] at z;cases z
   | some x=>rw [aRy,q] at z;cases x with
    | none=>rfl
    | some y=>cases z
  have go:∀ j,j<=mask->¬ ((ow.getD j (some 0)).isNone=true)->Occ ow j:=fun j hj z=>by
   have hl:j < ow.size:=by omega
   cases q:ow[j]? with
   | none=>rw [aRf hl] at q;cases q
   | some x =>
    cases x with
    | none=>rw [aRy,q] at z;exact absurd rfl z
    | some y=>exact ⟨y,q⟩
  have at':∀ r,r<=SetTable.runEnd mask i - i->pth mask h (b+r)=i+r:=fun r hr=>by
   show (nZ mask (b+r) (pst mask h)).j=_
   rw [mW,hb,aCl mask i p r hr]
  cases q:(List.range (SetTable.runEnd mask i+1 - i)).find? fun k=>(ow.getD (i+k) (some 0)).isNone with
  | some k =>
   obtain ⟨z1,as,bs,e1,e2⟩:=List.find?_eq_some_iff_append.mp q
   have hkr:k < SetTable.runEnd mask i+1 - i:=aRz.mp (aUi q)
   have bef:∀ r,r < k->Occ ow (i+r):=fun r hr=>by
    refine go _ (by omega) fun w=>?_
    have hm:r∈List.range (SetTable.runEnd mask i+1 - i):=aRz.mpr (by omega)
    rw [e1] at hm
    rcases aSe.mp hm with y | y
    ·have:=e2 r y
     rw [w] at this
     cases this
    ·have srt:(as++k :: bs).Pairwise (· < ·):=by rw [<- e1];exact aWx
     have:=(List.pairwise_append.mp srt).2.1
     rcases aQy.mp y with x | x
     ·omega
     ·have:=(aSy.mp this).1 r x
      omega
   refine ⟨i+k,b+k,rfl,gd _ z1,?_,at' k (by omega),fun r hr=>?_⟩
   ·cases m with
    | zero =>
     have he:ow[i]? = some none:=he
     rcases Nat.eq_zero_or_pos k with y | y
     ·omega
     ·obtain ⟨x,hx⟩:=bef 0 y
      rw [Nat.add_zero,he] at hx
      cases hx
    | succ m=>omega
   ·rcases aSr r b with y | y
    ·exact hq r y
    ·have:=bef (r - b) (by omega)
     have a:=at' (r - b) (by omega)
     rw [show b+(r - b)=r by omega] at a
     rw [a]
     exact this
  | none =>
   dsimp only
   have all:∀ r,r<=SetTable.runEnd mask i - i->Occ ow (i+r):=fun r hr=>go _ (by omega) fun w=>by
    exact List.find?_eq_none.mp q r (aRz.mpr (by omega)) w
   cases m with
   | zero =>
    have he:ow[i]? = some none:=he
    obtain ⟨x,hx⟩:=all 0 (aRj _)
    rw [Nat.add_zero,he] at hx
    cases hx
   | succ m =>
    have hb':nZ mask (b+(SetTable.runEnd mask i - i+1)) (pst mask h)=aAg mask (SetTable.leap mask i p).1 (SetTable.leap mask i p).2:=by
     rw [mW,hb,aFz]
    obtain ⟨j,n,f1,f2,f3,f4,f5⟩:=sG hs m fuel _ _ _ (by omega) (aUd (aXb _ (aTe _))) hb' (fun r hr=>by
     rcases aSr r b with y | y
     ·exact hq r y
     ·have a:=at' (r - b) (by omega)
      rw [show b+(r - b)=r by omega] at a
      rw [a]
      exact all (r - b) (by omega)) he
    exact ⟨j,n,f1,f2,by omega,f4,f5⟩
structure Ly(mask:Nat)(ow:Array (Option Nat))(hs:List Int)(k:Nat):Prop where
 s:ow.size=mask+1
 c:aGc ow.toList=k
 v:∀ (j x:Nat),ow[j]? = some (some x)->x < k
 i:∀ (j j' x:Nat),ow[j]? = some (some x)->ow[j']? = some (some x)->j=j'
 p:∀ (j x:Nat) h,ow[j]? = some (some x)->hs[x]? = some h->∃ n,n<=10*(13+mask)/\pth mask h n=j/\∀ q,q < n->Occ ow (pth mask h q)
theorem aIp{mask:Nat}(hm:MOk mask){ow:Array (Option Nat)}{hs:List Int}{k:Nat}(o:Ly mask ow hs k)(hk:k<=mask){h:Int}(hh:hs[k]? = some h):∃ j,SetTable.layClean.free mask ow (SetTable.turns mask) (SetTable.bits h % (mask+1)) (SetTable.bits h)=some j/\Ly mask (ow.setIfInBounds j (some k)) hs (k+1):=by
 obtain ⟨q,hq⟩:=aGd ow.toList (by rw [o.c,aQ4,o.s];omega)
 rw [aQ8] at hq
 have q1:q<=mask:=by
  have:=(aSl.mp hq).1
  rw [o.s] at this
  omega
 have i0:SetTable.bits h % (mask+1)<=mask:=aUd (aXb _ (aTe _))
 obtain ⟨m,m1,m2⟩:=xM hm i0 (aA0 h) q1
 obtain ⟨j,n,j1,j2,j3,j4,j5⟩:=sG (mask:=mask) o.s (h:=h) m (SetTable.turns mask) _ (SetTable.bits h) 0 (by unfold SetTable.turns;omega) i0 rfl (fun q hq=>absurd hq (aUz _)) (by rw [m2];exact hq)
 have jl:=(aSl.mp j2).1
 have get:∀ a,(ow.setIfInBounds j (some k))[a]? = if j=a then some (some k) else ow[a]?:=fun a=>by
  rw [Array.getElem?_setIfInBounds]
  split
  ·rfl
  ·rfl
 have up:∀ a,Occ ow a->Occ (ow.setIfInBounds j (some k)) a:=fun a ⟨y,hy⟩=>by
  by_cases z:j=a
  ·exact ⟨k,by rw [get,aQt z]⟩
  ·exact ⟨y,by rw [get,aQv z];exact hy⟩
 refine ⟨j,j1,by simp [o.s],?_,fun a x z=>?_,fun a a' x z z'=>?_,fun a x h' z e=>?_⟩
 ·rw [Array.toList_setIfInBounds,y7 _ _ _ (by rw [aQ8];exact j2),o.c]
 ·rw [get] at z
  split at z
  ·cases z;omega
  ·have:=o.v a x z;omega
 ·rw [get] at z z'
  split at z
  ·split at z'
   ·omega
   ·cases z
    exact absurd (o.v a' k z') (aRt _)
  ·split at z'
   ·cases z'
    exact absurd (o.v a k z) (aRt _)
   ·exact o.i a a' x z z'
 ·rw [get] at z
  split at z
  ·rename_i y
   cases z
   rw [hh] at e
   cases e
   exact ⟨n,by omega,by rw [j4,y],fun q hq=>up _ (j5 q hq)⟩
  ·obtain ⟨n',a1,a2,a3⟩:=o.p a x h' z e
   exact ⟨n',a1,a2,fun q hq=>up _ (a3 q hq)⟩
theorem aA7{mask:Nat}(hm:MOk mask){hs:List Int}:∀ (l:List Int) (ow:Array (Option Nat)) (k:Nat),Ly mask ow hs k->k+l.length<=mask->(∀ i,l[i]? = hs[k+i]?)->∃ ow',l.foldl (fun acc h=>do
  let (owner,k) <- acc
  let j <- SetTable.layClean.free mask owner (SetTable.turns mask) (SetTable.bits h % (mask+1)) (SetTable.bits h)
  pure (owner.setIfInBounds j (some k),k+1)) (some (ow,k))=some (ow',k+l.length)/\Ly mask ow' hs (k+l.length)
 | [],ow,k,o,_,_=>⟨ow,rfl,o⟩
 | h :: l,ow,k,o,hk,hl=>by
  rw [aQp] at hk
  obtain ⟨j,j1,j2⟩:=aIp hm o (by omega) (h:=h) (hl 0).symm
  obtain ⟨ow',e,o'⟩:=aA7 hm l _ _ j2 (by omega) (fun i=>by
   have:=hl (i+1)
   rw [show k+1+i=k+(i+1) by omega]
   exact this)
  rw [show k+1+l.length=k+(h :: l).length by rw [aQp];omega] at e o'
  refine ⟨ow',?_,o'⟩
  rw [List.foldl_cons,<- e]
  congr 1
  show (SetTable.layClean.free mask ow _ _ _).bind _=_
  rw [j1]
  rfl
theorem aOe{mask:Nat}(hm:MOk mask)(hs:Array Int)(hk:hs.size<=mask):∃ ow,SetTable.layClean mask hs=some ow/\Ly mask ow hs.toList hs.size:=by
 have o0:Ly mask (Array.replicate (mask+1) none) hs.toList 0:=by
  have no:∀ (j x:Nat),(Array.replicate (mask+1) (none:Option Nat))[j]?≠some (some x):=fun j x z=>by
   rw [Array.getElem?_replicate] at z
   split at z<;>cases z
  exact ⟨by simp,by rw [Array.toList_replicate];exact aCu _,fun j x z=>absurd z (no j x),fun j _ x z=>absurd z (no j x),fun j x _ z=>absurd z (no j x)⟩
 obtain ⟨ow,e,o⟩:=aA7 hm hs.toList _ 0 o0 (by rw [aQ4];omega) (fun i=>by rw [aR8])
 rw [aQ4,aR8] at e o
 refine ⟨ow,?_,o⟩
 unfold SetTable.layClean
 rw [<- Array.foldl_toList]
 exact (aUn (Option.map Prod.fst) e).trans rfl
theorem tW{α β:Type}{f:α->Option β}:∀ {l:List α},(∀ x∈l,(f x).isSome=true)->(l.filterMap f).length=l.length
 | [],_=>rfl
 | x :: l,h=>by
  obtain ⟨y,hy⟩:=aRw.mp (h x (.head _))
  rw [aSd,hy]
  dsimp only
  rw [aQp,tW fun z hz=>h z (.tail _ hz),aQp]
theorem tL{α β:Type}{f:α->Option β}:∀ {l:List α} (i:Nat),(∀ x∈l,(f x).isSome=true)->(l.filterMap f)[i]? = (l[i]?).bind f
 | [],i,_=>by simp
 | x :: l,i,h=>by
  obtain ⟨y,hy⟩:=aRw.mp (h x (.head _))
  rw [aSd,hy]
  dsimp only
  cases i with
  | zero=>simp [hy]
  | succ i =>
   rw [aQ6,aQ6]
   exact tL i fun z hz=>h z (.tail _ hz)
theorem zI{α:Type}(g:Nat->Option α):∀ l:List Nat,(l.filterMap fun j=>(g j).map fun x=>(j,x)).map Prod.fst=l.filter fun j=>(g j).isSome
 | []=>rfl
 | x :: l=>by
  rw [aSd,List.filter_cons]
  cases g x with
  | none=>exact zI g l
  | some y=>exact aUn (x :: ·) (zI g l)
theorem uB{α:Type}(g:Nat->Option α):∀ l:List Nat,(l.filterMap fun j=>(g j).map fun x=>(j,x)).length=((l.map g).filterMap id).length
 | []=>rfl
 | x :: l=>by
  rw [aSd,aQx,aSd]
  cases g x with
  | none=>exact uB g l
  | some y=>exact aUn Nat.succ (uB g l)
theorem aB1(ow:Array (Option Nat)):(List.range ow.size).map (fun j=>ow.getD j none)=ow.toList:=by
 apply List.ext_getElem
 ·simp
 ·intro i h1 h2
  have:i < ow.size:=by simpa using h1
  simp [Array.getD,this]
theorem aDv{l:List Nat}{n:Nat}(nd:l.Nodup)(hl:l.length=n)(hb:∀ x∈l,x < n):l.Perm (List.range n):=by
 have key:∀ {l m:List Nat},l.Nodup->(∀ x∈l,x∈m)->m.length<=l.length->l.Perm m:=by
  intro l
  induction l with
  | nil =>
   intro m _ _ h
   have:m=[]:=aU2.mp (by simpa using h)
   rw [this]
  | cons x l ih =>
   intro m h s hl
   obtain ⟨h1,h2⟩:=aR3.mp h
   have hx:=s x (.head _)
   have q:=ih (m:=m.erase x) h2 (fun y hy=>(aVm (show y≠x from fun z=>h1 (by rw [<- z];exact hy))).mpr (s y (.tail _ hy))) (by rw [aWg hx];rw [aQp] at hl;omega)
   exact (q.cons x).trans (List.perm_cons_erase hx).symm
 exact key nd (fun x hx=>aRz.mpr (hb x hx)) (by rw [aR5,hl];exact aQu _)
theorem aBz{t:SetTable}{hs:List Int}{wanted:Nat}(hm:MOk (SetTable.sizeAbove wanted - 1))(hk:hs.length<=SetTable.sizeAbove wanted - 1):∃ t' order,t.relaid hs.toArray wanted=some (t',order)/\t'.mask=SetTable.sizeAbove wanted - 1/\t'.led=t.led/\t'.plain=t.plain/\order.toList.Perm (List.range hs.length)/\Tab t' (order.toList.filterMap (hs[·]?)):=by
 obtain ⟨ow,e,o⟩:=aOe hm hs.toArray (by rw [aQs];exact hk)
 rw [aQs] at o
 generalize hM:SetTable.sizeAbove wanted - 1=mask at *
 have hL:∀ y,y∈((List.range (mask+1)).filterMap fun j=>(ow.getD j none).map fun x=>(j,x))->ow[y.1]? = some (some y.2):=fun y hy=>by
  obtain ⟨j,hj,ej⟩:=aUt.mp hy
  have hj:j < ow.size:=by rw [o.s];exact aRz.mp hj
  rw [aRy,aRf hj] at ej
  cases q:ow[j] with
  | none=>rw [Option.getD_some,q] at ej;cases ej
  | some x =>
   rw [Option.getD_some,q] at ej
   cases ej
   rw [aRf hj,q]
 have ll:((List.range (mask+1)).filterMap fun j=>(ow.getD j none).map fun x=>(j,x)).length=hs.length:=by
  rw [uB,<- o.s,aB1]
  exact o.c
 have fs:=zI (fun j=>ow.getD j none) (List.range (mask+1))
 generalize hlive:((List.range (mask+1)).filterMap fun j=>(ow.getD j none).map fun x=>(j,x))=live at *
 have ris:(live.map Prod.fst).Pairwise (· < ·):=by
  rw [fs]
  exact aT9 List.filter_sublist aWx
 have nd:(live.map Prod.snd).Nodup:=by
  rw [List.Nodup,aTp]
  have:=aTp.mp ris
  refine aWh (fun {a b} ha hb w z=>?_) this
  have a1:=hL a ha
  have b1:=hL b hb
  rw [z] at a1
  have:=o.i _ _ _ a1 b1
  omega
 have hb:∀ x∈live.map Prod.snd,x < hs.length:=fun x hx=>by
  obtain ⟨y,hy,rfl⟩:=aRk.mp hx
  exact o.v _ _ (hL y hy)
 have some':∀ x∈live.map Prod.snd,(hs[x]?).isSome=true:=fun x hx=>by simp [hb x hx]
 unfold SetTable.relaid SetTable.laid
 rw [hM,e]
 refine ⟨_,_,rfl,rfl,rfl,rfl,?_,?_⟩
 ·show (List.map _ _).toArray.toList.Perm _
  rw [hlive,aRv]
  exact aDv nd (by rw [aQm,ll]) hb
 ·have e1:∀ (P:Array Nat) (Od:Array Nat),P=(live.map Prod.fst).toArray->Od=(live.map Prod.snd).toArray->Tab { mask:=mask,place:=P,dummies:=#[],finger:=t.finger,led:=t.led,moves:=t.movedTo mask,plain:=t.plain } (Od.toList.filterMap (hs[·]?)):=by
   rintro _ _ rfl rfl
   refine ⟨rfl,hm,xS ris,?_,?_,fun i h j e1 e2=>?_⟩
   ·show (live.map Prod.fst).toArray.size=_
    rw [aQs,aQm,tW some',aQm]
   ·rw [tW some',aQm,ll]
    exact hk
   ·rw [tL i some'] at e1
    have e2:(live.map Prod.fst).toArray[i]? = some j:=e2
    rw [aVg,aQ0] at e2
    rw [aQ0] at e1
    cases q:live[i]? with
    | none=>rw [q] at e2;cases e2
    | some y =>
     rw [q] at e1 e2
     cases e2
     obtain ⟨n,a1,a2,a3⟩:=o.p _ _ h (hL y (aS4 q)) (by simpa using e1)
     refine ⟨n,a1,a2,fun r hr=>?_⟩
     obtain ⟨x,hx⟩:=a3 r hr
     show _∈(live.map Prod.fst).toArray.toList
     rw [aRv,fs,aWz]
     have hl:=(aSl.mp hx).1
     refine ⟨aRz.mpr (by rw [<- o.s];exact hl),?_⟩
     show (ow.getD (pth mask h r) none).isSome=true
     rw [aRy,hx]
     rfl
  exact e1 _ _ (by rw [<- hlive]) (by rw [<- hlive])
open PySem.Spec PyProof.Rows
theorem uH{xs:Array Nat}(hr:Ris xs){i j a:Nat}(h1:xs[i]? = some a)(h2:xs[j]? = some a):i=j:=by
 rcases aUe i j with w | w | w
 ·exact absurd (hr _ _ _ _ w h1 h2) (aRt _)
 ·exact w
 ·exact absurd (hr _ _ _ _ w h2 h1) (aRt _)
section
variable {prog:Program}{w:World}{A:Around}{E:Value->Shared->Prop}{s:Shared}
abbrev IK(prog:Program)(w:World)(h:Heap)(k:List Int)(a:Addr):Prop:=IsTupleKey (intKind prog w) h k a
abbrev hK(prog:Program)(w:World)(k:List Int):Int:=tupleKeyHash (intKind prog w) k
theorem items_int{ks:List Int}{vs:List Value}(h:ItemsAre (intKind prog w) ks vs):∀ v∈vs,∃ i t,v=.int i t:=by
 induction h with
 | nil=>intro v hv;exact nomatch hv
 | @cons k v ks vs h1 _ ih =>
  intro x hx
  rcases aQy.mp hx with z | z
  ·subst z
   cases x with
   | int i t=>exact ⟨i,t,rfl⟩
   | _=>simp [intKind,Value.isInt] at h1
  ·exact ih x z
def Fit(mask n:Nat):Prop:=(mask=7/\n<=4)\/(mask=31/\n<=18)\/(mask=127/\n<=76)
theorem aE9{h:Heap}{S:Addr}{o:Obj}{es:Array (Int×Value)}{ep:Nat}{t:SetTable}(ho:h.get? S=some o)(hd:o.data=.set es ep t)(es':Array (Int×Value))(t':SetTable) :
  (h.update S (Obj.putSet es' t')).get? S=some { o with data:=.set es' (ep+1) t' }:=by
 have:=aT6 (Obj.putSet es' t') ho (by rw [putSet_of es' t' hd];rfl)
 rw [putSet_of es' t' hd] at this
 exact this
theorem aJo{α:Type}(l:List α):(List.range l.length).filterMap (l[·]?)=l:=by
 have h:∀ x∈List.range l.length,(l[x]?).isSome=true:=fun x hx=>by simp [aRz.mp hx]
 apply aS8
 intro i
 rw [tL i h]
 by_cases z:i < l.length
 ·rw [aTt z]
  rfl
 ·rw [aRi (by rw [aR5];omega),aRi (by omega)]
  rfl
theorem aGa{α:Type}(l:List α)(p:Nat)(hp:p<=l.length)(x:α)(i:Nat):(l.take p++x :: l.drop p)[i]? = if i < p then l[i]? else if i=p then some x else l[i - 1]?:=by
 have lt:(l.take p).length=p:=by rw [aSh];omega
 by_cases z:i < p
 ·rw [aQt z,aRo (by omega),aU1,aQt z]
 ·rw [aQv z,aRb (by omega),lt]
  by_cases y:i=p
  ·rw [aQt y,y,aW3]
   rfl
  ·rw [aQv y]
   obtain ⟨d,hd⟩:∃ d,i - p=d+1:=⟨i - p - 1,by omega⟩
   rw [hd,aQ6,aT3]
   congr 1
   omega
def yZ(w:World):Obj:={ cls:=.type "set",dict:=none,data:=.set #[] 0 (.fresh 0 0 (!w.params.followText "set-order")) }
theorem aAn(x:Value){Q₁:Value->Shared->Prop}(h:Q₁ (.ref s.heap.objs.size) { s with heap:=s.heap.push (yZ w) }) :
  codeAny (model prog w) A (.call (.builtin "set.__new__") ⟨[.type "set",x],[]⟩) (wants Q₁ E) s:=by
 refine codeAny_of_tree (show wpAny _ A.in1 (do checkBuiltinCall "set.__new__" ⟨[.type "set",x],[]⟩;again (.builtin "set.__new__" ⟨[.type "set",x],[]⟩)) _ _ s from ?_)
 refine aQl (aU8 (F.newCall_set_1 x) (aQo ⟨plainId_quiet F.plain_set_new _,aUw F.entry_set_new ?_⟩))
 rw [aVo F.plain_set_new _]
 unfold Builtin.«set.__new__» Builtin.Frozenset.newClass
 have hsub:=sub_set_self
 obtain ⟨hp,g,d,tk,os⟩:=s
 dsimp only
 wp_walk
 refine wpAny_askSetting (aQo ?_)
 dsimp only
 simp only [newObj]
 exact aQl (wpAny_alloc (aQo (aQo h)))
theorem zB{x:Value}{Q:Value->Shared->Prop}
  (h:wpAny (model prog w) A.in1.in1 (Builtin.«set.__init__» ⟨[.ref s.heap.objs.size,x],[]⟩)
   (fun fin s'=>match fin with | .done f=>wants (fun r s₂=>r=.none/\Q (.ref s.heap.objs.size) s₂) E (.ok f) s' | .again c'=>c'.quiet=true/\codeAny (model prog w) A.in1 c' (wants (fun r s₂=>r=.none/\Q (.ref s.heap.objs.size) s₂) E) s')
   (fun e s'=>wants (fun r s₂=>r=.none/\Q (.ref s.heap.objs.size) s₂) E (.error e) s') { s with heap:=s.heap.push (yZ w) }) :
  wpAny (model prog w) A (call (.type "set") [x]) Q E s:=by
 have ft:=F.called_set
 obtain ⟨c,tl,hmro⟩:=ft.mro
 have hmade:=ft.made
 have hsub:=ft.sub
 have h1:=ft.notType
 have h2:=ft.canCreate
 have hct:=F.typeCall_set_1 x
 refine wpAny_call (codeAny_of_tree (aQo ⟨Code.quiet_builtin _ (by decide +kernel),aUw F.entry_type_call ?_⟩))
 rw [Around.under_plain (weight_type_call_type "set" [x] []) rfl]
 repeat (any_goals (first | assumption | wp_step))
 refine aUr (aAn x (E:=E) (Q₁:=fun obj s₁=>obj=.ref s.heap.objs.size/\s₁={ s with heap:=s.heap.push (yZ w) }) ⟨rfl,rfl⟩) fun r s₁ hr=>?_
 cases r with
 | error e=>exact hr
 | ok fl =>
  cases fl with
  | ret obj =>
   obtain ⟨rfl,rfl⟩:=hr
   have hT:Shared.TypeIs { s with heap:=s.heap.push (yZ w) } (.ref s.heap.objs.size) "set":=⟨_,aQ9 _ rfl,rfl⟩
   have hli:=ft.init.lookup
   have hbi:=ft.init.bind (.ref s.heap.objs.size)
   repeat (any_goals (first | assumption | wp_step))
   refine aUr (aVl ft.init.plain F.entry_set_init (check_set_init_1 hT h)) fun r₂ s₂ hr₂=>?_
   cases r₂ with
   | error e=>exact hr₂
   | ok f2 =>
    cases f2 with
    | ret u =>
     obtain ⟨rfl,hq⟩:=hr₂
     repeat (any_goals (first | assumption | wp_step))
    | _=>exact hr₂.elim
  | _=>exact hr.elim
end
section
variable {prog:Program}{w:World}{A:Around}{E:Value->Shared->Prop}{s:Shared}{S I:Addr}{hs:List Int}{o:Obj}{es:Array (Int×Value)}{ep:Nat}{t:SetTable}
end
end HS
namespace L2
open PySem PySem.Spec PyProof.Rows
theorem aCp{α:Type}[DecidableEq α]:∀ {l m:List α},l.Nodup->m.Nodup->(∀ x,x∈l↔x∈m)->l.Perm m
 | [],m,_,_,h=>by
  cases m with
  | nil=>exact List.Perm.refl _
  | cons x m=>exact absurd ((h x).mpr (.head _)) (List.not_mem_nil)
 | x :: l,m,h1,h2,h=>by
  obtain ⟨n1,n2⟩:=aR3.mp h1
  have hx:=(h x).mp (.head _)
  have p:=List.perm_cons_erase hx
  refine (List.Perm.cons x (aCp n2 (aT9 (List.erase_sublist) h2) fun y=>?_)).trans p.symm
  by_cases e:y=x
  ·subst e
   constructor
   ·exact fun z=>absurd z n1
   ·exact fun z=>absurd z (by
     have:=p.nodup_iff.mp h2
     exact (aR3.mp this).1)
  ·rw [aVm e,<- h y,aQy]
   exact ⟨fun z=>.inr z,fun z=>z.resolve_left e⟩
section
variable {X:Cx}
theorem aH4:bootBuiltins "set" = some (.type "set"):=by decide +kernel
theorem vR:∀ {xs:List V} {us:List Value},Vals xs us->∀ (i:Nat) v,us[i]? = some v->∃ x,xs[i]? = some x/\RelV x v
 | _,_,.nil,i,v,h=>by simp at h
 | _,_,.cons r t,0,v,h=>by
  simp at h
  exact ⟨_,rfl,h▸r⟩
 | _,_,.cons r t,i+1,v,h=>vR t i v h
theorem aNr{P:Program}{w:World}{H:Hp}{h:Heap}{b:Addr}{k:List Int}(ok:HOk P w H h)(e:H b=some (.tup (k.map V.int))):HS.IK P w h k b:=by
 obtain ⟨_,its,rv,o,ho,hc,n,hd⟩:=(show ObjOk P w H h b (.tup (k.map V.int)) from ok b _ e)
 refine ⟨o,its.toArray,n,ho,hc,hd,?_⟩
 rw [aRv]
 have key:∀ {ns:List Int} {vs:List Value},IntsAre vs ns->ItemsAre (intKind P w) ns vs:=by
  intro ns vs q
  induction q with
  | nil=>exact .nil
  | cons i t _ ih=>exact .cons (intKind_is _ _ _ _) ih
 exact key (intsAre_of rv)
end
end L2
namespace M
open PySem PySem.Spec PyProof.Rows L2
end M
namespace HS
open PySem PySem.Spec PyProof.Rows
section
open PySem.SeqAt
open PySem.AutoSeq1 (wpAny_loadPart')
open PySem.MeetsSeq PySem.MeetsSeq2 PySem.MeetsSeq3
end
section
variable {prog:Program}{w:World}{A:Around}{E:Value->Shared->Prop}{s:Shared}
theorem aCi{ks:List Int}{vs:List Value}(h:ItemsAre (intKind prog w) ks vs):IntsAre vs ks:=by
 induction h with
 | nil=>exact .nil
 | @cons k v ks vs h1 _ ih =>
  cases v with
  | int i t =>
   have:i=k:=by simpa [intKind,Value.isInt] using h1
   rw [this]
   exact .cons k t ih
  | _=>simp [intKind,Value.isInt] at h1
end
section
variable {prog:Program}{w:World}{A:Around}{R:Result->Shared->Prop}{I S:Addr}{fp wr:List Addr}{n:Nat}{P:Nat->Value->Prop}{St:Nat->Heap->Prop}{Ok:Heap->Prop}{bt:Nat->Nat->Bool}
end
section
variable {prog:Program}{w:World}{A:Around}{E:Value->Shared->Prop}{s:Shared}
end
section
variable {prog:Program}{w:World}{A:Around}{R:Result->Shared->Prop}{I S:Addr}{fp wr:List Addr}{n:Nat}{P:Nat->Value->Prop}{St:Nat->Heap->Prop}{Ok:Heap->Prop}{bt:Nat->Nat->Bool}
end
section
variable {prog:Program}{w:World}{A:Around}{E:Value->Shared->Prop}{s:Shared}
end
end HS
namespace L2
open PySem PySem.Spec PyProof.Rows
section
variable {X:Cx}
end
end L2
namespace M
open PySem PySem.Spec PyProof.Rows L2
section
variable {K:aQk}{f:List (List Int)->Nat->Nat->Bool}
end
end M
namespace L2
open PySem PySem.Spec PyProof.Rows
section
variable {X:Cx}{pins:List (Addr×Obj)}{σ:St}{H:Hp}{s:Shared}
end
end L2
namespace SRT
open PySem PySem.W PyProof.Rows L2
section
variable {prog:Program}{w:World}{A:Around}{E:Value->Shared->Prop}{s:Shared}
end
end SRT
namespace L2
open PySem PySem.Spec PyProof.Rows
section
variable {X:Cx}{pins:List (Addr×Obj)}{σ:St}
end
section
variable {X:Cx}{tg:Expr}
def aO8(K:aQk):List V->Hp->VK->Prop:=fun xs H Q=>∃ (a:Addr) (bs:List Bool),xs=[.ref a]/\SqL K H a (bs.map V.bl)/\Q (.bl (bs.all id)) H
theorem all_range(bs:List Bool):((List.range bs.length).all fun i=>(bs[i]?).getD false)=bs.all id:=by
 rw [Bool.eq_iff_iff,aSi,aSi]
 constructor
 ·intro h b hb
  obtain ⟨i,hi,e2⟩:=aTi.mp hb
  have:=h i (aRz.mpr hi)
  simpa [hi,e2] using this
 ·intro h i hi
  have hi:=aRz.mp hi
  have:=h bs[i] (aSs hi)
  simpa [hi] using this
theorem vO(hc:X.calm=true){K:aQk}(hK:X.K=K):lU X (.builtin "all") (aO8 K):=by
 subst hK
 intro pins s σ H xs us Q I r h
 obtain ⟨a,bs,rfl,hq,q⟩:=h
 obtain ⟨u,rfl,ru⟩:=vals1 r
 cases ru
 obtain ⟨its,rv,p,hz⟩:=I.list hq
 have ei:=aBp rv
 have hl:=p.isList
 have lt:a < s.heap.objs.size:=by obtain ⟨_,e,_⟩:=hl;exact aQw e
 refine call_all_walk (aWc hl ?_)
 refine ⟨s.heap.objs.size,[s.heap.objs.size,a],[s.heap.objs.size],its.toArray.size,_,_,fun i=>(bs[i]?).getD false,rfl,Walks.list (A:=X.A.in1) (I.ok.hd hc) _ a (aRa lt) its.toArray,
  ⟨⟨_,aQ9 _ rfl,rfl,rfl⟩,hl.push _⟩,fun i v s' Q' E' hP hQ=>?_,fun h' tk hk=>?_⟩
 ·have e:its[i]? = some v:=by simpa using hP
  rw [ei,aQ0] at e
  cases eb:bs[i]? with
  | none=>rw [eb] at e;cases e
  | some b =>
   have hQ:Q' ((bs[i]?).getD false) s':=hQ
   rw [eb] at e hQ
   cases e
   exact aS7 hQ
 ·have e:its.toArray.size=bs.length:=by rw [aQs,ei,aQm]
  rw [e,all_range]
  exact ⟨.bl (bs.all id),H,I.kept (aBl hk),rfl,q⟩
end
end L2
namespace M
open PySem PySem.Spec PyProof.Rows L2
section
variable {K:aQk}
def aC2(rs:List Ev):Res Ev:=match rs with
 | [x]=>match iO x with
  | some ds=>match sJ ds with
   | some bs=>.ok (.p (.bool (bs.all id)))
   | none=>.bad
  | none=>.bad
 | _=>.bad
theorem aBf:aA8 aC2:=by
 intro rs C h
 unfold aC2 at h
 split at h
 ·split at h
  ·split at h<;>cases h
  ·cases h
 ·cases h
theorem aF7:nN K (aO8 K) aC2:=by
 intro W Hs G H vs rs Q gh he hw
 unfold aC2 at hw
 split at hw
 ·rename_i x
  match vs,he with
  | [v],⟨h1,_⟩ =>
   split at hw
   ·rename_i ds ed
    obtain ⟨a,xs,rfl,k1,k2⟩:=n9 gh h1 ed
    split at hw
    ·rename_i bs eb
     have:=v8 eb k2
     subst this
     exact ⟨a,bs,rfl,.inl k1,hw G H _ (Step.refl gh) (.bl _)⟩
    ·exact hw.elim
   ·exact hw.elim
 ·exact hw.elim
end
open Classical in
noncomputable def sW(K:aQk)(f:Str)(x:Ev):Res Ev:=match x with
 | .x (.i C fs)=>if L2.Cls K C/\NoAttr K C f then match fs.lookup f with
   | some d=>.ok (.p d)
   | none=>.bad
  else .bad
 | _=>.bad
theorem FRep.look{K:aQk}{G:Hp}{f:Str}:∀ {gs:List (Str×V)} {fs:List (Str×D)},FRep K G gs fs->(fs.lookup f=none->gs.lookup f=none)/\∀ d,fs.lookup f=some d->∃ v,gs.lookup f=some v/\Rep K G v d
 | [],[],_=>⟨fun _=>rfl,fun _ h=>nomatch h⟩
 | (n,v) :: gs,(m,d) :: fs,h=>by
  obtain ⟨h1,h2,h3⟩:=h
  dsimp only at h1 h2
  subst h1
  obtain ⟨i1,i2⟩:=FRep.look (f:=f) h3
  rw [List.lookup_cons,List.lookup_cons]
  cases f == n with
  | true=>exact ⟨(fun z=>nomatch z),fun e z=>by cases z;exact ⟨v,rfl,h2⟩⟩
  | false=>exact ⟨i1,i2⟩
section
variable {X:Cx}{E:L2.St->XK}{e:Expr}{fe:En->Res Ev}{f:Str}{pos:Pos}
theorem pL(he:DE X E e fe)(hb:attributeBase e f X.env (eval e X.env)=eval e X.env:=by rfl):DE X E (.Attribute e f pos) (mUn (sW X.K f) fe):=by
 obtain ⟨t,q,m⟩:=he.out
 refine DE.in ⟨_,aKv q hb,fun B G0 G W H σ en Q hh hs hw=>m B G0 G W H σ en _ hh hs (DE.go hw fun x G1 H1 u s1 e1 k1=>?_)⟩
 unfold sW at k1
 split at k1
 ·rename_i C fs ex
  rw [ex] at e1
  obtain ⟨a,dx,gs,rfl,g1,fr⟩:=e1
  split at k1
  ·rename_i hc
   split at k1
   ·rename_i d el
    obtain ⟨v,ev,rv⟩:=(FRep.look fr).2 d el
    exact ⟨a,C,dx,gs,v,rfl,s1.gh _ _ g1,hc.1,hc.2,ev,k1 G1 H1 _ (Step.refl s1.gh) rv⟩
   ·exact k1.elim
  ·exact k1.elim
 ·exact k1.elim
end
structure aJ5(P:Program)(w:World)(K:aQk)(mg:Str->Option Value)(base:Heap)(k:Nat)(C:Addr)(x:Str)(n:Nat)(m:List L->Res L):Prop where
 ex:∃ f fd ps,FnOk P w K mg base (CXr P w) k f fd ps (spM K n m)/\Binds K fd ps []/\aMs K C x f
 cl:L2.Cls K C
structure aMw(K:aQk)(C:Addr)(x qual:Str)(ps:List Str)(st:Stmt):Prop where
 ex:∃ f fd,Fun K x qual st f fd/\Binds K fd ps []/\aMs K C x f
 cl:L2.Cls K C
def yF(C:Addr)(x:Str)(n:Nat)(m:List L->Res L)(fo:En->Res Ev)(fr:En->Res (List Ev)):En->Res Ev:=fun en=>(fo en).bind fun r=>match r with
 | .x (.i C' fs)=>if C'=C/\fs.lookup x=none then (fr en).bind fun rs=>iW n m (.x (.i C' fs) :: rs) else .bad
 | _=>.bad
theorem EOks.back{K:aQk}{W:Addr->Option Nat}{H H1 G2 H2:Hp}(s:Same H H1):∀ {vs:List V} {rs:List Ev},EOks K W H1 G2 H2 vs rs->EOks K W H G2 H2 vs rs
 | [],[],h=>h
 | [],_ :: _,h=>h
 | _ :: _,[],h=>h
 | v :: vs,r :: rs,h=>by
  refine ⟨?_,EOks.back s h.2⟩
  have z:=h.1
  cases r with
  | p d=>exact z
  | b d=>exact z
  | x d=>exact z
  | f d =>
   obtain ⟨a,o,h1,h2,h3⟩:=z
   exact ⟨a,o,h1,s.free h2,h3⟩
section
variable {P:Program}{w:World}{K:aQk}{mg:Str->Option Value}{base:Heap}
theorem aOx{C:Addr}{x qual:Str}{st:Stmt}{N ps:List Str}{k n:Nat}{m:List L->Res L}(Df:aMw K C x qual ps st)(S:bV N ps (aQ st))(hn:n=ps.length)
  (hbody:∀ (f:Addr) (cdv:Value) (A:Around) (outer:List Env) (s:Shared) (H:Hp) (E:XK),Room k (A.deeper (envOfC qual (aQ st) s.heap.objs.size f cdv)) ->
   ∃ fm,DSs (j8 (CXr P w) P w K mg base N qual (aQ st) f cdv A outer s H E) (fun _=>E) (dM st) fm/\∀ ls,m ls=.bad\/gS N.length fm ls=m ls):aJ5 P w K mg base (k+1) C x n m:=by
 obtain ⟨f,fd,F,b,M⟩:=Df.ex
 exact ⟨⟨f,fd,ps,fnM F S hn fun cdv A outer s H E hr=>hbody f cdv A outer s H E hr,b,M⟩,Df.cl⟩
end
section
variable {X:Cx}{E:XK}{k j:Nat}{C:Addr}{x:Str}{pos apos:Pos}{o e:Expr}{es:List Expr}{fo:En->Res Ev}{fr:En->Res (List Ev)}{n:Nat}{m:List L->Res L}
theorem aBr{pl:Sem Bool}(c:aJ5 X.prog X.w X.K X.mg X.base j C x n m)(hr:Room k X.A)(hx:kI (CXr X.prog X.w) X (fun _=>E))(ho:DE X (fun _=>E) o fo)(ha:DA X (fun _=>E) (e :: es) fr)(hjk:j<=k:=by decide)
  (hst:starEach (e :: es) X.env=(false,eval e X.env) :: starEach es X.env:=by rfl) (hpl:(backTo pos (starEach es X.env)).any (·.1)=false:=by rfl)
  (ht:eval (.Call (.Attribute o x apos) (e :: es) [] pos) X.env=(do
   let ov <- eval o X.env
   standAt apos.atName
   let (f,first) <- holding [ov] (getMethod ov x pl)
   callWith pos f first (backTo pos (starEach (e :: es) X.env)) (backToKw pos (keywordEach [] X.env))):=by rfl) :
  DE X (fun _=>E) (.Call (.Attribute o x apos) (e :: es) [] pos) (yF C x n m fo fr):=by
 obtain ⟨f,fd,ps,F,b,M⟩:=c.ex
 obtain ⟨t1,q1,m1⟩:=ho.out
 obtain ⟨t2,q2,m2⟩:=ha.out
 refine DE.in ⟨_,aIq q1 c.cl M (F.mono hjk) hr b .nil hx q2 hst hpl ht,fun B G0 G W H σ en Q hh hs hw=>m1 B G0 G W H σ en _ hh hs ?_⟩
 have hw:wpR ((fo en).bind _) _ _:=hw
 rw [b7] at hw
 refine bD hw (fun r hr G1 H1 v s e1=>?_) fun C h=>h
 split at hr
 ·rename_i C' fs
  split at hr
  ·rename_i hc
   obtain ⟨rfl,hl⟩:=hc
   have e1':EOk X.K W H G1 H1 v (Ev.c (.x (.i C' fs))):=e1
   obtain ⟨a,dx,gs,rfl,g1,fr⟩:=e1
   refine ⟨a,dx,gs,rfl,s.gh _ _ g1,(FRep.look fr).1 hl,m2 B G0 G1 W H1 σ en _ (hh.step s) (hs.step s) ?_⟩
   rw [b7] at hr
   refine bD hr (fun rs hrs G2 H2 vs s2 e2=>?_) fun C h=>h.step s
   show spM X.K n m (V.ref a :: (vs++[])) H2 Q E
   rw [aSo]
   exact rQ (rs:=.x (.i C' fs) :: rs) hh (s.trans s2) ⟨EOk.step (r:=.x (.i C' fs)) e1' s2,e2.back s.h⟩ hrs
  ·exact hr.elim
 ·exact hr.elim
end
def wo(x:Addr)(H:Hp):Hp:=fun b=>if b=x then none else H b
theorem aG4{x b:Addr}{H:Hp}(h:b≠x):wo x H b=H b:=aQv h
theorem uN{x b:Addr}{H:Hp}{o:HO}(h:wo x H b=some o):b≠x/\H b=some o:=by
 unfold wo at h
 split at h
 ·cases h
 ·rename_i z;exact ⟨z,h⟩
def fvE(r:Res Ev):Option D:=match r with
 | .ok (.p d)=>if lfD d=true then some d else none
 | .ok (.f (.list ds))=>if lfA ds=true then some (.list ds) else none
 | _=>none
def FV(K:aQk)(H G:Hp)(v:V)(d:D):Prop:=Rep K G v d/\(lfD d=true\/∃ a ds,v=.ref a/\H a=none/\d=.list ds/\lfA ds=true)
structure Ini(x:Addr)(G H G' H':Hp):Prop where
 g:Same G G'
 h:Same (wo x H) H'
 gh:Same G' H'
 gx:G' x=none
 new:∀ b,b≠x->H b≠none->G b=none->G' b=none\/∃ xs,H b=some (.tup xs)
def spI(K:aQk)(C:Addr)(n:Nat)(f1 f2:Str)(mi:List L->Option (D×D)):Sp:=fun vs H Q E=>vs.length=n+1/\∃ x dx us G ls,vs=.ref x :: us/\H x=some (.ins C dx [])/\G x=none/\Same G H/\ArgsOk K G us ls /\
 ∃ d,mi ls=some d/\∀ G' H' v1 v2,Ini x G H G' H'->H' x=some (.ins C dx [(f1,v1),(f2,v2)])->FV K H G' v1 d.1->FV K H G' v2 d.2->Q .non H'
theorem aGb{K:aQk}{E:L2.St->XK}{t:TE}{g:En->Res Ev}{f:Str}{C x dx:Addr}{gs:List (Str×V)}{σ:L2.St}{en:En}{B G0 G H:Hp}{D0:Ends}{d:D}
  (hm:∀ B G0 G W H σ en Q,SimH B G0 G W H->SimS K W G H σ en->wpR (g en) (PostE K W G H Q) (PostX (E σ) G H)->t σ H Q)
  (hc:L2.Cls K C) (hn:NoAttr K C f) (hl:gs.length < 1000) (hσ:σ[0]? = some (some (.ref x))) (hx:H x=some (.ins C dx gs)) (gx:G x=none) (hh:SimH B G0 G (fun _=>none) H) (hs:SimS K (fun _=>none) G H σ en) (hd:fvE (g en)=some d)
  (k:∀ G1 H1 v,Step G H G1 H1->FV K H G1 v d->H1 x=some (.ins C dx gs)->G1 x=none->D0.nx σ (upd H1 x (.ins C dx (oY f v gs)))):aO6 K (xX 0) t f D0 σ H:=by
 have nt:∀ xs,HO.ins C dx gs≠.tup xs:=fun xs z=>by cases z
 refine hm B G0 G _ H σ en _ hh hs ?_
 unfold fvE at hd
 split at hd
 ·rename_i d' eg
  split at hd
  ·rename_i hf
   cases hd
   rw [eg]
   intro G1 H1 v s e1
   have h1:=s.h _ _ hx
   exact ⟨_,hσ,x,C,dx,gs,rfl,h1,hc,hn,hl,k G1 H1 v s ⟨e1,.inl hf⟩ h1 (s.off hx nt gx)⟩
  ·cases hd
 ·rename_i ds eg
  split at hd
  ·rename_i hf
   cases hd
   rw [eg]
   intro G1 H1 v s e1
   obtain ⟨G2,s2,e2⟩:=EOk.c s e1
   obtain ⟨a,o,rfl,ha,_⟩:=e1
   have h1:=s.h _ _ hx
   exact ⟨_,hσ,x,C,dx,gs,rfl,h1,hc,hn,hl,k G2 H1 _ s2 ⟨e2,.inr ⟨a,ds,rfl,ha,rfl,hf⟩⟩ h1 (s2.off hx nt gx)⟩
  ·cases hd
 ·cases hd
theorem FV.step{K:aQk}{H G G':Hp}{v:V}{d:D}(h:FV K H G v d)(s:Same G G'):FV K H G' v d:=⟨h.1.mono s,h.2⟩
section
variable {P:Program}{w:World}{K:aQk}{mg:Str->Option Value}{base:Heap}
def miF(g1 g2:En->Res Ev)(ls:List L):Option (D×D):=match fvE (g1 (none :: ls.map some)),fvE (g2 (none :: ls.map some)) with
 | some d1,some d2=>some (d1,d2)
 | _,_=>none
theorem xR{K:aQk}{W:Addr->Option Nat}{G H:Hp}{v:V}{us:List V}{ls:List L}(h:ArgsOk K G us ls):SimS K W G H (some v :: us.map some) (none :: ls.map some):=by
 have hl:=h.length
 refine ⟨by simp [hl],fun i l e=>?_⟩
 cases i with
 | zero=>simp at e
 | succ i =>
  rw [aQ6,aQ0] at e
  cases q:ls[i]? with
  | none=>rw [q] at e;simp at e
  | some l' =>
   rw [q] at e
   simp at e
   subst e
   obtain ⟨u,hu,hz⟩:=lV (W:=W) (H:=H) i l' h q
   exact ⟨u,by rw [aQ6,aQ0,hu];rfl,hz (i+1)⟩
theorem aOp{x qual:Str}{st:Stmt}{f C:Addr}{fd:FuncData}{N ps:List Str}{k n:Nat}{f1 f2:Str}{g1 g2:En->Res Ev}(F:Fun K x qual st f fd)(S:bV N ps (aQ st))(hn:ps.length=n+1)(hN:N=ps)(hc:L2.Cls K C)(n1:NoAttr K C f1)(n2:NoAttr K C f2)(ne:f1≠f2)
  (hbody:∀ (cdv:Value) (A:Around) (outer:List Env) (s:Shared) (H:Hp) (E:XK),Room k (A.deeper (envOfC qual (aQ st) s.heap.objs.size f cdv)) ->
   ∃ (p1 p2 q1 q2 r1 r2:Pos) (e1 e2:Expr),dM st=[.Assign [.Attribute (.Name "self" p1) f1 q1] e1 r1,.Assign [.Attribute (.Name "self" p2) f2 q2] e2 r2] /\
    PE (j8 (CXr P w) P w K mg base N qual (aQ st) f cdv A outer s H E) (.Name "self" p1) (xX 0)/\PE (j8 (CXr P w) P w K mg base N qual (aQ st) f cdv A outer s H E) (.Name "self" p2) (xX 0) /\
    DE (j8 (CXr P w) P w K mg base N qual (aQ st) f cdv A outer s H E) (fun _=>E) e1 g1/\DE (j8 (CXr P w) P w K mg base N qual (aQ st) f cdv A outer s H E) (fun _=>E) e2 g2 /\
    swapsWith e1 (some (.Attribute (.Name "self" p1) f1 q1)) r1.line (j8 (CXr P w) P w K mg base N qual (aQ st) f cdv A outer s H E).env=pure false/\swapsWith e2 (some (.Attribute (.Name "self" p2) f2 q2)) r2.line (j8 (CXr P w) P w K mg base N qual (aQ st) f cdv A outer s H E).env=pure false) :
  FnOk P w K mg base (CXr P w) (k+1) f fd ps (spI K C n f1 f2 (miF g1 g2)):=by
 refine F.okX S (fun vs H Q E h=>?_) (fun cdv A outer s H vs Q E hr h=>?_)
 ·rw [hn];exact h.1
 ·obtain ⟨p1,p2,q1,q2,r1,r2,e1,e2,hb,pe1,pe2,de1,de2,w1,w2⟩:=hbody cdv A outer s H E hr
  obtain ⟨t1,pt1,m1⟩:=de1.out
  obtain ⟨t2,pt2,m2⟩:=de2.out
  refine ⟨_,by rw [hb];exact qA (aFs pe1 pt1 w1) (qA (aFs pe2 pt2 w2) aAc),?_⟩
  obtain ⟨hl,x,dx,us,G,ls,rfl,hx,gx,gh,ha,d,hmi,want⟩:=h
  have hl2:us.length=n:=by rw [aQp] at hl;omega
  have est:L2.start N (.ref x :: us)=some (.ref x) :: us.map some:=by
   unfold L2.start
   rw [hN,hn,aQp,hl2,aW3]
   simp
  have d12:∃ d1 d2,fvE (g1 (none :: ls.map some))=some d1/\fvE (g2 (none :: ls.map some))=some d2/\d=(d1,d2):=by
   unfold miF at hmi
   split at hmi
   ·rename_i d1 d2 h1 h2;cases hmi;exact ⟨d1,d2,h1,h2,rfl⟩
   ·cases hmi
  obtain ⟨d1,d2,hd1,hd2,rfl⟩:=d12
  rw [est]
  have aMm:SimH (wo x H) G G (fun _=>none) H:=⟨gh,fun b o e=>(uN e).2,Same.refl _,fun _ hb=>.inl hb,fun a i e=>nomatch e⟩
  refine aGb (gs:=[]) (E:=fun _=>E) m1 hc n1 (by decide) rfl hx gx aMm (xR ha) hd1 fun G1 H1 v1 st1 fv1 hx1 gx1=>?_
  have g1h:Same G1 (upd H1 x (.ins C dx (oY f1 v1 []))):=fun b o e=>by
   have ne:b≠x:=fun z=>by rw [z,gx1] at e;cases e
   rw [bB ne];exact st1.gh _ _ e
  have woh:Same (wo x H) (upd H1 x (.ins C dx (oY f1 v1 []))):=fun b o e=>by
   obtain ⟨ne,e⟩:=uN e
   rw [bB ne];exact st1.h _ _ e
  have sim1:SimH (wo x H) G G1 (fun _=>none) (upd H1 x (.ins C dx (oY f1 v1 []))):=by
   refine ⟨g1h,woh,st1.g,fun b hb=>?_,fun a i e=>nomatch e⟩
   by_cases z:G b=none
   ·refine .inr ?_
    by_cases y:b=x
    ·rw [y,gx1] at hb;exact absurd rfl hb
    ·by_cases u:H b=none
     ·exact .inl (by rw [aG4 y];exact u)
     ·rcases st1.new b u z with q | ⟨xs,q⟩
      ·exact absurd q hb
      ·exact .inr ⟨xs,by rw [aG4 y];exact q⟩
   ·exact .inl z
  have ha1:ArgsOk K G1 us ls:=by
   clear want hmi hd1 hd2 est hl hl2
   induction us generalizing ls with
   | nil=>cases ls with
    | nil=>exact trivial
    | cons l ls=>exact ha
   | cons u us ih=>cases ls with
    | nil=>exact ha
    | cons l ls =>
     refine ⟨?_,ih ls ha.2⟩
     have z:=ha.1
     cases l with
     | p d=>exact z.mono st1.g
     | x C=>exact XOk.mono st1.g z
     | h a=>exact z.elim
     | o d=>exact z.elim
  refine aGb (gs:=[(f1,v1)]) (E:=fun _=>E) m2 hc n2 (show 1 < 1000 by decide) rfl bJ gx1 sim1 (xR ha1) hd2 fun G2 H2 v2 st2 fv2 hx2 gx2=>?_
  have e12:oY f2 v2 [(f1,v1)]=[(f1,v1),(f2,v2)]:=by
   show (if f1=f2 then _ else _)=_
   rw [aQv ne]
   rfl
  refine want G2 _ v1 v2 ⟨st1.g.trans st2.g,fun b o e=>?_,fun b o e=>?_,gx2,fun b nb hb hg=>?_⟩ (by rw [bJ,e12]) (fv1.step st2.g) ⟨fv2.1,?_⟩
  ·obtain ⟨nb,_⟩:=uN e
   rw [bB nb];exact st2.h _ _ (woh _ _ e)
  ·have nb:b≠x:=fun z=>by rw [z,gx2] at e;cases e
   rw [bB nb];exact st2.gh _ _ e
  ·rcases st1.new b hb hg with z | z
   ·have hb1:upd H1 x (.ins C dx (oY f1 v1 [])) b≠none:=by rw [bB nb];exact oG st1.h hb
    rcases st2.new b hb1 z with y | ⟨xs,y⟩
    ·exact .inl y
    ·rw [bB nb] at y
     cases e:H b with
     | none=>exact absurd e hb
     | some o=>rw [st1.h _ _ e] at y;exact .inr ⟨xs,y⟩
   ·exact .inr z
  ·rcases fv2.2 with z | ⟨a,ds,r1,r2,r3,r4⟩
   ·exact .inl z
   ·refine .inr ⟨a,ds,r1,?_,r3,r4⟩
    cases e:H a with
    | none=>rfl
    | some o =>
     by_cases y:a=x
     ·rw [y,bJ] at r2;cases r2
     ·rw [bB y,st1.h _ _ e] at r2;cases r2
end
structure Mak(P:Program)(w:World)(K:aQk)(mg:Str->Option Value)(base:Heap)(k:Nat)(x:Str)(C:Addr)(n:Nat)(f1 f2:Str)(mi:List L->Option (D×D)):Prop where
 ex:∃ f fd ps,FnOk P w K mg base (CXr P w) k f fd ps (spI K C n f1 f2 mi)/\Binds K fd ps []/\Mk K C f/\mg x=some (.ref C)
def qW(C:Addr)(n:Nat)(f1 f2:Str)(mi:List L->Option (D×D))(fr:En->Res (List Ev)):En->Res Ev:=fun en=>(fr en).bind fun rs=>match gJ yO rs with
 | some ls=>if ls.length=n then match mi ls with
   | some d=>.ok (.x (.i C [(f1,d.1),(f2,d.2)]))
   | none=>.bad
  else .bad
 | none=>.bad
structure aMt(K:aQk)(mg:Str->Option Value)(x:Str)(C:Addr)(qual:Str)(ps:List Str)(st:Stmt)(f1 f2:Str):Prop where
 ex:∃ f fd,Fun K "__init__" qual st f fd/\Binds K fd ps []/\Mk K C f
 cl:L2.Cls K C
 m:mg x=some (.ref C)
 n1:NoAttr K C f1
 n2:NoAttr K C f2
theorem aPz{P:Program}{w:World}{K:aQk}{mg:Str->Option Value}{base:Heap}{x qual:Str}{st:Stmt}{C:Addr}{N ps:List Str}{k n:Nat}{f1 f2:Str}{g1 g2:En->Res Ev}(Df:aMt K mg x C qual ps st f1 f2)(S:bV N ps (aQ st))(hn:ps.length=n+1)(hN:N=ps)(ne:f1≠f2)
  (hbody:∀ (f:Addr) (cdv:Value) (A:Around) (outer:List Env) (s:Shared) (H:Hp) (E:XK),Room k (A.deeper (envOfC qual (aQ st) s.heap.objs.size f cdv)) ->
   ∃ (p1 p2 q1 q2 r1 r2:Pos) (e1 e2:Expr),dM st=[.Assign [.Attribute (.Name "self" p1) f1 q1] e1 r1,.Assign [.Attribute (.Name "self" p2) f2 q2] e2 r2] /\
    PE (j8 (CXr P w) P w K mg base N qual (aQ st) f cdv A outer s H E) (.Name "self" p1) (xX 0)/\PE (j8 (CXr P w) P w K mg base N qual (aQ st) f cdv A outer s H E) (.Name "self" p2) (xX 0) /\
    DE (j8 (CXr P w) P w K mg base N qual (aQ st) f cdv A outer s H E) (fun _=>E) e1 g1/\DE (j8 (CXr P w) P w K mg base N qual (aQ st) f cdv A outer s H E) (fun _=>E) e2 g2 /\
    swapsWith e1 (some (.Attribute (.Name "self" p1) f1 q1)) r1.line (j8 (CXr P w) P w K mg base N qual (aQ st) f cdv A outer s H E).env=pure false/\swapsWith e2 (some (.Attribute (.Name "self" p2) f2 q2)) r2.line (j8 (CXr P w) P w K mg base N qual (aQ st) f cdv A outer s H E).env=pure false):Mak P w K mg base (k+1) x C n f1 f2 (miF g1 g2):=by
 obtain ⟨f,fd,F,b,M⟩:=Df.ex
 exact ⟨f,fd,ps,aOp F S hn hN Df.cl Df.n1 Df.n2 ne (hbody f),b,M,Df.m⟩
theorem FV.less{K:aQk}{W:Addr->Option Nat}{H G:Hp}{v:V}{d:D}(h:FV K H G v d)(wn:∀ a,H a=none->W a=none)(kt:∀ b xs,G b=some (.tup xs)->g6 W G b=some (.tup xs)):Rep K (g6 W G) v d:=by
 obtain ⟨r,h | ⟨a,ds,rfl,ha,rfl,hf⟩⟩:=h
 ·exact tN kt h r
 ·have e:g6 W G a=G a:=by unfold g6;rw [wn a ha]
  cases r with
  | lst r1 r2 =>
   refine .lst ?_ (rJ kt hf r2)
   rcases r1 with z | ⟨o,z⟩
   ·exact .inl (by rw [e];exact z)
   ·exact .inr ⟨o,by rw [e];exact z⟩
section
variable {X:Cx}{E:XK}{k j:Nat}{C:Addr}{x:Str}{pos p:Pos}{e:Expr}{es:List Expr}{fr:En->Res (List Ev)}{n:Nat}{f1 f2:Str}{mi:List L->Option (D×D)}
theorem aI0(c:Mak X.prog X.w X.K X.mg X.base j x C n f1 f2 mi)(hr:Room (k+1) X.A)(hx:kI (CXr X.prog X.w) X (fun _=>E))(ha:DA X (fun _=>E) (e :: es) fr)(hg:Gl X x:=by rfl)(hjk:j<=k:=by decide)(hdb:(x == ("__debug__" : Str))=false:=by decide)
  (he:starEach (e :: es) X.env=(false,eval e X.env) :: starEach es X.env:=by rfl) (hpl:(backTo pos (starEach es X.env)).any (·.1)=false:=by rfl) :
  DE X (fun _=>E) (.Call (.Name x p) (e :: es) [] pos) (qW C n f1 f2 mi fr):=by
 obtain ⟨f,fd,ps,F,b,M,h⟩:=c.ex
 obtain ⟨t,q,m⟩:=ha.out
 refine DE.in ⟨_,aIr M (F.mono hjk) hr hg h b .nil hx q hdb he hpl,fun B G0 G W H σ en Q hh hs hw=>m B G0 G W H σ en _ hh hs ?_⟩
 have hw:wpR ((fr en).bind _) _ _:=hw
 rw [b7] at hw
 refine bD hw (fun rs hr G1 H1 vs s e1=>?_) fun C h=>h
 intro y dy hy hdy ney
 rw [aSo]
 split at hr
 ·rename_i ls el
  split at hr
  ·rename_i hn
   split at hr
   ·rename_i d ed
    have hh1:=hh.step s
    have ha:=xT hh1 el e1
    obtain ⟨k1,k2⟩:=kY hh1
    have by0:both W G1 H1 y=none:=k2.free hy
    have sU:Same H1 (upd (upd H1 dy (.own y)) y (.ins C dy [])):=(Same.upd (Same.refl _) hdy _).trans (Same.upd (Same.refl _) (by rw [bB (aU6 ney)];exact hy) _)
    refine ⟨by rw [aQp,ha.length,hn],y,dy,vs,both W G1 H1,ls,rfl,bJ,by0,k2.trans sU,ha,d,ed,fun G2 H2 v1 v2 I hx2 F1 F2=>⟨rfl,?_⟩⟩
    have wn:∀ a,upd (upd H1 dy (.own y)) y (.ins C dy []) a=none->W a=none:=fun a z=>by
     cases ew:W a with
     | none=>rfl
     | some i =>
      obtain ⟨_,_,o,e3,_⟩:=hh1.wf a i ew
      rw [sU _ _ e3] at z
      cases z
    have wy:W y=none:=by
     cases ew:W y with
     | none=>rfl
     | some i =>
      obtain ⟨_,_,o,e3,_⟩:=hh1.wf y i ew
      rw [hy] at e3
      cases e3
    have h12:Same H1 H2:=fun a o z=>by
     have na:a≠y:=fun q=>by rw [q,hy] at z;cases z
     exact I.h _ _ (by rw [aG4 na];exact sU _ _ z)
    have kt:∀ b xs,G2 b=some (.tup xs)->g6 W G2 b=some (.tup xs):=fun b xs eb=>by
     unfold g6
     cases ew:W b with
     | none=>exact eb
     | some i =>
      obtain ⟨_,_,o,z1,z2⟩:=hh1.wf b i ew
      have z3:=I.gh _ _ eb
      rw [h12 _ _ z1] at z3
      exact absurd (aQ7 z3) (z2 xs)
    have ly:g6 W G2 y=none:=by unfold g6;rw [wy];exact I.gx
    have sL:Same (g6 W G2) (upd (g6 W G2) y (.ins C dy [(f1,v1),(f2,v2)])):=Same.upd (Same.refl _) ly _
    refine hr (upd (g6 W G2) y (.ins C dy [(f1,v1),(f2,v2)])) H2 _ ⟨fun b o eb=>?_,s.h.trans h12,fun b o eb=>?_,fun b hb hg=>?_⟩ ⟨y,dy,_,rfl,bJ,rfl,(F1.less wn kt).mono sL,rfl,(F2.less wn kt).mono sL,trivial⟩
    ·have e3:=s.g _ _ eb
     refine sL _ _ ?_
     unfold g6
     cases ew:W b with
     | none=>exact I.g _ _ (k1 _ _ e3)
     | some i=>rw [(hh1.wf b i ew).1] at e3;cases e3
    ·by_cases nb:b=y
     ·rw [nb,bJ] at eb;rw [nb,<- eb];exact hx2
     ·rw [bB nb] at eb
      unfold g6 at eb
      cases ew:W b with
      | none=>rw [ew] at eb;exact I.gh _ _ eb
      | some i=>rw [ew] at eb;cases eb
    ·have hb1:H1 b≠none:=oG s.h hb
     have nb:b≠y:=fun z=>hb1 (by rw [z];exact hy)
     rw [bB nb]
     unfold g6
     cases ew:W b with
     | some i=>exact .inl rfl
     | none =>
      rcases s.new b hb hg with z | z
      ·have z2:both W G1 H1 b=none:=by unfold both;rw [ew];exact z
       rcases I.new b nb (oG sU hb1) z2 with y2 | ⟨xs,y2⟩
       ·exact .inl y2
       ·cases e:H b with
        | none=>exact absurd e hb
        | some o=>rw [sU _ _ (s.h _ _ e)] at y2;exact .inr ⟨xs,y2⟩
      ·exact .inr z
   ·exact hr.elim
  ·exact hr.elim
 ·exact hr.elim
end
def pB(i:Nat)(fe:En->Res Ev):MS:=fun en=>match en[i]? with
 | some (some (.o (.list ds)))=>match fe en with
  | .ok r=>match r with
   | .p (.int k)=>if 0<=k/\k < ds.length/\ds.length<=100000 then some (.nx (en.set i (some (.o (.list (ds.eraseIdx k.toNat)))))) else none
   | _=>none
  | .exc C=>some (.ex C en)
  | .bad=>none
 | _=>none
theorem Reps.erase{K:aQk}{G:Hp}:∀ {xs:List V} {ds:List D} (i:Nat),Reps K G xs ds->Reps K G (xs.eraseIdx i) (ds.eraseIdx i)
 | _,_,_,.nil=>.nil
 | _,_,0,.cons _ r=>r
 | _,_,i+1,.cons h r=>.cons h (Reps.erase i r)
section
variable {X:Cx}{E:L2.St->XK}{e:Expr}
theorem aD9{i:Nat}{fe:En->Res Ev}{st:Stmt}(he:DE X E e fe)(hp:∀ t,PE X e t->PS X st (aCg (tBM X.K "list" aGk (xX i) (aHi t aNn)))):DS X E st (pB i fe):=by
 obtain ⟨t,q,mm⟩:=he.out
 refine DS.in ⟨_,hp t q,fun B G0 G W H σ en Dn hh hs hw=>?_⟩
 unfold pB at hw
 split at hw
 ·rename_i ds ei
  obtain ⟨v,e1,a,o,rfl,e2,e3,e4⟩:=hs.2 i _ ei
  cases e4 with
  | @lst xs _ rp =>
  refine ⟨_,e1,.inl ⟨rfl,_,SqL.of e3⟩,mm B G0 G W H σ en _ hh hs ?_⟩
  cases ef:fe en with
  | bad=>rw [ef] at hw;exact hw
  | exc C=>rw [ef] at hw;exact fun G1 H1 s=>hw G1 W H1 σ (hh.step s) (hs.step s)
  | ok r =>
   rw [ef] at hw
   intro G1 H1 y s ey
   dsimp only at hw
   split at hw
   ·rename_i k
    split at hw
    ·rename_i hl
     obtain ⟨k0,k1,k2⟩:=hl
     cases ey
     have hx:=s.h _ _ e3
     have len:=rp.length
     have ki:k.toNat < xs.length:=by omega
     have si:seqIndex? k xs.length=some k.toNat:=by
      simp only [seqIndex?]
      rw [aQv (show ¬ k < 0 by omega),aQt (by simp;omega)]
     refine ⟨a,xs,k,k.toNat,xs[k.toNat],rfl,rfl,hx,by omega,by omega,si,aQn ki,?_⟩
     obtain ⟨w1,w2⟩:=jR (o':=.lst (xs.eraseIdx k.toNat)) (d':=.list (ds.eraseIdx k.toNat)) (hh.step s) (hs.step s) e2 e1 (.lst ((rp.mono s.g).erase _))
     exact hw _ _ _ _ w1 w2
    ·exact hw.elim
   ·exact hw.elim
 ·exact hw.elim
end
end M
namespace HS
open PySem
inductive NK
 | i (n:Int)
 | t (l:List Int)
deriving DecidableEq
section
variable {prog:Program}{w:World}{A:Around}{E:Value->Shared->Prop}{s:Shared}
def nI(prog:Program)(w:World)(h:Heap):NK->Value->Prop
 | .i n,v=>∃ t,v=.int n t
 | .t l,v=>∃ b,v=.ref b/\IsTupleKey (intKind prog w) h l b
inductive NIs(prog:Program)(w:World)(h:Heap):List NK->List Value->Prop
 | nil:NIs prog w h [] []
 | cons {k:NK} {v:Value} {ks:List NK} {vs:List Value}:nI prog w h k v->NIs prog w h ks vs->NIs prog w h (k :: ks) (v :: vs)
def NT(prog:Program)(w:World)(h:Heap)(ks:List NK)(a:Addr):Prop:=∃ o items n,h.get? a=some o/\o.cls=.type "tuple"/\o.data=.seq items n/\NIs prog w h ks items.toList
theorem aMc{h:Heap}{x y:NK}{v:Value}(hx:nI prog w h x v)(hy:nI prog w h y v):x=y:=by
 cases x with
 | i n =>
  obtain ⟨t,rfl⟩:=hx
  cases y with
  | i m=>obtain ⟨u,e⟩:=hy;cases e;rfl
  | t l=>obtain ⟨b,e,_⟩:=hy;cases e
 | t l =>
  obtain ⟨b,rfl,hb⟩:=hx
  cases y with
  | i m=>obtain ⟨u,e⟩:=hy;cases e
  | t m =>
   obtain ⟨c,e,hc⟩:=hy
   cases e
   rw [hb.inj hc]
theorem NIs.inj{h:Heap}{x y:List NK}{vs:List Value}(hx:NIs prog w h x vs)(hy:NIs prog w h y vs):x=y:=by
 induction hx generalizing y with
 | nil=>cases hy;rfl
 | cons h1 _ ih =>
  cases hy with
  | cons h2 t2=>rw [aMc h1 h2,ih t2]
theorem NT.typeIs{ks:List NK}{a:Addr}(x:NT prog w s.heap ks a):s.TypeIs (.ref a) "tuple":=let ⟨o,_,_,ho,hc,_⟩:=x;⟨o,ho,hc⟩
theorem NT.inj{h:Heap}{a:Addr}{x y:List NK}(hx:NT prog w h x a)(hy:NT prog w h y a):x=y:=by
 obtain ⟨o,items,n,ho,_,hd,hi⟩:=hx
 obtain ⟨o',items',n',ho',_,hd',hi'⟩:=hy
 obtain rfl:o=o':=aQ7 (ho.symm.trans ho')
 rw [hd] at hd'
 injection hd' with h1 _
 subst h1
 exact hi.inj hi'
theorem NIs.keep{h h':Heap}{ks:List NK}{vs:List Value}(x:NIs prog w h ks vs)(q:∀ b o,h.get? b=some o->o.cls=.type "tuple"->(∃ its n,o.data=.seq its n)->h'.get? b=some o):NIs prog w h' ks vs:=by
 induction x with
 | nil=>exact .nil
 | @cons k v ks vs h1 _ ih =>
  refine .cons ?_ ih
  cases k with
  | i n=>exact h1
  | t l =>
   obtain ⟨b,e,o,its,n,ho,hc,r⟩:=h1
   exact ⟨b,e,o,its,n,q b o ho hc ⟨_,_,r.1⟩,hc,r⟩
theorem NT.keep{h h':Heap}{ks:List NK}{a:Addr}(x:NT prog w h ks a)(q:∀ b o,h.get? b=some o->o.cls=.type "tuple"->(∃ its n,o.data=.seq its n)->h'.get? b=some o):NT prog w h' ks a:=by
 obtain ⟨o,its,n,ho,hc,hd,hi⟩:=x
 exact ⟨o,its,n,q a o ho hc ⟨_,_,hd⟩,hc,hd,hi.keep q⟩
def uL(prog:Program)(w:World):NK->Int
 | .i n=>hashInt n
 | .t l=>tupleKeyHash (intKind prog w) l
def nDr:NK->Nat
 | .i _=>1
 | .t l=>l.length+1
def bO(prog:Program)(w:World)(ks:List NK):Int:=reduceHash (Builtin.Tuple.tupleHashOf (ks.map (uL prog w)))
def aJd(ks:List NK):Nat:=(ks.map nDr).sum+1
theorem aIk{k:NK}{v:Value}{Q:Int->Shared->Prop}(hu:A.units < cLine)(hv:nI prog w s.heap k v)(h:Q (uL prog w k) { s with toks:=s.toks+nDr k }):wpAny (model prog w) A (pyHash v) Q E s:=by
 cases k with
 | i n =>
  obtain ⟨t,rfl⟩:=hv
  exact (intKind prog w).pyHash (k:=n) (by simp [intKind,Value.isInt]) h
 | t l =>
  obtain ⟨b,rfl,hb⟩:=hv
  exact wpAny_pyHash_tuple hu hb h
def NK.b:NK->Bool
 | .i _=>true
 | .t _=>false
theorem aNj{x y:NK}{u v:Value}{Q:Bool->Shared->Prop}(hu:A.units < cLine)(hs:x.b=y.b)(hx:nI prog w s.heap x u)(hy:nI prog w s.heap y v)(h:Q (decide (x=y)) s):wpAny (model prog w) A (eqBool u v) Q E s:=by
 cases x with
 | i n =>
  obtain ⟨t,rfl⟩:=hx
  cases y with
  | i m =>
   obtain ⟨u,rfl⟩:=hy
   refine aUm ?_
   have e:(n == m)=decide (NK.i n=NK.i m):=by
    by_cases z:n=m
    ·simp [z]
    ·simp [z]
   rw [e]
   exact h
  | t l=>cases hs
 | t l =>
  obtain ⟨b,rfl,hb⟩:=hx
  cases y with
  | i m=>cases hs
  | t m =>
   obtain ⟨c,rfl,hc⟩:=hy
   refine wpAny_eqBool_tuple hu hb hc ?_
   have e:decide (l=m)=decide (NK.t l=NK.t m):=by
    by_cases z:l=m
    ·simp [z]
    ·simp [z]
   rw [e]
   exact h
theorem aAi{ks:List NK}{a:Addr}{Q:Int->Shared->Prop}(hu:A.units+10 < cLine)(hk:NT prog w s.heap ks a)(h:Q (bO prog w ks) { s with toks:=s.toks+aJd ks }) :
  wpAny (model prog w) A (pyHash (.ref a)) Q E s:=by
 have hT:=hk.typeIs
 obtain ⟨o,items,n,ho,_,hd,hi⟩:=hk
 unfold pyHash
 first | unfold pyHashByItsType | skip
 first | refine aQl (wpAny_cRoomFor_or (.inr (by omega)) ?_) | skip
 refine aQl (aSx hT aTq.lookup ?_)
 show wpAny _ _ (if (some (Value.builtin "tuple.__hash__") == some Value.none)=true then _ else _) Q E s
 rw [aQv (by rw [beq_builtin_none];exact aRd)]
 refine aQl (aSx hT aTq.lookup ?_)
 show wpAny _ _ (callSpecialIfBoundUnlessNone? (.ref a) "__hash__" _ >>= _) Q E s
 refine aQl (wpAny_callSpecialIfBoundUnlessNone?_slot hT aTq (aS2 aTq hT F.entry_tuple_hash ?_ (F.args_tuple_hash_1 _)))
 show wpAny _ _ (Builtin.Tuple.tupleItemsOf (.ref a) >>= _) _ _ s
 refine aQl (aV7 ho hd ?_)
 refine aQl ?_
 rw [<- aV8]
 refine aTv _
  (fun rest (b:Array Int) s'=>∃ done left,ks=done++left/\NIs prog w s.heap left rest/\b.toList=done.map (uL prog w)/\s'={ s with toks:=s.toks+(done.map nDr).sum })
  _ ?_ ?_ _ _ ⟨[],ks,rfl,hi,rfl,rfl⟩
 ·rintro x rest b s' ⟨done,left,rfl,hl,hb,rfl⟩
  cases hl with
  | @cons k _ ks' _ h1 hl' =>
   refine aQl (aIk (s:={ s with toks:=s.toks+(done.map nDr).sum }) (show _ < _ by first | exact hu | (simp only [Around.in1];omega) | (show A.units+1 < cLine;omega) | (show A.units+1+1 < cLine;omega)) h1 ?_)
   first
    | exact aQo ⟨done++[k],ks',by simp,hl',by simp [hb],by simp [aWo]⟩
    | exact aQl (aQo (aQo ⟨done++[k],ks',by simp,hl',by simp [hb],by simp [aWo]⟩))
 ·rintro b s' ⟨done,left,rfl,hl,hb,rfl⟩
  cases hl
  rw [aSo] at h
  show wpAny _ _ (retInt (Builtin.Tuple.tupleHashOf b.toList)) _ _ _
  rw [hb]
  refine wpAny_ret_mkInt ?_
  show wpAny _ _ (if (decide (-(2:Int) ^ 63<=Builtin.Tuple.tupleHashOf (done.map (uL prog w))) && decide (Builtin.Tuple.tupleHashOf (done.map (uL prog w)) < 2 ^ 63))=true then _ else _) Q E _
  unfold bO reduceHash at h
  by_cases hr:(decide (-(2:Int) ^ 63<=Builtin.Tuple.tupleHashOf (done.map (uL prog w))) && decide (Builtin.Tuple.tupleHashOf (done.map (uL prog w)) < 2 ^ 63))=true
  ·rw [aQt hr]
   rw [aQt hr] at h
   exact aQo (by simpa [aWo,aJd] using h)
  ·rw [aQv hr]
   rw [aQv hr] at h
   exact aQl (wpAny_rule (aQo (by simpa [aWo,aJd] using h)))
theorem yT{x y:List NK}{a b:Addr}{P:Fin->Shared->Prop}(hu:A.units < cLine)(hs:x.map NK.b=y.map NK.b)(hx:NT prog w s.heap x a)(hy:NT prog w s.heap y b)(h:P (.done (.ret (.bool (decide (x=y))))) s) :
  wpAny (model prog w) A (Builtin.«tuple.__eq__» ⟨[.ref a,.ref b],[]⟩) P E s:=by
 have hTb:=hy.typeIs
 obtain ⟨oa,xs,na,hoa,_,hda,hia⟩:=hx
 obtain ⟨ob,ys,nb,hob,_,hdb,hib⟩:=hy
 show wpAny _ _ (isInstance (.ref b) (.type "tuple") >>= _) _ _ s
 refine aQl (aTw hTb aVh ?_)
 simp only [aSv,aQ2,aR1]
 refine aQl (aV7 hoa hda ?_)
 refine aQl (aV7 hob hdb ?_)
 refine aQl ?_
 refine aTv _
  (fun rest r s'=>r.1=none/\s'=s/\∃ x' y' xs' ys',rest=List.zip xs' ys'/\x'.map NK.b=y'.map NK.b/\NIs prog w s.heap x' xs'/\NIs prog w s.heap y' ys'/\decide (x'=y')=decide (x=y)/\(xs'.length == ys'.length)=(xs.size == ys.size))
  _ ?_ ?_ _ _ ⟨rfl,rfl,x,y,xs.toList,ys.toList,rfl,hs,hia,hib,rfl,by simp⟩
 ·rintro ⟨u,v⟩ rest r s' ⟨hr,rfl,x',y',xs',ys',hz,hb,hx',hy',hdec,hlen⟩
  cases hx' with
  | nil=>simp at hz
  | @cons k1 u' x'' xs'' h1 hx'' =>
   cases hy' with
   | nil=>simp at hz
   | @cons k2 v' y'' ys'' h2 hy'' =>
    simp only [aV6,List.cons.injEq,Prod.mk.injEq] at hz
    obtain ⟨⟨rfl,rfl⟩,rfl⟩:=hz
    rw [aQx,aQx] at hb
    injection hb with hb1 hb2
    refine aQl (aNj (x:=k1) (y:=k2) hu hb1 h1 h2 ?_)
    by_cases hk:k1=k2
    ·subst hk
     rw [aQ3 rfl]
     simp only [aSv,aQ2,aR1]
     refine aQo ⟨rfl,rfl,x'',y'',xs'',ys'',rfl,hb2,hx'',hy'',?_,by simpa using hlen⟩
     rw [<- hdec]
     by_cases hxy:x''=y''
     ·simp [hxy]
     ·simp [hxy]
    ·rw [aQr hk]
     simp only [aW7,aUu]
     have hf:decide (x=y)=false:=by rw [<- hdec];simp [hk]
     rw [hf] at h
     exact aQl (aQo (aQo (aQo h)))
 ·rintro ⟨r1,r2⟩ s' ⟨hr,rfl,x',y',xs',ys',hz,hb,hx',hy',hdec,hlen⟩
  simp only at hr
  subst hr
  refine aQo ?_
  have aLd:(xs.size == ys.size)=decide (x=y):=by
   rw [<- hdec,<- hlen]
   cases hx' with
   | nil =>
    cases hy' with
    | nil=>simp
    | cons _ _=>simp
   | cons _ _ =>
    cases hy' with
    | nil=>simp
    | cons _ _=>simp at hz
  show P (.done (.ret (.bool (xs.size == ys.size)))) s'
  rw [aLd];exact h
theorem aNv{x y:List NK}{a b:Addr}{Q:Bool->Shared->Prop}(hu:A.units+10 < cLine)(hs:x.map NK.b=y.map NK.b)(hx:NT prog w s.heap x a)(hy:NT prog w s.heap y b)(h:Q (decide (x=y)) s) :
  wpAny (model prog w) A (eqBool (.ref a) (.ref b)) Q E s:=by
 unfold eqBool
 try with_reducible refine aSa ?_
 show wpAny _ _ (if (Value.ref a == Value.ref b)=true then _ else _) Q E s
 by_cases hab:(Value.ref a == Value.ref b)=true
 ·rw [aQt hab]
  have e:a=b:=by have:=eq_of_beq hab;injection this
  subst e
  obtain rfl:=hx.inj hy
  exact aQl (wpAny_rule (aQo (by simpa using h)))
 ·rw [aQv hab]
  exact aQl (wpAny_richCompare_same_room (op:=.Eq) hx.typeIs hy.typeIs aVx
   (aS2 aVx hx.typeIs F.entry_tuple_eq (yT (show _ < _ by first | exact hu | (show A.units+1 < cLine;omega) | (show A.units+1+1 < cLine;omega) | (show A.units+1+1+1 < cLine;omega)) hs hx hy ⟨_,rfl,(fun e=>nomatch e),aS7 h⟩) (F.args_tuple_eq_2 _ _)) (by omega))
theorem aLi{ks:List Int}{a:Addr}{Q:Bool->Shared->Prop}(hk:IsTupleKey (intKind prog w) s.heap ks a)(h:Q true s):wpAny (model prog w) A (eqIsQuiet 7 (.ref a)) Q E s:=by
 have hT:=hk.typeIs
 obtain ⟨o,items,n,ho,_,hd,hi⟩:=hk
 unfold eqIsQuiet
 refine aQl (aSx hT aVx.lookup ?_)
 show wpAny _ _ (isInstance (.ref a) (.type "tuple") >>= _) _ _ s
 refine aQl (aTw hT aVh ?_)
 simp only [aSv,aQ2,aR1]
 refine aQl (aTx ho hd ?_)
 refine aQl ?_
 show wpAny _ _ (forIn items _ _) _ _ s
 rw [<- aV8]
 refine aTv _ (fun rest r s'=>r.1=none/\s'=s/\∀ v∈rest,carriedByValue v=true) _ ?_ ?_ _ _ ⟨rfl,rfl,hi.byValue⟩
 ·rintro v rest r s' ⟨hr,rfl,hall⟩
  rw [eqIsQuiet_byValue _ (hall v aTc)]
  refine aQl (aQo ?_)
  simp only [aSv,aQ2,aR1]
  exact aQo ⟨rfl,rfl,fun u hu'=>hall u (aRl _ hu')⟩
 ·rintro ⟨r1,r2⟩ s' ⟨hr,rfl,_⟩
  simp only at hr
  subst hr
  exact aQo h
theorem NIs.each{h:Heap}{ks:List NK}{vs:List Value}(x:NIs prog w h ks vs):∀ v∈vs,∃ k,nI prog w h k v:=by
 induction x with
 | nil=>exact fun _ z=>nomatch z
 | @cons k v ks vs h1 _ ih =>
  intro u hu
  rcases aQy.mp hu with rfl | hu
  ·exact ⟨k,h1⟩
  ·exact ih u hu
theorem qU{ks:List NK}{a:Addr}{Q:Bool->Shared->Prop}(hk:NT prog w s.heap ks a)(h:Q true s):wpAny (model prog w) A (eqIsQuiet 8 (.ref a)) Q E s:=by
 have hT:=hk.typeIs
 obtain ⟨o,items,n,ho,_,hd,hi⟩:=hk
 unfold eqIsQuiet
 refine aQl (aSx hT aVx.lookup ?_)
 show wpAny _ _ (isInstance (.ref a) (.type "tuple") >>= _) _ _ s
 refine aQl (aTw hT aVh ?_)
 simp only [aSv,aQ2,aR1]
 refine aQl (aTx ho hd ?_)
 refine aQl ?_
 show wpAny _ _ (forIn items _ _) _ _ s
 rw [<- aV8]
 refine aTv _ (fun rest r s'=>r.1=none/\s'=s/\∀ v∈rest,∃ k,nI prog w s.heap k v) _ ?_ ?_ _ _ ⟨rfl,rfl,hi.each⟩
 ·rintro v rest r s' ⟨hr,rfl,hall⟩
  obtain ⟨k,hk⟩:=hall v aTc
  have go:wpAny (model prog w) A (eqIsQuiet 7 v) (fun b s1=>b=true/\s1=s') E s':=by
   cases k with
   | i n =>
    obtain ⟨t,rfl⟩:=hk
    rw [eqIsQuiet_byValue _ rfl]
    exact aQo ⟨rfl,rfl⟩
   | t l =>
    obtain ⟨b,rfl,hb⟩:=hk
    exact aLi hb ⟨rfl,rfl⟩
  refine aQl (aR4 go ?_ fun e s1 h=>h)
  rintro b s1 ⟨rfl,rfl⟩
  simp only [aSv,aQ2,aR1]
  exact aQo ⟨rfl,rfl,fun u hu'=>hall u (aRl _ hu')⟩
 ·rintro ⟨r1,r2⟩ s' ⟨hr,rfl,_⟩
  simp only at hr
  subst hr
  exact aQo h
theorem aPw{k:List Int}{a:Addr}{Q:Bool->Shared->Prop}(hk:IK prog w s.heap k a)(h:Q true s):wpAny (model prog w) A (hashByValue 7 (.ref a)) Q E s:=by
 have hT:=hk.typeIs
 obtain ⟨o,items,n,ho,_,hd,hi⟩:=hk
 have bv:=items_int hi
 unfold hashByValue
 refine aQl (aSx hT aTq.lookup ?_)
 dsimp only
 refine aQl (aTx ho hd ?_)
 refine aQl (aU3 _ (fun rest b s'=>s'=s/\b.1=none/\∀ v∈rest,∃ i t,v=Value.int i t) _ ?_ ?_ _ _ ⟨rfl,rfl,bv⟩)
 ·rintro x rest b s1 ⟨rfl,_,hx⟩
  obtain ⟨i,t,rfl⟩:=hx x (.head _)
  exact aQl (aU8 (a:=true) rfl (aQo ⟨rfl,rfl,fun v hv=>hx v (.tail _ hv)⟩))
 ·rintro ⟨b1,b2⟩ s1 ⟨rfl,hb,_⟩
  cases (show b1=none from hb)
  exact aQo h
theorem aP1{k:List Int}{a:Addr}{Q:Bool->Shared->Prop}(hk:IK prog w s.heap k a)(h:Q false s):wpAny (model prog w) A (ofAClassStatement 7 (.ref a)) Q E s:=by
 have hT:=hk.typeIs
 obtain ⟨o,items,n,ho,_,hd,hi⟩:=hk
 have bv:=items_int hi
 unfold ofAClassStatement
 refine aQl (wpAny_typeOf hT ?_)
 dsimp only
 rw [aQt (by decide)]
 refine aQl (aQo ?_)
 simp only [aSv,aQ2,aR1]
 refine aQl (aTx ho hd ?_)
 dsimp only
 refine aQl (aU3 _ (fun rest b s'=>s'=s/\b.1=none/\∀ v∈rest,∃ i t,v=Value.int i t) _ ?_ ?_ _ _ ⟨rfl,rfl,bv⟩)
 ·rintro x rest b s1 ⟨rfl,_,hx⟩
  obtain ⟨i,t,rfl⟩:=hx x (.head _)
  exact aQl (aU8 (a:=false) rfl (aQo ⟨rfl,rfl,fun v hv=>hx v (.tail _ hv)⟩))
 ·rintro ⟨b1,b2⟩ s1 ⟨rfl,hb,_⟩
  cases (show b1=none from hb)
  exact aQo h
theorem aJt{k:List NK}{a:Addr}{Q:Bool->Shared->Prop}(hk:NT prog w s.heap k a)(h:Q true s):wpAny (model prog w) A (hashByValue 8 (.ref a)) Q E s:=by
 have hT:=hk.typeIs
 obtain ⟨o,items,n,ho,_,hd,hi⟩:=hk
 have bv:=hi.each
 unfold hashByValue
 refine aQl (aSx hT aTq.lookup ?_)
 dsimp only
 refine aQl (aTx ho hd ?_)
 refine aQl (aU3 _ (fun rest b s'=>s'=s/\b.1=none/\∀ v∈rest,∃ k,nI prog w s.heap k v) _ ?_ ?_ _ _ ⟨rfl,rfl,bv⟩)
 ·rintro x rest b s1 ⟨rfl,_,hx⟩
  obtain ⟨k,hk⟩:=hx x (.head _)
  cases k with
  | i n =>
   obtain ⟨t,rfl⟩:=hk
   exact aQl (aU8 (a:=true) rfl (aQo ⟨rfl,rfl,fun v hv=>hx v (.tail _ hv)⟩))
  | t l =>
   obtain ⟨b,rfl,hb⟩:=hk
   exact aQl (aPw hb (aQo ⟨rfl,rfl,fun v hv=>hx v (.tail _ hv)⟩))
 ·rintro ⟨b1,b2⟩ s1 ⟨rfl,hb,_⟩
  cases (show b1=none from hb)
  exact aQo h
theorem aGi{k:List NK}{a:Addr}{Q:Bool->Shared->Prop}(hk:NT prog w s.heap k a)(h:Q false s):wpAny (model prog w) A (ofAClassStatement 8 (.ref a)) Q E s:=by
 have hT:=hk.typeIs
 obtain ⟨o,items,n,ho,_,hd,hi⟩:=hk
 have bv:=hi.each
 unfold ofAClassStatement
 refine aQl (wpAny_typeOf hT ?_)
 dsimp only
 rw [aQt (by decide)]
 refine aQl (aQo ?_)
 simp only [aSv,aQ2,aR1]
 refine aQl (aTx ho hd ?_)
 dsimp only
 refine aQl (aU3 _ (fun rest b s'=>s'=s/\b.1=none/\∀ v∈rest,∃ k,nI prog w s.heap k v) _ ?_ ?_ _ _ ⟨rfl,rfl,bv⟩)
 ·rintro x rest b s1 ⟨rfl,_,hx⟩
  obtain ⟨k,hk⟩:=hx x (.head _)
  cases k with
  | i n =>
   obtain ⟨t,rfl⟩:=hk
   exact aQl (aU8 (a:=false) rfl (aQo ⟨rfl,rfl,fun v hv=>hx v (.tail _ hv)⟩))
  | t l =>
   obtain ⟨b,rfl,hb⟩:=hk
   exact aQl (aP1 hb (aQo ⟨rfl,rfl,fun v hv=>hx v (.tail _ hv)⟩))
 ·rintro ⟨b1,b2⟩ s1 ⟨rfl,hb,_⟩
  cases (show b1=none from hb)
  exact aQo h
def aDs(prog:Program)(w:World)(sh:List Bool):HeapKind prog w (List NK) where
 is:=fun h ks a=>NT prog w h ks a/\ks.map NK.b=sh
 hash:=bO prog w
 draws:=aJd
 room:=fun A=>A.units+10 < cLine
 inj:=fun hx hy=>hx.1.inj hy.1
 keeps:=fun x ho hd hs=>⟨NT.keep x.1 (fun b o hb hc z=>by
  obtain ⟨its,n,e⟩:=z
  refine (hs.2 b ?_).trans hb
  rintro rfl
  rw [hb] at ho
  cases ho
  rw [hd] at e
  exact nomatch e),x.2⟩
 pyHash:=fun hu hk h=>aAi hu hk.1 h
 eqBool:=fun hu hx hy h=>aNv hu (hx.2.trans hy.2.symm) hx.1 hy.1 h
 quiet:=fun hk h=>qU hk.1 h
end
end HS
namespace HS
open PySem
section
variable {sh:List Bool}{prog:Program}{w:World}{A:Around}{E:Value->Shared->Prop}{s:Shared}
def IKN(sh:List Bool)(prog:Program)(w:World)(h:Heap)(k:List NK)(a:Addr):Prop:=NT prog w h k a/\k.map NK.b=sh
theorem IKN.keep{h h':Heap}{k:List NK}{a:Addr}(x:IKN sh prog w h k a)(q:∀ b o,h.get? b=some o->o.cls=.type "tuple"->(∃ its n,o.data=.seq its n)->h'.get? b=some o):IKN sh prog w h' k a:=⟨x.1.keep q,x.2⟩
theorem aEe{k:List NK}{a:Addr}{l:List Value}{Q:Bool->Shared->Prop}(hk:IKN sh prog w s.heap k a)(hl:∀ v∈l,∃ b k',v=.ref b/\IKN sh prog w s.heap k' b)(h:Q false s):wpAny (model prog w) A (searchCouldBeSeen (.ref a) l) Q E s:=by
 unfold searchCouldBeSeen
 refine aQl (aTv _ (fun rest b s'=>s'=s/\b.1=none/\∀ v∈rest,∃ b k',v=.ref b/\IKN sh prog w s.heap k' b) _ ?_ ?_ _ _ ⟨rfl,rfl,hl⟩)
 ·rintro x rest b s1 ⟨rfl,_,hx⟩
  obtain ⟨c,k',rfl,hc⟩:=hx x (.head _)
  have nx:wpAny (model prog w) A (pure (ForInStep.yield (none,())):Sem (ForInStep (Option Bool×Unit))) (fun r s'=>match r with | .yield b'=>s'=s1/\b'.1=none/\∀ v∈rest,∃ b k',v=.ref b/\IKN sh prog w s1.heap k' b | .done b'=>wpAny (model prog w) A (match b'.1 with | some r=>pure r | none=>pure false) Q E s') E s1:=aQo ⟨rfl,rfl,fun v hv=>hx v (.tail _ hv)⟩
  dsimp only
  split
  ·exact nx
  ·refine aQl (qU hk.1 ?_)
   simp only [aSv,aQ2,aR1]
   refine aQl (qU hc.1 ?_)
   simp only [aSv,aQ2,aR1]
   refine aQl (aGi hk.1 ?_)
   simp only [aQ2,aR1]
   refine aQl (aGi hc.1 ?_)
   simp only [aQ2,aR1]
   exact nx
 ·rintro ⟨b1,b2⟩ s1 ⟨rfl,hb,_⟩
  cases (show b1=none from hb)
  exact aQo h
structure SetRN(sh:List Bool)(prog:Program)(w:World)(h:Heap)(S:Addr)(ks:List (List NK))(o:Obj)(es:Array (Int×Value))(ep:Nat)(t:SetTable):Prop where
 g:h.get? S=some o
 x:o.ExactSet
 d:o.data=.set es ep t
 pl:t.plain=true
 ld:t.led=!w.params.followText "set-order"
 tb:Tab t (ks.map (bO prog w))
 nd:ks.Nodup
 sz:es.size=ks.length
 at':∀ (i:Nat) k,ks[i]? = some k->∃ a,es[i]? = some (bO prog w k,.ref a)/\IKN sh prog w h k a
theorem SetRN.fits{h:Heap}{S:Addr}{ks:List (List NK)}{o:Obj}{es:Array (Int×Value)}{ep:Nat}{t:SetTable}(R:SetRN sh prog w h S ks o es ep t):t.fits es.size=true:=by
 unfold SetTable.fits SetTable.fill
 have a:=R.tb.s
 have b:=R.tb.z
 rw [aQm] at a b
 rw [R.tb.d,a,R.sz]
 simpa using b
theorem yB{k:List NK}{a:Addr}{l:List Value}{b:Bool}{m m':Sem SetFound}{Q:SetFound->Shared->Prop}(hk:IKN sh prog w s.heap k a)(hl:∀ v∈l,∃ b k',v=.ref b/\IKN sh prog w s.heap k' b)(h:wpAny (model prog w) A m Q E s):wpAny (model prog w) A (if (!b)=true then (searchCouldBeSeen (.ref a) l >>= fun x=>if x=true then m' else m) else m) Q E s:=by
 split
 ·exact aQl (aEe hk hl (by rw [aQv (by decide)];exact h))
 ·exact h
theorem pU{S a:Addr}{ks:List (List NK)}{o:Obj}{es:Array (Int×Value)}{ep:Nat}{t:SetTable}{k:List NK}(R:SetRN sh prog w s.heap S ks o es ep t)(hu:A.units+10 < cLine)(hk:IKN sh prog w s.heap k a){Q:SetFound->Shared->Prop}
  (q1:k∈ks->Q (.there none) s) (q2:k∉ks->∀ n,n<=10*(13+t.mask)->pth t.mask (bO prog w k) n∉t.place.toList->(∀ q,q < n->pth t.mask (bO prog w k) q∈t.place.toList)->Q (.free (pth t.mask (bO prog w k) n) false) s) :
  ∀ (n fuel k0:Nat) (stand:Option SetTable.Probe),n < fuel->k0+n<=10*(13+t.mask)->stand.getD (t.probeStart (bO prog w k))=nZ t.mask k0 (pst t.mask (bO prog w k))->(∀ q,q < k0->∃ i:Nat,t.place[i]? = some (pth t.mask (bO prog w k) q)/\ks[i]?≠some k)->(pth t.mask (bO prog w k) (k0+n)∉t.place.toList\/∃ i:Nat,t.place[i]? = some (pth t.mask (bO prog w k) (k0+n))/\ks[i]? = some k) ->
  wpAny (model prog w) A (setSearchFrom S (.ref a) (bO prog w k) true fuel stand) Q E s
 | n,fuel+1,k0,stand,hn,hB,hst,hN,hD=>by
  have hf:=R.fits
  have odd:t.gaveWay=false:=by
   unfold SetTable.gaveWay
   rcases R.tb.m with z | z | z<;>rw [z]<;>rfl
  have psz:t.place.size=ks.length:=by have:=R.tb.s;rw [aQm] at this;exact this
  have inp:∀ {i j:Nat},t.place[i]? = some j->j∈t.place.toList:=fun e=>aR6.mpr (aT8 e)
  have hash:∀ (i:Nat) x,ks[i]? = some x->(es[i]?.map (·.1)).getD 0=bO prog w x:=fun i x e=>by
   obtain ⟨b,hb,_⟩:=R.at' i x e
   rw [hb]
   rfl
  have gk:=aJx R.tb.d R.tb.r (f:=fun i=>(es[i]?.map (·.1)).getD 0) (h:=bO prog w k) n (10*SetTable.turns t.mask) k0 (by unfold SetTable.turns;omega) (hD.imp id fun ⟨i,e1,e2⟩=>⟨i,e1,hash i k e2⟩)
  unfold setSearchFrom
  refine aQl (aUf R.g R.d hf ?_)
  dsimp only
  rw [odd]
  simp only [aQ2,aR1]
  generalize hg:t.probe _ (bO prog w k) _=met
  have hg:SetTable.probe.go t (fun i=>(es[i]?.map (·.1)).getD 0) (bO prog w k) (10*SetTable.turns t.mask) (stand.getD (t.probeStart (bO prog w k)))=met:=hg
  rw [hst] at hg
  rcases gk with ⟨k',a1,a2,a3,a4,a5⟩ | ⟨k',i,a1,a2,a3,a4,a5,a6⟩
  ·rw [a5] at hg
   subst hg
   dsimp only
   have occ:∀ q,q < k'->∃ i:Nat,t.place[i]? = some (pth t.mask (bO prog w k) q)/\ks[i]?≠some k:=fun q hq=>by
    rcases aSr q k0 with z | z
    ·exact hN q z
    ·obtain ⟨i,e1,e2⟩:=a4 q z hq
     exact ⟨i,e1,fun e=>e2 (hash i k e)⟩
   refine aQo (q2 (fun z=>?_) k' (by omega) a3 fun q hq=>inp (occ q hq).choose_spec.1)
   obtain ⟨i0,e0⟩:=aTf.mp z
   have il:i0 < t.place.size:=by rw [psz];exact (aRe.mp e0).1
   obtain ⟨m,_,m2,m3⟩:=R.tb.p i0 (bO prog w k) t.place[i0] (by rw [aQ0,e0];rfl) (aRf il)
   have pm:t.place[i0]? = some (pth t.mask (bO prog w k) m):=by rw [m2];exact aRf il
   rcases aUe m k' with y | y | y
   ·obtain ⟨i,e1,e2⟩:=occ m y
    rw [uH R.tb.r e1 pm] at e2
    exact e2 e0
   ·rw [y] at pm
    exact a3 (inp pm)
   ·exact a3 (m3 k' y)
  ·rw [a6] at hg
   subst hg
   dsimp only
   have il:i < ks.length:=by rw [<- psz];exact (aSl.mp a3).1
   obtain ⟨b,hb,kb⟩:=R.at' i ks[i] (aQn il)
   have sto:∀ v∈(es.filter (·.1 == bO prog w k)).toList.map (·.2),∃ b k',v=Value.ref b/\IKN sh prog w s.heap k' b:=fun v hv=>by
    obtain ⟨e,he,rfl⟩:=aRk.mp hv
    have he:e∈es:=(Array.mem_filter.mp (aR6.mp he)).1
    obtain ⟨i5,e5⟩:=Array.mem_iff_getElem?.mp he
    have l5:i5 < ks.length:=by rw [<- R.sz];exact (aSl.mp e5).1
    obtain ⟨b5,h5,k5⟩:=R.at' i5 ks[i5] (aQn l5)
    rw [h5] at e5
    cases e5
    exact ⟨b5,_,rfl,k5⟩
   rw [hb]
   dsimp only
   refine yB hk sto ?_
   refine aQl (aSa ((aDs prog w sh).eqBool hu kb hk ?_))
   refine aQl (aUf R.g R.d hf ?_)
   dsimp only
   by_cases z:ks[i]=k
   ·rw [aQ3 z,aQt (by decide)]
    exact aQo (q1 (z▸aSs il))
   ·rw [aQr z,aQv (by decide)]
    have sm:t.sameMemory t.moves t.mask=some true:=by
     unfold SetTable.sameMemory
     rw [aQt (aWv _)]
    rw [sm]
    dsimp only
    obtain ⟨i2,s1,s2⟩:=aBg R.tb.r (inp a3)
    rw [uH R.tb.r s2 a3] at s1
    rw [aQt rfl,s1]
    dsimp only
    rw [hb]
    dsimp only
    have self:isSame (.ref b) (.ref b)=pure true:=by
     unfold isSame
     simp
    refine aQl (aU8 self (aQl (aQo ?_)))
    rw [aQt rfl]
    dsimp only
    rw [aQv (by decide)]
    have lt:k' < k0+n:=by
     rcases aSr k' (k0+n) with y | y
     ·exact y
     ·have:k'=k0+n:=by omega
      subst this
      rcases hD with e | ⟨i3,e1,e2⟩
      ·exact absurd (inp a3) e
      ·have:=uH R.tb.r a3 e1
       subst this
       rw [aQn il] at e2
       exact absurd (aQ7 e2) z
    obtain ⟨n',hn'⟩:∃ n',k'+1+n'=k0+n:=⟨k0+n - (k'+1),by omega⟩
    refine pU R hu hk q1 q2 n' fuel (k'+1) _ (by omega) (by omega) rfl (fun q hq=>?_) (by rw [hn'];exact hD)
    rcases aSr q k0 with y | y
    ·exact hN q y
    ·rcases aSr q k' with x | x
     ·obtain ⟨i4,e1,e2⟩:=a5 q y x
      exact ⟨i4,e1,fun e=>e2 (hash i4 k e)⟩
     ·have:q=k':=by omega
      subst this
      exact ⟨i,a3,by rw [aQn il];exact fun e=>z (aQ7 e)⟩
theorem SetRN.tn{h:Heap}{S b:Addr}{ks:List (List NK)}{o o':Obj}{es:Array (Int×Value)}{ep:Nat}{t:SetTable}(R:SetRN sh prog w h S ks o es ep t)(ho:h.get? b=some o')(hc:o'.cls=.type "tuple"):b≠S:=fun z=>by
 subst z
 have g:=R.g
 rw [ho] at g
 cases g
 have:=R.x.1
 rw [hc] at this
 exact absurd this (by decide)
theorem SetRN.write{h:Heap}{S:Addr}{ks ks':List (List NK)}{o:Obj}{es es':Array (Int×Value)}{ep:Nat}{t t':SetTable}(R:SetRN sh prog w h S ks o es ep t)(pl:t'.plain=true)(ld:t'.led=t.led)(tb:Tab t' (ks'.map (bO prog w)))(nd:ks'.Nodup)(sz:es'.size=ks'.length)
  (at':∀ (i:Nat) k,ks'[i]? = some k->∃ a,es'[i]? = some (bO prog w k,.ref a)/\IKN sh prog w h k a):SetRN sh prog w (h.update S (Obj.putSet es' t')) S ks' { o with data:=.set es' (ep+1) t' } es' (ep+1) t':=by
 refine ⟨aE9 R.g R.d es' t',R.x,rfl,pl,by rw [ld];exact R.ld,tb,nd,sz,fun i k e=>?_⟩
 obtain ⟨a,h1,h2⟩:=at' i k e
 refine ⟨a,h1,h2.keep fun b o' ho' hc _=>?_⟩
 rw [(aTs h S (Obj.putSet es' t')).2 b (R.tn ho' hc)]
 exact ho'
theorem zE{S:Addr}{ks:List (List NK)}{o:Obj}{es:Array (Int×Value)}{ep:Nat}{t:SetTable}{wanted:Nat}{Q:Unit->Shared->Prop}(R:SetRN sh prog w s.heap S ks o es ep t)(hm:MOk (SetTable.sizeAbove wanted - 1))(hl:SetTable.sizeAbove wanted<=128)(hn:ks.length<=SetTable.sizeAbove wanted - 1)
  (q:∀ h' ks' o' es' ep' t',Heap.SameBut S s.heap h'->ks'.Perm ks->t'.mask=SetTable.sizeAbove wanted - 1->(∀ e∈es',e∈es)->SetRN sh prog w h' S ks' o' es' ep' t'->Q () { s with heap:=h' }):wpAny (model prog w) A (setRelay S wanted) Q E s:=by
 have hf:=R.fits
 have he:es.map (·.1)=(ks.map (bO prog w)).toArray:=by
  apply aWt.mp
  rw [Array.toList_map,aRv]
  apply aS8
  intro i
  rw [aQ0,aQ0,aQ8]
  by_cases z:i < ks.length
  ·obtain ⟨a,h1,_⟩:=R.at' i ks[i] (aQn z)
   rw [h1,aQn z]
   rfl
  ·rw [aT0 (by rw [R.sz];omega),aRi (by omega)]
   rfl
 obtain ⟨t',order,r1,r2,r3,r4,r5,r6⟩:=aBz (t:=t) (hs:=ks.map (bO prog w)) (wanted:=wanted) hm (by rw [aQm];exact hn)
 rw [aQm] at r5
 have hb:∀ x∈order.toList,x < ks.length:=fun x hx=>aRz.mp (r5.mem_iff.mp hx)
 have k1:∀ x∈order.toList,(ks[x]?).isSome=true:=fun x hx=>by simp [hb x hx]
 have k2:∀ x∈order.toList,(es[x]?).isSome=true:=fun x hx=>by simp [R.sz,hb x hx]
 have ol:order.toList.length=ks.length:=by rw [r5.length_eq,aR5]
 have el:(order.filterMap (es[·]?)).size=ks.length:=by
  rw [<- aQ4,aWy,tW k2,ol]
 have eh:order.toList.filterMap ((ks.map (bO prog w))[·]?)=(order.toList.filterMap (ks[·]?)).map (bO prog w):=by
  rw [List.map_filterMap]
  congr 1
  funext x
  exact aQ0 ..
 rw [eh] at r6
 have pm:(order.toList.filterMap (ks[·]?)).Perm ks:=by
  have:=r5.filterMap (ks[·]?)
  rw [aJo] at this
  exact this
 unfold setRelay
 refine aQl (aUf R.g R.d hf ?_)
 dsimp only
 rw [aQv (by rw [aR9];omega),he,r1]
 refine aQl ?_
 show wpAny (model prog w) A (if ((order.filterMap (es[·]?)).size != es.size)=true then (unsupported "internal:set-table-lost-an-element" >>= fun _=>pure (order.filterMap (es[·]?),t')) else pure (order.filterMap (es[·]?),t')) _ _ _
 rw [aQv (by rw [el,R.sz];simp)]
 refine aQo ?_
 dsimp only
 have nl:ks.length<=128:=by omega
 refine wpAny_storeSet_of R.g R.d ?_ (by rw [el,aR9];omega)
 refine q _ _ _ _ _ _ (aTs ..) pm r2 (fun e he=>by
  obtain ⟨x,_,hx⟩:=Array.mem_filterMap.mp he
  exact aT8 hx) (R.write (by rw [r4];exact R.pl) r3 r6 (pm.nodup_iff.mpr R.nd) (by rw [el,tW k1,ol]) fun i k e=>?_)
 rw [tL i k1] at e
 cases ei:order.toList[i]? with
 | none=>rw [ei] at e;cases e
 | some x =>
  rw [ei] at e
  obtain ⟨a,h1,h2⟩:=R.at' x k e
  refine ⟨a,?_,h2⟩
  rw [<- aQ8,aWy,tL i k2,ei]
  exact h1
def SetKN(sh:List Bool)(prog:Program)(w:World)(h:Heap)(S:Addr)(ks:List (List NK))(L:Addr->Prop):Prop:=∃ ks' o es ep t,ks'.Perm ks/\Fit t.mask ks'.length/\(∀ e∈es,∃ a,e.2=Value.ref a/\L a)/\SetRN sh prog w h S ks' o es ep t
theorem aGz{S a:Addr}{L:Addr->Prop}{ks:List (List NK)}{k:List NK}{Q:Bool->Shared->Prop}(K:SetKN sh prog w s.heap S ks L)(hu:A.units+10 < cLine)(hk:IKN sh prog w s.heap k a)(aL:L a)(hz:ks.length < 76)
  (q:∀ b h',Heap.SameBut S s.heap h'->SetKN sh prog w h' S (if k∈ks then ks else k :: ks) L->Q b { s with heap:=h' }):wpAny (model prog w) A (setAddHashed S (.ref a) (bO prog w k)) Q E s:=by
 obtain ⟨ks',o,es,ep,t,pm,ft,lo,R⟩:=K
 have ml:ks'.length=ks.length:=pm.length_eq
 have hf:=R.fits
 have psz:t.place.size=ks'.length:=by have:=R.tb.s;rw [aQm] at this;exact this
 unfold setAddHashed setAddHashedIn
 refine aSa (aQl (aUf R.g R.d hf ?_))
 dsimp only
 rw [show byScan (.ref a) es=false from rfl]
 simp only [aQ2,aR1]
 refine aQl ?_
 unfold setSearch
 have m127:t.mask<=127:=by rcases R.tb.m with z | z | z<;>omega
 obtain ⟨n,nB,nD⟩:∃ n,n<=10*(13+t.mask)/\(pth t.mask (bO prog w k) (0+n)∉t.place.toList\/∃ i:Nat,t.place[i]? = some (pth t.mask (bO prog w k) (0+n))/\ks'[i]? = some k):=by
  by_cases z:k∈ks'
  ·obtain ⟨i0,e0⟩:=aTf.mp z
   have il:i0 < t.place.size:=by rw [psz];exact (aRe.mp e0).1
   obtain ⟨m,m1,m2,_⟩:=R.tb.p i0 (bO prog w k) t.place[i0] (by rw [aQ0,e0];rfl) (aRf il)
   exact ⟨m,m1,.inr ⟨i0,by rw [aR8,m2];exact aRf il,e0⟩⟩
  ·obtain ⟨j,j1,j2⟩:=miss (mask:=t.mask) (l:=t.place.toList) (by rw [aQ4,psz];have:=R.tb.z;rw [aQm] at this;exact this)
   obtain ⟨m,m1,m2⟩:=aAv R.tb.m (bO prog w k) j1
   exact ⟨m,m1,.inl (by rw [aR8,m2];exact j2)⟩
 refine pU R hu hk (fun z=>?_) (fun z kk hB hn hp=>?_) n 100000 0 none (by omega) (by omega) rfl (fun q hq=>absurd hq (aUz _)) nD
 ·dsimp only
  refine aQo ?_
  have:=q false s.heap (Heap.SameBut.refl S s.heap) (by rw [aQt (pm.mem_iff.mp z)];exact ⟨ks',o,es,ep,t,pm,ft,lo,R⟩)
  exact this
 ·dsimp only
  have nz:k∉ks:=fun y=>z (pm.mem_iff.mpr y)
  rw [aQv nz] at q
  refine aQl (aUf R.g R.d hf ?_)
  dsimp only
  have zm:ks'.length+1<=t.mask:=by rcases ft with y | y | y<;>omega
  have tb1:=R.tb.put (h:=bO prog w k) hB hn hp (by rw [aQm];exact zm)
  obtain ⟨b1,_,_⟩:=mY R.tb.r (pth t.mask (bO prog w k) kk)
  have pe:=(oA t (pth t.mask (bO prog w k) kk)).2
  have pl1:(t.put (pth t.mask (bO prog w k) kk)).1.plain=true:=R.pl
  have ld1:(t.put (pth t.mask (bO prog w k) kk)).1.led=t.led:=rfl
  have mk1:(t.put (pth t.mask (bO prog w k) kk)).1.mask=t.mask:=rfl
  generalize t.put (pth t.mask (bO prog w k) kk)=tp at *
  obtain ⟨t1,p⟩:=tp
  dsimp only at tb1 pe pl1 ld1 mk1 ⊢
  have hp1:p<=ks'.length:=by rw [pe];omega
  rw [<- aW9,<- List.map_drop,<- aQx,<- aRn] at tb1
  have pm1:(ks'.take p++k :: ks'.drop p).Perm (k :: ks):=by
   refine List.perm_middle.trans (List.Perm.cons k ?_)
   rw [List.take_append_drop]
   exact pm
  have il:(SetTable.insertAt es p (bO prog w k,Value.ref a)).toList=es.toList.take p++(bO prog w k,Value.ref a) :: es.toList.drop p:=iT _ _ _
  have hpe:p<=es.toList.length:=by rw [aQ4,R.sz];exact hp1
  have sz1:(SetTable.insertAt es p (bO prog w k,Value.ref a)).size=(ks'.take p++k :: ks'.drop p).length:=by
   rw [<- aQ4,il,aQz,aQz,aQp,aQp,aSh,aSh,aTa,aTa,aQ4,R.sz]
  have ln1:(ks'.take p++k :: ks'.drop p).length=ks'.length+1:=by rw [pm1.length_eq,aQp,ml]
  rw [pl1,aQt rfl]
  refine aQl (aJt hk.1 ?_)
  rw [aQt rfl]
  have nl:ks'.length<=76:=by omega
  refine aQl (wpAny_storeSet_of R.g R.d ?_ (by rw [sz1,ln1,aR9];omega))
  have R1:=R.write (es':=SetTable.insertAt es p (bO prog w k,Value.ref a)) pl1 ld1 tb1 (pm1.nodup_iff.mpr (aR3.mpr ⟨nz,pm.nodup_iff.mp R.nd⟩)) sz1 (fun i x e=>by
   rw [aGa ks' p hp1 k i] at e
   rw [<- aQ8,il,aGa es.toList p hpe _ i]
   by_cases y:i < p
   ·rw [aQt y] at e ⊢
    obtain ⟨c,h1,h2⟩:=R.at' i x e
    exact ⟨c,by rw [aQ8];exact h1,h2⟩
   ·rw [aQv y] at e ⊢
    by_cases y2:i=p
    ·rw [aQt y2] at e ⊢
     cases e
     exact ⟨a,rfl,hk⟩
    ·rw [aQv y2] at e ⊢
     obtain ⟨c,h1,h2⟩:=R.at' _ x e
     exact ⟨c,by rw [aQ8];exact h1,h2⟩)
  have sb:=aTs s.heap S (Obj.putSet (SetTable.insertAt es p (bO prog w k,Value.ref a)) t1)
  have lo1:∀ e∈SetTable.insertAt es p (bO prog w k,Value.ref a),∃ a,e.2=Value.ref a/\L a:=fun e he=>by
   rw [<- aR6,il] at he
   rcases aSe.mp he with y | y
   ·exact lo e (aR6.mp (aVp y))
   ·rcases aQy.mp y with x | x
    ·rw [x];exact ⟨a,rfl,aL⟩
    ·exact lo e (aR6.mp (aVn x))
  generalize (SetTable.insertAt es p (bO prog w k,Value.ref a))=es1 at *
  have full:t1.tooFull=decide ((t.mask=7/\ks'.length=4)\/(t.mask=31/\ks'.length=18)):=by
   unfold SetTable.tooFull SetTable.fill
   have a1:=tb1.s
   rw [aQm,ln1] at a1
   rw [tb1.d,a1,mk1]
   rcases ft with ⟨y,x⟩ | ⟨y,x⟩ | ⟨y,x⟩<;>rw [y]<;>simp<;>omega
  rw [full]
  by_cases y:(t.mask=7/\ks'.length=4)\/(t.mask=31/\ks'.length=18)
  ·rw [aQ3 y,aQt (by decide),R.sz]
   have go:∀ wn,SetTable.grown (ks'.length+1)=wn->MOk (SetTable.sizeAbove wn - 1)->SetTable.sizeAbove wn<=128->ks'.length+1<=SetTable.sizeAbove wn - 1->Fit (SetTable.sizeAbove wn - 1) (ks'.length+1)->wpAny (model prog w) A (do
     setRelay S (SetTable.grown (ks'.length+1))
     pure true) Q E { s with heap:=s.heap.update S (Obj.putSet es1 t1) }:=fun wn e1 e2 e3 e4 e5=>by
    rw [e1]
    refine aQl (zE R1 e2 e3 (by rw [ln1];exact e4) fun h' ks2 o2 es2 ep2 t2 sb2 pm2 mk2 in2 R2=>aQo (q true h' (sb.trans sb2) ⟨ks2,o2,es2,ep2,t2,pm2.trans pm1,?_,fun e he=>lo1 e (in2 e he),R2⟩))
    rw [mk2,pm2.length_eq,ln1]
    exact e5
   rcases y with ⟨_,y⟩ | ⟨_,y⟩<;>rw [y] at go ⊢
   ·exact go 20 (by decide) (by unfold MOk;decide) (by decide) (by decide) (by unfold Fit;decide)
   ·exact go 76 (by decide) (by unfold MOk;decide) (by decide) (by decide) (by unfold Fit;decide)
  ·rw [aQr y,aQv (by decide)]
   refine aQo (q true _ sb ⟨_,_,_,_,t1,pm1,?_,lo1,R1⟩)
   rw [mk1,ln1]
   unfold Fit at ft ⊢
   omega
theorem SetKN.at{h h':Heap}{S:Addr}{L:Addr->Prop}{ks:List (List NK)}(K:SetKN sh prog w h S ks L)(q:∀ b o,(b=S\/o.cls=.type "tuple")->h.get? b=some o->h'.get? b=some o):SetKN sh prog w h' S ks L:=by
 obtain ⟨ks',o,es,ep,t,pm,ft,lo,R⟩:=K
 refine ⟨ks',o,es,ep,t,pm,ft,lo,q _ _ (.inl rfl) R.g,R.x,R.d,R.pl,R.ld,R.tb,R.nd,R.sz,fun i k e=>?_⟩
 obtain ⟨a,h1,h2⟩:=R.at' i k e
 obtain ⟨b,e1,e2⟩:=lo _ (aT8 h1)
 cases e1
 exact ⟨a,h1,h2.keep fun b o ho hc _=>q b o (.inr hc) ho⟩
theorem SetKN.new{h:Heap}{S:Addr}{L:Addr->Prop}(hS:h.get? S=some (yZ w)):SetKN sh prog w h S [] L:=by
 refine ⟨[],yZ w,#[],0,.fresh 0 0 (!w.params.followText "set-order"),List.Perm.refl _,.inl ⟨rfl,aRj _⟩,fun e he=>by simp at he,hS,⟨rfl,rfl,rfl⟩,rfl,rfl,rfl,⟨rfl,.inl rfl,fun i j a b _ e=>by simp [SetTable.fresh] at e,rfl,aRj _,fun i h j e=>by simp at e⟩,List.Pairwise.nil,rfl,fun i k e=>by simp at e⟩
def mE(f:Nat->List NK):Nat->List (List NK)
 | 0=>[]
 | n+1=>if f n∈mE f n then mE f n else f n :: mE f n
theorem nG(f:Nat->List NK):∀ n,(mE f n).length<=n
 | 0=>aQu _
 | n+1=>by
  have:=nG f n
  unfold mE
  split
  ·omega
  ·rw [aQp];omega
theorem aAx{I:Addr}{fp wr:List Addr}{G:Array GenState->Array GenState->Prop}{n:Nat}{L:Addr->Prop}{P:Nat->Value->Prop}{St:Nat->Shared->Prop}{R:Result->Shared->Prop}(W:WalksS prog w A.in1 I fp wr G n P St)(hu:A.in1.units+10 < cLine){S:Addr}(hSf:S∉fp)(hwL:∀ i s,St i s->∀ b o,s.heap.get? b=some o->o.cls=.type "tuple"->b∉wr)(ky:Nat->List NK)(hb:n<=76) :
  ∀ (k i:Nat) (s:Shared),n - i=k->i<=n->St i s->SetKN sh prog w s.heap S (mE ky i) L->(∀ i v,i < n->P i v->∃ a,v=.ref a/\L a/\IKN sh prog w s.heap (ky i) a) ->
   (∀ s',Moved (S :: wr) G s s'->SetKN sh prog w s'.heap S (mE ky n) L->R (.ok (.ret .none)) s') ->
   codeAny (model prog w) A (.builtin "set.update.loop" ⟨[.ref S,.ref I],[]⟩) R s:=by
 have hSw:S∉wr:=fun z=>hSf (W.sub _ z)
 have sub:∀ b∈wr,b∈S :: wr:=fun b z=>.tail _ z
 have low:∀ i s,St i s->∀ b o,(b=S\/o.cls=.type "tuple")->s.heap.get? b=some o->b∉wr:=fun i s st b o z e=>by
  rcases z with z | z
  ·exact fun y=>hSw (z▸y)
  ·exact hwL i s st b o e z
 intro k
 induction k with
 | zero =>
  intro i s hk hi st K _ q
  cases (show i=n by omega)
  refine aUw aUl ?_
  rw [aVo aS6 _]
  unfold Builtin.«set.update.loop»
  refine aQl (W.done s _ _ st fun s' mv=>?_)
  exact aQo (q s' (mv.mono sub) (K.at fun b o hb e=>mv.heap b o (low _ s st b o hb e) e))
 | succ k ih =>
  intro i s hk hi st K kt q
  have lt:i < n:=by omega
  refine aUw aUl ?_
  rw [aVo aS6 _]
  unfold Builtin.«set.update.loop»
  refine aQl (W.item i s _ _ lt st fun v s' hP st' mv=>?_)
  obtain ⟨a,rfl,aL,hka⟩:=kt i v lt hP
  have K':=K.at (h':=s'.heap) fun b o hb e=>mv.heap b o (low _ s st b o hb e) e
  have hka':=IKN.keep (h':=s'.heap) hka fun b o e hc _=>mv.heap b o (low i s st b o (.inr hc) e) e
  dsimp only
  refine aQl (aSa ?_)
  unfold setAdd
  refine aSa (aQl (aAi hu hka'.1 ?_))
  refine aGz (s:={ s' with toks:=s'.toks+aJd (ky i) }) K' hu hka' aL (by have:=nG ky i;omega) fun b h' sb K2=>?_
  have mv2:Moved (S :: wr) G s { s' with heap:=h',toks:=s'.toks+aJd (ky i) }:=(mv.mono sub).then_heap (aUo _ _) fun b o hb e=>by
   rw [sb.2 b (fun z=>hb (by rw [z];exact .head _))]
   exact e
  refine aQo ⟨plainId_quiet aS6 _,ih (i+1) _ (by omega) lt (W.frame _ s' _ _ st' (aUo _ _) fun b hb o e=>?_) K2 (fun j v hj hv=>?_) fun s2 m2 K3=>?_⟩
  ·rw [sb.2 b (fun z=>hSf (by rw [<- z];exact hb))]
   exact e
  ·obtain ⟨c,rfl,cL,hkc⟩:=kt j v hj hv
   exact ⟨c,rfl,cL,IKN.keep hkc fun b o e hc _=>mv2.heap b o (fun z=>by
    rcases aQy.mp z with y | y
    ·obtain ⟨_,_,_,_,_,_,_,_,R⟩:=K
     exact R.tn e hc y
    ·exact hwL i s st b o e hc y) e⟩
  ·exact q s2 (Moved.trans W.gtrans mv2 m2) K3
theorem aA6{l:Addr}{items:Array Value}(hh:A.handled=none)(hu:A.units+20 < cLine)(ky:Nat->List NK)(hl:s.heap.IsList l items)(hz:items.size<=76)
  {L:Addr->Prop} (hL:∀ a,L a->a < s.heap.objs.size) (hk:∀ i v,items[i]? = some v->∃ a,v=.ref a/\L a/\IKN sh prog w s.heap (ky i) a)
  {Q:Value->Shared->Prop} (q:∀ h' tk,SetKN sh prog w h' s.heap.objs.size (mE ky items.size) L->(∀ b o,s.heap.get? b=some o->h'.get? b=some o)->s.toks<=tk->Q (.ref s.heap.objs.size) { s with heap:=h',toks:=tk }) :
  wpAny (model prog w) A (call (.type "set") [.ref l]) Q E s:=by
 refine zB ?_
 obtain ⟨ol,hol,hcl,nl,hdl⟩:=id hl
 have hS:(s.heap.push (yZ w)).get? s.heap.objs.size=some (yZ w):=aQ9 _ rfl
 have hl1:(s.heap.push (yZ w)).IsList l items:=⟨ol,aQq _ hol,hcl,nl,hdl⟩
 have hls:l < s.heap.objs.size:=aQw hol
 obtain ⟨ocls,odict,odata,oslots⟩:=ol
 simp only at hcl hdl
 subst hcl hdl
 have hol':(s.heap.push (yZ w)).get? l=some { cls:=.type "list",dict:=odict,data:=.seq items nl,slots:=oslots }:=aQq _ hol
 have a1:=F.sub_list_set
 have a2:=F.sub_list_frozenset
 have a3:(Value.type "list" == Value.type "dict")=false:=by decide
 unfold yZ at hS hol' hl1 ⊢
 unfold Builtin.«set.__init__» noKeywords Builtin.Frozenset.updateFrom
 generalize hPI:pyIter=PI
 wp_walk
 subst hPI
 refine aWc hl1 (aQl (wpAny_runValue ?_))
 generalize hO:({ cls:=Value.type "set",data:=Data.set #[] 0 (SetTable.fresh 0 0 (!w.params.followText "set-order")) }:Obj)=O at *
 have eO:O=yZ w:=by rw [<- hO];rfl
 have sz:(s.heap.push O).objs.size=s.heap.objs.size+1:=by rw [aWa]
 have kp:∀ b o,s.heap.get? b=some o->((s.heap.push O).push { cls:=.type "list_iterator",data:=.fields #[.ref l,.int 0 0] }).get? b=some o:=fun b o e=>aQq _ (aQq _ e)
 have nI:∀ b,b<=s.heap.objs.size->b≠(s.heap.push O).objs.size:=fun b z y=>by rw [sz] at y;omega
 refine aAx (sh:=sh) (A:=A.in1.in1) (L:=L) ((Walks.list (A:=A.in1.in1.in1) hh (s.heap.push O).objs.size l (nI l (aUq hls)) items).toS) (show A.units+1+1+1+10 < cLine by omega) (S:=s.heap.objs.size) (fun z=>?_) (fun i s st b o e hc z=>?_) ky hz items.size 0 _ rfl (aRj _) ⟨⟨_,aQ9 _ rfl,rfl,rfl⟩,hl1.push _⟩ (SetKN.new (by rw [<- eO];exact aQq _ hS)) (fun i v _ hv=>?_) fun s' mv T=>?_
 ·rcases aQy.mp z with z | z
  ·exact nI _ (aQu _) z
  ·rw [aQ1.mp z] at hls
   exact aRt _ hls
 ·obtain ⟨oI,g1,g2,g3⟩:=st.1
  rw [aQ1.mp z] at e
  rw [g1] at e
  cases e
  rw [hc] at g2
  exact absurd g2 (show Value.type "tuple"≠Value.type "list_iterator" by decide)
 ·obtain ⟨a,rfl,la,ka⟩:=hk i v hv
  exact ⟨a,rfl,la,ka.keep fun b o e _ _=>kp b o e⟩
 ·refine aQo (aQo ⟨rfl,?_⟩)
  obtain ⟨h',g',d',tk',os'⟩:=s'
  cases (show g'=s.gens from mv.gens)
  cases (show d'=s.drawn from mv.drawn)
  cases (show os'=s.os from mv.os)
  refine q h' tk' T (fun b o e=>mv.heap b o (fun z=>?_) (kp b o e)) mv.toks
  have lb:=aQw e
  rcases aQy.mp z with z | z
  ·rw [z] at lb
   exact aRt _ lb
  ·exact nI b (aUq lb) (aQ1.mp z)
end
end HS
namespace L2
open PySem PySem.W PyProof.Rows HS
section
variable {X:Cx}
def nV(H:Hp):NK->V->Prop
 | .i n,v=>v=.int n
 | .t l,v=>∃ b,v=.ref b/\H b=some (.tup (l.map V.int))
inductive nVs(H:Hp):List NK->List V->Prop
 | nil:nVs H [] []
 | cons {k:NK} {v:V} {ks:List NK} {vs:List V}:nV H k v->nVs H ks vs->nVs H (k :: ks) (v :: vs)
def nT(H:Hp)(k:List NK)(b:Addr):Prop:=∃ vs,H b=some (.tup vs)/\nVs H k vs
theorem aL6{P:Program}{w:World}{H:Hp}{h:Heap}{b:Addr}{k:List NK}(ok:HOk P w H h)(e:nT H k b):NT P w h k b:=by
 obtain ⟨vs,e,hv⟩:=e
 obtain ⟨hsz,its,rv,o,ho,hc,n,hd⟩:=(show ObjOk P w H h b (.tup vs) from ok b _ e)
 refine ⟨o,its.toArray,n,ho,hc,hd,?_⟩
 rw [aRv]
 clear hd ho e hsz
 induction hv generalizing its with
 | nil=>cases rv;exact .nil
 | @cons k v ks vs h1 _ ih =>
  cases rv with
  | cons r1 rv =>
   refine .cons ?_ (ih _ rv)
   cases k with
   | i n=>cases h1;exact r1
   | t l =>
    obtain ⟨b,rfl,hb⟩:=h1
    exact ⟨b,r1,aNr ok hb⟩
def aNd(sh:List Bool)(H:Hp)(ts:List V)(ks:List (List NK)):Prop:=ts.length=ks.length/\∀ (i:Nat) (t:V) (k:List NK),ts[i]? = some t->ks[i]? = some k->(∃ b,t=.ref b/\nT H k b)/\k.map NK.b=sh
theorem vQ{f:Nat->List NK}{k:List NK}:∀ {n:Nat},k∈HS.mE f n↔∃ i,i < n/\f i=k
 | 0=>Iff.intro (fun h=>nomatch h) (fun h=>absurd h.choose_spec.1 (aUz _))
 | n+1=>by
  have ih:=vQ (f:=f) (k:=k) (n:=n)
  unfold mE
  by_cases z:f n∈mE f n
  ·rw [aQt z,ih]
   constructor
   ·rintro ⟨i,h1,h2⟩;exact ⟨i,by omega,h2⟩
   ·rintro ⟨i,h1,h2⟩
    rcases aSr i n with y | y
    ·exact ⟨i,y,h2⟩
    ·have:i=n:=by omega
     subst this
     rw [h2] at z
     exact ih.mp z
  ·rw [aQv z,aQy,ih]
   constructor
   ·rintro (h | ⟨i,h1,h2⟩)
    ·exact ⟨n,by omega,h.symm⟩
    ·exact ⟨i,by omega,h2⟩
   ·rintro ⟨i,h1,h2⟩
    rcases aSr i n with y | y
    ·exact .inr ⟨i,y,h2⟩
    ·have:i=n:=by omega
     subst this
     exact .inl h2.symm
def aP0(K:aQk)(te:TE):TE:=fun σ H Q=>te σ H fun x H1=>∃ a xs sh ks,x=.ref a/\SqL K H1 a xs/\aNd sh H1 xs ks/\ks.length < 64/\∀ ks2:List (List NK),ks2.Nodup->(∀ k,k∈ks2↔k∈ks)->Q (.int (ks2.length:Nat)) H1
theorem aCk{pins:List (Addr×Obj)}{s1:Shared}{σ:St}{H1:Hp}{a:Addr}{xs:List V}{sh:List Bool}{ks:List (List NK)}{A:Around}{E:Value->Shared->Prop}{Q:Value->Shared->Prop}(I1:Inv X pins σ H1 s1)(hh:A.handled=none)(hu:A.units+20 < cLine)(hq:SqL X.K H1 a xs)(hr:aNd sh H1 xs ks)(h64:ks.length < 64)
  (q:∀ h' tk,HS.SetKN sh X.prog X.w h' s1.heap.objs.size (HS.mE (fun i=>ks.getD i []) ks.length) (fun b=>∃ k,nT H1 k b)->(∀ b o,s1.heap.get? b=some o->h'.get? b=some o)->Q (.ref s1.heap.objs.size) { s1 with heap:=h',toks:=tk }) :
  wpAny (model X.prog X.w) A (call (.type "set") [.ref a]) Q E s1:=by
 obtain ⟨its,rv,pl,_⟩:=I1.list hq
 have hlen:=rv.length
 have sz:its.toArray.size=ks.length:=by rw [aQs,<- hlen,hr.1]
 refine HS.aA6 (sh:=sh) (prog:=X.prog) (w:=X.w) hh hu (fun i=>ks.getD i []) pl.isList (by rw [sz];omega) (L:=fun b=>∃ k,nT H1 k b) (fun b ⟨k,hb⟩=>?_) (fun i v hv=>?_) fun h' tk T kp ht=>?_
 ·obtain ⟨o,_,_,ho,_⟩:=aL6 I1.hok hb
  exact aQw ho
 ·rw [aVg] at hv
  obtain ⟨x,hx,rx⟩:=vR rv i v hv
  have il:i < ks.length:=by rw [<- hr.1];exact (aRe.mp hx).1
  obtain ⟨⟨b,eb,hb⟩,hs⟩:=hr.2 i x ks[i] hx (aQn il)
  subst eb
  refine ⟨b,rx,⟨_,hb⟩,?_⟩
  have:ks.getD i []=ks[i]:=by simp [List.getD,il]
  rw [this]
  exact ⟨aL6 I1.hok hb,hs⟩
 ·rw [sz] at T
  exact q h' tk T kp
theorem xV{e:Expr}{te:TE}{p1 p2 pos1 pos2:Pos}(hc:X.calm=true)(hu:X.A.units+64 < cLine)(hg1:Gl X "len")(hm1:X.mg "len" = none)(hg2:Gl X "set")(hm2:X.mg "set" = none)(he:PE X e te)
  (hs1:starEach [.Call (.Name "set" p2) [e] [] pos2] X.env=(false,eval (.Call (.Name "set" p2) [e] [] pos2) X.env) :: starEach [] X.env:=by rfl) (hs2:starEach [e] X.env=(false,eval e X.env) :: starEach [] X.env:=by rfl) :
  PE X (.Call (.Name "len" p1) [.Call (.Name "set" p2) [e] [] pos2] [] pos1) (aP0 X.K te):=by
 intro pins s σ H Q I h
 refine aSp (lB I hg1 hm1 aRp (aVe ?_ hs1 rfl))
 rw [hs1]
 show wpAny _ _ (spliced ((false,eval _ X.env) :: backTo pos1 (starEach [] X.env))) _ _ s
 refine aT1 (aSp (lB I hg2 hm2 aH4 (aSf ?_ hs2 rfl)))
 rw [hs2]
 show wpAny _ _ (spliced ((false,eval _ X.env) :: backTo pos2 (starEach [] X.env))) _ _ s
 refine aT1 (thn (he pins s σ H _ I h) fun u s1 ⟨x,H1,I1,r1,a,xs,sh,ks,ex,hq,hr,h64,q⟩=>aUc ?_)
 subst ex
 cases (show u=Value.ref a from r1)
 refine aCk I1 (I.ok.hd hc) (by omega) hq hr h64 fun h' tk T kp=>aUc ?_
 obtain ⟨ks',o,es,ep,t,pm,ft,lo,R⟩:=T
 have pl:ks'.length<=64:=by
  have:=HS.nG (fun i=>ks.getD i []) ks.length
  rw [pm.length_eq]
  omega
 refine PySem.call_len_set R.g R.x R.d R.fits (by rw [R.sz];omega) ⟨.int (ks'.length:Nat),H1,(I1.kept (t':=tk) kp).tok _,?_,q ks' R.nd fun k=>?_⟩
 ·rw [R.sz]
  exact ⟨_,rfl⟩
 ·rw [pm.mem_iff,vQ]
  constructor
  ·rintro ⟨i,h1,h2⟩
   rw [<- h2]
   have:ks.getD i []=ks[i]:=by simp [List.getD,h1]
   rw [this]
   exact aSs h1
  ·intro hk
   obtain ⟨i,hi,e⟩:=aTi.mp hk
   exact ⟨i,hi,by rw [<- e];simp [List.getD,hi]⟩
end
end L2
namespace M
open PySem PySem.Spec PyProof.Rows L2 HS
def nkD:NK->D
 | .i n=>.int n
 | .t l=>oZ l
def nkO(d:D):Option NK:=match d with
 | .int n=>some (.i n)
 | d=>(vC d).map .t
def aMu:List D->Option (List NK)
 | []=>some []
 | d :: ds=>match nkO d,aMu ds with
  | some k,some ks=>some (k :: ks)
  | _,_=>none
def ntO(d:D):Option (List NK):=match d with
 | .tuple ds=>aMu ds
 | _=>none
def aI1:List D->Option (List (List NK))
 | []=>some []
 | d :: ds=>match ntO d,aI1 ds with
  | some k,some ks=>some (k :: ks)
  | _,_=>none
def ntD(k:List NK):D:=.tuple (k.map nkD)
theorem aK5{d:D}{k:NK}(h:nkO d=some k):d=nkD k:=by
 unfold nkO at h
 split at h
 ·cases h;rfl
 ·cases e:vC d with
  | none=>rw [e] at h;cases h
  | some l=>rw [e] at h;cases h;exact vV e
theorem aB4:∀ {ds:List D} {ks:List NK},aMu ds=some ks->ds=ks.map nkD
 | [],_,h=>by cases h;rfl
 | d :: ds,ks,h=>by
  unfold aMu at h
  split at h
  ·rename_i k r e1 e2
   cases h
   rw [aK5 e1,aB4 e2]
   rfl
  ·cases h
theorem aKb{d:D}{k:List NK}(h:ntO d=some k):d=ntD k:=by
 unfold ntO at h
 split at h
 ·rw [aB4 h];rfl
 ·cases h
theorem y9:∀ {ds:List D} {ks:List (List NK)},aI1 ds=some ks->ds=ks.map ntD
 | [],_,h=>by cases h;rfl
 | d :: ds,ks,h=>by
  unfold aI1 at h
  split at h
  ·rename_i k r e1 e2
   cases h
   rw [aKb e1,y9 e2]
   rfl
  ·cases h
def ddN:List (List NK)->List (List NK)
 | []=>[]
 | k :: r=>if k∈ddN r then ddN r else k :: ddN r
theorem ddN_mem{x:List NK}:∀ {ks:List (List NK)},x∈ddN ks↔x∈ks
 | []=>Iff.rfl
 | k :: r=>by
  have ih:=ddN_mem (x:=x) (ks:=r)
  unfold ddN
  split
  ·rename_i z
   rw [ih,aQy]
   constructor
   ·exact .inr
   ·rintro (e | e)
    ·rw [e];exact ddN_mem.mp z
    ·exact e
  ·rw [aQy,aQy,ih]
theorem zZ:∀ ks:List (List NK),(ddN ks).Nodup
 | []=>List.Pairwise.nil
 | k :: r=>by
  unfold ddN
  split
  ·exact zZ r
  ·rename_i z
   exact aR3.mpr ⟨z,zZ r⟩
def shO(ks:List (List NK)):Bool:=match ks with
 | []=>true
 | k :: r=>r.all fun x=>x.map NK.b == k.map NK.b
def jQ(x:Ev):Res Ev:=match iO x with
 | some ds=>match aI1 ds with
  | some ks=>if shO ks=true/\ks.length < 64 then .ok (.p (.int ((ddN ks).length:Nat))) else .bad
  | none=>.bad
 | none=>.bad
section
variable {K:aQk}
theorem aKy{G:Hp}{v:V}{k:NK}(h:Rep K G v (nkD k)):nV G k v:=by
 cases k with
 | i n=>cases h;rfl
 | t l=>obtain ⟨b,rfl,hb⟩:=aDf h;exact ⟨b,rfl,hb⟩
theorem aBo{G:Hp}:∀ {vs:List V} {ks:List NK},Reps K G vs (ks.map nkD)->nVs G ks vs
 | [],[],_=>.nil
 | v :: vs,k :: ks,h=>by
  cases h with
  | cons h1 h2=>exact .cons (aKy h1) (aBo h2)
theorem aKe{G:Hp}{v:V}{k:List NK}(h:Rep K G v (ntD k)):∃ b,v=.ref b/\nT G k b:=by
 cases h with
 | tup h r=>exact ⟨_,rfl,_,h,aBo r⟩
theorem nVs.at{G H:Hp}(gh:Same G H){ks:List NK}{vs:List V}(x:nVs G ks vs):nVs H ks vs:=by
 induction x with
 | nil=>exact .nil
 | @cons k v ks vs h1 _ ih =>
  refine .cons ?_ ih
  cases k with
  | i n=>exact h1
  | t l=>obtain ⟨b,e,hb⟩:=h1;exact ⟨b,e,gh _ _ hb⟩
theorem aGr{ks:List (List NK)}(h:shO ks=true):∃ sh,∀ k∈ks,k.map NK.b=sh:=by
 cases ks with
 | nil=>exact ⟨[],fun _ z=>nomatch z⟩
 | cons k r =>
  refine ⟨k.map NK.b,fun x hx=>?_⟩
  rcases aQy.mp hx with rfl | hx
  ·rfl
  ·exact eq_of_beq (aSi.mp h x hx)
theorem aAz{G H:Hp}(gh:Same G H){ts:List V}{sh:List Bool}{ks:List (List NK)}(r:Reps K G ts (ks.map ntD))(hs:∀ k∈ks,k.map NK.b=sh):aNd sh H ts ks:=by
 refine ⟨by rw [r.length,aQm],fun i t k e1 e2=>?_⟩
 obtain ⟨d,e3,rd⟩:=r.get e1
 rw [aQ0,e2] at e3
 cases e3
 obtain ⟨b,rfl,vs,hb,hv⟩:=aKe rd
 exact ⟨⟨b,rfl,vs,gh _ _ hb,nVs.at gh hv⟩,hs k (aS4 e2)⟩
end
theorem yU{X:Cx}{E:L2.St->XK}{e:Expr}{fe:En->Res Ev}{p1 p2 pos1 pos2:Pos}(hc:X.calm=true)(hu:X.A.units+64 < cLine)(hg1:Gl X "len")(hm1:X.mg "len" = none)(hg2:Gl X "set")(hm2:X.mg "set" = none)(he:DE X E e fe)
  (hs1:starEach [.Call (.Name "set" p2) [e] [] pos2] X.env=(false,eval (.Call (.Name "set" p2) [e] [] pos2) X.env) :: starEach [] X.env:=by rfl) (hs2:starEach [e] X.env=(false,eval e X.env) :: starEach [] X.env:=by rfl) :
  DE X E (.Call (.Name "len" p1) [.Call (.Name "set" p2) [e] [] pos2] [] pos1) (mUn jQ fe):=by
 obtain ⟨t,q,m⟩:=he.out
 refine DE.in ⟨_,xV hc hu hg1 hm1 hg2 hm2 q hs1 hs2,fun B G0 G W H σ en Q hh hs hw=>m B G0 G W H σ en _ hh hs ?_⟩
 have hw:wpR ((fe en).bind _) _ _:=hw
 rw [b7] at hw
 refine bD hw (fun r hr G1 H1 v s e=>?_) fun C h=>h
 obtain ⟨G2,s2,e2⟩:=e.c s
 unfold jQ at hr
 cases el:iO r.c with
 | none=>rw [el] at hr;exact hr.elim
 | some ds =>
  rw [el] at hr
  dsimp only at hr
  cases ek:aI1 ds with
  | none=>rw [ek] at hr;exact hr.elim
  | some ks =>
   rw [ek] at hr
   dsimp only at hr
   by_cases hz:shO ks=true/\ks.length < 64
   ·rw [aQt hz] at hr
    obtain ⟨a,xs,rfl,h1,h2⟩:=n9 s2.gh e2 el
    cases (y9 ek)
    obtain ⟨sh,hs⟩:=aGr hz.1
    refine ⟨a,xs,sh,ks,rfl,.inl h1,aAz s2.gh h2 hs,hz.2,fun ks2 nd hm=>?_⟩
    rw [(aCp nd (zZ ks) fun x=>by rw [hm,ddN_mem]).length_eq]
    exact hr G2 _ _ s2 (.int _)
   ·rw [aQv hz] at hr
    exact hr.elim
end M
namespace SRT
open PySem PySem.W PyProof.Rows L2
def TupP(h:Heap)(v:Value)(ns:List Int):Prop:=∃ t o c i ti j tj p a b,v=.ref t/\h.get? t=some o/\o.cls=.type "tuple"/\o.data=.seq #[.int i ti,.int j tj,p] c/\TupI h p [a,b]/\ns=[i,j,a,b]
theorem TupP.at{h h':Heap}{v:Value}{ns:List Int}(x:TupP h v ns)(k:∀ t o,h.get? t=some o->o.cls=.type "tuple"->h'.get? t=some o):TupP h' v ns:=by
 obtain ⟨t,o,c,i,ti,j,tj,p,a,b,e1,e2,e3,e4,e5,e6⟩:=x
 refine ⟨t,o,c,i,ti,j,tj,p,a,b,e1,k t o e2 e3,e3,e4,?_,e6⟩
 obtain ⟨t',o',xs,c',q1,q2,q3,q4⟩:=e5
 exact ⟨t',o',xs,c',q1,k t' o' q2 q3,q3,q4⟩
section
variable {prog:Program}{w:World}{A:Around}{E:Value->Shared->Prop}{s:Shared}
theorem aFa{h:Heap}{v:Value}{ns:List Int}(x:TupI h v ns):∃ t,v=.ref t/\HS.IK prog w h ns t:=by
 obtain ⟨t,o,xs,c,rfl,ho,hc,hd,hi⟩:=x
 refine ⟨t,rfl,o,xs,c,ho,hc,hd,?_⟩
 have key:∀ {ns:List Int} {vs:List Value},IntsAre vs ns->ItemsAre (intKind prog w) ns vs:=by
  intro ns vs h
  induction h with
  | nil=>exact .nil
  | cons n t _ ih=>exact .cons (by simp [intKind,Value.isInt]) ih
 exact key hi
theorem aCn{x y:Value}{ns ms:List Int}{b:Bool}{Q:Bool->Shared->Prop}(hu:A.units < cLine)(hx:TupP s.heap x ns)(hy:TupP s.heap y ms)(q:Q (HT.lexLt ns ms) s):wpAny (model prog w) A (keyLt' (tuples' b) x y) Q E s:=by
 obtain ⟨t,o,c,i,ti,j,tj,p,a1,a2,rfl,ho,hc,hd,hp,rfl⟩:=hx
 obtain ⟨t',o',c',i',ti',j',tj',p',b1,b2,rfl,ho',hc',hd',hp',rfl⟩:=hy
 obtain ⟨r,rfl,kr⟩:=aFa (prog:=prog) (w:=w) hp
 obtain ⟨r',rfl,kr'⟩:=aFa (prog:=prog) (w:=w) hp'
 refine kat_lt ho hd ho' hd' (kat_cons (aUm ?_))
 rw [HT.dH] at q
 by_cases z:i=i'
 ·rw [aQt z,HT.dH] at q
  rw [show (i == i')=true by simp [z]]
  refine kat_yes (kat_cons (aUm ?_))
  by_cases z:j=j'
  ·rw [aQt z] at q
   rw [show (j == j')=true by simp [z]]
   refine kat_yes (kat_cons (wpAny_eqBool_tuple hu kr kr' ?_))
   by_cases e:[a1,a2]=[b1,b2]
   ·rw [aQ3 e]
    rw [e] at q
    have l:HT.lexLt [b1,b2] [b1,b2]=false:=by
     rw [HT.dH,aQt rfl,HT.dH,aQt rfl]
     rfl
    rw [l] at q
    exact kat_yes (kat_nil q)
   ·rw [aQr e]
    obtain ⟨o1,i1,m1,g1,g2,g3,g4⟩:=kr
    obtain ⟨o2,i2,m2,h1,h2,h3,h4⟩:=kr'
    refine kat_no ?_
    rw [show (b && (0+1+1) == 0)=false by simp]
    exact kat_one _ _ (HT.xU ⟨o1,g1,g2,m1,g3⟩ ⟨o2,h1,h2,m2,h3⟩ (HS.aCi g4) (HS.aCi h4) hu q)
  ·rw [aQv z] at q
   rw [show (j == j')=false by simp [z]]
   refine kat_no ?_
   rw [show (b && (0+1) == 0)=false by simp]
   exact kat_one _ _ (lt_int q)
 ·rw [aQv z] at q
  rw [show (i == i')=false by simp [z]]
  refine kat_no ?_
  cases eb:(b && 0 == 0) with
  | true=>exact oneLt_int q
  | false=>exact kat_one _ _ (lt_int q)
def TupsP(h:Heap)(vs:List Value)(ks:List (List Int)):Prop:=vs.length=ks.length/\∀ (i:Nat) (v:Value) (k:List Int),vs[i]? = some v->ks[i]? = some k->TupP h v k/\k≠[]
theorem TupsP.cons{h:Heap}{v:Value}{vs:List Value}{ks:List (List Int)}(x:TupsP h (v :: vs) ks):∃ k r,ks=k :: r/\TupP h v k/\k≠[]/\TupsP h vs r:=by
 obtain ⟨hl,ha⟩:=x
 cases ks with
 | nil=>simp at hl
 | cons k r =>
  obtain ⟨h1,h2⟩:=ha 0 v k rfl rfl
  exact ⟨k,r,rfl,h1,h2,by simpa using hl,fun i v k e1 e2=>ha (i+1) v k (by simpa using e1) (by simpa using e2)⟩
theorem aMd{h:Heap}:∀ {vs:List Value} {ks:List (List Int)},TupsP h vs ks->∃ fs,KatTups h vs fs/\fs.length=vs.length/\∀ f∈fs,∃ i t,f=Value.int i t
 | [],_,_=>⟨[],KatTups.nil,rfl,fun _ z=>nomatch z⟩
 | v :: vs,ks,x=>by
  obtain ⟨k,r,rfl,⟨t,o,c,i,ti,j,tj,p,a1,a2,rfl,ho,hc,hd,hp,_⟩,hk,hr⟩:=x.cons
  obtain ⟨fs,h1,h2,h3⟩:=aMd hr
  refine ⟨.int i ti :: fs,KatTups.cons ho hc hd rfl h1,by simp [h2],fun f hf=>?_⟩
  rcases aQy.mp hf with rfl | hf
  ·exact ⟨i,ti,rfl⟩
  ·exact h3 f hf
theorem o8{a:Addr}{vs:List Value}{n:Nat}{ks:List (List Int)}{P:PySem.Fin->Shared->Prop}(ho:s.heap.get? a=some (seqObj "list" vs.toArray n))(ht:TupsP s.heap vs ks)(hna:∀ v∈vs,v≠.ref a)(h64:vs.length < 64)(hu:A.units < cLine)
  (h:∀ q:Array Nat,Pm vs.length q->Sd (fun i j=>HT.lexLt (ks.getD i []) (ks.getD j [])) q vs.length->P (.done (.ret .none)) { s with heap:=sortedHeap s.heap a vs (q.toList.map fun i=>vs.getD i Value.none).toArray }) :
  wpAny (model prog w) A (Builtin.«list.sort» ⟨[.ref a],[]⟩) P E s:=by
 rw [list_sort_plain]
 have ha:a < s.heap.objs.size:=aQw ho
 refine aQl (listItems_at ho rfl ?_)
 refine aQl (aU0 ho rfl ?_ (by rw [aQs,aR9];omega) (aRj _))
 obtain ⟨e1,ho1⟩:∃ e1,(s.heap.update a (Obj.mapSeq fun _=>(#[]:Array Value))).get? a=some (seqObj "list" #[] e1):=⟨_,aVt ho (fun _=>#[])⟩
 refine aQl (aVu ho1 rfl ?_)
 refine aQl (wpAny_newTuple ?_ (by show vs.length<=_;rw [aR9];omega))
 refine aQl (aWm ?_ (aRj _))
 refine aSa ?_
 have keep:∀ b o,b≠a->s.heap.get? b=some o->(((s.heap.update a (Obj.mapSeq fun _=>(#[]:Array Value))).push (seqObj "tuple" vs.toArray 0)).push (seqObj "list" #[] 0)).get? b=some o:=fun b o hb e=>by
  refine aQq _ (aQq _ ?_)
  rw [aTu _ _ _ _ hb]
  exact e
 have ho6:(((s.heap.update a (Obj.mapSeq fun _=>(#[]:Array Value))).push (seqObj "tuple" vs.toArray 0)).push (seqObj "list" #[] 0)).get? a=some (seqObj "list" #[] e1):=aQq _ (aQq _ ho1)
 show wpAny (model prog w) A _ P E { s with heap:=((s.heap.update a (Obj.mapSeq fun _=>(#[]:Array Value))).push (seqObj "tuple" vs.toArray 0)).push (seqObj "list" #[] 0) }
 dsimp only
 by_cases h2:vs.toArray.size < 2
 ·rw [aQt h2,aQt h2]
  refine aQl (aQo ?_)
  rw [StateT.run_pure]
  refine aQl (aQo ?_)
  dsimp only
  have e0:(arrOf (SortSt.mk' general' (vs.toArray.zip vs.toArray) #[] 7 none)).map (·.2)=((List.range vs.length).toArray.toList.map fun i=>vs.getD i Value.none).toArray:=by
   show (vs.toArray.zip vs.toArray).map (·.2)=_
   rw [aRv,range_getD]
   apply aWt.mp
   simp [List.map_snd_zip]
  rw [e0]
  refine aQl (aVu ho6 rfl ?_)
  refine aQl (aU0 ho6 rfl ?_ (aRj _) (by rw [aRv,range_getD,aQs,aR9];omega))
  simp only [aVa,aQ2,aR1]
  refine aQo (h (List.range vs.length).toArray (aW2 _) fun i j hij hj=>?_)
  have:i=j:=by rw [aQs] at h2;omega
  subst this
  exact (qY ks).rf _
 ·rw [aQv h2,aQv h2]
  have h2':2<=vs.length:=by rw [aQs] at h2;omega
  have ht6:TupsP (((s.heap.update a (Obj.mapSeq fun _=>(#[]:Array Value))).push (seqObj "tuple" vs.toArray 0)).push (seqObj "list" #[] 0)) vs ks:=⟨ht.1,fun i v k q1 q2=>by
   obtain ⟨z1,z2⟩:=ht.2 i v k q1 q2
   exact ⟨z1.at fun t o et ec=>keep t o (fun z=>by rw [z,ho] at et;cases et;exact absurd ec (show Value.type "list"≠Value.type "tuple" by decide +kernel)) et,z2⟩⟩
  obtain ⟨fs,f1,f2,f3⟩:=aMd ht6
  refine aQl (kat_kind (T:=.type "int") f1 (by rw [f2];omega) (fun v hv=>?_) rfl ?_)
  ·obtain ⟨i,t,rfl⟩:=f3 v hv
   exact .now
  refine aQl (aR4 (kat_run (κ:=tuples' (Value.type "int" != Value.type "tuple")) (ks:=vs) (Q:=fun st' s'=>∃ p:Array Nat,s'={ s with heap:=((s.heap.update a (Obj.mapSeq fun _=>(#[]:Array Value))).push (seqObj "tuple" vs.toArray 0)).push (seqObj "list" #[] 0) }/\p.size=vs.length/\arrOf st'=p.map (kas_item (vs.toArray.zip vs.toArray))/\failedOf st'=none/\Pm vs.length p/\Sd (fun i j=>HT.lexLt (ks.getD i []) (ks.getD j [])) p vs.length)
   (G:=fun p s'=>s'={ s with heap:=((s.heap.update a (Obj.mapSeq fun _=>(#[]:Array Value))).push (seqObj "tuple" vs.toArray 0)).push (seqObj "list" #[] 0) }/\Pm vs.length p/\Sd (fun i j=>HT.lexLt (ks.getD i []) (ks.getD j [])) p vs.length)
   rfl h2' h64 (fun p st' s' a1 a2 a3 a4=>⟨p,a4.1,a1,a2,a3,a4.2⟩) (aAu (n:=vs.length) (lt:=fun i j=>HT.lexLt (ks.getD i []) (ks.getD j [])) (fun i j C hi hj hC=>?_) (by omega) (qY ks) fun q q1 q2=>⟨rfl,q1,q2⟩)) ?_ fun _ _ e=>e)
  ·unfold kas_ask
   have hi':vs[i]? = some vs[i]:=aQn hi
   have hj':vs[j]? = some vs[j]:=aQn hj
   have ki:i < ks.length:=by rw [<- ht.1];exact hi
   have kj:j < ks.length:=by rw [<- ht.1];exact hj
   have di:vs.getD i Value.none=vs[i]:=by simp [hi]
   have dj:vs.getD j Value.none=vs[j]:=by simp [hj]
   have ei:ks.getD i []=ks[i]:=by simp [ki]
   have ej:ks.getD j []=ks[j]:=by simp [kj]
   rw [di,dj]
   rw [ei,ej] at hC
   exact aCn hu (ht6.2 i _ _ hi' (aQn ki)).1 (ht6.2 j _ _ hj' (aQn kj)).1 hC
  ·rintro ⟨⟨⟩,st'⟩ s' ⟨p,rfl,hp,har,hf,hpm,hsd⟩
   dsimp only
   have hout:=kat_snds (ks:=vs) (vs:=vs) rfl har
   have hsz:(List.toArray (p.toList.map fun i=>vs.getD i Value.none)).size=vs.length:=by rw [aQs,aQm,aQ4,hp]
   rw [hout]
   refine aQl (aVu ho6 rfl ?_)
   refine aQl (aU0 ho6 rfl ?_ (aRj _) (aR0 (aT4 hsz) (by rw [aR9];omega)))
   rw [hf]
   simp only [aVa,aQ2,aR1]
   exact aQo (h p hpm hsd)
theorem t9{r:Addr}{Q:Value->Shared->Prop}{Ok:List Value->Prop}(hcol:∀ R:List Value->Shared->Prop,(∀ h' tk vs,(∀ b o,s.heap.get? b=some o->h'.get? b=some o)->Ok vs->R vs { s with heap:=h',toks:=tk })->wpAny (model prog w) A.in1 (collect (.ref r)) R E s)
  (hu:A.units+10 < cLine) (ks:List (List Int)) (hok:∀ vs,Ok vs->TupsP s.heap vs ks/\vs.length < 64)
  (h:∀ (h' hf:Heap) (tk c:Nat) (vs:List Value) (q:Array Nat),(∀ b o,s.heap.get? b=some o->h'.get? b=some o)->(∀ b o,h'.get? b=some o->hf.get? b=some o)->Ok vs->Pm vs.length q->Sd (fun i j=>HT.lexLt (ks.getD i []) (ks.getD j [])) q vs.length ->
   hf.get? h'.objs.size=some (seqObj "list" (q.toList.map fun i=>vs.getD i Value.none).toArray c)->Q (.ref h'.objs.size) { s with heap:=hf,toks:=tk }) :
  wpAny (model prog w) A (call (.builtin "sorted") [.ref r]) Q E s:=by
 refine aUj kind_sorted plain_sorted entry_sorted (args_sorted1 _) ?_
 unfold Builtin.«sorted»
 refine aQl (m:=checkCount "sorted" 1 1 _) (aQo ?_)
 refine aQl (hcol _ fun h' tk vs keep ov=>?_)
 obtain ⟨ht,h64⟩:=hok vs ov
 refine aQl (aWm ?_ (by rw [aR9];omega))
 have hoL:(h'.push (seqObj "list" vs.toArray 0)).get? h'.objs.size=some (seqObj "list" vs.toArray 0):=aQ9 _ rfl
 have keep2:∀ b o,s.heap.get? b=some o->(h'.push (seqObj "list" vs.toArray 0)).get? b=some o:=fun b o e=>aQq _ (keep b o e)
 have lt:∀ b o,s.heap.get? b=some o->b≠h'.objs.size:=fun b o e=>aRa (aQw (keep b o e))
 have tat:∀ v∈vs,∃ t o,v=.ref t/\s.heap.get? t=some o:=fun v hv=>by
  obtain ⟨i,hi,e⟩:=aTi.mp hv
  have ki:i < ks.length:=by rw [<- ht.1];exact hi
  obtain ⟨⟨t,o,_,_,_,_,_,_,_,_,e1,e2,_⟩,_⟩:=ht.2 i v ks[i] (by rw [aQn hi,e]) (aQn ki)
  exact ⟨t,o,e1,e2⟩
 have ht2:TupsP (h'.push (seqObj "list" vs.toArray 0)) vs ks:=⟨ht.1,fun i v k q1 q2=>let ⟨z1,z2⟩:=ht.2 i v k q1 q2;⟨z1.at fun t o et _=>keep2 t o et,z2⟩⟩
 refine aQl (aSa (aS2 slot_list_sort ⟨_,hoL,rfl⟩ entry_list_sort (o8 (s:={ s with heap:=h'.push (seqObj "list" vs.toArray 0),toks:=tk }) hoL ht2 (fun v hv z=>?_) h64 (show A.units+1+1 < cLine by omega) fun q a1 a2=>⟨_,rfl,?_⟩) (args_list_sort _)))
 ·obtain ⟨t,o,e1,e2⟩:=tat v hv
  rw [e1] at z
  injection z with z
  exact lt t o e2 z
 ·obtain ⟨c,hc⟩:=oF (out:=(q.toList.map fun i=>vs.getD i Value.none).toArray) hoL
  exact aQo ⟨_,rfl,h h' _ tk c vs q keep (fun b o e=>nC (aRa (aQw e)) (aQq _ e)) ov a1 a2 hc⟩
def aOm(H:Hp)(ts:List V)(ks:List (List Int)):Prop:=ts.length=ks.length/\∀ (i:Nat) (t:V) (k:List Int),ts[i]? = some t->ks[i]? = some k->(∃ b p i j a1 a2,t=.ref b/\H b=some (.tup [.int i,.int j,.ref p])/\H p=some (.tup [.int a1,.int a2])/\k=[i,j,a1,a2])/\k≠[]
end
theorem aBk{P:Program}{w:World}{H:Hp}{h:Heap}{ts:List V}{ks:List (List Int)}{vs:List Value}(ok:HOk P w H h)(r:aOm H ts ks)(v:Vals ts vs):TupsP h vs ks:=by
 have hl:=v.length
 refine ⟨by rw [<- hl];exact r.1,fun i u k e1 e2=>?_⟩
 have hi:i < ts.length:=by
  have:=(aRe.mp e1).1
  omega
 obtain ⟨⟨b,p,i0,j0,a1,a2,eb,hb,hp,ek⟩,hk⟩:=r.2 i ts[i] k (aQn hi) e2
 obtain ⟨u',e3,ru⟩:=v.get (i:=i) (x:=ts[i]) (aQn hi)
 rw [e1] at e3
 cases e3
 rw [eb] at ru
 cases (show u=Value.ref b from ru)
 obtain ⟨_,its,rv,o,ho,hc,n,hd⟩:=(show ObjOk P w H h b (.tup [.int i0,.int j0,.ref p]) from ok b _ hb)
 obtain ⟨_,it2,rv2,o2,ho2,hc2,n2,hd2⟩:=(show ObjOk P w H h p (.tup [.int a1,.int a2]) from ok p _ hp)
 cases rv with
 | cons r1 rv =>
  cases rv with
  | cons r2 rv =>
   cases rv with
   | cons r3 rv =>
    cases rv
    rename_i v1 v2 v3
    obtain ⟨t1,rfl⟩:=(show ∃ t,v1=Value.int i0 t from r1)
    obtain ⟨t2,rfl⟩:=(show ∃ t,v2=Value.int j0 t from r2)
    cases (show v3=Value.ref p from r3)
    refine ⟨⟨b,o,n,i0,t1,j0,t2,.ref p,a1,a2,rfl,ho,hc,hd,⟨p,o2,_,n2,rfl,ho2,hc2,hd2,?_⟩,ek⟩,hk⟩
    rw [aRv]
    exact intsAre_of (ns:=[a1,a2]) rv2
section
variable {X:Cx}
def aGj:List V->Hp->VK->Prop:=fun xs H Q=>∃ a ts ks,xs=[.ref a]/\Rd H a (.lst ts)/\aOm H ts ks/\ts.length < 64/\∀ D q,H D=none->Pm ts.length q->Sd (aDk ks) q ts.length->Q (.ref D) (upd H D (.lst (q.toList.map fun i=>ts.getD i .non)))
theorem x4(hcm:X.calm=true)(hu:X.A.units+64 < cLine):lU X (.builtin "sorted") aGj:=by
 intro pins s σ H xs us Q I r h
 obtain ⟨a,ts,ks,rfl,ha,hr,h64,q⟩:=h
 obtain ⟨u,rfl,ru⟩:=vals1 r
 cases (show u=Value.ref a from ru)
 obtain ⟨_,its,n,rv,ho⟩:=ha.ok I.hok
 have hlen:=rv.length
 have tup:=aBk I.hok hr rv
 refine t9 (hu:=by omega) (Ok:=fun vs=>vs=its) (fun R hR=>?_) ks (fun vs e=>⟨e▸tup,by rw [e];omega⟩) fun h' hf tk c vs q' k1 k2 e p1 p2 hc=>?_
 ·refine collect_list (⟨_,ho,rfl,n,rfl⟩:s.heap.IsList a its.toArray) (hR _ _ _ (fun b o e=>?_) rfl) (by rw [aR9];omega)
  rw [aTu _ _ _ _ (aRa (aQw e))]
  exact aQq _ e
 ·subst e
  exact wB I rv (by omega) k1 k2 p1 hc fun D hD=>q D q' hD (hlen▸p1) (hlen▸p2)
end
end SRT
namespace M
open PySem PySem.Spec PyProof.Rows L2 SRT
def aJb(k:List Int):D:=match k with
 | [i,j,a,b]=>.tuple [.int i,.int j,.tuple [.int a,.int b]]
 | _=>.none
def aF0:List D->Option (List (List Int))
 | []=>some []
 | .tuple [.int i,.int j,.tuple [.int a,.int b]] :: ds=>(aF0 ds).map fun ks=>[i,j,a,b] :: ks
 | _ :: _=>none
theorem aB9:∀ {ds:List D} {ks:List (List Int)},aF0 ds=some ks->ds=ks.map aJb/\∀ k∈ks,∃ i j a b,k=[i,j,a,b]
 | [],ks,h=>by cases h;exact ⟨rfl,fun _ z=>nomatch z⟩
 | d :: ds,ks,h=>by
  unfold aF0 at h
  split at h
  ·rename_i e;cases e
  ·rename_i i j a b ds' e
   cases e
   cases q:aF0 ds with
   | none=>rw [q] at h;cases h
   | some r =>
    rw [q] at h
    cases h
    obtain ⟨i1,i2⟩:=aB9 q
    refine ⟨by rw [i1];rfl,fun k hk=>?_⟩
    rcases aQy.mp hk with rfl | hk
    ·exact ⟨i,j,a,b,rfl⟩
    ·exact i2 k hk
  ·cases h
def oQ(rs:List Ev):Res Ev:=match rs with
 | [x]=>match iO x with
  | some ds=>match aF0 ds with
   | some ks=>if ks.length < 64 then .ok (.f (.list ((i6 ks).map aJb))) else .bad
   | none=>.bad
  | none=>.bad
 | _=>.bad
theorem aBy:aA8 oQ:=by
 intro rs C h
 unfold oQ at h
 split at h
 ·split at h
  ·split at h
   ·split at h<;>cases h
   ·cases h
  ·cases h
 ·cases h
section
variable {K:aQk}
theorem aG3{G:Hp}{v:V}{i j a b:Int}(h:Rep K G v (aJb [i,j,a,b])):∃ t p,v=.ref t/\G t=some (.tup [.int i,.int j,.ref p])/\G p=some (.tup [.int a,.int b]):=by
 cases h with
 | tup h r =>
  cases r with
  | cons r1 r =>
   cases r with
   | cons r2 r =>
    cases r with
    | cons r3 r =>
     cases r
     cases r1
     cases r2
     cases r3 with
     | tup h1 s =>
      cases s with
      | cons s1 s =>
       cases s with
       | cons s2 s =>
        cases s
        cases s1
        cases s2
        exact ⟨_,_,rfl,h,h1⟩
theorem aDh:nN K aGj oQ:=by
 intro W Hs G H vs rs Q gh he hw
 unfold oQ at hw
 split at hw
 ·rename_i x
  match vs,he with
  | [v],⟨h1,_⟩ =>
   split at hw
   ·rename_i ds ed
    obtain ⟨a,xs,rfl,k1,k2⟩:=n9 gh h1 ed
    split at hw
    ·rename_i ks ek
     split at hw
     ·rename_i hz
      obtain ⟨rfl,sh⟩:=aB9 ek
      have hl:xs.length=ks.length:=by rw [k2.length,aQm]
      have rI:aOm H xs ks:=⟨hl,fun i t k e1 e2=>by
       obtain ⟨d,e3,rd⟩:=k2.get e1
       rw [aQ0,e2] at e3
       cases e3
       obtain ⟨i0,j0,a1,a2,rfl⟩:=sh k (aS4 e2)
       obtain ⟨t,p,rfl,g1,g2⟩:=aG3 rd
       exact ⟨⟨t,p,i0,j0,a1,a2,rfl,gh _ _ g1,gh _ _ g2,rfl⟩,List.cons_ne_nil _ _⟩⟩
      refine ⟨a,xs,ks,rfl,k1,rI,by omega,fun D q hD hp hs=>?_⟩
      have ep:=picked hl hp hs
      refine hw _ _ _ (Step.lay gh hD) ⟨D,_,rfl,?_,gh.free hD,bJ,.lst ?_⟩
      ·exact hD
      ·rw [<- ep]
       have go:∀ l:List Nat,(∀ i∈l,i < ks.length)->Reps K G (l.map fun i=>xs.getD i .non) ((l.map fun i=>ks.getD i []).map aJb):=fun l=>by
        induction l with
        | nil=>exact fun _=>.nil
        | cons i l ih =>
         intro hb
         refine .cons ?_ (ih fun j hj=>hb j (.tail _ hj))
         have hi:=hb i (.head _)
         have hi':i < xs.length:=by omega
         obtain ⟨d,e3,rd⟩:=k2.get (aQn hi')
         rw [aQ0,aQn hi] at e3
         cases e3
         have e1:xs.getD i .non=xs[i]:=by simp [hi']
         have e2:ks.getD i []=ks[i]:=by simp [hi]
         show Rep K G (xs.getD i .non) (aJb (ks.getD i []))
         rw [e1,e2];exact rd
       exact go _ fun i hi=>by rw [<- hl];exact aLh hp i hi
     ·exact hw.elim
    ·exact hw.elim
   ·exact hw.elim
 ·exact hw.elim
end
end M
namespace N
open PySem PySem.Spec PyProof.Rows L2 M
def frD(x:Int×Int):D:=.tuple [.int x.1,.int x.2]
abbrev Pl:=Int×Int×(Int×Int)
def plD(p:Pl):D:=.tuple [.int p.1,.int p.2.1,frD p.2.2]
def slD(p:Int×Int):D:=.tuple [.int p.1,.int p.2]
theorem at0{α:Type}(x:α)(r:List α):atI (x :: r) 0=some x:=lN (j:=0) rfl
theorem at1{α:Type}(x y:α)(r:List α):atI (x :: y :: r) 1=some y:=lN (j:=1) rfl
theorem at2{α:Type}(x y z:α)(r:List α):atI (x :: y :: z :: r) 2=some z:=lN (j:=2) rfl
theorem jB(i j:Int):PyData.eqv (.int i) (.int j)=(i == j):=by simp [PyData.eqv]
theorem jD(i:Int):SeqAt.shaped (.int i)=true:=by simp [SeqAt.shaped,PyData.canLay0,PyData.depth]
def aPy:D->Option (Int×Int)
 | .tuple [.int a,.int b]=>some (a,b)
 | _=>none
def aPx:D->Option Pl
 | .tuple [.int i,.int j,.tuple [.int a,.int b]]=>some (i,j,(a,b))
 | _=>none
theorem eI{α:Type}{g:D->Option (Option D)}{enc:α->D}{out:α->D}:∀ xs:List α,(∀ x∈xs,g (enc x)=some (some (out x)))->oX g (xs.map enc)=some (xs.map out)
 | [],_=>rfl
 | x :: xs,h=>by
  show (match g (enc x) with | none=>none | some o=>match oX g (xs.map enc) with | none=>none | some r=>some (match o with | some y=>y :: r | none=>r))=_
  rw [h x (.head _),eI xs fun y hy=>h y (.tail _ hy)]
  rfl
def ltF(x y:Int×Int):Bool:=decide (x.1*y.2 < y.1*x.2)
def FSz(n:Nat)(x:Int×Int):Prop:=Sz n x.1/\Sz n x.2
def Good(n:Nat)(x:Int×Int):Prop:=1<=x.2/\Sz n x.1/\Sz n x.2
theorem Good.fsz{n:Nat}{x:Int×Int}(h:Good n x):FSz n x:=h.2
theorem Good.mono{m n:Nat}{x:Int×Int}(h:Good m x)(l:m<=n):Good n x:=⟨h.1,h.2.1.mono l,h.2.2.mono l⟩
theorem oR{n:Nat}{t b:Int}(ht:Sz n t)(hb:Sz n b)(h0:b≠0):Good n (FR.mk t b):=⟨(FR.zQ h0).1.pos,Sz.le ht (aTy _ _),Sz.le hb (aTy _ _)⟩
def hT(i:Int)(x:Int×Int):Int×Int:=FR.mk (i*x.1) (1*x.2)
def hP(x y:Int×Int):Int×Int:=FR.mk (x.1*y.2+y.1*x.2) (x.2*y.2)
theorem wO{m n:Nat}{x y:Int×Int}(hx:Good m x)(hy:Good n y):Good (m+n+1) (hP x y) :=
 oR (Sz.add (Sz.mul hx.2.1 hy.2.2) ((Sz.mul hy.2.1 hx.2.2).mono (by omega))) ((Sz.mul hx.2.2 hy.2.2).mono (by omega)) (fun z=>by
  rcases aVy.mp z with q | q
  ·have:=hx.1;omega
  ·have:=hy.1;omega)
theorem Good.ne{m n:Nat}{x y:Int×Int}(hx:Good m x)(hy:Good n y):x.2*y.2≠0:=fun z=>by
 rcases aVy.mp z with q | q
 ·have:=hx.1;omega
 ·have:=hy.1;omega
open Classical in
noncomputable def mOf{α:Type}(enc:α->List L)(P:α->Prop)(g:α->Res L)(ls:List L):Res L:=if h:∃ a,enc a=ls/\P a then g h.choose else .bad
theorem kA{α:Type}{enc:α->List L}{P:α->Prop}{g:α->Res L}(inj:∀ a b,enc a=enc b->a=b){a:α}(h:P a):mOf enc P g (enc a)=g a:=by
 have hx:∃ b,enc b=enc a/\P b:=⟨a,rfl,h⟩
 unfold mOf
 rw [dif_pos hx,inj _ _ hx.choose_spec.1]
theorem lF{α:Type}{enc:α->List L}{P:α->Prop}{g:α->Res L}{n:Nat}{f:MS}(h:∀ a,P a->gS n f (enc a)=g a):∀ ls,mOf enc P g ls=.bad\/gS n f ls=mOf enc P g ls:=by
 intro ls
 unfold mOf
 by_cases hx:∃ a,enc a=ls/\P a
 ·rw [dif_pos hx]
  exact .inr ((aUn _ hx.choose_spec.1.symm).trans (h _ hx.choose_spec.2))
 ·exact .inl (dif_neg hx)
theorem frI{a b:Int×Int}(h:frD a=frD b):a=b:=aQ7 (aUn aPy h)
theorem plI{a b:Pl}(h:plD a=plD b):a=b:=aQ7 (aUn aPx h)
theorem oJ(a:D)(r:List D):ixE (.p (.tuple (a :: r))) (.p (.int 0))=.ok (.p a):=by simp [ixE,jF,at0]
theorem pA(a b:D)(r:List D):ixE (.p (.tuple (a :: b :: r))) (.p (.int 1))=.ok (.p b):=by simp [ixE,jF,at1]
theorem u5(a b d:D)(r:List D):ixE (.p (.tuple (a :: b :: d :: r))) (.p (.int 2))=.ok (.p d):=by simp [ixE,jF,at2]
theorem fV(p:Pl):ixE (.p (plD p)) (.p (.int 0))=.ok (.p (.int p.1)):=oJ _ _
theorem gC(p:Pl):ixE (.p (plD p)) (.p (.int 1))=.ok (.p (.int p.2.1)):=pA _ _ _
theorem iX(p:Pl):ixE (.p (plD p)) (.p (.int 2))=.ok (.p (frD p.2.2)):=u5 _ _ _ _
theorem pK(p:Int×Int):ixE (.p (frD p)) (.p (.int 0))=.ok (.p (.int p.1)):=oJ _ _
theorem pH(p:Int×Int):ixE (.p (frD p)) (.p (.int 1))=.ok (.p (.int p.2)):=pA _ _ _
section
variable {κ α:Type}[DecidableEq κ]
def iA:List (κ×α)->κ->Option α
 | [],_=>none
 | p :: r,k=>if p.1=k then some p.2 else iA r k
def aCr(k:κ)(v:α):List (κ×α)->List (κ×α)
 | []=>[]
 | p :: r=>(if p.1=k then (p.1,v) else p) :: aCr k v r
def mO(m:List (κ×α))(k:κ)(v:α):List (κ×α):=if (iA m k).isSome=true then aCr k v m else m++[(k,v)]
def encM(ek:κ->D)(ev:α->D)(m:List (κ×α)):List (D×D):=m.map fun p=>(ek p.1,ev p.2)
variable {ek:κ->D}{ev:α->D}(inj:∀ a b,ek a=ek b->a=b)
include inj
theorem qJ(k:κ):∀ m:List (κ×α),xE (encM ek ev m) (ek k)=(iA m k).map ev
 | []=>rfl
 | p :: r=>by
  unfold encM
  rw [aQx]
  unfold xE iA
  by_cases e:p.1=k
  ·rw [aQt (by rw [e]),aQt e];rfl
  ·rw [aQv (fun z=>e (inj _ _ z)),aQv e]
   exact qJ k r
theorem wU(k:κ)(v:α):∀ m:List (κ×α),aFu (ek k) (ev v) (encM ek ev m)=encM ek ev (aCr k v m)
 | []=>rfl
 | p :: r=>by
  have ih:=wU k v r
  unfold encM at ih ⊢
  rw [aQx]
  unfold aFu aCr
  rw [aQx,ih]
  by_cases e:p.1=k
  ·rw [aQt (by rw [e]),aQt e]
  ·rw [aQv (fun z=>e (inj _ _ z)),aQv e]
theorem aEd(k:κ)(v:α)(m:List (κ×α)):aC3 (encM ek ev m) (ek k) (ev v)=encM ek ev (mO m k v):=by
 unfold aC3 mO
 rw [qJ inj]
 cases e:iA m k with
 | none =>
  rw [aQv (by simp),aQv (by simp)]
  unfold encM
  rw [aRn]
  rfl
 | some x =>
  rw [aQt (by rfl),aQt (by rfl)]
  exact wU inj k v m
end
theorem aBi(a b:Int×Int)(h:slD a=slD b):a=b:=by
 unfold slD at h
 injection h with h
 injection h with h1 h2
 injection h2 with h2 _
 injection h1 with h1
 injection h2 with h2
 exact aWp h1 h2
theorem pG{α:Type}{ev:α->D}(m:List ((Int×Int)×α)):dsp (encM slD ev m)=(false,encM slD ev m):=by
 cases m<;>rfl
theorem aAh(s:Int×Int):(aJc (slD s)).isSome=true:=rfl
theorem mU{α:Type}{ev:α->D}(m:List ((Int×Int)×α))(s:Int×Int):rP (encM slD ev m) (slD s)=some ((iA m s).map ev):=by
 unfold rP
 rw [pG]
 dsimp only
 rw [aQt (aAh s),qJ aBi]
theorem uM{α:Type}{ev:α->D}(m:List ((Int×Int)×α))(s:Int×Int)(v:α)(h:m.length<=100000):yW (encM slD ev m) (slD s) (ev v)=some (encM slD ev (mO m s v)):=by
 unfold yW
 rw [pG]
 dsimp only
 rw [aQt ⟨aAh s,by unfold encM;rw [aQm];exact h⟩,aEd aBi]
theorem qH{α κ:Type}[DecidableEq κ](k:κ)(v:α):∀ m:List (κ×α),(aCr k v m).length=m.length
 | []=>rfl
 | _ :: r=>by unfold aCr;rw [aQp,aQp,qH k v r]
theorem kW{α κ:Type}[DecidableEq κ](m:List (κ×α))(k:κ)(v:α):(mO m k v).length<=m.length+1:=by
 unfold mO
 split
 ·rw [qH];exact aT5 _
 ·rw [aQz];exact aQu _
theorem t7{α κ:Type}[DecidableEq κ](k:κ)(v:α)(j:κ):∀ m:List (κ×α),iA (aCr k v m) j=if j=k then (iA m k).map (fun _=>v) else iA m j
 | []=>by unfold aCr iA;split<;>rfl
 | p :: r=>by
  have ih:=t7 k v j r
  unfold aCr iA
  by_cases e:p.1=k
  ·rw [aQt e]
   by_cases e2:p.1=j
   ·have:j=k:=by rw [<- e2,e]
    rw [aQt e2,aQt this,aQt e];rfl
   ·have:j≠k:=fun z=>e2 (by rw [e,z])
    rw [aQv e2,aQv this,aQv e2]
    rw [aQv this] at ih
    exact ih
  ·rw [aQv e]
   by_cases e2:p.1=j
   ·have:j≠k:=fun z=>e (by rw [e2,z])
    rw [aQt e2,aQv this,aQt e2]
   ·rw [aQv e2,ih]
    by_cases e3:j=k
    ·rw [aQt e3,aQt e3,aQv e]
    ·rw [aQv e3,aQv e3,aQv e2]
theorem wI{α κ:Type}[DecidableEq κ](j:κ)(l:List (κ×α)):∀ m:List (κ×α),iA (m++l) j=match iA m j with
  | some x=>some x
  | none=>iA l j
 | []=>rfl
 | p :: r=>by
  have ih:=wI j l r
  rw [aTb]
  show (if p.1=j then some p.2 else iA (r++l) j)=match (if p.1=j then some p.2 else iA r j) with
   | some x=>some x
   | none=>iA l j
  by_cases e:p.1=j
  ·rw [aQt e,aQt e]
  ·rw [aQv e,aQv e];exact ih
theorem kR{α κ:Type}[DecidableEq κ](m:List (κ×α))(k:κ)(v:α)(j:κ):iA (mO m k v) j=if j=k then some v else iA m j:=by
 unfold mO
 cases e:iA m k with
 | none =>
  rw [aQv (by simp),wI]
  by_cases ej:j=k
  ·subst ej;rw [e,aQt rfl];unfold iA;rw [aQt rfl]
  ·rw [aQv ej]
   cases e2:iA m j with
   | some x=>rfl
   | none=>unfold iA;rw [aQv (fun z=>ej z.symm)];rfl
 | some x =>
  rw [aQt (by rfl),t7]
  by_cases ej:j=k
  ·rw [aQt ej,aQt ej,e];rfl
  ·rw [aQv ej,aQv ej]
def slp(p:Pl):Int×Int:=(p.1,p.2.1)
def kys{α:Type}(m:List ((Int×Int)×α)):List (List Int):=m.map fun e=>[e.1.1,e.1.2]
def un2(k:List Int):Int×Int:=(k.getD 0 0,k.getD 1 0)
def aJ7{α:Type}(m:List ((Int×Int)×α))(d:α)(k:List Int):α:=(iA m (un2 k)).getD d
theorem aEk{α:Type}{ev:α->D}(m:List ((Int×Int)×α)):(encM slD ev m).map (·.1)=(kys m).map oZ:=by
 unfold encM kys
 rw [aR7,aR7]
 rfl
theorem aMi{α:Type}(m:List ((Int×Int)×α)):((kys m).all fun k=>!k.isEmpty)=true:=by
 unfold kys
 rw [List.all_map]
 exact aSi.mpr fun _ _=>rfl
theorem sZ{α:Type}{ev:α->D}(m:List ((Int×Int)×α))(h:m.length < 64):fF [.p (.dict (encM slD ev m))]=.ok (.f (.list ((i6 (kys m)).map oZ))):=by
 unfold fF
 simp only [jX,pG,aEk,sH]
 rw [aQt trivial,aQt ⟨aMi m,by unfold kys;rw [aQm];exact h⟩]
theorem wJ{α κ:Type}[DecidableEq κ]:∀ {m:List (κ×α)} {e:κ×α},e∈m->∃ v,iA m e.1=some v
 | p :: r,e,h=>by
  unfold iA
  by_cases q:p.1=e.1
  ·rw [aQt q];exact ⟨_,rfl⟩
  ·rw [aQv q]
   rcases aQy.mp h with z | z
   ·exact absurd (by rw [z]) q
   ·exact wJ z
theorem pT{α:Type}{m:List ((Int×Int)×α)}{k:List Int}(h:k∈i6 (kys m))(d:α):oZ k=slD (un2 k)/\k=[(un2 k).1,(un2 k).2]/\iA m (un2 k)=some (aJ7 m d k):=by
 have h1:=(fN (kys m)).mem_iff.mp h
 obtain ⟨e,he,rfl⟩:=aRk.mp h1
 obtain ⟨v,hv⟩:=wJ he
 have hu:un2 [e.1.1,e.1.2]=e.1:=rfl
 refine ⟨rfl,rfl,?_⟩
 unfold aJ7
 rw [hu,hv]
 rfl
theorem aBq{α:Type}(f:α->Bool):∀ xs:List α,sJ (xs.map fun x=>PyData.bool (f x))=some (xs.map f)
 | []=>rfl
 | x :: xs=>by
  show (match sJ (xs.map fun x=>PyData.bool (f x)) with | some bs=>some (f x :: bs) | none=>none)=_
  rw [aBq f xs]
  rfl
theorem cm{i j:Int}{m n:Nat}(h1:Sz m i)(h2:Sz n j)(hm:m<=60000)(hn:n<=60000):CMulW i j:=⟨h1.mono hm,h2.mono hn⟩
theorem b9{a b:Int}(hb:0 < b):0<=a.fmod b/\a.fmod b < b:=by
 rw [aUh a (Int.le_of_lt hb)]
 exact ⟨aW4 a (by omega),aV9 a hb⟩
theorem aN{f g:MS}{en e1:En}(h:f en=some (.nx e1)):bC f g en=g e1:=by unfold bC;rw [h]
theorem fA{f g:MS}{en:En}{l:L}(h:f en=some (.rt l)):bC f g en=some (.rt l):=by unfold bC;rw [h]
theorem eF{i:Nat}{fe:En->Res Ev}{en:En}{d:D}(h:fe en=.ok (.p d)):cJ i fe en=some (.nx (en.set i (some (.p d)))):=by unfold cJ;rw [h]
theorem iV{i:Nat}{fe:En->Res Ev}{en:En}{d:D}(h:fe en=.ok (.f d)):cJ i fe en=some (.nx (en.set i (some (.o d)))):=by unfold cJ;rw [h]
theorem jI{ft:En->Res Bool}{f g:MS}{en:En}(h:ft en=.ok true):eA ft f g en=f en:=by unfold eA;rw [h];rfl
theorem kF{ft:En->Res Bool}{f g:MS}{en:En}(h:ft en=.ok false):eA ft f g en=g en:=by unfold eA;rw [h];rfl
theorem eC{n:Nat}{f:MS}{ls:List L}{l:L}(h:f (cW n ls)=some (.rt l)):gS n f ls=.ok l:=by unfold gS;rw [h]
theorem uG{α:Type}(f:α->D)(h:∀ a,PyData.canLay0 (f a)=true):∀ xs:List α,PyData.canLayAll0 (xs.map f)=true
 | []=>rfl
 | x :: xs=>by rw [aQx,PyData.canLayAll0,h x,uG f h xs];rfl
theorem uK{α:Type}(f:α->D)(n:Nat)(h:∀ a,PyData.depth (f a)<=n):∀ xs:List α,PyData.depthAll (xs.map f)<=n
 | []=>aRj _
 | x :: xs=>by
  rw [aQx,PyData.depthAll]
  exact Nat.max_le.mpr ⟨h x,uK f n h xs⟩
theorem aKa(p:Pl):PyData.canLay0 (plD p)=true:=by simp [plD,frD,PyData.canLay0,PyData.canLayAll0]
theorem aL0(p:Pl):PyData.depth (plD p)<=9:=by simp [plD,frD,PyData.depth,PyData.depthAll]
theorem aCs{α:Type}(f:α->D)(h1:∀ a,PyData.canLay0 (f a)=true)(h2:∀ a,PyData.depth (f a)<=9)(xs:List α):SeqAt.shaped (.list (xs.map f))=true:=by
 have a:PyData.canLay0 (.list (xs.map f))=true:=by rw [PyData.canLay0];exact uG f h1 xs
 have b:PyData.depth (.list (xs.map f))<=64:=by
  rw [PyData.depth]
  have:=uK f 9 h2 xs
  omega
 unfold SeqAt.shaped
 rw [a,aQ3 b]
 rfl
theorem xI{x y:Ev}{d:D}(h1:dat x=some d)(h2:dat y=some d)(hs:SeqAt.shaped d=true)(ng:Bool):eqE ng x y=.ok (.p (.bool (!ng))):=by
 have hc:PyData.canLay0 d=true:=by
  unfold SeqAt.shaped at hs
  exact (aRh.mp hs).1
 unfold eqE
 rw [h1,h2]
 dsimp only
 rw [aQt ⟨hs,hs⟩,SeqAt.eqv_refl d hc]
 cases ng<;>rfl
theorem aF6(ps:List Pl):SeqAt.shaped (.list (ps.map plD))=true:=aCs plD aKa aL0 ps
theorem aJf(x:Int×Int):SeqAt.shaped (frD x)=true:=by simp [SeqAt.shaped,frD,PyData.canLay0,PyData.canLayAll0,PyData.depth,PyData.depthAll]
theorem lO{fi:En->Res (List D)}{tg:D->En->Option En}{f:MS}{en:En}{ds:List D}(h:fi en=.ok ds):tV fi tg f en=gY tg f ds en:=by unfold tV;rw [h]
theorem aCc(x y:Int×Int):PyData.eqv (frD x) (frD y)=decide (x=y):=by
 have:PyData.eqv (frD x) (frD y)=(x.1 == y.1 && (x.2 == y.2 && true)):=by simp [frD,PyData.eqv,PyData.eqvAll]
 rw [this]
 by_cases h:x=y
 ·subst h;simp
 ·rw [aQr h]
  by_cases h1:x.1=y.1
  ·have h2:¬ x.2=y.2:=fun h2=>h (aWp h1 h2)
   simp [h1,h2]
  ·simp [h1]
theorem aCm{α:Type}(f:α->D)(h:∀ a,lfD (f a)=true):∀ xs:List α,lfA (xs.map f)=true
 | []=>by simp [lfA]
 | x :: xs=>by rw [aQx];unfold lfA;rw [h x,aCm f h xs];rfl
theorem Sz.addM{m n:Nat}{x y:Int}(hx:Sz m x)(hy:Sz n y):Sz (max m n+1) (x+y):=Sz.add (hx.mono (Nat.le_max_left _ _)) (hy.mono (Nat.le_max_right _ _))
theorem uO{x:Int}(h:x.natAbs < 2 ^ 4):Sz 4 x:=h
theorem xO{x:Int}(h:x.natAbs < 2 ^ 70):Sz 70 x:=h
theorem aFh{x:Int}(h:x.natAbs < 2 ^ 20):Sz 20 x:=h
theorem aFw{x:Int}(h:x.natAbs < 2 ^ 200):Sz 200 x:=h
theorem mZ{n:Nat}{a b:Int}(h:0 < b)(hb:Sz n b):Sz n (a.fmod b):=by
 have:=b9 (a:=a) h
 exact Sz.le hb (by omega)
theorem u0{n:Nat}{a b:Int}(ha:Sz n a):Sz n (a.fdiv b):=Sz.le ha (aTy _ _)
theorem cm2{m n:Nat}{i j:Int}(h1:Sz m i)(h2:Sz n j)(hm:m<=60000)(hn:n<=60000):CMulW i j:=⟨h1.mono hm,h2.mono hn⟩
theorem cd2{m:Nat}{j:Int}(i:Int)(h0:j≠0)(h1:Sz m j)(hm:m<=8000):lE i j:=⟨h0,h1.mono hm⟩
theorem kC{i j:Int}(h:CMulW i j):g8 (.p (.int i)) (.p (.int j))=.ok (.p (.int (i*j))):=by simp [g8,sM,h]
theorem gL{i j:Int}(h:lE i j):b8 (.p (.int i)) (.p (.int j))=.ok (.p (.int (i.fdiv j))):=by simp [b8,sM,h]
theorem dB{i j:Int}(h:j≠0):cU (.p (.int i)) (.p (.int j))=.ok (.p (.int (i.fmod j))):=by simp [cU,sM,h]
theorem wC{i j:Int}(h:aJa i j):aLn (.p (.int i)) (.p (.int j))=.ok (.p (.int (i ^ j.toNat))):=by simp [aLn,sM,h]
theorem gR(i j:Int):fP (.p (.int i)) (.p (.int j))=.ok (.p (.int (i+j))):=by simp [fP]
theorem pQ(i j:Int):uU (.p (.int i)) (.p (.int j))=.ok (.p (.int (i - j))):=by simp [uU,iU]
def eII(a:Int×Int):List L:=[.p (.int a.1),.p (.int a.2)]
theorem aBx(a b:Int×Int)(h:eII a=eII b):a=b:=by
 unfold eII at h
 injection h with h1 h2
 injection h2 with h2 _
 injection h1 with h1
 injection h2 with h2
 injection h1 with h1
 injection h2 with h2
 exact aWp h1 h2
def eFF(a:(Int×Int)×(Int×Int)):List L:=[.p (frD a.1),.p (frD a.2)]
theorem kJ(a b:(Int×Int)×(Int×Int))(h:eFF a=eFF b):a=b:=by
 unfold eFF at h
 injection h with h1 h2
 injection h2 with h2 _
 injection h1 with h1
 injection h2 with h2
 exact aWp (frI h1) (frI h2)
theorem aG2{α β:Type}(a:α)(f:α->Res β):(Res.ok a).bind f=f a:=rfl
theorem aM2{fe:En->Res Ev}{en:En}{d:D}(h:fe en=.ok (.f d)):eX fe en=some (.rt (.o d)):=by unfold eX;rw [h];rfl
theorem gI{fe:En->Res Ev}{en:En}{d:D}(h:fe en=.ok (.p d)):eX fe en=some (.rt (.p d)):=by unfold eX;rw [h];rfl
theorem jC{n:Nat}{js:List Nat}{fi:En->Res (List D)}{tg:D->En->Option En}{ft:En->Res Bool}{fe:En->Res Ev}{en:En}{ds es:List D}(h1:fi en=.ok ds)(h2:ds.length<=100000)(h3:oX (cB n js tg ft fe en) ds=some es):fQ n js fi tg ft fe en=.ok (.f (.list es)):=by
 unfold fQ
 rw [h1,aG2]
 unfold aEb
 rw [aQt h2,h3]
theorem gZ{tg:D->En->Option En}{f:MS}(I:Nat->En->Prop):∀ (ds:List D) (k:Nat) (en:En),I k en->(∀ j d e,ds[j]? = some d->I (k+j) e->∃ e1 e2,tg d e=some e1/\f e1=some (.nx e2)/\I (k+j+1) e2)->∃ e',I (k+ds.length) e'/\gY tg f ds en=some (.nx e')
 | [],k,en,h,_=>⟨en,h,rfl⟩
 | d :: ds,k,en,h,st=>by
  obtain ⟨e1,e2,h1,h2,h3⟩:=st 0 d en rfl h
  obtain ⟨e',g1,g2⟩:=gZ I ds (k+1) e2 h3 fun j d' e hd hi=>by
   have:=st (j+1) d' e hd (by rw [show k+(j+1)=k+1+j by omega];exact hi)
   rw [show k+(j+1)+1=k+1+j+1 by omega] at this
   exact this
  refine ⟨e',by rw [show k+(d :: ds).length=k+1+ds.length by rw [aQp];omega];exact g1,?_⟩
  unfold gY
  rw [h1]
  dsimp only
  rw [h2]
  exact g2
theorem wM{α:Type}{enc:α->D}{tg:D->En->Option En}{f:MS}(I:List α->En->Prop):∀ (xs ys:List α) (en:En),I ys en->(∀ x∈xs,∀ zs e,zs.length < ys.length+xs.length->I zs e->∃ e1 e2,tg (enc x) e=some e1/\f e1=some (.nx e2)/\I (zs++[x]) e2)->∃ e',I (ys++xs) e'/\gY tg f (xs.map enc) en=some (.nx e')
 | [],ys,en,h,_=>⟨en,by rw [aSo];exact h,rfl⟩
 | x :: xs,ys,en,h,st=>by
  obtain ⟨e1,e2,h1,h2,h3⟩:=st x (.head _) ys en (by rw [aQp];omega) h
  obtain ⟨e',g1,g2⟩:=wM I xs (ys++[x]) e2 h3 fun y hy zs e hl hi=>st y (.tail _ hy) zs e (by rw [aQz] at hl;rw [aQp];simp at hl;omega) hi
  refine ⟨e',by rw [aWe] at g1;exact g1,?_⟩
  rw [aQx]
  unfold gY
  rw [h1]
  dsimp only
  rw [h2]
  exact g2
theorem aGo(lo:Int)(n j:Nat)(d:D)(h:(mR lo n)[j]? = some d):j < n/\d=.int (lo+(j:Int)):=by
 unfold mR at h
 rw [aQ0,aTz] at h
 obtain ⟨a,h1,h2⟩:=h
 have q:j < n:=by
  by_cases q:j < n
  ·exact q
  ·rw [aRi (by simp;omega)] at h1;cases h1
 rw [aTt q] at h1
 cases h1
 exact ⟨q,h2.symm⟩
end N
local macro_rules | `(tactic| walk_at "z") => `(tactic| repeat (first | assumption | apply L2.Sz.mul | apply N.Sz.addM | apply N.Sz.subM | apply L2.Sz.neg | apply N.u0 | (apply N.mZ; (first | decide | omega)) | exact N.uO (by decide) | exact N.aFh (by decide) | exact N.xO (by decide) | exact N.aFw (by decide)))
local macro_rules | `(tactic| walk_at "d") => `(tactic| first | assumption | (first | apply N.cm2 | apply N.cd2) <;> (first | decide | omega | (walk_at "z")) | decide | omega)
namespace N
open PySem PySem.Spec PyProof.Rows L2 M
theorem aAr{x y:Int}(hx:1<=x)(hy:1<=y):1<=x*y:=by
 have:=Int.mul_pos (show 0 < x by omega) (show 0 < y by omega)
 omega
end N
namespace N
section
open PySem PySem.Spec PyProof.Rows L2 M
variable {en:En}{f g:En->Res Ev}{x y:Ev}{o:Res Ev}{a b d r:D}
theorem aDa{op:Ev->Res Ev}(h1:f en=.ok x)(h:op x.c=o):mUn op f en=o:=by simp only [mUn,h1,Res.bind,h]
theorem aC8{f:En->Res Bool}(h:f en=.ok true):nR f en=.ok false:=by simp only [nR,h,Res.bind];rfl
theorem aLs{f:En->Res Bool}(h:f en=.ok false):nR f en=.ok true:=by simp only [nR,h,Res.bind];rfl
theorem uI{f g:En->Res Bool}{o:Res Bool}(h1:f en=.ok true)(h2:g en=o):kN f g en=o:=by simp only [kN,h1,h2,Res.bind];rfl
theorem aHz{f g:En->Res Bool}(h1:f en=.ok false):kN f g en=.ok false:=by simp only [kN,h1,Res.bind];rfl
theorem cI{g:En->Res (List Ev)}{xs:List Ev}(h1:f en=.ok x)(h2:g en=.ok xs):aB f g en=.ok (x.c :: xs):=by simp only [aB,h1,h2,Res.bind]
theorem yJ{n:Nat}{m:List L->Res L}{fr:En->Res (List Ev)}{rs:List Ev}{ls:List L}{r:L}(h:fr en=.ok rs)(ha:gJ sA rs=some ls)(hn:ls.length=n)(hm:m ls=.ok r):aV n m fr en=.ok (qT r):=by
 unfold aV
 rw [h]
 show iW n m rs=_
 unfold iW
 rw [ha]
 dsimp only
 rw [aQt hn,hm]
 rfl
theorem jE{r:List Ev->Res Ev}{f:En->Res (List Ev)}{rs:List Ev}(h1:f en=.ok rs)(h:r rs=o):aE r f en=o:=by simp only [aE,h1,Res.bind,h]
theorem yS{m:List L->Res L}{r:L}(h1:f en=.ok x)(hx:x.c=.p a)(hm:m [.p a]=.ok r):aV 1 m (aB f aK) en=.ok (qT r):=yJ (cI h1 rfl) (by rw [hx];rfl) rfl hm
theorem gB{m:List L->Res L}{r:L}(h1:f en=.ok x)(h2:g en=.ok y)(hm:m [.p a,.p b]=.ok r)(hx:x.c=.p a:=by rfl)(hy:y.c=.p b:=by rfl):aV 2 m (aB f (aB g aK)) en=.ok (qT r):=yJ (cI h1 (cI h2 rfl)) (by rw [hx,hy];rfl) rfl hm
theorem aL1{h:En->Res Ev}{z:Ev}{m:List L->Res L}{r:L}(h1:f en=.ok x)(h2:g en=.ok y)(h3:h en=.ok z)(hm:m [.p a,.p b,.p d]=.ok r)(hx:x.c=.p a:=by rfl)(hy:y.c=.p b:=by rfl)(hz:z.c=.p d:=by rfl):aV 3 m (aB f (aB g (aB h aK))) en=.ok (qT r):=yJ (cI h1 (cI h2 (cI h3 rfl))) (by rw [hx,hy,hz];rfl) rfl hm
theorem lT(h1:f en=.ok x)(h2:g en=.ok y)(hx:x.c=.p a:=by rfl)(hy:y.c=.p b:=by rfl):aE aT (aB f (aB g aK)) en=.ok (.p (.tuple [a,b])):=jE (cI h1 (cI h2 rfl)) (by rw [hx,hy];rfl)
theorem aMr{h:En->Res Ev}{z:Ev}(h1:f en=.ok x)(h2:g en=.ok y)(h3:h en=.ok z)(hx:x.c=.p a:=by rfl)(hy:y.c=.p b:=by rfl)(hz:z.c=.p d:=by rfl):aE aT (aB f (aB g (aB h aK))) en=.ok (.p (.tuple [a,b,d])):=jE (cI h1 (cI h2 (cI h3 rfl))) (by rw [hx,hy,hz];rfl)
theorem aPa(h1:f en=.ok x)(hx:x.c=.p a:=by rfl):aE fI (aB f aK) en=.ok (.f (.list [a])):=jE (cI h1 rfl) (by rw [hx];rfl)
theorem itA{r:List Ev->Res (List D)}{f:En->Res (List Ev)}{rs:List Ev}{o:Res (List D)}(h1:f en=.ok rs)(h:r rs=o):t8 r f en=o:=by simp only [t8,h1,Res.bind,h]
theorem itL{ds:List D}(h1:f en=.ok x)(h:x.c=.p (.list ds):=by rfl):iE f en=.ok ds:=by
 unfold iE
 rw [h1]
 show aIo x.c=_
 rw [h]
 rfl
theorem vW{i:Nat}{ds:List D}(h1:en[i]? = some (some (.o (.list ds))))(h2:f en=.ok x)(h3:ds.length<=100000)(hx:x.c=.p d:=by rfl):gU i f en=some (.nx (en.set i (some (.o (.list (ds++[d])))))):=by
 unfold gU
 rw [h1]
 dsimp only
 rw [h2]
 dsimp only
 rw [hx]
 dsimp only
 rw [aQt h3]
theorem aHx{i:Nat}{ds:List D}{k:Nat}(h1:en[i]? = some (some (.o (.list ds))))(hk:f en=.ok (.p (.int (k:Int))))(h2:g en=.ok y)(hl:k < ds.length)(hy:y.c=.p d:=by rfl):lX i f g en=some (.nx (en.set i (some (.o (.list (ds.set k d)))))):=by
 unfold lX
 rw [h1]
 dsimp only
 rw [h2]
 dsimp only
 rw [hk]
 dsimp only [Ev.c]
 have e:ixN ds.length (k:Int)=some k:=by
  unfold ixN
  rw [aQt (by omega),aQt (by omega)]
  rfl
 rw [e]
 cases y with
 | p a=>cases hy;rfl
 | f a=>cases hy;rfl
 | b a=>cases hy
 | x C=>cases hy
theorem fO{i:Nat}{f:MS}{en e1:En}{o:Option Out}(h:frz i en=e1)(k:f e1=o):f (frz i en)=o:=by rw [h];exact k
theorem yL{g:D->Option (Option D)}{lo:Int}:∀ (n:Nat) (out:Nat->D),(∀ k,k < n->g (.int (lo+(k:Int)))=some (some (out k)))->oX g (mR lo n)=some ((List.range n).map out):=by
 intro n out h
 show oX g ((List.range n).map fun k:Nat=>.int (lo+(k:Int)))=_
 exact eI (List.range n) fun k hk=>h k (aRz.mp hk)
theorem l9{α:Type}{enc:α->D}{xs:List α}{d:α}{k:Nat}{i:Int}(hx:jF x=some (xs.map enc))(hk:k < xs.length)(hi:i=(k:Int)):ixE x (.p (.int i))=.ok (.p (enc (xs.getD k d))):=by
 subst hi
 have e:atI (xs.map enc) (k:Int)=some (enc (xs.getD k d)):=by
  have e1:ixN (xs.map enc).length (k:Int)=some k:=by
   unfold ixN
   rw [aQm,aQt (by omega),aQt (by omega)]
   rfl
  unfold atI
  rw [e1]
  show (xs.map enc)[k]? = _
  rw [aQ0,List.getD_eq_getElem?_getD,aQn hk]
  rfl
 simp only [ixE,hx,e]
theorem sN{ds:List D}(h1:f en=.ok x)(hx:jF x.c=some ds):aE g9 (aB f aK) en=.ok (.p (.int (ds.length:Nat))):=by
 refine jE (cI h1 rfl) ?_
 cases hc:x.c with
 | p v =>
  rw [hc] at hx
  cases v<;>first | (cases hx;rfl) | cases hx
 | b v =>
  rw [hc] at hx
  cases v<;>first | (cases hx;rfl) | cases hx
 | f v=>rw [hc] at hx;cases hx
 | x C=>rw [hc] at hx;cases hx
theorem aPf{fl fh:En->Res (Option Int)}{ds:List D}{l u:Option Int}(h1:f en=.ok x)(hl:fl en=.ok l)(hu:fh en=.ok u)(hd:iO x.c=some ds:=by rfl):mSl f fl fh en=.ok (.f (.list (cutD ds l u))):=by
 simp only [mSl,h1,hl,hu,Res.bind,hd]
end
end N
namespace N
section
open PySem
abbrev tl(z:Str):List Nat:=z.cps.toList
def dg(n:Nat):List Nat:=(Nat.toDigits 10 n).map Char.toNat
def sg(i:Int):List Nat:=if i < 0 then 45 :: dg i.natAbs else dg i.natAbs
abbrev tx(i:Int):Str:=Str.ofString (toString i)
def jl(c:List Nat):List (List Nat)->List Nat
 | []=>[]
 | [a]=>a
 | a :: b :: r=>a++c++jl c (b :: r)
end
section
open PySem M L2
variable {en:En}{f g:En->Res Ev}{x y:Ev}{o:Res Ev}
theorem nH(h:f en=.ok (.p (.bool true)))(h2:g en=o):gW f g en=o:=by simp only [gW,h,Res.bind,h2]
theorem wQ(h:f en=.ok (.p (.bool false))):gW f g en=.ok (.p (.bool false)):=by simp only [gW,h,Res.bind]
theorem ne_is{i j:Int}:eqE true (.p (.int i)) (.p (.int j))=.ok (.p (.bool (!(i == j)))):=by simp [eqE,dat,jD,jB]
theorem aKq{α:Type}{y:Ev}{l:List α}{b:α->Bool}(hy:iO y=some (l.map fun a=>PyData.bool (b a))):aC2 [y]=.ok (.p (.bool (l.all b))):=by
 have e:sJ (l.map fun a=>PyData.bool (b a))=some (l.map b):=by
  exact aBq b l
 unfold aC2
 dsimp only
 rw [hy]
 dsimp only
 rw [e]
 dsimp only
 congr 3
 rw [List.all_map]
 rfl
end
end N
namespace My
open PySem PySem.Spec PyProof.Rows L2 M N
theorem ra{α:Sort u}{β:Sort v}{γ:Sort w}{f:α->β->γ}:∀ a b,f a b=f a b:=fun _ _=>rfl
local macro_rules | `(tactic| walk_at "z") => `(tactic| repeat (first | assumption | apply L2.Sz.mul | apply N.Sz.addM | apply N.Sz.subM | apply L2.Sz.neg | apply N.u0 | (apply N.mZ; (first | decide | omega)) | exact N.uO (by decide) | exact N.aFh (by decide) | exact N.xO (by decide) | exact N.aFw (by decide)))
local macro_rules | `(tactic| walk_at "d") => `(tactic| first | assumption | (first | apply N.cm2 | apply N.cd2) <;> (first | decide | omega | (walk_at "z")) | decide | omega)
local macro_rules | `(tactic| walk_at "1a") => `(tactic| simp (disch := assumption) only [bC, cJ, eX, eA, aD, mC, aF, mUn, aB, aK, aV, iW, gJ, sA, yO, Res.bind, Ev.c, aC1, qT, aE, aT, fI, kH, bH, gE, kN, mOr, nR, gW, aI9, mL, lA, bR, fP, iU, rO, iO, dat, g9, eqE, jD, jB, iX, fV, gC, pK, pH, oJ, pA, u5, kC, gL, dB, wC, aRu, aQ6, aSb, aSc, aQp, aRx, aQm, aQz, aUu, aR1, aWq, aVz, aUp, aUa, aQ2, aR8, Nat.reduceAdd, Nat.reduceEqDiff, Nat.reduceLeDiff, reduceIte, aRn, aQx, aSw])
local macro_rules | `(tactic| ktr_call 11 ⟨$xs,*⟩) => `(tactic| simp (disch := assumption) only [bC, cJ, eX, eA, aD, mC, aF, mUn, aB, aK, aV, iW, gJ, sA, yO, Res.bind, Ev.c, aC1, qT, aE, aT, fI, kH, bH, gE, kN, mOr, nR, gW, aI9, mL, lA, bR, fP, iU, rO, iO, dat, g9, eqE, jD, jB, iX, fV, gC, pK, pH, oJ, pA, u5, kC, gL, dB, wC, aRu, aQ6, aSb, aSc, aQp, aRx, aQm, aQz, aUu, aR1, aWq, aVz, aUp, aUa, aQ2, aR8, Nat.reduceAdd, Nat.reduceEqDiff, Nat.reduceLeDiff, reduceIte, aRn, aQx, aSw, $[$xs:term],*])
local macro_rules | `(tactic| walk_at "1d") => `(tactic| simp (disch := (walk_at "d")) only [bC, cJ, eX, eA, aD, mC, aF, mUn, aB, aK, aV, iW, gJ, sA, yO, Res.bind, Ev.c, aC1, qT, aE, aT, fI, kH, bH, gE, kN, mOr, nR, gW, aI9, mL, lA, bR, fP, iU, rO, iO, dat, g9, eqE, jD, jB, iX, fV, gC, pK, pH, oJ, pA, u5, kC, gL, dB, wC, aRu, aQ6, aSb, aSc, aQp, aRx, aQm, aQz, aUu, aR1, aWq, aVz, aUp, aUa, aQ2, aR8, Nat.reduceAdd, Nat.reduceEqDiff, Nat.reduceLeDiff, reduceIte, aRn, aQx, aSw])
local macro_rules | `(tactic| ktr_call 21 ⟨$xs,*⟩) => `(tactic| simp (disch := (walk_at "d")) only [bC, cJ, eX, eA, aD, mC, aF, mUn, aB, aK, aV, iW, gJ, sA, yO, Res.bind, Ev.c, aC1, qT, aE, aT, fI, kH, bH, gE, kN, mOr, nR, gW, aI9, mL, lA, bR, fP, iU, rO, iO, dat, g9, eqE, jD, jB, iX, fV, gC, pK, pH, oJ, pA, u5, kC, gL, dB, wC, aRu, aQ6, aSb, aSc, aQp, aRx, aQm, aQz, aUu, aR1, aWq, aVz, aUp, aUa, aQ2, aR8, Nat.reduceAdd, Nat.reduceEqDiff, Nat.reduceLeDiff, reduceIte, aRn, aQx, aSw, $[$xs:term],*])
local macro_rules | `(tactic| walk_at "2") => `(tactic| simp only [bC, cJ, eX, eA, aD, mC, aF, mUn, aB, aK, aV, iW, gJ, sA, yO, Res.bind, Ev.c, aC1, qT, aE, aT, fI, kH, bH, gE, kN, mOr, nR, gW, aI9, mL, lA, bR, fP, iU, rO, iO, dat, g9, eqE, jD, jB, iX, fV, gC, pK, pH, oJ, pA, u5, aRu, aQ6, aSb, aSc, aQp, aRx, aQm, aQz, aUu, aR1, aWq, aVz, aUp, aUa, aQ2, aR8, Nat.reduceAdd, Nat.reduceEqDiff, Nat.reduceLeDiff, reduceIte, aRn, aQx, aSw])
local macro_rules | `(tactic| ktr_call 2 ⟨$xs,*⟩) => `(tactic| simp only [bC, cJ, eX, eA, aD, mC, aF, mUn, aB, aK, aV, iW, gJ, sA, yO, Res.bind, Ev.c, aC1, qT, aE, aT, fI, kH, bH, gE, kN, mOr, nR, gW, aI9, mL, lA, bR, fP, iU, rO, iO, dat, g9, eqE, jD, jB, iX, fV, gC, pK, pH, oJ, pA, u5, aRu, aQ6, aSb, aSc, aQp, aRx, aQm, aQz, aUu, aR1, aWq, aVz, aUp, aUa, aQ2, aR8, Nat.reduceAdd, Nat.reduceEqDiff, Nat.reduceLeDiff, reduceIte, aRn, aQx, aSw, $[$xs:term],*])
local macro_rules | `(tactic| ktr_call 3 ⟨$xs,*⟩) => `(tactic| simp only [aRu, aQ6, aSb, aSc, aQp, aRx, aQm, aQz, aUu, aR1, aWq, aVz, aUp, aUa, aQ2, aR8, Nat.reduceAdd, Nat.reduceEqDiff, Nat.reduceLeDiff, reduceIte, aRn, aQx, aSw, $[$xs:term],*])
local macro_rules | `(tactic| ktr_call 13 ⟨$xs,*⟩) => `(tactic| simp (disch := assumption) only [aRu, aQ6, aSb, aSc, aQp, aRx, aQm, aQz, aUu, aR1, aWq, aVz, aUp, aUa, aQ2, aR8, Nat.reduceAdd, Nat.reduceEqDiff, Nat.reduceLeDiff, reduceIte, aRn, aQx, aSw, $[$xs:term],*])
def top(i:Nat):Stmt:=PySem.Challenge.pw_creasecurve_k47_mixtures_looked_at.main.body.getD i (.Pass ⟨0,0,0,0⟩)
def aPj(s:Stmt):List Stmt:=match s with
 | .ClassDef _ _ _ b _ _ _ _ _ _ _=>b
 | _=>[]
abbrev eK:Stmt:=top 4
abbrev jV:Stmt:=top 5
abbrev wK:Stmt:=top 6
abbrev qM:Stmt:=top 7
abbrev wY:Stmt:=top 8
abbrev iI:Stmt:=top 10
abbrev fC:Stmt:=top 11
abbrev dZ:Stmt:=top 14
abbrev iJ:Stmt:=top 15
abbrev fZ:Stmt:=top 16
abbrev eM:Stmt:=(aPj (top 18)).getD 1 (.Pass ⟨0,0,0,0⟩)
abbrev gP:Stmt:=top 20
abbrev gO:Stmt:=top 21
abbrev jU:Stmt:=top 23
abbrev fH:Stmt:=top 24
abbrev gQ:Stmt:=top 25
abbrev iB:Stmt:=top 26
abbrev jT:Stmt:=top 27
abbrev gN:Stmt:=top 28
abbrev fB:Stmt:=top 29
abbrev eT:Stmt:=top 30
abbrev fU:Stmt:=top 31
abbrev dQ:Stmt:=top 32
abbrev i9:Stmt:=top 33
abbrev tF:Stmt:=top 34
abbrev eZ:Stmt:=(aPj (top 18)).getD 0 (.Pass ⟨0,0,0,0⟩)
theorem vP:bootBuiltins "abs" = some (.builtin "abs"):=by decide +kernel
theorem aF3:bootBuiltins "all" = some (.builtin "all"):=by decide +kernel
theorem zS:bootBuiltins "bool" = some (.type "bool"):=by decide +kernel
theorem rA:bootBuiltins "list" = some (.type "list"):=by decide +kernel
theorem aJ6:bootBuiltins "max" = some (.builtin "max"):=by decide +kernel
theorem nK:bootBuiltins "sorted" = some (.builtin "sorted"):=by decide +kernel
structure Blt(mg:Str->Option Value):Prop where
 abs_:mg "abs" = none
 all_:mg "all" = none
 bool_:mg "bool" = none
 enumerate_:mg "enumerate" = none
 int_:mg "int" = none
 isinstance_:mg "isinstance" = none
 len_:mg "len" = none
 list_:mg "list" = none
 max_:mg "max" = none
 range_:mg "range" = none
 reversed_:mg "reversed" = none
 set_:mg "set" = none
 sorted_:mg "sorted" = none
structure Cls where
 RoofError:Addr
 NoFraction:Addr
 Paper:Addr
 Mixture:Addr
structure l7(mg:Str->Option Value)(c:Cls):Prop where
 mRoofError:mg "RoofError" = some (.ref c.RoofError)
 mNoFraction:mg "NoFraction" = some (.ref c.NoFraction)
 mPaper:mg "Paper" = some (.ref c.Paper)
 mMixture:mg "Mixture" = some (.ref c.Mixture)
structure l4(mg:Str->Option Value)(base:Heap)(c:Cls):Prop where
 NoFraction:PyProof.Rows.OwnCls "NoFraction" c.NoFraction [.type "ValueError",.type "Exception",.type "BaseException",.type "object"] "ValueError.__new__" mg base
noncomputable def b6(K:aQk)(c:Cls):List L->Res L:=mOf eII (fun _=>True) fun a=>.ok (.p (.int (Int.gcd a.1 a.2:Nat)))
noncomputable def cC(K:aQk)(c:Cls):En->Res Bool:=(bH (aF (eqE true) (aD 3) (mC (.int 0))))
noncomputable def cX(K:aQk)(c:Cls):MS:=(bC (cJ 4 (aF cU (aD 2) (aD 3))) (bC (cJ 2 (aD 3)) (cJ 3 (aD 4))))
variable (K:aQk)(c:Cls)
noncomputable def iM:MS:=(bC (cJ 2 (aE aGh (aB (aD 0) aK))) (bC (cJ 3 (aE aGh (aB (aD 1) aK))) (bC (oO (cC K c) (cX K c)) (eX (aD 2)))))
theorem aOs(A B:Option L):∀ (n:Nat) (l s:Int) (r:Option L),0<=l->0<=s->s.toNat<=n->∃ r',mWh (cC K c) (cX K c) (n+1) [A,B,some (.p (.int l)),some (.p (.int s)),r]=some (.nx [A,B,some (.p (.int (Int.gcd l s:Nat))),some (.p (.int 0)),r']):=by
 intro n
 have hc:∀ (l s:Int) (r:Option L),cC K c [A,B,some (.p (.int l)),some (.p (.int s)),r]=.ok (!(s == 0)):=fun l s r=>by
  ktr_call 3 ⟨cC,bH,aF,aD,mC,Res.bind,Ev.c,eqE,dat,jD,jB,gE⟩
  rfl
 have done:∀ (n:Nat) (l:Int) (r:Option L),0<=l->mWh (cC K c) (cX K c) (n+1) [A,B,some (.p (.int l)),some (.p (.int 0)),r]=some (.nx [A,B,some (.p (.int (Int.gcd l 0:Nat))),some (.p (.int 0)),r]):=fun n l r hl=>by
  unfold mWh
  rw [hc,FR.aAj hl]
  rfl
 induction n with
 | zero =>
  intro l s r hl hs hn
  have:s=0:=by omega
  subst this
  exact ⟨r,done 0 l r hl⟩
 | succ n ih =>
  intro l s r hl hs hn
  by_cases h0:s=0
  ·subst h0
   exact ⟨r,done _ l r hl⟩
  ·have em:l.fmod s=l % s:=aUh l hs
   have m0:=aW4 l h0
   have m1:=aV9 l (show 0 < s by omega)
   obtain ⟨r',ih⟩:=ih s (l.fmod s) (some (.p (.int (l.fmod s)))) hs (by omega) (by omega)
   refine ⟨r',?_⟩
   rw [em,FR.wA hl hs] at ih
   have hb:cX K c [A,B,some (.p (.int l)),some (.p (.int s)),r]=some (.nx [A,B,some (.p (.int s)),some (.p (.int (l % s))),some (.p (.int (l % s)))]):=by
    ktr_call 13 ⟨cX,aF,aD,mC,bC,cJ,Res.bind,Ev.c,dB,em⟩
   have ht:cC K c [A,B,some (.p (.int l)),some (.p (.int s)),r]=.ok true:=by rw [hc,aVv h0];rfl
   unfold mWh
   rw [ht]
   dsimp only
   rw [hb]
   exact ih
theorem kM:∀ ls,b6 K c ls=.bad\/gS 5 (iM K c) ls=b6 K c ls:=lF fun x _=>by
 obtain ⟨a,b⟩:=x
 obtain ⟨r',h⟩:=aOs K c (some (.p (.int a))) (some (.p (.int b))) _ (if a < 0 then -a else a) (if b < 0 then -b else b) none (by split<;>omega) (by split<;>omega) (aQu _)
 have h:=sI h
 rw [FR.aAl] at h
 refine eC ?_
 rw [show cW 5 (eII (a,b))=[some (.p (.int a)),some (.p (.int b)),none,none,none] from rfl]
 refine (aN (eF (d:=.int (if a < 0 then -a else a)) rfl)).trans ((aN (eF (d:=.int (if b < 0 then -b else b)) rfl)).trans ((aN h).trans ?_))
 rfl
theorem aEo(a b:Int):b6 K c [.p (.int a),.p (.int b)]=.ok (.p (.int (Int.gcd a b:Nat))):=kA (a:=(a,b)) aBx trivial
theorem aKk{b:Int}(t:Int)(hb:b≠0)(hz:Sz 8000 b):lE t ((Int.gcd t b:Nat):Int)/\lE t (-((Int.gcd t b:Nat):Int)):=by
 have g0:=FR.uX (t:=t) hb
 have gle:Int.gcd t b<=b.natAbs:=Nat.le_of_dvd (by omega) (Int.gcd_dvd_natAbs_right t b)
 refine ⟨⟨by omega,Sz.le hz (by rw [Int.natAbs_natCast];exact gle)⟩,by omega,Sz.le hz (by rw [Int.natAbs_neg,Int.natAbs_natCast];exact gle)⟩
open Classical in
noncomputable def eQ(K:aQk)(c:Cls):List L->Res L:=mOf eII (fun a=>Sz 8000 a.2) fun a=>if a.2=0 then .exc c.NoFraction else .ok (.p (frD (FR.mk a.1 a.2)))
noncomputable def hU:MS:=(bC (eA (bH (aF (eqE false) (aD 1) (mC (.int 0)))) (lA c.NoFraction (aB (mC (.str "nothing is divided by 0")) aK)) bR) (bC (cJ 2 (aV 2 (b6 K c) (aB (aD 0) (aB (aD 1) aK)))) (bC (eA (bH (aF ltE (aD 1) (mC (.int 0)))) (cJ 2 (mUn rO (aD 2))) bR) (eX (aE aT (aB (aF b8 (aD 0) (aD 2)) (aB (aF b8 (aD 1) (aD 2)) aK)))))))
theorem uC:∀ ls,eQ K c ls=.bad\/gS 3 (hU K c) ls=eQ K c ls:=lF fun x hz=>by
 obtain ⟨t,b⟩:=x
 have hz:Sz 8000 b:=hz
 show gS 3 (hU K c) (eII (t,b))=if b=0 then .exc c.NoFraction else .ok (.p (frD (FR.mk t b)))
 have t0:bH (aF (eqE false) (aD 1) (mC (.int 0))) [some (.p (.int t)),some (.p (.int b)),none]=.ok (b == 0):=by
  ktr_call 3 ⟨bH,aF,aD,mC,Res.bind,Ev.c,eqE,dat,jD,jB,gE⟩
  rfl
 by_cases hb:b=0
 ·rw [aQt hb]
  have t0:bH (aF (eqE false) (aD 1) (mC (.int 0))) [some (.p (.int t)),some (.p (.int b)),none]=.ok true:=by rw [t0,hb];rfl
  have e:hU K c (cW 3 (eII (t,b)))=some (.ex c.NoFraction [some (.p (.int t)),some (.p (.int b)),none]):=by
   unfold hU bC
   rw [show cW 3 (eII (t,b))=[some (.p (.int t)),some (.p (.int b)),none] from rfl,jI t0]
   rfl
  unfold gS
  rw [e]
 ·rw [aQv hb]
  rw [aVv hb] at t0
  obtain ⟨q1,q2⟩:=aKk t hb hz
  have q1':lE b ((Int.gcd t b:Nat):Int):=q1
  have q2':lE b (-((Int.gcd t b:Nat):Int)):=q2
  have g:=aEo K c t b
  have e1:(aV 2 (b6 K c) (aB (aD 0) (aB (aD 1) aK))) [some (.p (.int t)),some (.p (.int b)),none]=.ok (.p (.int (Int.gcd t b:Nat))):=by
   ktr_call 3 ⟨aV,aB,aK,aD,Res.bind,Ev.c,iW,gJ,sA,g,qT⟩
  refine eC ?_
  rw [show cW 3 (eII (t,b))=[some (.p (.int t)),some (.p (.int b)),none] from rfl]
  unfold hU
  refine (aN (kF t0)).trans ((aN (eF e1)).trans ?_)
  have t1:bH (aF ltE (aD 1) (mC (.int 0))) [some (.p (.int t)),some (.p (.int b)),some (.p (.int (Int.gcd t b:Nat)))]=.ok (decide (b < 0)):=by
   ktr_call 3 ⟨bH,aF,aD,mC,Res.bind,Ev.c,iU,gE⟩
  by_cases hn:b < 0
  ·rw [aQ3 hn] at t1
   have es:FR.mk t b=(t.fdiv (-((Int.gcd t b:Nat):Int)),b.fdiv (-((Int.gcd t b:Nat):Int))):=by unfold FR.mk FR.sgn;rw [aQt hn]
   refine (aN ((jI t1).trans (eF (d:=.int (-((Int.gcd t b:Nat):Int))) rfl))).trans (gI ?_)
   rw [es]
   ktr_call 11 ⟨frD⟩
  ·rw [aQr hn] at t1
   have es:FR.mk t b=(t.fdiv ((Int.gcd t b:Nat):Int),b.fdiv ((Int.gcd t b:Nat):Int)):=by unfold FR.mk FR.sgn;rw [aQv hn]
   refine (aN (kF t1)).trans (gI ?_)
   rw [es]
   ktr_call 11 ⟨frD⟩
theorem aBw{t b:Int}(h0:b≠0)(h1:Sz 8000 b):eQ K c [.p (.int t),.p (.int b)]=.ok (.p (frD (FR.mk t b))):=(kA (a:=(t,b)) aBx h1).trans (aQv h0)
noncomputable def mB(K:aQk)(c:Cls):List L->Res L:=mOf eFF (fun a=>FSz 2000 a.1/\FSz 2000 a.2/\a.1.2*a.2.2≠0) fun a=>.ok (.p (frD (FR.mk (a.1.1*a.2.2+a.2.1*a.1.2) (a.1.2*a.2.2))))
noncomputable def aCa:MS:=(eX (aV 2 (eQ K c) (aB (aF fP (aF g8 (aF ixE (aD 0) (mC (.int 0))) (aF ixE (aD 1) (mC (.int 1)))) (aF g8 (aF ixE (aD 1) (mC (.int 0))) (aF ixE (aD 0) (mC (.int 1))))) (aB (aF g8 (aF ixE (aD 0) (mC (.int 1))) (aF ixE (aD 1) (mC (.int 1)))) aK))))
theorem aGu:∀ ls,mB K c ls=.bad\/gS 2 (aCa K c) ls=mB K c ls:=lF fun a h=>by
 obtain ⟨x,y⟩:=a
 obtain ⟨⟨x1,x2⟩,⟨y1,y2⟩,hb⟩:=h
 dsimp only at x1 x2 y1 y2 hb ⊢
 have f:=aBw K c (t:=x.1*y.2+y.1*x.2) hb ((Sz.mul x2 y2).mono (by decide))
 refine eC ?_
 rw [show cW 2 (eFF (x,y))=[some (.p (frD x)),some (.p (frD y))] from rfl]
 unfold aCa
 refine gI ?_
 ktr_call 21 ⟨f⟩
theorem aEm{x y:Int×Int}(h1:FSz 2000 x)(h2:FSz 2000 y)(h3:x.2*y.2≠0):mB K c [.p (frD x),.p (frD y)]=.ok (.p (frD (FR.mk (x.1*y.2+y.1*x.2) (x.2*y.2)))):=kA (a:=(x,y)) kJ ⟨h1,h2,h3⟩
theorem zO{m n:Nat}{x y:Int×Int}(hx:Good m x)(hy:Good n y)(hm:m<=2000)(hn:n<=2000):mB K c [.p (frD x),.p (frD y)]=.ok (.p (frD (hP x y))):=aEm K c (hx.mono hm).fsz (hy.mono hn).fsz (hx.ne hy)
noncomputable def kK(K:aQk)(c:Cls):List L->Res L:=mOf eFF (fun a=>FSz 2000 a.1/\FSz 2000 a.2/\a.1.2*a.2.2≠0) fun a=>.ok (.p (frD (FR.mk (a.1.1*a.2.1) (a.1.2*a.2.2))))
noncomputable def uP:MS:=(eX (aV 2 (eQ K c) (aB (aF g8 (aF ixE (aD 0) (mC (.int 0))) (aF ixE (aD 1) (mC (.int 0)))) (aB (aF g8 (aF ixE (aD 0) (mC (.int 1))) (aF ixE (aD 1) (mC (.int 1)))) aK))))
theorem aEf:∀ ls,kK K c ls=.bad\/gS 2 (uP K c) ls=kK K c ls:=lF fun a h=>by
 obtain ⟨x,y⟩:=a
 obtain ⟨⟨x1,x2⟩,⟨y1,y2⟩,hb⟩:=h
 dsimp only at x1 x2 y1 y2 hb ⊢
 have f:=aBw K c (t:=x.1*y.1) hb ((Sz.mul x2 y2).mono (by decide))
 refine eC ?_
 rw [show cW 2 (eFF (x,y))=[some (.p (frD x)),some (.p (frD y))] from rfl]
 unfold uP
 refine gI ?_
 ktr_call 21 ⟨f⟩
theorem aBt{x y:Int×Int}(h1:FSz 2000 x)(h2:FSz 2000 y)(h3:x.2*y.2≠0):kK K c [.p (frD x),.p (frD y)]=.ok (.p (frD (FR.mk (x.1*y.1) (x.2*y.2)))):=kA (a:=(x,y)) kJ ⟨h1,h2,h3⟩
noncomputable def j7(K:aQk)(c:Cls):List L->Res L:=mOf eFF (fun a=>FSz 2000 a.1/\FSz 2000 a.2) fun a=>.ok (.p (.bool (ltF a.1 a.2)))
noncomputable def aA2(K:aQk)(c:Cls):MS:=(eX (aF ltE (aF g8 (aF ixE (aD 0) (mC (.int 0))) (aF ixE (aD 1) (mC (.int 1)))) (aF g8 (aF ixE (aD 1) (mC (.int 0))) (aF ixE (aD 0) (mC (.int 1))))))
theorem aG9:∀ ls,j7 K c ls=.bad\/gS 2 (aA2 K c) ls=j7 K c ls:=lF fun a h=>by
 obtain ⟨x,y⟩:=a
 obtain ⟨⟨x1,x2⟩,⟨y1,y2⟩⟩:=h
 dsimp only at x1 x2 y1 y2 ⊢
 refine eC ?_
 rw [show cW 2 (eFF (x,y))=[some (.p (frD x)),some (.p (frD y))] from rfl]
 unfold aA2
 refine gI ?_
 walk_at "1d"
 rfl
theorem sR{x y:Int×Int}(hx:FSz 2000 x)(hy:FSz 2000 y):j7 K c [.p (frD x),.p (frD y)]=.ok (.p (.bool (ltF x y))):=kA (a:=(x,y)) kJ ⟨hx,hy⟩
structure jY(K:aQk)(c:Cls):Prop where
 bb:PySem.W.kitOne K (.type "bool") (.type "bool")=some true
 a:L2.Cls K c.Mixture
 a1:NoAttr K c.Mixture "plane"
 a2:NoAttr K c.Mixture "parts"
noncomputable def iR(K:aQk)(c:Cls):MS:=(bC (eA (bH (aF ltE (aD 1) (aE g9 (aB (aD 0) aK)))) (eX (aF ixE (aD 0) (aD 1))) bR) (eX (mC (.int 0))))
noncomputable def aG(ls:List L):Res L:=gS 2 (iR K c) ls
theorem nX:∀ ls,aG K c ls=.bad\/gS 2 (iR K c) ls=aG K c ls:=fun _=>.inr rfl
theorem aKm{ns:List Int}{k:Nat}(h:k < ns.length):atI (ns.map PyData.int) (k:Int)=some (.int (ns.getD k 0)):=by
 have:ns.getD k 0=ns[k]:=by simp [List.getD,h]
 rw [this]
 exact lN (by rw [aQ0,aQn h];rfl)
theorem gT(ns:List Int)(k:Nat):aG K c [.p (.list (ns.map .int)),.p (.int (k:Int))]=.ok (.p (.int (ns.getD k 0))):=by
 have hlen:g9 [.p (.list (ns.map .int))]=.ok (.p (.int (ns.length:Nat))):=by simp [g9,jF]
 unfold aG
 refine eC ?_
 rw [show cW 2 [.p (.list (ns.map .int)),.p (.int (k:Int))]=[some (.p (.list (ns.map .int))),some (.p (.int (k:Int)))] from rfl]
 have ht:bH (aF ltE (aD 1) (aE g9 (aB (aD 0) aK))) [some (.p (.list (ns.map .int))),some (.p (.int (k:Int)))]=.ok (decide (k < ns.length)):=by
  simp [bH,aF,aD,aE,aB,aK,Res.bind,Ev.c,hlen,iU,gE]
 by_cases hk:k < ns.length
 ·rw [aQ3 hk] at ht
  refine (fA ((jI ht).trans ?_))
  simp [eX,aF,aD,Res.bind,Ev.c,ixE,jF,aKm hk,aC1]
 ·rw [aQr hk] at ht
  refine (aN (kF ht)).trans ?_
  have:ns.getD k 0=0:=by simp [List.getD,aWs hk]
  rw [this]
  rfl
noncomputable def eN:MS:=(bC (cJ 4 (aF cU (aV 2 (aG K c) (aB (aD 0) (aB (aD 3) aK))) (aD 1))) (bC (cJ 4 (aF cU (aF fP (aF fP (aF fP (aF g8 (aD 4) (mC (.int 48271))) (aF g8 (aF g8 (aD 3) (aD 3)) (mC (.int 7919)))) (aD 3)) (mC (.int 1))) (aD 1))) (gU 2 (aF cU (aF g8 (aF cU (aF g8 (aD 4) (mC (.int 413338662677311947023157))) (aD 1)) (mC (.int 282475249))) (aD 1)))))
noncomputable def iP:MS:=(bC (cJ 1 (mC (.int 618970019642690137449562111))) (bC (cJ 2 (aE fI aK)) (bC (tV (t8 lM (aB (aE (aH7 fun i j=>if j > i then j else i) (aB (aE g9 (aB (aD 0) aK)) (aB (mC (.int 7)) aK))) aK)) (aM 3) (eN K c)) (eX (aD 2)))))
noncomputable def dC(ls:List L):Res L:=gS 5 (iP K c) ls
theorem oB:∀ ls,dC K c ls=.bad\/gS 5 (iP K c) ls=dC K c ls:=fun _=>.inr rfl
def PR:Int:=618970019642690137449562111
theorem aJs(ns vs:List Int)(hv:vs.length<=1000)(k:Nat)(hk:k<=100)(r4:Option L):∃ v w,0<=v/\v < PR/\eN K c [some (.p (.list (ns.map .int))),some (.p (.int PR)),some (.o (.list (vs.map .int))),some (.p (.int (k:Int))),r4]=some (.nx [some (.p (.list (ns.map .int))),some (.p (.int PR)),some (.o (.list ((vs++[v]).map .int))),some (.p (.int (k:Int))),w]):=by
 have hc:=gT K c ns k
 have p0:(0:Int) < PR:=by decide
 have pz:Sz 200 PR:=by unfold Sz PR;decide
 have kz:Sz 20 (k:Int):=by unfold Sz;omega
 have pn:PR≠0:=by decide
 have m1:=b9 (a:=ns.getD k 0) p0
 have z1:Sz 200 ((ns.getD k 0).fmod PR):=mZ p0 pz
 generalize hC:(ns.getD k 0).fmod PR=C at m1 z1
 have z2:Sz 200 ((C*48271+(k:Int)*(k:Int)*7919+(k:Int)+1).fmod PR):=mZ p0 pz
 refine ⟨(((C*48271+(k:Int)*(k:Int)*7919+(k:Int)+1).fmod PR*413338662677311947023157).fmod PR*282475249).fmod PR,some (.p (.int ((C*48271+(k:Int)*(k:Int)*7919+(k:Int)+1).fmod PR))),(b9 p0).1,(b9 p0).2,?_⟩
 have l1:vs.length<=100000:=by omega
 ktr_call 21 ⟨eN,hc,hC,gU,l1⟩
theorem aHe(ns:List Int)(hn:ns.length<=63):∃ vs:List Int,vs.length<=100/\(∀ v∈vs,0<=v/\v < PR)/\dC K c [.p (.list (ns.map .int))]=.ok (.o (.list (vs.map .int))):=by
 have hlen:g9 [.p (.list (ns.map .int))]=.ok (.p (.int (ns.length:Nat))):=by simp [g9,jF]
 obtain ⟨n,hn2,hr⟩:∃ n:Nat,n<=63/\∀ r3 r4,(t8 lM (aB (aE (aH7 fun i j=>if j > i then j else i) (aB (aE g9 (aB (aD 0) aK)) (aB (mC (.int 7)) aK))) aK)) [some (.p (.list (ns.map .int))),some (.p (.int PR)),some (.o (.list [])),r3,r4]=.ok (mR 0 n):=by
  refine ⟨(if (7:Int) > (ns.length:Nat) then (7:Int) else (ns.length:Nat)).toNat,by split<;>omega,fun r3 r4=>?_⟩
  have hb:-(2 ^ 62)<=(if (7:Int) > (ns.length:Nat) then (7:Int) else (ns.length:Nat))/\(if (7:Int) > (ns.length:Nat) then (7:Int) else (ns.length:Nat)) < 2 ^ 62:=by split<;>omega
  simp only [t8,aB,aK,aE,aD,mC,aRu,aQ6,Res.bind,Ev.c,hlen,aH7,lM]
  first
  | rw [aQt ⟨hb.1,hb.2⟩]
  | rw [aQt hb.2]
  | rfl
 obtain ⟨e',⟨vs,r3,r4,h1,h2,rfl⟩,hl⟩:=gZ (tg:=aM 3) (f:=eN K c) (fun k e=>∃ vs r3 r4,vs.length=k/\(∀ v∈vs,0<=v/\v < PR)/\e=[some (.p (.list (ns.map .int))),some (.p (.int PR)),some (.o (.list (vs.map .int))),r3,r4]) (mR 0 n) 0 [some (.p (.list (ns.map .int))),some (.p (.int PR)),some (.o (.list [])),none,none] ⟨[],none,none,rfl,(fun _ h=>nomatch h),rfl⟩ (by
  rintro j d e hd ⟨vs,r3,r4,h1,h2,rfl⟩
  obtain ⟨hj,rfl⟩:=aGo _ _ _ _ hd
  obtain ⟨v,w,v0,v1,hb⟩:=aJs K c ns vs (by omega) j (by omega) r4
  refine ⟨_,_,rfl,?_,vs++[v],some (.p (.int (j:Int))),w,by simp [h1],fun x hx=>?_,rfl⟩
  ·simp only [aSc,aSb,Int.zero_add]
   exact hb
  ·rcases aSe.mp hx with z | z
   ·exact h2 x z
   ·rw [aQ1.mp z];exact ⟨v0,v1⟩)
 refine ⟨vs,by rw [h1];unfold mR;rw [aQm,aR5];omega,h2,?_⟩
 unfold dC
 refine eC ?_
 rw [show cW 5 [.p (.list (ns.map .int))]=[some (.p (.list (ns.map .int))),none,none,none,none] from rfl]
 refine (aN (eF (d:=.int PR) rfl)).trans ?_
 refine (aN (iV (d:=.list []) rfl)).trans ?_
 simp only [aSc,aSb]
 refine (aN ((lO (hr _ _)).trans hl)).trans ?_
 rfl
noncomputable def bI(K:aQk)(c:Cls):List L->Res L:=mOf (fun a:Int×Int=>[.p (.int a.1),.p (.int a.2)]) (fun a=>a.2≠0/\Sz 8000 a.2) fun a=>.ok (.p (frD (FR.mk a.1 a.2)))
noncomputable def eU(K:aQk)(c:Cls):En->Res Bool:=(bH (aF gtE (aD 3) (mC (.int 0))))
noncomputable def fX(K:aQk)(c:Cls):MS:=(aMv 2 3 (aB (aD 3) (aB (aF cU (aD 2) (aD 3)) aK)))
noncomputable def pR:MS:=(bC (cJ 2 (aE aGh (aB (aD 0) aK))) (bC (cJ 3 (aE aGh (aB (aD 1) aK))) (bC (oO (eU K c) (fX K c)) (bC (eA (bH (aF ltE (aD 1) (mC (.int 0)))) (cJ 2 (mUn rO (aD 2))) bR) (eX (aE aT (aB (aF b8 (aD 0) (aD 2)) (aB (aF b8 (aD 1) (aD 2)) aK))))))))
theorem aMl(A B:Option L):∀ (n:Nat) (l s:Int),0<=l->0<=s->s.toNat<=n->mWh (eU K c) (fX K c) (n+1) [A,B,some (.p (.int l)),some (.p (.int s))]=some (.nx [A,B,some (.p (.int (Int.gcd l s:Nat))),some (.p (.int 0))]):=by
 intro n
 have hc:∀ (l s:Int),eU K c [A,B,some (.p (.int l)),some (.p (.int s))]=.ok (decide (0 < s)):=fun l s=>by
  simp [eU,bH,aF,aD,mC,Res.bind,Ev.c,gE,iU]
 have done:∀ (n:Nat) (l:Int),0<=l->mWh (eU K c) (fX K c) (n+1) [A,B,some (.p (.int l)),some (.p (.int 0))]=some (.nx [A,B,some (.p (.int (Int.gcd l 0:Nat))),some (.p (.int 0))]):=fun n l hl=>by
  unfold mWh
  rw [hc,FR.aAj hl]
  simp
 induction n with
 | zero =>
  intro l s hl hs hn
  have:s=0:=by omega
  subst this
  exact done 0 l hl
 | succ n ih =>
  intro l s hl hs hn
  by_cases h0:s=0
  ·subst h0
   exact done _ l hl
  ·have em:l.fmod s=l % s:=aUh l hs
   have m0:=aW4 l h0
   have m1:=aV9 l (show 0 < s by omega)
   have ih:=ih s (l.fmod s) hs (by omega) (by omega)
   rw [em,FR.wA hl hs] at ih
   have hb:fX K c [A,B,some (.p (.int l)),some (.p (.int s))]=some (.nx [A,B,some (.p (.int s)),some (.p (.int (l % s)))]):=by
    simp [fX,aMv,aF,aD,mC,aB,aK,Res.bind,Ev.c,sM,em,h0]
   have ht:eU K c [A,B,some (.p (.int l)),some (.p (.int s))]=.ok true:=by
    rw [hc]
    rw [aQ3 (show 0 < s by omega)]
   unfold mWh
   rw [ht]
   dsimp only
   rw [hb]
   exact ih
theorem vG:∀ ls,bI K c ls=.bad\/gS 4 (pR K c) ls=bI K c ls:=lF fun a h=>by
 obtain ⟨t,b⟩:=a
 obtain ⟨hb,hz⟩:=h
 dsimp only at hb hz ⊢
 have h:=aMl K c (some (.p (.int t))) (some (.p (.int b))) _ (if t < 0 then -t else t) (if b < 0 then -b else b) (by split<;>omega) (by split<;>omega) (aQu _)
 have h:=sI h
 rw [FR.aAl] at h
 obtain ⟨d1,d2⟩:=aKk t hb hz
 obtain ⟨e1,e2⟩:=d1
 obtain ⟨_,e3⟩:=d2
 have q1:∀ x:Int,lE x ((Int.gcd t b:Nat):Int):=fun x=>⟨e1,e2⟩
 have q2:∀ x:Int,lE x (-((Int.gcd t b:Nat):Int)):=fun x=>⟨by omega,e3⟩
 refine eC ?_
 rw [show cW 4 [.p (.int t),.p (.int b)]=[some (.p (.int t)),some (.p (.int b)),none,none] from rfl]
 refine (aN (eF (d:=.int (if t < 0 then -t else t)) rfl)).trans ?_
 refine (aN (eF (d:=.int (if b < 0 then -b else b)) rfl)).trans ?_
 refine (aN h).trans ?_
 by_cases hn:b < 0
 ·simp [bC,cJ,aE,aB,aK,aD,Res.bind,Ev.c,eA,bH,aF,mC,gE,iU,hn,mUn,rO,eX,aT,kH,sM,q2,aC1,FR.mk,FR.sgn,frD]
 ·simp [bC,cJ,aE,aB,aK,aD,Res.bind,Ev.c,eA,bH,aF,mC,gE,iU,hn,mUn,rO,bR,eX,aT,kH,sM,q1,aC1,FR.mk,FR.sgn,frD]
theorem l8{t b:Int}(h0:b≠0)(h1:Sz 8000 b):bI K c [.p (.int t),.p (.int b)]=.ok (.p (frD (FR.mk t b))):=kA (a:=(t,b)) (fun a b h=>by
 injection h with h1 h2
 injection h2 with h2 _
 injection h1 with h1
 injection h2 with h2
 injection h1 with h1
 injection h2 with h2
 exact aWp h1 h2) ⟨h0,h1⟩
structure GH(h:Int×Int):Prop where
 p:1<=h.2
 t:Sz 80 h.1
 b:Sz 5 h.2
 f:FR.Fr h
structure GPl(p:Pl):Prop where
 i0:0<=p.1
 i1:p.1<=8
 j0:0<=p.2.1
 j1:p.2.1<=8
 h:GH p.2.2
theorem aCv{t:Int}(ht:Sz 80 t):GH (t,1):=⟨aVc 1,ht,(show Sz 5 (1:Int) by unfold Sz;decide),⟨aVc 1,Int.gcd_one⟩⟩
theorem aK7{t b:Int}(h0:b≠0)(ht:Sz 80 t)(hb:Sz 5 b):GH (FR.mk t b):=⟨(FR.zQ h0).1.pos,Sz.le ht (aTy _ _),Sz.le hb (aTy _ _),(FR.zQ h0).1⟩
noncomputable def eB:MS:=(bC (eA (bH (aF (eqE false) (aF cU (aD 0) (mC (.int 4))) (mC (.int 1)))) (eX (aE aT (aB (aF uU (aF cU (aD 3) (mC (.int 3))) (aF g8 (aF fP (aF fP (aF g8 (aD 1) (aD 1)) (aF g8 (aD 1) (aD 2))) (aF g8 (aD 2) (aD 2))) (aF fP (mC (.int 1)) (aF cU (aF b8 (aD 0) (mC (.int 36))) (mC (.int 5)))))) (aB (mC (.int 1)) aK)))) bR) (bC (eA (bH (aF (eqE false) (aF cU (aD 0) (mC (.int 4))) (mC (.int 3)))) (eX (aE aT (aB (aF cU (aD 3) (mC (.int 3))) (aB (mC (.int 1)) aK)))) bR) (bC (eA (bH (aF (eqE false) (aF cU (aF b8 (aD 0) (mC (.int 36))) (mC (.int 2))) (mC (.int 1)))) (eX (aV 2 (bI K c) (aB (aF uU (aF cU (aD 3) (aF fP (aF g8 (mC (.int 2)) (aF aLn (mC (.int 10)) (mC (.int 20)))) (mC (.int 1)))) (aF aLn (mC (.int 10)) (mC (.int 20)))) (aB (aF fP (mC (.int 1)) (aF cU (aF b8 (aD 3) (mC (.int 11))) (mC (.int 12)))) aK)))) bR) (eX (aV 2 (bI K c) (aB (aF uU (aF cU (aD 3) (mC (.int 13))) (mC (.int 6))) (aB (aF fP (mC (.int 1)) (aF cU (aF b8 (aD 3) (mC (.int 13))) (mC (.int 4)))) aK)))))))
noncomputable def bU(ls:List L):Res L:=gS 4 (eB K c) ls
theorem lS:∀ ls,bU K c ls=.bad\/gS 4 (eB K c) ls=bU K c ls:=fun _=>.inr rfl
theorem zH{kind i j rest:Int}(hk:Sz 200 kind)(i0:0<=i)(i1:i<=8)(j0:0<=j)(j1:j<=8)(hr:Sz 200 rest):∃ h,GH h/\bU K c [.p (.int kind),.p (.int i),.p (.int j),.p (.int rest)]=.ok (.p (frD h)):=by
 have si:Sz 4 i:=by unfold Sz;omega
 have sj:Sz 4 j:=by unfold Sz;omega
 have p20:aJa 10 20:=⟨by decide,by decide,by decide⟩
 unfold bU
 suffices h:∃ h,GH h/\eB K c (cW 4 [.p (.int kind),.p (.int i),.p (.int j),.p (.int rest)])=some (.rt (.p (frD h))) from let ⟨h,g,e⟩:=h;⟨h,g,eC e⟩
 rw [show cW 4 [.p (.int kind),.p (.int i),.p (.int j),.p (.int rest)]=[some (.p (.int kind)),some (.p (.int i)),some (.p (.int j)),some (.p (.int rest))] from rfl]
 have tst:∀ n:Int,bH (aF (eqE false) (aF cU (aD 0) (mC (.int 4))) (mC (.int n))) [some (.p (.int kind)),some (.p (.int i)),some (.p (.int j)),some (.p (.int rest))]=.ok (kind.fmod 4 == n):=fun n=>by
  simp [bH,aF,aD,mC,Res.bind,Ev.c,sM,eqE,dat,jD,jB,gE]
 unfold eB
 cases h1:(kind.fmod 4 == 1) with
 | true =>
  have t1:=tst 1
  rw [h1] at t1
  refine ⟨(rest.fmod 3 - (i*i+i*j+j*j)*(1+(kind.fdiv 36).fmod 5),1),aCv ?_,?_⟩
  ·refine Sz.mono (m:=20) ?_ (by decide)
   have:Sz (max 4 (max (max (4+4) (4+4)+1) (4+4)+1+(max 4 4+1))+1) (rest.fmod 3 - (i*i+i*j+j*j)*(1+(kind.fdiv 36).fmod 5)):=by (walk_at "z")
   exact this.mono (by decide)
  ·refine fA ((jI t1).trans ?_)
   ktr_call 21 ⟨frD⟩
 | false =>
  have t1:=tst 1
  rw [h1] at t1
  cases h3:(kind.fmod 4 == 3) with
  | true =>
   have t3:=tst 3
   rw [h3] at t3
   refine ⟨(rest.fmod 3,1),aCv ((mZ (by decide) (uO (by decide))).mono (by decide)),?_⟩
   refine (aN (kF t1)).trans (fA ((jI t3).trans ?_))
   ktr_call 21 ⟨frD⟩
  | false =>
   have t3:=tst 3
   rw [h3] at t3
   have tk:bH (aF (eqE false) (aF cU (aF b8 (aD 0) (mC (.int 36))) (mC (.int 2))) (mC (.int 1))) [some (.p (.int kind)),some (.p (.int i)),some (.p (.int j)),some (.p (.int rest))]=.ok ((kind.fdiv 36).fmod 2 == 1):=by
    walk_at "1d"
    simp
   cases h5:((kind.fdiv 36).fmod 2 == 1) with
   | true =>
    rw [h5] at tk
    have b0:(1+(rest.fdiv 11).fmod 12)≠0:=by have:=(b9 (a:=rest.fdiv 11) (b:=12) (by decide)).1;omega
    have sb:Sz 5 (1+(rest.fdiv 11).fmod 12):=by
     have:Sz (max 4 4+1) (1+(rest.fdiv 11).fmod 12):=by (walk_at "z")
     exact this.mono (by decide)
    have hl:=l8 K c (t:=rest.fmod (2*10 ^ Int.toNat 20+1) - 10 ^ Int.toNat 20) b0 (sb.mono (by decide))
    refine ⟨_,aK7 (t:=rest.fmod (2*10 ^ Int.toNat 20+1) - 10 ^ Int.toNat 20) b0 ?_ sb,(aN (kF t1)).trans ((aN (kF t3)).trans (fA ((jI tk).trans ?_)))⟩
    ·have:Sz (max (max (4+70) 4+1) 70+1) (rest.fmod (2*10 ^ Int.toNat 20+1) - 10 ^ Int.toNat 20):=by (walk_at "z")
     exact this.mono (by decide)
    ·ktr_call 21 ⟨hl⟩
   | false =>
    rw [h5] at tk
    have b0:(1+(rest.fdiv 13).fmod 4)≠0:=by have:=(b9 (a:=rest.fdiv 13) (b:=4) (by decide)).1;omega
    have sb:Sz 5 (1+(rest.fdiv 13).fmod 4):=by
     have:Sz (max 4 4+1) (1+(rest.fdiv 13).fmod 4):=by (walk_at "z")
     exact this.mono (by decide)
    have hl:=l8 K c (t:=rest.fmod 13 - 6) b0 (sb.mono (by decide))
    refine ⟨_,aK7 (t:=rest.fmod 13 - 6) b0 ?_ sb,(aN (kF t1)).trans ((aN (kF t3)).trans ((aN (kF tk)).trans ?_))⟩
    ·have:Sz (max 4 4+1) (rest.fmod 13 - 6):=by (walk_at "z")
     exact this.mono (by decide)
    ·ktr_call 21 ⟨hl⟩
abbrev Mp:=List ((Int×Int)×(Int×Int))
def Gm(m:Mp):Prop:=(m.map (·.1)).Nodup/\∀ k h,iA m k=some h->(0<=k.1/\k.1<=8/\0<=k.2/\k.2<=8)/\GH h
theorem sO{α κ:Type}[DecidableEq κ](k:κ)(v:α):∀ m:List (κ×α),(aCr k v m).map (·.1)=m.map (·.1)
 | []=>rfl
 | p :: r=>by
  unfold aCr
  rw [aQx,aQx,sO k v r]
  split<;>rfl
theorem sE{α κ:Type}[DecidableEq κ]{k:κ}:∀ {m:List (κ×α)},iA m k=none->k∉m.map (·.1)
 | [],_=>fun h=>nomatch h
 | p :: r,e=>by
  unfold iA at e
  split at e
  ·cases e
  ·rename_i z
   rw [aQx,aQy]
   rintro (q | q)
   ·exact z q.symm
   ·exact sE e q
theorem aAe{α κ:Type}[DecidableEq κ]{m:List (κ×α)}(h:(m.map (·.1)).Nodup)(k:κ)(v:α):((mO m k v).map (·.1)).Nodup:=by
 unfold mO
 cases e:iA m k with
 | none =>
  rw [aQv (by simp),aRn]
  refine List.nodup_append.mpr ⟨h,aWn _ _,fun a ha b hb z=>?_⟩
  have:b=k:=by simpa using hb
  rw [z,this] at ha
  exact sE e ha
 | some x =>
  rw [aQt (by rfl),sO]
  exact h
theorem Gm.put{m:Mp}(g:Gm m){k h:Int×Int}(hk:0<=k.1/\k.1<=8/\0<=k.2/\k.2<=8)(hh:GH h):Gm (mO m k h):=⟨aAe g.1 k h,fun k' h' e=>by
 rw [kR] at e
 split at e
 ·rename_i z;cases e;rw [z];exact ⟨hk,hh⟩
 ·exact g.2 k' h' e⟩
noncomputable def dU(K:aQk)(c:Cls):En->Res Ev:=(aE aT (aB (aF ixE (aD 0) (mC (.int 0))) (aB (aF ixE (aD 0) (mC (.int 1))) (aB (aF o5 (aD 1) (aD 0)) aK))))
noncomputable def eR:MS:=(bC (cJ 6 (aF cU (aD 5) (aD 3))) (bC (cJ 7 (aF cU (aF b8 (aD 5) (aD 3)) (aD 3))) (bC (eA (bH (aF (eqE false) (aF cU (aD 0) (mC (.int 4))) (mC (.int 2)))) (cJ 7 (aF g8 (aD 6) (aF cU (aF b8 (aD 0) (mC (.int 4))) (mC (.int 2))))) bR) (bC (cJ 8 (aV 4 (bU K c) (aB (aD 0) (aB (aD 6) (aB (aD 7) (aB (aF b8 (aD 5) (aF g8 (aD 3) (aD 3))) aK)))))) (eA (bH (aF (yH false) (aE aT (aB (aD 6) (aB (aD 7) aK))) (aD 4))) (bC (cJ 9 (aF o5 (aD 4) (aE aT (aB (aD 6) (aB (aD 7) aK))))) (eA (bH (aF gtE (aF g8 (aF ixE (aD 8) (mC (.int 0))) (aF ixE (aD 9) (mC (.int 1)))) (aF g8 (aF ixE (aD 9) (mC (.int 0))) (aF ixE (aD 8) (mC (.int 1)))))) (lG 4 (aE aT (aB (aD 6) (aB (aD 7) aK))) (aD 8)) bR)) (eA (bH (aF ltE (aE k7 (aB (aD 4) aK)) (aD 2))) (lG 4 (aE aT (aB (aD 6) (aB (aD 7) aK))) (aD 8)) bR))))))
noncomputable def iQ:MS:=(bC (cJ 4 mDT) (bC (tV (iE (aD 1)) (aM 5) (eR K c)) (bC (eA (bH (aF aE1 (aD 4) mDT)) (lG 4 (aE aT (aB (aF cU (aD 0) (aD 3)) (aB (mC (.int 0)) aK))) (aE aT (aB (mC (.int 0)) (aB (mC (.int 1)) aK)))) bR) (fun en=>(eX (fQ 1 [4] (iE (aE fF (aB (aD 4) aK))) (aM 0) hV (dU K c))) (frz 4 en)))))
noncomputable def cT(ls:List L):Res L:=gS 10 (iQ K c) ls
theorem nY:∀ ls,cT K c ls=.bad\/gS 10 (iQ K c) ls=cT K c ls:=fun _=>.inr rfl
theorem GH.cw{x y:Int×Int}(hx:GH x)(hy:GH y):CMulW x.1 y.2:=⟨hx.t.mono (by decide),hy.b.mono (by decide)⟩
theorem xQ(K:aQk)(c:Cls)(A B N W:Option L)(m:Mp)(hm:m.length<=1000)(i j:Int)(h:Int×Int)(r5 r9:Option L):lG 4 (aE aT (aB (aD 6) (aB (aD 7) aK))) (aD 8) [A,B,N,W,some (.o (.dict (encM slD frD m))),r5,some (.p (.int i)),some (.p (.int j)),some (.p (frD h)),r9]=some (.nx [A,B,N,W,some (.o (.dict (encM slD frD (mO m (i,j) h)))),r5,some (.p (.int i)),some (.p (.int j)),some (.p (frD h)),r9]):=by
 have hp:=uM (ev:=frD) m (i,j) h (by omega)
 have hp2:yW (encM slD frD m) (.tuple [.int i,.int j]) (frD h)=some (encM slD frD (mO m (i,j) h)):=hp
 have hk:(aE aT (aB (aD 6) (aB (aD 7) aK))) [A,B,N,W,some (.o (.dict (encM slD frD m))),r5,some (.p (.int i)),some (.p (.int j)),some (.p (frD h)),r9]=.ok (.p (.tuple [.int i,.int j])):=by
  walk_at "2"
 have hv:(aD 8) [A,B,N,W,some (.o (.dict (encM slD frD m))),r5,some (.p (.int i)),some (.p (.int j)),some (.p (frD h)),r9]=.ok (.p (frD h)):=rfl
 unfold lG
 ktr_call 3 ⟨hk,hv,Ev.c,hp2⟩
def Wm(w:Int)(m:Mp):Prop:=∀ k h,iA m k=some h->k.1 < w/\k.2 < w
theorem Wm.put{w:Int}{m:Mp}(g:Wm w m){k:Int×Int}(h:Int×Int)(h1:k.1 < w)(h2:k.2 < w):Wm w (mO m k h):=fun k' h' e=>by
 rw [kR] at e
 split at e
 ·rename_i z;rw [z];exact ⟨h1,h2⟩
 ·exact g k' h' e
structure Lm(mo w:Int)(m m':Mp):Prop where
 a:m'.length<=m.length+1
 b:(m.length:Int)<=mo->(m'.length:Int)<=mo
 c:Wm w m->Wm w m'
theorem sP{m:Mp}{k h f:Int×Int}(e:iA m k=some f):(mO m k h).length=m.length:=by
 unfold mO
 rw [e,aQt (by rfl),qH]
theorem aJ3(B:Option L){kind cell w mo:Int}(hk:Sz 200 kind)(c0:0<=cell)(hc:Sz 200 cell)(w0:1<=w)(w1:w<=9)(m:Mp)(hm:m.length<=1000)(gm:Gm m)(r6 r7 r8 r9:Option L) :
  ∃ m' q6 q7 q8 q9,Gm m'/\Lm mo w m m'/\eR K c [some (.p (.int kind)),B,some (.p (.int mo)),some (.p (.int w)),some (.o (.dict (encM slD frD m))),some (.p (.int cell)),r6,r7,r8,r9]=some (.nx [some (.p (.int kind)),B,some (.p (.int mo)),some (.p (.int w)),some (.o (.dict (encM slD frD m'))),some (.p (.int cell)),q6,q7,q8,q9]):=by
 have sw:Sz 4 w:=by unfold Sz;omega
 have wn:w≠0:=by omega
 have ww:w*w≠0:=fun z=>by rcases aVy.mp z with z | z<;>omega
 have mi:=b9 (a:=cell) (b:=w) (by omega)
 have mj:=b9 (a:=cell.fdiv w) (b:=w) (by omega)
 have mk2:=b9 (a:=kind.fdiv 4) (b:=2) (by decide)
 have e1:(aF cU (aD 5) (aD 3)) [some (.p (.int kind)),B,some (.p (.int mo)),some (.p (.int w)),some (.o (.dict (encM slD frD m))),some (.p (.int cell)),r6,r7,r8,r9]=.ok (.p (.int (cell.fmod w))):=by
  walk_at "1d"
 have e2:(aF cU (aF b8 (aD 5) (aD 3)) (aD 3)) [some (.p (.int kind)),B,some (.p (.int mo)),some (.p (.int w)),some (.o (.dict (encM slD frD m))),some (.p (.int cell)),some (.p (.int (cell.fmod w))),r7,r8,r9]=.ok (.p (.int ((cell.fdiv w).fmod w))):=by
  walk_at "1d"
 generalize hi:cell.fmod w=i at mi e1 e2
 generalize hj:(cell.fdiv w).fmod w=j0 at mj e2
 have si:Sz 4 i:=by unfold Sz;omega
 obtain ⟨j,jl,jh,jw,e3⟩:∃ j:Int,0<=j/\j<=8/\j < w/\eA (bH (aF (eqE false) (aF cU (aD 0) (mC (.int 4))) (mC (.int 2)))) (cJ 7 (aF g8 (aD 6) (aF cU (aF b8 (aD 0) (mC (.int 4))) (mC (.int 2))))) bR [some (.p (.int kind)),B,some (.p (.int mo)),some (.p (.int w)),some (.o (.dict (encM slD frD m))),some (.p (.int cell)),some (.p (.int i)),some (.p (.int j0)),r8,r9]=some (.nx [some (.p (.int kind)),B,some (.p (.int mo)),some (.p (.int w)),some (.o (.dict (encM slD frD m))),some (.p (.int cell)),some (.p (.int i)),some (.p (.int j)),r8,r9]):=by
  have tst:bH (aF (eqE false) (aF cU (aD 0) (mC (.int 4))) (mC (.int 2))) [some (.p (.int kind)),B,some (.p (.int mo)),some (.p (.int w)),some (.o (.dict (encM slD frD m))),some (.p (.int cell)),some (.p (.int i)),some (.p (.int j0)),r8,r9]=.ok (kind.fmod 4 == 2):=by
   simp [bH,aF,aD,mC,Res.bind,Ev.c,sM,eqE,dat,jD,jB,gE]
  cases h:(kind.fmod 4 == 2) with
  | false =>
   rw [h] at tst
   exact ⟨j0,by omega,by omega,mj.2,kF tst⟩
  | true =>
   rw [h] at tst
   refine ⟨i*(kind.fdiv 4).fmod 2,Int.mul_nonneg mi.1 mk2.1,?_,?_,(jI tst).trans ?_⟩
   ·have:(kind.fdiv 4).fmod 2=0\/(kind.fdiv 4).fmod 2=1:=by omega
    rcases this with z | z<;>rw [z]<;>omega
   ·have:(kind.fdiv 4).fmod 2=0\/(kind.fdiv 4).fmod 2=1:=by omega
    rcases this with z | z<;>rw [z]<;>omega
   ·walk_at "1d"
 have sd:Sz 200 (cell.fdiv (w*w)):=u0 hc
 obtain ⟨h,gh,hh⟩:=zH K c hk mi.1 (show i<=8 by omega) jl jh sd
 have e4:(aV 4 (bU K c) (aB (aD 0) (aB (aD 6) (aB (aD 7) (aB (aF b8 (aD 5) (aF g8 (aD 3) (aD 3))) aK))))) [some (.p (.int kind)),B,some (.p (.int mo)),some (.p (.int w)),some (.o (.dict (encM slD frD m))),some (.p (.int cell)),some (.p (.int i)),some (.p (.int j)),r8,r9]=.ok (.p (frD h)):=by
  ktr_call 21 ⟨hh⟩
 have hd:=mU (ev:=frD) m (i,j)
 have hd2:rP (encM slD frD m) (.tuple [.int i,.int j])=some ((iA m (i,j)).map frD):=hd
 have step:∀ st,(∃ m' q9,Gm m'/\Lm mo w m m'/\st [some (.p (.int kind)),B,some (.p (.int mo)),some (.p (.int w)),some (.o (.dict (encM slD frD m))),some (.p (.int cell)),some (.p (.int i)),some (.p (.int j)),some (.p (frD h)),r9]=some (.nx [some (.p (.int kind)),B,some (.p (.int mo)),some (.p (.int w)),some (.o (.dict (encM slD frD m'))),some (.p (.int cell)),some (.p (.int i)),some (.p (.int j)),some (.p (frD h)),q9])) ->
   ∃ m' q6 q7 q8 q9,Gm m'/\Lm mo w m m'/\(bC (cJ 6 (aF cU (aD 5) (aD 3))) (bC (cJ 7 (aF cU (aF b8 (aD 5) (aD 3)) (aD 3))) (bC (eA (bH (aF (eqE false) (aF cU (aD 0) (mC (.int 4))) (mC (.int 2)))) (cJ 7 (aF g8 (aD 6) (aF cU (aF b8 (aD 0) (mC (.int 4))) (mC (.int 2))))) bR) (bC (cJ 8 (aV 4 (bU K c) (aB (aD 0) (aB (aD 6) (aB (aD 7) (aB (aF b8 (aD 5) (aF g8 (aD 3) (aD 3))) aK)))))) st)))) [some (.p (.int kind)),B,some (.p (.int mo)),some (.p (.int w)),some (.o (.dict (encM slD frD m))),some (.p (.int cell)),r6,r7,r8,r9]=some (.nx [some (.p (.int kind)),B,some (.p (.int mo)),some (.p (.int w)),some (.o (.dict (encM slD frD m'))),some (.p (.int cell)),q6,q7,q8,q9]):=by
  rintro st ⟨m',q9,g1,g2,g3⟩
  refine ⟨m',_,_,_,q9,g1,g2,(aN (eF e1)).trans ((aN (eF e2)).trans ((aN e3).trans ((aN (eF e4)).trans g3)))⟩
 unfold eR
 refine step _ ?_
 have tin:bH (aF (yH false) (aE aT (aB (aD 6) (aB (aD 7) aK))) (aD 4)) [some (.p (.int kind)),B,some (.p (.int mo)),some (.p (.int w)),some (.o (.dict (encM slD frD m))),some (.p (.int cell)),some (.p (.int i)),some (.p (.int j)),some (.p (frD h)),r9]=.ok (iA m (i,j)).isSome:=by
  ktr_call 2 ⟨yH,jX,hd2⟩
  simp
 have hr:0<=(i,j).1/\(i,j).1<=8/\0<=(i,j).2/\(i,j).2<=8:=⟨mi.1,by show i<=8;omega,jl,jh⟩
 cases ea:iA m (i,j) with
 | none =>
  rw [ea] at tin
  have tl:bH (aF ltE (aE k7 (aB (aD 4) aK)) (aD 2)) [some (.p (.int kind)),B,some (.p (.int mo)),some (.p (.int w)),some (.o (.dict (encM slD frD m))),some (.p (.int cell)),some (.p (.int i)),some (.p (.int j)),some (.p (frD h)),r9]=.ok (decide ((m.length:Int) < mo)):=by
   have:k7 [.b (.dict (encM slD frD m))]=.ok (.p (.int (m.length:Nat))):=by simp [k7,jX,pG];unfold N.encM;simp
   ktr_call 2 ⟨this⟩
  cases hl:decide ((m.length:Int) < mo) with
  | true =>
   rw [hl] at tl
   exact ⟨mO m (i,j) h,r9,gm.put hr gh,⟨kW _ _ _,fun _=>by have:=kW m (i,j) h;have:=aWf hl;omega,fun z=>z.put h mi.2 jw⟩,(kF tin).trans ((jI tl).trans (xQ K c _ _ _ _ m hm i j h _ _))⟩
  | false =>
   rw [hl] at tl
   exact ⟨m,r9,gm,⟨aT5 _,id,id⟩,(kF tin).trans (kF tl)⟩
 | some f =>
  rw [ea] at tin hd2
  have gf:=(gm.2 _ _ ea).2
  have es:(aF o5 (aD 4) (aE aT (aB (aD 6) (aB (aD 7) aK)))) [some (.p (.int kind)),B,some (.p (.int mo)),some (.p (.int w)),some (.o (.dict (encM slD frD m))),some (.p (.int cell)),some (.p (.int i)),some (.p (.int j)),some (.p (frD h)),r9]=.ok (.p (frD f)):=by
   ktr_call 2 ⟨o5,jX,hd2,aW5⟩
  have q1:=gh.cw gf
  have q2:=gf.cw gh
  have tg:bH (aF gtE (aF g8 (aF ixE (aD 8) (mC (.int 0))) (aF ixE (aD 9) (mC (.int 1)))) (aF g8 (aF ixE (aD 9) (mC (.int 0))) (aF ixE (aD 8) (mC (.int 1))))) [some (.p (.int kind)),B,some (.p (.int mo)),some (.p (.int w)),some (.o (.dict (encM slD frD m))),some (.p (.int cell)),some (.p (.int i)),some (.p (.int j)),some (.p (frD h)),some (.p (frD f))]=.ok (decide (f.1*h.2 < h.1*f.2)):=by
   walk_at "1a"
  cases hl:decide (f.1*h.2 < h.1*f.2) with
  | true =>
   rw [hl] at tg
   exact ⟨mO m (i,j) h,_,gm.put hr gh,⟨kW _ _ _,fun z=>by rw [sP ea];exact z,fun z=>z.put h mi.2 jw⟩,(jI tin).trans ((aN (eF es)).trans ((jI tg).trans (xQ K c _ _ _ _ m hm i j h _ _)))⟩
  | false =>
   rw [hl] at tg
   exact ⟨m,_,gm,⟨aT5 _,id,id⟩,(jI tin).trans ((aN (eF es)).trans (kF tg))⟩
def eW(m:Mp):List Pl:=(i6 (kys m)).map fun k=>((un2 k).1,(un2 k).2,aJ7 m (0,1) k)
theorem vJ{m:Mp}(g:Gm m):∀ p∈eW m,GPl p:=fun p hp=>by
 unfold eW at hp
 obtain ⟨k,hk,rfl⟩:=aRk.mp hp
 obtain ⟨_,_,h3⟩:=pT hk (0,1)
 obtain ⟨⟨a,b,c,d⟩,h⟩:=g.2 _ _ h3
 exact ⟨a,b,c,d,h⟩
theorem jS(m:Mp):(eW m).length=m.length:=by
 unfold eW
 rw [aQm,(fN (kys m)).length_eq]
 unfold kys
 rw [aQm]
theorem aEc(A B N0 W:Option L)(m:Mp)(hm:m.length < 64)(r5 r6 r7 r8 r9:Option L):(fun en=>(eX (fQ 1 [4] (iE (aE fF (aB (aD 4) aK))) (aM 0) hV (dU K c))) (frz 4 en)) [A,B,N0,W,some (.o (.dict (N.encM slD frD m))),r5,r6,r7,r8,r9]=some (.rt (.o (.list ((eW m).map plD)))):=by
 ktr_call 3 ⟨frz⟩
 have hs:=sZ (ev:=frD) m hm
 have hmap:oX (cB 1 [4] (aM 0) hV (dU K c) [A,B,N0,W,some (.p (.dict (N.encM slD frD m))),r5,r6,r7,r8,r9]) ((i6 (kys m)).map oZ)=some ((i6 (kys m)).map fun k=>plD ((un2 k).1,(un2 k).2,aJ7 m (0,1) k)):=by
  refine eI _ fun k hk=>?_
  obtain ⟨h1,h2,h3⟩:=pT hk (0,1)
  have hd:=mU (ev:=frD) m (un2 k)
  rw [h3] at hd
  have x0:ixE (.p (slD (un2 k))) (.p (.int 0))=.ok (.p (.int (un2 k).1)):=oJ _ _
  have x1:ixE (.p (slD (un2 k))) (.p (.int 1))=.ok (.p (.int (un2 k).2)):=pA _ _ _
  rw [h1]
  unfold cB
  ktr_call 2 ⟨aM,zV,aFc,hV,dU,List.replicate,aTb,aTr,o5,jX,hd,x0,x1,aW5,plD⟩
 have hc:fQ 1 [4] (iE (aE fF (aB (aD 4) aK))) (aM 0) hV (dU K c) [A,B,N0,W,some (.p (.dict (N.encM slD frD m))),r5,r6,r7,r8,r9]=.ok (.f (.list ((eW m).map plD))):=by
  unfold fQ aEb
  ktr_call 3 ⟨iE,aE,aB,aK,aD,Res.bind,Ev.c,hs,aIo⟩
  rw [aQt (show (i6 (kys m)).length<=100000 by rw [(fN (kys m)).length_eq];unfold kys;rw [aQm];omega),hmap]
  unfold eW
  rw [aR7]
  rfl
 unfold eX
 rw [hc]
 rfl
theorem aDe{kind w mo:Int}(hk:Sz 200 kind)(w0:1<=w)(w1:w<=9)(cs:List Int)(hl:cs.length<=60)(hc:∀ x∈cs,0<=x/\Sz 200 x)(hmo:1<=mo:=by decide) :
  ∃ m:Mp,Gm m/\eW m≠[]/\(m.length<=cs.length+1/\(m.length:Int)<=mo/\Wm w m)/\cT K c [.p (.int kind),.p (.list (cs.map .int)),.p (.int mo),.p (.int w)]=.ok (.o (.list ((eW m).map plD))):=by
 obtain ⟨e',⟨m,q5,q6,q7,q8,q9,g1,g2,rfl⟩,hloop⟩:=wM (enc:=PyData.int) (tg:=aM 5) (f:=eR K c) (fun zs e=>∃ m q5 q6 q7 q8 q9,Gm m/\(m.length<=zs.length/\(m.length:Int)<=mo/\Wm w m)/\e=[some (.p (.int kind)),some (.p (.list (cs.map .int))),some (.p (.int mo)),some (.p (.int w)),some (.o (.dict (N.encM slD frD m))),q5,q6,q7,q8,q9]) cs [] [some (.p (.int kind)),some (.p (.list (cs.map .int))),some (.p (.int mo)),some (.p (.int w)),some (.o (.dict [])),none,none,none,none,none] ⟨[],none,none,none,none,none,⟨List.Pairwise.nil,fun _ _ h=>nomatch h⟩,⟨aQu _,by show (0:Int)<=mo;omega,fun _ _ e=>nomatch e⟩,rfl⟩ (by
  rintro x hx zs e hz ⟨m,q5,q6,q7,q8,q9,g1,g2,rfl⟩
  have hz:zs.length < 0+cs.length:=hz
  obtain ⟨m',p6,p7,p8,p9,h1,h2,h3⟩:=aJ3 K c (some (.p (.list (cs.map .int)))) (mo:=mo) hk (hc x hx).1 (hc x hx).2 w0 w1 m (by omega) g1 q6 q7 q8 q9
  refine ⟨_,_,rfl,h3,m',_,p6,p7,p8,p9,h1,⟨?_,h2.b g2.2.1,h2.c g2.2.2⟩,rfl⟩
  have:=h2.a
  rw [aQz];simp;omega)
 have g2:m.length<=cs.length/\(m.length:Int)<=mo/\Wm w m:=g2
 have wn:w≠0:=by omega
 have mi:=b9 (a:=kind) (b:=w) (by omega)
 have td:bH (aF aE1 (aD 4) mDT) [some (.p (.int kind)),some (.p (.list (cs.map .int))),some (.p (.int mo)),some (.p (.int w)),some (.o (.dict (N.encM slD frD m))),q5,q6,q7,q8,q9]=.ok m.isEmpty:=by
  have:aE1 (.b (.dict (N.encM slD frD m))) (.p (.dict []))=.ok (.p (.bool m.isEmpty)):=by
   unfold aE1
   simp only [jX,pG,aUu]
   unfold N.encM
   rw [List.isEmpty_map]
  ktr_call 3 ⟨bH,aF,aD,mDT,Res.bind,Ev.c,this,gE⟩
 obtain ⟨m2,n1,n2,n3,e2⟩:∃ m2:Mp,m2≠[]/\Gm m2/\(m2.length<=cs.length+1/\(m2.length:Int)<=mo/\Wm w m2)/\eA (bH (aF aE1 (aD 4) mDT)) (lG 4 (aE aT (aB (aF cU (aD 0) (aD 3)) (aB (mC (.int 0)) aK))) (aE aT (aB (mC (.int 0)) (aB (mC (.int 1)) aK)))) bR [some (.p (.int kind)),some (.p (.list (cs.map .int))),some (.p (.int mo)),some (.p (.int w)),some (.o (.dict (N.encM slD frD m))),q5,q6,q7,q8,q9]=some (.nx [some (.p (.int kind)),some (.p (.list (cs.map .int))),some (.p (.int mo)),some (.p (.int w)),some (.o (.dict (N.encM slD frD m2))),q5,q6,q7,q8,q9]):=by
  cases m with
  | cons p r=>exact ⟨p :: r,List.cons_ne_nil _ _,g1,⟨by omega,g2.2.1,g2.2.2⟩,kF td⟩
  | nil =>
   refine ⟨mO [] (kind.fmod w,0) (0,1),(fun z=>nomatch z),g1.put ⟨mi.1,by show kind.fmod w<=8;omega,aVc 0,(show (0:Int)<=8 by decide)⟩ (aCv (show Sz 80 (0:Int) by unfold Sz;decide)),⟨(show (1:Nat)<=cs.length+1 by omega),(show ((1:Nat):Int)<=mo by omega),g2.2.2.put _ (show kind.fmod w < w by omega) (show (0:Int) < w by omega)⟩,(jI td).trans ?_⟩
   have hp:=uM (ev:=frD) [] (kind.fmod w,0) (0,1) (by decide)
   have hp2:yW (N.encM slD frD []) (.tuple [.int (kind.fmod w),.int 0]) (.tuple [.int 0,.int 1])=some (N.encM slD frD (mO [] (kind.fmod w,0) (0,1))):=hp
   have hk':(aE aT (aB (aF cU (aD 0) (aD 3)) (aB (mC (.int 0)) aK))) [some (.p (.int kind)),some (.p (.list (cs.map .int))),some (.p (.int mo)),some (.p (.int w)),some (.o (.dict (N.encM slD frD []))),q5,q6,q7,q8,q9]=.ok (.p (.tuple [.int (kind.fmod w),.int 0])):=by
    walk_at "1d"
   have hv:(aE aT (aB (mC (.int 0)) (aB (mC (.int 1)) aK))) [some (.p (.int kind)),some (.p (.list (cs.map .int))),some (.p (.int mo)),some (.p (.int w)),some (.o (.dict (N.encM slD frD []))),q5,q6,q7,q8,q9]=.ok (.p (.tuple [.int 0,.int 1])):=rfl
   unfold lG
   ktr_call 3 ⟨hk',hv,Ev.c,hp2⟩
 refine ⟨m2,n2,?_,n3,?_⟩
 ·intro z
  have:=jS m2
  rw [z] at this
  exact n1 (aU2.mp this.symm)
 unfold cT
 refine eC ?_
 rw [show cW 10 [.p (.int kind),.p (.list (cs.map .int)),.p (.int mo),.p (.int w)]=[some (.p (.int kind)),some (.p (.list (cs.map .int))),some (.p (.int mo)),some (.p (.int w)),none,none,none,none,none,none] from rfl]
 refine (aN (iV (d:=.dict []) rfl)).trans ?_
 refine (aN ((lO (ds:=cs.map .int) rfl).trans hloop)).trans ?_
 refine (aN e2).trans ?_
 exact aEc K c _ _ _ _ m2 (by omega) _ _ _ _ _
def slt(p q:Pl):Prop:=p.1 < q.1\/(p.1=q.1/\p.2.1 < q.2.1)
theorem cI{f:En->Res Ev}{g:En->Res (List Ev)}{en:En}{x:Ev}{xs:List Ev}(h1:f en=.ok x)(h2:g en=.ok xs):aB f g en=.ok (x.c :: xs):=by
 simp only [aB,h1,h2,Res.bind]
theorem yJ{n:Nat}{m:List L->Res L}{fr:En->Res (List Ev)}{en:En}{rs:List Ev}{ls:List L}{r:L}(h:fr en=.ok rs)(ha:gJ sA rs=some ls)(hn:ls.length=n)(hm:m ls=.ok r):aV n m fr en=.ok (qT r):=by
 simp only [aV,h,Res.bind,iW,ha,hn,hm,aUu]
theorem aO{op:Ev->Ev->Res Ev}{f g:En->Res Ev}{en:En}{x y:Ev}{o:Res Ev}(h1:f en=.ok x)(h2:g en=.ok y)(h:op x.c y.c=o):aF op f g en=o:=by
 simp only [aF,h1,h2,Res.bind,h]
theorem eY{f:En->Res Ev}{en:En}{b:Bool}(h:f en=.ok (.p (.bool b))):bH f en=.ok b:=by
 simp only [bH,h,Res.bind,gE]
theorem aO4{f g:En->Res Bool}{en:En}(h1:f en=.ok false)(h2:g en=.ok false):mOr f g en=.ok false:=by
 simp only [mOr,h1,h2,Res.bind]
 rfl
theorem mF{i j:Int}:eqE false (.p (.int i)) (.p (.int j))=.ok (.p (.bool (i == j))):=by
 simp only [eqE,dat,jD,jB]
 rfl
theorem xD{m:List L->Res L}{f g:En->Res Ev}{en:En}{a b r:D}(h1:f en=.ok (.p a))(h2:g en=.ok (.p b))(hm:m [.p a,.p b]=.ok (.p r)):aV 2 m (aB f (aB g aK)) en=.ok (.p r):=by
 ktr_call 3 ⟨aV,aB,aK,h1,h2,Res.bind,Ev.c,iW,gJ,sA,hm,qT⟩
theorem zL{r:List Ev->Res Ev}{f:En->Res Ev}{en:En}{a:D}{o:Res Ev}(h1:f en=.ok (.p a))(h:r [.p a]=o):aE r (aB f aK) en=o:=by
 simp only [aE,aB,aK,h1,Res.bind,Ev.c,h]
theorem lT{f g:En->Res Ev}{en:En}{a b:D}(h1:f en=.ok (.p a))(h2:g en=.ok (.p b)):aE aT (aB f (aB g aK)) en=.ok (.p (.tuple [a,b])):=by
 ktr_call 3 ⟨aE,aB,aK,h1,h2,aT,kH,Res.bind,Ev.c⟩
theorem kO{f g:En->Res Bool}{en:En}{o:Res Bool}(h1:f en=.ok true)(h2:g en=o):kN f g en=o:=by
 simp only [kN,h1,Res.bind,h2]
 rfl
theorem aBv{f g:En->Res Bool}{en:En}(h1:f en=.ok false):kN f g en=.ok false:=by
 simp only [kN,h1,Res.bind]
 rfl
theorem aFl{i:Nat}{f g:En->Res Ev}{en:En}{m:Mp}{s h:Int×Int}(he:en[i]? = some (some (.o (.dict (encM slD frD m)))))(h1:f en=.ok (.p (slD s)))(h2:g en=.ok (.p (frD h)))(hm:m.length<=1000):lG i f g en=some (.nx (en.set i (some (.o (.dict (encM slD frD (mO m s h))))))):=by
 have hp:=uM (ev:=frD) m s h (by omega)
 unfold lG
 simp only [he,h1,h2,Ev.c,hp]
theorem aFy{m:Mp}{k h:Int×Int}:mO m k h≠[]:=fun z=>by
 have:=kR m k h k
 rw [z] at this
 simp [iA] at this
theorem cdl{i j:Int}(h0:j≠0)(h:j.natAbs < 2 ^ 90):lE i j:=⟨h0,(show Sz 90 j from h).mono (by decide)⟩
noncomputable def bK(K:aQk)(c:Cls):List L->Res L:=mOf eFF (fun a=>Good 2000 a.1/\Good 2000 a.2) fun a=>.ok (.p (frD (hP a.1 a.2)))
noncomputable def lQ:MS:=(eX (aV 2 (bI K c) (aB (aF fP (aF g8 (aF ixE (aD 0) (mC (.int 0))) (aF ixE (aD 1) (mC (.int 1)))) (aF g8 (aF ixE (aD 1) (mC (.int 0))) (aF ixE (aD 0) (mC (.int 1))))) (aB (aF g8 (aF ixE (aD 0) (mC (.int 1))) (aF ixE (aD 1) (mC (.int 1)))) aK))))
theorem u7:∀ ls,bK K c ls=.bad\/gS 2 (lQ K c) ls=bK K c ls:=lF fun a h=>by
 obtain ⟨x,y⟩:=a
 obtain ⟨g1,g2⟩:=h
 obtain ⟨x0,x1,x2⟩:=id g1
 obtain ⟨y0,y1,y2⟩:=id g2
 dsimp only at g1 g2 x0 x1 x2 y0 y1 y2 ⊢
 have l:=l8 K c (t:=x.1*y.2+y.1*x.2) (b:=x.2*y.2) (g1.ne g2) ((Sz.mul x2 y2).mono (by decide))
 refine eC ?_
 rw [show cW 2 (eFF (x,y))=[some (.p (frD x)),some (.p (frD y))] from rfl]
 unfold lQ
 refine gI ?_
 ktr_call 21 ⟨l⟩
 rfl
theorem lZ{m n:Nat}{x y:Int×Int}(hx:Good m x)(hy:Good n y)(h1:m<=2000)(h2:n<=2000):bK K c [.p (frD x),.p (frD y)]=.ok (.p (frD (hP x y))):=kA (a:=(x,y)) kJ ⟨hx.mono h1,hy.mono h2⟩
noncomputable def bF(K:aQk)(c:Cls):List L->Res L:=mOf eFF (fun a=>Good 2000 a.1/\Good 2000 a.2) fun a=>.ok (.p (frD (FR.mk (a.1.1*a.2.1) (a.1.2*a.2.2))))
noncomputable def iN:MS:=(eX (aV 2 (bI K c) (aB (aF g8 (aF ixE (aD 0) (mC (.int 0))) (aF ixE (aD 1) (mC (.int 0)))) (aB (aF g8 (aF ixE (aD 0) (mC (.int 1))) (aF ixE (aD 1) (mC (.int 1)))) aK))))
theorem oM:∀ ls,bF K c ls=.bad\/gS 2 (iN K c) ls=bF K c ls:=lF fun a h=>by
 obtain ⟨x,y⟩:=a
 obtain ⟨g1,g2⟩:=h
 obtain ⟨x0,x1,x2⟩:=id g1
 obtain ⟨y0,y1,y2⟩:=id g2
 dsimp only at g1 g2 x0 x1 x2 y0 y1 y2 ⊢
 have l:=l8 K c (t:=x.1*y.1) (b:=x.2*y.2) (g1.ne g2) ((Sz.mul x2 y2).mono (by decide))
 refine eC ?_
 rw [show cW 2 (eFF (x,y))=[some (.p (frD x)),some (.p (frD y))] from rfl]
 unfold iN
 refine gI ?_
 ktr_call 21 ⟨l⟩
theorem xH{m:Mp}(hn:(m.map (·.1)).Nodup):(eW m).Pairwise slt:=by
 have e:kys m=(m.map (·.1)).map fun s=>[s.1,s.2]:=by unfold kys;rw [aR7];rfl
 have nd:(kys m).Nodup:=by
  rw [e]
  exact aTp.mpr (hn.imp fun {a b} w z=>w (aWp (aXa z).1 (aXa (aXa z).2).1))
 have nd2:(i6 (kys m)).Nodup:=(fN _).nodup_iff.mpr nd
 unfold eW
 refine aTp.mpr (aWh (fun {a b} ha hb w=>?_) ((jH (kys m)).and nd2))
 obtain ⟨_,ea,_⟩:=pT ha (0,1)
 obtain ⟨_,eb,_⟩:=pT hb (0,1)
 obtain ⟨w1,w2⟩:=w
 unfold leK at w1
 rw [ea,eb] at w1 w2
 unfold slt
 dsimp only
 generalize un2 a=x at *
 generalize un2 b=y at *
 by_cases h1:y.1=x.1
 ·right
  refine ⟨h1.symm,?_⟩
  by_cases h2:y.2=x.2
  ·exact absurd (by rw [h1,h2]) w2
  ·have:¬ (y.2 < x.2):=by
    rw [HT.dH,aQt h1,HT.dH,aQv h2] at w1
    exact aTd w1
   omega
 ·left
  rw [HT.dH,aQv h1] at w1
  have:=aTd w1
  omega
theorem aC0{f g:En->Res Bool}{en:En}(h1:f en=.ok true):mOr f g en=.ok true:=by
 simp only [mOr,h1,Res.bind]
 rfl
theorem oK{f g:En->Res Bool}{en:En}{o:Res Bool}(h1:f en=.ok false)(h2:g en=o):mOr f g en=o:=by
 simp only [mOr,h1,Res.bind,h2]
 rfl
theorem p20:aJa 10 20:=⟨by decide,by decide,by decide⟩
structure GN(a b:Nat)(h:Int×Int):Prop where
 p:1<=h.2
 t:Sz a h.1
 s:Sz b h.2
 f:FR.Fr h
theorem GN.mono{a b a' b':Nat}{h:Int×Int}(g:GN a b h)(ha:a<=a')(hb:b<=b'):GN a' b' h:=⟨g.p,g.t.mono ha,g.s.mono hb,g.f⟩
theorem GN.good{a b:Nat}{h:Int×Int}(g:GN a b h)(ha:a<=2000)(hb:b<=2000):Good 2000 h:=⟨g.p,g.t.mono ha,g.s.mono hb⟩
theorem aHl{a b:Nat}{t u:Int}(h0:u≠0)(ht:Sz a t)(hu:Sz b u):GN a b (FR.mk t u):=⟨(FR.zQ h0).1.pos,Sz.le ht (aTy _ _),Sz.le hu (aTy _ _),(FR.zQ h0).1⟩
theorem aO7{a b d e:Nat}{x y:Int×Int}(hx:GN a b x)(hy:GN d e y):GN (max (a+e) (d+b)+1) (b+e) (hP x y):=aHl (fun z=>by
 have h1:=hx.p
 have h2:=hy.p
 rcases aVy.mp z with z | z<;>omega) (Sz.addM (Sz.mul hx.t hy.s) (Sz.mul hy.t hx.s)) (Sz.mul hx.s hy.s)
def aJ9(k:Int×Int):Prop:=0<=k.1/\k.1<=8/\0<=k.2/\k.2<=8
structure GM(a b:Nat)(m:Mp):Prop where
 n:(m.map (·.1)).Nodup
 g:∀ k h,iA m k=some h->aJ9 k/\GN a b h
theorem GM.nil{a b:Nat}:GM a b []:=⟨List.Pairwise.nil,fun _ _ h=>nomatch h⟩
theorem GM.put{a b:Nat}{m:Mp}(g:GM a b m){k h:Int×Int}(hk:aJ9 k)(hh:GN a b h):GM a b (mO m k h):=⟨aAe g.n k h,fun k' h' e=>by
 rw [kR] at e
 split at e
 ·rename_i z;cases e;rw [z];exact ⟨hk,hh⟩
 ·exact g.g k' h' e⟩
theorem GM.mono{a b a' b':Nat}{m:Mp}(g:GM a b m)(ha:a<=a')(hb:b<=b'):GM a' b' m:=⟨g.n,fun k h e=>⟨(g.g k h e).1,(g.g k h e).2.mono ha hb⟩⟩
structure RO(a b:Nat)(ps:List Pl):Prop where
 n:ps≠[]
 s:ps.Pairwise slt
 g:∀ p∈ps,aJ9 (slp p)/\GN a b p.2.2
theorem aOu{a b:Nat}{m:Mp}(g:GM a b m)(h:m≠[]):RO a b (eW m):=by
 refine ⟨fun z=>?_,xH g.n,fun p hp=>?_⟩
 ·have:=jS m
  rw [z] at this
  exact h (aU2.mp this.symm)
 ·unfold eW at hp
  obtain ⟨k,hk,rfl⟩:=aRk.mp hp
  obtain ⟨_,_,h3⟩:=pT hk (0,1)
  exact g.g _ _ h3
theorem aH5{i:Nat}{fe:En->Res Ev}{en:En}{m:Mp}(hm:m.length < 64)(h0:en[i]? = some (some (.o (.dict (encM slD frD m)))))(he:∀ k h,iA m k=some h->fe [some (.p (slD k)),some (.p (.dict (encM slD frD m)))]=.ok (.p (plD (k.1,k.2,h)))):eX (fQ 1 [i] (iE (aE fF (aB (aD i) aK))) (aM 0) hV fe) (frz i en)=some (.rt (.o (.list ((eW m).map plD)))):=by
 have il:i < en.length:=by
  rcases aSr i en.length with z | z
  ·exact z
  ·rw [aRi z] at h0;cases h0
 have h1:(frz i en)[i]? = some (some (.p (.dict (encM slD frD m)))):=by
  unfold frz
  rw [h0]
  dsimp only
  rw [aU4 il]
 have hs:=sZ (ev:=frD) m hm
 have cap:zV [i] (frz i en)=[some (.p (.dict (encM slD frD m)))]:=by
  unfold zV
  simp only [aQx,aSw,h1,aFc]
 have hmap:oX (cB 1 [i] (aM 0) hV fe (frz i en)) ((i6 (kys m)).map oZ)=some ((i6 (kys m)).map fun k=>plD ((un2 k).1,(un2 k).2,aJ7 m (0,1) k)):=by
  refine eI _ fun k hk=>?_
  obtain ⟨e1,e2,e3⟩:=pT hk (0,1)
  have:=he _ _ e3
  rw [e1]
  unfold cB
  rw [cap]
  ktr_call 3 ⟨aM,hV,List.replicate,aTb,aTr,this,Ev.c⟩
 have v:aD i (frz i en)=.ok (.p (.dict (encM slD frD m))):=by unfold aD;rw [h1]
 have it:iE (aE fF (aB (aD i) aK)) (frz i en)=.ok ((i6 (kys m)).map oZ):=by
  unfold iE
  rw [zL v hs]
  rfl
 have lk:(i6 (kys m)).length=m.length:=by rw [(fN (kys m)).length_eq];unfold kys;rw [aQm]
 have hc:=jC (n:=1) (js:=[i]) it (by rw [aQm,lk];omega) hmap
 rw [aM2 hc]
 unfold eW
 rw [aR7]
 rfl
theorem aL3{m:Mp}{k h:Int×Int}(e:iA m k=some h){x:Ev}(hx:jX x=some (encM slD frD m)):o5 x (.p (slD k))=.ok (.p (frD h)):=by
 have hd:=mU (ev:=frD) m k
 rw [e] at hd
 unfold o5
 rw [hx]
 simp only [hd,aW5]
theorem aMx(ng:Bool){m:Mp}(k:Int×Int){x:Ev}(hx:jX x=some (encM slD frD m)):yH ng (.p (slD k)) x=.ok (.p (.bool (if ng then !(iA m k).isSome else (iA m k).isSome))):=by
 have hd:=mU (ev:=frD) m k
 unfold yH
 rw [hx]
 simp only [hd]
 cases iA m k<;>cases ng<;>rfl
theorem lend(m:Mp):k7 [.b (.dict (encM slD frD m))]=.ok (.p (.int (m.length:Nat))):=by simp [k7,jX,pG];unfold N.encM;simp
theorem lD(n:Nat)(hl:n<=1000):lM [.p (.int ((n:Nat):Int))]=.ok (mR 0 n):=by
 have hb:-(2 ^ 62)<=((n:Nat):Int)/\((n:Nat):Int) < 2 ^ 62:=by omega
 simp only [lM]
 rw [aQt hb,aU7]
theorem u9{tg:D->En->Option En}{f:MS}{d:D}{ds:List D}{en e e':En}(h1:tg d en=some e)(h2:f e=some (.nx e')):gY tg f (d :: ds) en=gY tg f ds e':=by
 rw [gY,h1]
 dsimp only
 rw [h2]
theorem aLx{r:List Ev->Res (List D)}{f:En->Res Ev}{en:En}{a:D}{o:Res (List D)}(h1:f en=.ok (.p a))(h:r [.p a]=o):t8 r (aB f aK) en=o:=by
 simp only [t8,aB,aK,h1,Res.bind,Ev.c,h]
theorem wZ(k n:Nat):mR (k:Int) (n+1)=.int (k:Int) :: mR ((k+1:Nat):Int) n:=by
 unfold mR
 rw [List.range_succ_eq_map,aQx,aR7]
 refine congr (aUn List.cons ?_) (List.map_congr_left fun i _=>?_)
 ·show PyData.int ((k:Int)+(0:Nat))=_
  rw [show ((k:Int)+(0:Nat))=k by omega]
 ·show PyData.int ((k:Int)+((i+1:Nat):Int))=PyData.int (((k+1:Nat):Int)+(i:Int))
  rw [show (k:Int)+((i+1:Nat):Int)=((k+1:Nat):Int)+(i:Int) by omega]
noncomputable def gX(K:aQk)(c:Cls):En->Res Ev:=(aE aT (aB (aF ixE (aD 0) (mC (.int 0))) (aB (aF ixE (aD 0) (mC (.int 1))) (aB (aF o5 (aD 1) (aD 0)) aK))))
noncomputable def cN:MS:=(bC (cJ 6 (aF fP (aF ixE (aF ixE (aD 0) (aD 4)) (mC (.int 0))) (aF ixE (aF ixE (aD 0) (aD 5)) (mC (.int 0))))) (bC (cJ 7 (aF fP (aF ixE (aF ixE (aD 0) (aD 4)) (mC (.int 1))) (aF ixE (aF ixE (aD 0) (aD 5)) (mC (.int 1))))) (eA (kN (bH (aF (eqE false) (aF cU (aD 6) (mC (.int 2))) (mC (.int 0)))) (kN (bH (aF (eqE false) (aF cU (aD 7) (mC (.int 2))) (mC (.int 0)))) (kN (bH (aF (yH true) (aE aT (aB (aF b8 (aD 6) (mC (.int 2))) (aB (aF b8 (aD 7) (mC (.int 2))) aK))) (aD 2))) (bH (aF ltE (aE k7 (aB (aD 2) aK)) (mC (.int 10))))))) (bC (cJ 8 (aV 2 (bF K c) (aB (aE aT (aB (mC (.int 1)) (aB (mC (.int 2)) aK))) (aB (aV 2 (bK K c) (aB (aF ixE (aF ixE (aD 0) (aD 4)) (mC (.int 2))) (aB (aF ixE (aF ixE (aD 0) (aD 5)) (mC (.int 2))) aK))) aK)))) (bC (cJ 9 (aF g8 (aF cU (aF fP (aF fP (aD 1) (aF g8 (aD 4) (aD 4))) (aD 5)) (mC (.int 3))) (aF cU (aD 1) (mC (.int 1000003))))) (lG 2 (aE aT (aB (aF b8 (aD 6) (mC (.int 2))) (aB (aF b8 (aD 7) (mC (.int 2))) aK))) (aV 2 (bK K c) (aB (aD 8) (aB (aV 2 (bI K c) (aB (mUn rO (aD 9)) (aB (aF fP (mC (.int 1)) (aF cU (aD 1) (mC (.int 7)))) aK))) aK)))))) bR)))
noncomputable def dP:MS:=(tV (t8 lM (aB (aD 4) aK)) (aM 5) (cN K c))
noncomputable def dN(K:aQk)(c:Cls):MS:=(lG 2 (aE aT (aB (aF ixE (aD 3) (mC (.int 0))) (aB (aF ixE (aD 3) (mC (.int 1))) aK))) (aF ixE (aD 3) (mC (.int 2))))
noncomputable def eV:MS:=(bC (cJ 2 mDT) (bC (tV (iE (aD 0)) (aM 3) (dN K c)) (bC (tV (t8 lM (aB (aE g9 (aB (aD 0) aK)) aK)) (aM 4) (dP K c)) (fun en=>(eX (fQ 1 [2] (iE (aE fF (aB (aD 2) aK))) (aM 0) hV (gX K c))) (frz 2 en)))))
noncomputable def cD(ls:List L):Res L:=gS 10 (eV K c) ls
theorem k8:∀ ls,cD K c ls=.bad\/gS 10 (eV K c) ls=cD K c ls:=fun _=>.inr rfl
theorem aO0{ps:List Pl}(ro:RO 80 5 ps)(cell:Int)(r3:Option L){k l:Nat}(hk:k < ps.length)(hl:l < ps.length)(h10:ps.length<=10)(m:Mp)(g:GM 100 15 m)(m0:m≠[])(hm:m.length<=10)(r6 r7 r8 r9:Option L):∃ m' q6 q7 q8 q9,(GM 100 15 m'/\m'≠[]/\m'.length<=10)/\cN K c [some (.p (.list (ps.map plD))),some (.p (.int cell)),some (.o (.dict (encM slD frD m))),r3,some (.p (.int (k:Int))),some (.p (.int (l:Int))),r6,r7,r8,r9]=some (.nx [some (.p (.list (ps.map plD))),some (.p (.int cell)),some (.o (.dict (encM slD frD m'))),r3,some (.p (.int (k:Int))),some (.p (.int (l:Int))),q6,q7,q8,q9]):=by
 have gp:=ro.g _ (aSs hk)
 have gq:=ro.g _ (aSs hl)
 have ip:ixE (.p (.list (ps.map plD))) (.p (.int (k:Int)))=.ok (.p (plD ps[k])):=by
  simp only [ixE,jF,lN (j:=k) (v:=plD ps[k]) (by rw [aQ0,aQn hk];rfl)]
 have iq:ixE (.p (.list (ps.map plD))) (.p (.int (l:Int)))=.ok (.p (plD ps[l])):=by
  simp only [ixE,jF,lN (j:=l) (v:=plD ps[l]) (by rw [aQ0,aQn hl];rfl)]
 generalize ps[k]=p at gp ip
 generalize ps[l]=q at gq iq
 have n2:(2:Int)≠0:=by decide
 have n3:(3:Int)≠0:=by decide
 have n7:(7:Int)≠0:=by decide
 have nm:(1000003:Int)≠0:=by decide
 obtain ⟨⟨a1,a2,a3,a4⟩,hp⟩:=gp
 obtain ⟨⟨b1,b2,b3,b4⟩,hq⟩:=gq
 unfold slp at a1 a2 a3 a4 b1 b2 b3 b4
 dsimp only at a1 a2 a3 a4 b1 b2 b3 b4
 have e6:(aF fP (aF ixE (aF ixE (aD 0) (aD 4)) (mC (.int 0))) (aF ixE (aF ixE (aD 0) (aD 5)) (mC (.int 0)))) [some (.p (.list (ps.map plD))),some (.p (.int cell)),some (.o (.dict (encM slD frD m))),r3,some (.p (.int (k:Int))),some (.p (.int (l:Int))),r6,r7,r8,r9]=.ok (.p (.int (p.1+q.1))):=aO (aO (aO rfl rfl ip) rfl (fV p)) (aO (aO rfl rfl iq) rfl (fV q)) (gR _ _)
 have e7:(aF fP (aF ixE (aF ixE (aD 0) (aD 4)) (mC (.int 1))) (aF ixE (aF ixE (aD 0) (aD 5)) (mC (.int 1)))) [some (.p (.list (ps.map plD))),some (.p (.int cell)),some (.o (.dict (encM slD frD m))),r3,some (.p (.int (k:Int))),some (.p (.int (l:Int))),some (.p (.int (p.1+q.1))),r7,r8,r9]=.ok (.p (.int (p.2.1+q.2.1))):=aO (aO (aO rfl rfl ip) rfl (gC p)) (aO (aO rfl rfl iq) rfl (gC q)) (gR _ _)
 generalize hi:p.1+q.1=i at e6 e7
 generalize hj:p.2.1+q.2.1=j at e7
 have di:lE i 2:=cdl (by decide) (by decide)
 have dj:lE j 2:=cdl (by decide) (by decide)
 have bx:aJ9 (i.fdiv 2,j.fdiv 2):=by
  rw [aV2 _ (by decide),aV2 _ (by decide)]
  exact ⟨by show 0<=i / 2;omega,by show i / 2<=8;omega,by show 0<=j / 2;omega,by show j / 2<=8;omega⟩
 have ek:∀ r8 r9,(aE aT (aB (aF b8 (aD 6) (mC (.int 2))) (aB (aF b8 (aD 7) (mC (.int 2))) aK))) [some (.p (.list (ps.map plD))),some (.p (.int cell)),some (.o (.dict (encM slD frD m))),r3,some (.p (.int (k:Int))),some (.p (.int (l:Int))),some (.p (.int i)),some (.p (.int j)),r8,r9]=.ok (.p (slD (i.fdiv 2,j.fdiv 2))):=fun r8 r9=>lT (aO rfl rfl (gL di)) (aO rfl rfl (gL dj))
 have t1:bH (aF (eqE false) (aF cU (aD 6) (mC (.int 2))) (mC (.int 0))) [some (.p (.list (ps.map plD))),some (.p (.int cell)),some (.o (.dict (encM slD frD m))),r3,some (.p (.int (k:Int))),some (.p (.int (l:Int))),some (.p (.int i)),some (.p (.int j)),r8,r9]=.ok (i.fmod 2 == 0):=eY (aO (aO rfl rfl (dB n2)) rfl mF)
 have t2:bH (aF (eqE false) (aF cU (aD 7) (mC (.int 2))) (mC (.int 0))) [some (.p (.list (ps.map plD))),some (.p (.int cell)),some (.o (.dict (encM slD frD m))),r3,some (.p (.int (k:Int))),some (.p (.int (l:Int))),some (.p (.int i)),some (.p (.int j)),r8,r9]=.ok (j.fmod 2 == 0):=eY (aO (aO rfl rfl (dB n2)) rfl mF)
 have t3:bH (aF (yH true) (aE aT (aB (aF b8 (aD 6) (mC (.int 2))) (aB (aF b8 (aD 7) (mC (.int 2))) aK))) (aD 2)) [some (.p (.list (ps.map plD))),some (.p (.int cell)),some (.o (.dict (encM slD frD m))),r3,some (.p (.int (k:Int))),some (.p (.int (l:Int))),some (.p (.int i)),some (.p (.int j)),r8,r9]=.ok (!(iA m (i.fdiv 2,j.fdiv 2)).isSome):=eY (aO (ek _ _) rfl (aMx true _ rfl))
 have t4:bH (aF ltE (aE k7 (aB (aD 2) aK)) (mC (.int 10))) [some (.p (.list (ps.map plD))),some (.p (.int cell)),some (.o (.dict (encM slD frD m))),r3,some (.p (.int (k:Int))),some (.p (.int (l:Int))),some (.p (.int i)),some (.p (.int j)),r8,r9]=.ok (decide ((m.length:Int) < 10)):=by
  ktr_call 2 ⟨lend⟩
 have pre:∀ e',(eA (kN (bH (aF (eqE false) (aF cU (aD 6) (mC (.int 2))) (mC (.int 0)))) (kN (bH (aF (eqE false) (aF cU (aD 7) (mC (.int 2))) (mC (.int 0)))) (kN (bH (aF (yH true) (aE aT (aB (aF b8 (aD 6) (mC (.int 2))) (aB (aF b8 (aD 7) (mC (.int 2))) aK))) (aD 2))) (bH (aF ltE (aE k7 (aB (aD 2) aK)) (mC (.int 10))))))) (bC (cJ 8 (aV 2 (bF K c) (aB (aE aT (aB (mC (.int 1)) (aB (mC (.int 2)) aK))) (aB (aV 2 (bK K c) (aB (aF ixE (aF ixE (aD 0) (aD 4)) (mC (.int 2))) (aB (aF ixE (aF ixE (aD 0) (aD 5)) (mC (.int 2))) aK))) aK)))) (bC (cJ 9 (aF g8 (aF cU (aF fP (aF fP (aD 1) (aF g8 (aD 4) (aD 4))) (aD 5)) (mC (.int 3))) (aF cU (aD 1) (mC (.int 1000003))))) (lG 2 (aE aT (aB (aF b8 (aD 6) (mC (.int 2))) (aB (aF b8 (aD 7) (mC (.int 2))) aK))) (aV 2 (bK K c) (aB (aD 8) (aB (aV 2 (bI K c) (aB (mUn rO (aD 9)) (aB (aF fP (mC (.int 1)) (aF cU (aD 1) (mC (.int 7)))) aK))) aK)))))) bR) [some (.p (.list (ps.map plD))),some (.p (.int cell)),some (.o (.dict (encM slD frD m))),r3,some (.p (.int (k:Int))),some (.p (.int (l:Int))),some (.p (.int i)),some (.p (.int j)),r8,r9]=some (.nx e')->cN K c [some (.p (.list (ps.map plD))),some (.p (.int cell)),some (.o (.dict (encM slD frD m))),r3,some (.p (.int (k:Int))),some (.p (.int (l:Int))),r6,r7,r8,r9]=some (.nx e'):=fun e' h=>by
  unfold cN
  exact (aN (eF e6)).trans ((aN (eF e7)).trans h)
 have no:∀ {tt:En->Res Bool},(kN (bH (aF (eqE false) (aF cU (aD 6) (mC (.int 2))) (mC (.int 0)))) (kN (bH (aF (eqE false) (aF cU (aD 7) (mC (.int 2))) (mC (.int 0)))) (kN (bH (aF (yH true) (aE aT (aB (aF b8 (aD 6) (mC (.int 2))) (aB (aF b8 (aD 7) (mC (.int 2))) aK))) (aD 2))) (bH (aF ltE (aE k7 (aB (aD 2) aK)) (mC (.int 10)))))))=tt->tt [some (.p (.list (ps.map plD))),some (.p (.int cell)),some (.o (.dict (encM slD frD m))),r3,some (.p (.int (k:Int))),some (.p (.int (l:Int))),some (.p (.int i)),some (.p (.int j)),r8,r9]=.ok false->∃ m' q6 q7 q8 q9,(GM 100 15 m'/\m'≠[]/\m'.length<=10)/\cN K c [some (.p (.list (ps.map plD))),some (.p (.int cell)),some (.o (.dict (encM slD frD m))),r3,some (.p (.int (k:Int))),some (.p (.int (l:Int))),r6,r7,r8,r9]=some (.nx [some (.p (.list (ps.map plD))),some (.p (.int cell)),some (.o (.dict (encM slD frD m'))),r3,some (.p (.int (k:Int))),some (.p (.int (l:Int))),q6,q7,q8,q9]):=fun ht h=>⟨m,_,_,_,_,⟨g,m0,hm⟩,pre _ (kF (ht▸h))⟩
 cases c1:(i.fmod 2 == 0) with
 | false=>rw [c1] at t1;exact no rfl (aBv t1)
 | true =>
 rw [c1] at t1
 cases c2:(j.fmod 2 == 0) with
 | false=>rw [c2] at t2;exact no rfl (kO t1 (aBv t2))
 | true =>
 rw [c2] at t2
 cases c3:iA m (i.fdiv 2,j.fdiv 2) with
 | some h0=>rw [c3] at t3;exact no rfl (kO t1 (kO t2 (aBv t3)))
 | none =>
 rw [c3] at t3
 by_cases c4:(m.length:Int) < 10
 case neg=>rw [aQr c4] at t4;exact no rfl (kO t1 (kO t2 (kO t3 t4)))
 rw [aQ3 c4] at t4
 have gs:=aO7 hp hq
 have ls:=lZ K c (hp.good (by decide) (by decide)) (hq.good (by decide) (by decide)) (aQu _) (aQu _)
 have one:GN 1 2 (1,2):=⟨by decide,by unfold Sz;decide,by unfold Sz;decide,⟨by decide,by decide⟩⟩
 have lp:bF K c [.p (.tuple [.int 1,.int 2]),.p (frD (hP p.2.2 q.2.2))]=.ok (.p (frD (FR.mk (1*(hP p.2.2 q.2.2).1) (2*(hP p.2.2 q.2.2).2)))):=kA (a:=((1,2),hP p.2.2 q.2.2)) kJ ⟨one.good (by decide) (by decide),gs.good (by decide) (by decide)⟩
 have ga:GN 87 12 (FR.mk (1*(hP p.2.2 q.2.2).1) (2*(hP p.2.2 q.2.2).2)):=aHl (by have:=gs.p;omega) (by rw [Int.one_mul];exact gs.t.mono (by decide)) ((Sz.mul one.s gs.s).mono (by decide))
 have e8:(aV 2 (bF K c) (aB (aE aT (aB (mC (.int 1)) (aB (mC (.int 2)) aK))) (aB (aV 2 (bK K c) (aB (aF ixE (aF ixE (aD 0) (aD 4)) (mC (.int 2))) (aB (aF ixE (aF ixE (aD 0) (aD 5)) (mC (.int 2))) aK))) aK))) [some (.p (.list (ps.map plD))),some (.p (.int cell)),some (.o (.dict (encM slD frD m))),r3,some (.p (.int (k:Int))),some (.p (.int (l:Int))),some (.p (.int i)),some (.p (.int j)),r8,r9]=.ok (.p (frD (FR.mk (1*(hP p.2.2 q.2.2).1) (2*(hP p.2.2 q.2.2).2)))):=xD rfl (xD (aO (aO rfl rfl ip) rfl (iX p)) (aO (aO rfl rfl iq) rfl (iX q)) ls) lp
 generalize FR.mk (1*(hP p.2.2 q.2.2).1) (2*(hP p.2.2 q.2.2).2)=am at e8 ga
 have fa:=b9 (a:=cell+(k:Int)*(k:Int)+(l:Int)) (b:=3) (by decide)
 have fb:=b9 (a:=cell) (b:=1000003) (by decide)
 have fc:=b9 (a:=cell) (b:=7) (by decide)
 have kk:CMulW (k:Int) (k:Int):=⟨(show Sz 20 (k:Int) by unfold Sz;omega).mono (by decide),(show Sz 20 (k:Int) by unfold Sz;omega).mono (by decide)⟩
 have sa:Sz 2 ((cell+(k:Int)*(k:Int)+(l:Int)).fmod 3):=by unfold Sz;omega
 have sb:Sz 20 (cell.fmod 1000003):=by unfold Sz;omega
 have qq:CMulW ((cell+(k:Int)*(k:Int)+(l:Int)).fmod 3) (cell.fmod 1000003):=⟨sa.mono (by decide),sb.mono (by decide)⟩
 have e9:(aF g8 (aF cU (aF fP (aF fP (aD 1) (aF g8 (aD 4) (aD 4))) (aD 5)) (mC (.int 3))) (aF cU (aD 1) (mC (.int 1000003)))) [some (.p (.list (ps.map plD))),some (.p (.int cell)),some (.o (.dict (encM slD frD m))),r3,some (.p (.int (k:Int))),some (.p (.int (l:Int))),some (.p (.int i)),some (.p (.int j)),some (.p (frD am)),r9]=.ok (.p (.int ((cell+(k:Int)*(k:Int)+(l:Int)).fmod 3*cell.fmod 1000003))):=aO (aO (aO (aO rfl (aO rfl rfl (kC kk)) (gR _ _)) rfl (gR _ _)) rfl (dB n3)) (aO rfl rfl (dB nm)) (kC qq)
 have s9:=Sz.mul sa sb
 generalize (cell+(k:Int)*(k:Int)+(l:Int)).fmod 3*cell.fmod 1000003=lw at e9 s9
 have ll:=l8 K c (t:=-lw) (b:=1+cell.fmod 7) (by omega) ((show Sz 3 _ by unfold Sz;omega).mono (by decide))
 have gl:GN 22 3 (FR.mk (-lw) (1+cell.fmod 7)):=aHl (by omega) (L2.Sz.neg s9) (by unfold Sz;omega)
 have l2:=lZ K c (ga.good (by decide) (by decide)) (gl.good (by decide) (by decide)) (aQu _) (aQu _)
 have ev:(aV 2 (bK K c) (aB (aD 8) (aB (aV 2 (bI K c) (aB (mUn rO (aD 9)) (aB (aF fP (mC (.int 1)) (aF cU (aD 1) (mC (.int 7)))) aK))) aK))) [some (.p (.list (ps.map plD))),some (.p (.int cell)),some (.o (.dict (encM slD frD m))),r3,some (.p (.int (k:Int))),some (.p (.int (l:Int))),some (.p (.int i)),some (.p (.int j)),some (.p (frD am)),some (.p (.int lw))]=.ok (.p (frD (hP am (FR.mk (-lw) (1+cell.fmod 7))))):=xD rfl (xD rfl (aO rfl (aO rfl rfl (dB n7)) (gR _ _)) ll) l2
 have gv:=(aO7 ga gl).mono (a':=100) (b':=15) (by decide) (by decide)
 refine ⟨mO m (i.fdiv 2,j.fdiv 2) (hP am (FR.mk (-lw) (1+cell.fmod 7))),some (.p (.int i)),some (.p (.int j)),some (.p (frD am)),some (.p (.int lw)),⟨g.put bx gv,aFy,by have:=kW m (i.fdiv 2,j.fdiv 2) (hP am (FR.mk (-lw) (1+cell.fmod 7)));omega⟩,pre _ ((jI (kO t1 (kO t2 (kO t3 t4)))).trans ((aN (eF e8)).trans ((aN (eF e9)).trans (aFl rfl (ek _ _) ev (by omega)))))⟩
theorem aGm(K:aQk)(c:Cls){ps:List Pl}(ro:RO 80 5 ps)(cell:Int)(r3:Option L){k:Nat}(hk:k < ps.length)(h10:ps.length<=10):∀ (n l:Nat) (m:Mp) (r5 r6 r7 r8 r9:Option L),l+n<=k->GM 100 15 m->m≠[]->m.length<=10->∃ m' q5 q6 q7 q8 q9,(GM 100 15 m'/\m'≠[]/\m'.length<=10)/\gY (aM 5) (cN K c) (mR (l:Int) n) [some (.p (.list (ps.map plD))),some (.p (.int cell)),some (.o (.dict (encM slD frD m))),r3,some (.p (.int (k:Int))),r5,r6,r7,r8,r9]=some (.nx [some (.p (.list (ps.map plD))),some (.p (.int cell)),some (.o (.dict (encM slD frD m'))),r3,some (.p (.int (k:Int))),q5,q6,q7,q8,q9])
 | 0,l,m,r5,r6,r7,r8,r9,_,g,m0,hm=>⟨m,r5,r6,r7,r8,r9,⟨g,m0,hm⟩,rfl⟩
 | n+1,l,m,r5,r6,r7,r8,r9,hl,g,m0,hm=>by
  obtain ⟨m1,q6,q7,q8,q9,⟨g1,n1,l1⟩,hb⟩:=aO0 K c ro cell r3 hk (show l < ps.length by omega) h10 m g m0 hm r6 r7 r8 r9
  obtain ⟨m2,p5,p6,p7,p8,p9,g2,ih⟩:=aGm K c ro cell r3 hk h10 n (l+1) m1 (some (.p (.int (l:Int)))) q6 q7 q8 q9 (by omega) g1 n1 l1
  refine ⟨m2,p5,p6,p7,p8,p9,g2,?_⟩
  rw [wZ]
  exact (u9 rfl hb).trans ih
theorem aA1(K:aQk)(c:Cls){ps:List Pl}(ro:RO 80 5 ps)(cell:Int)(r3:Option L)(h10:ps.length<=10):∀ (n k:Nat) (m:Mp) (r4 r5 r6 r7 r8 r9:Option L),k+n<=ps.length->GM 100 15 m->m≠[]->m.length<=10->∃ m' q4 q5 q6 q7 q8 q9,(GM 100 15 m'/\m'≠[]/\m'.length<=10)/\gY (aM 4) (dP K c) (mR (k:Int) n) [some (.p (.list (ps.map plD))),some (.p (.int cell)),some (.o (.dict (encM slD frD m))),r3,r4,r5,r6,r7,r8,r9]=some (.nx [some (.p (.list (ps.map plD))),some (.p (.int cell)),some (.o (.dict (encM slD frD m'))),r3,q4,q5,q6,q7,q8,q9])
 | 0,k,m,r4,r5,r6,r7,r8,r9,_,g,m0,hm=>⟨m,r4,r5,r6,r7,r8,r9,⟨g,m0,hm⟩,rfl⟩
 | n+1,k,m,r4,r5,r6,r7,r8,r9,hl,g,m0,hm=>by
  obtain ⟨m1,q5,q6,q7,q8,q9,⟨g1,n1,l1⟩,hi⟩:=aGm K c ro cell r3 (k:=k) (by omega) h10 k 0 m r5 r6 r7 r8 r9 (by omega) g m0 hm
  have hb:dP K c [some (.p (.list (ps.map plD))),some (.p (.int cell)),some (.o (.dict (encM slD frD m))),r3,some (.p (.int (k:Int))),r5,r6,r7,r8,r9]=some (.nx [some (.p (.list (ps.map plD))),some (.p (.int cell)),some (.o (.dict (encM slD frD m1))),r3,some (.p (.int (k:Int))),q5,q6,q7,q8,q9]):=by
   unfold dP
   exact (lO (aLx rfl (lD k (by omega)))).trans hi
  obtain ⟨m2,p4,p5,p6,p7,p8,p9,g2,ih⟩:=aA1 K c ro cell r3 h10 n (k+1) m1 (some (.p (.int (k:Int)))) q5 q6 q7 q8 q9 (by omega) g1 n1 l1
  refine ⟨m2,p4,p5,p6,p7,p8,p9,g2,?_⟩
  rw [wZ]
  exact (u9 rfl hb).trans ih
theorem sD(K:aQk)(c:Cls){ps:List Pl}(cell:Int):∀ (qs:List Pl) (m:Mp) (r3:Option L),(∀ p∈qs,aJ9 (slp p)/\GN 80 5 p.2.2)->m.length+qs.length<=1000->GM 80 5 m->∃ m' q3,(GM 80 5 m'/\(qs≠[]\/m≠[]->m'≠[])/\m'.length<=m.length+qs.length)/\gY (aM 3) (dN K c) (qs.map plD) [some (.p (.list (ps.map plD))),some (.p (.int cell)),some (.o (.dict (encM slD frD m))),r3,none,none,none,none,none,none]=some (.nx [some (.p (.list (ps.map plD))),some (.p (.int cell)),some (.o (.dict (encM slD frD m'))),q3,none,none,none,none,none,none])
 | [],m,r3,_,_,g=>⟨m,r3,⟨g,fun h=>h.elim (fun z=>absurd rfl z) id,aQu _⟩,rfl⟩
 | p :: qs,m,r3,hq,hl,g=>by
  rw [aQp] at hl
  have gp:=hq p (.head _)
  have x0:ixE (.p (plD p)) (.p (.int 0))=.ok (.p (.int p.1)):=fV p
  have hb:dN K c [some (.p (.list (ps.map plD))),some (.p (.int cell)),some (.o (.dict (encM slD frD m))),some (.p (plD p)),none,none,none,none,none,none]=some (.nx [some (.p (.list (ps.map plD))),some (.p (.int cell)),some (.o (.dict (encM slD frD (mO m (slp p) p.2.2)))),some (.p (plD p)),none,none,none,none,none,none]):=by
   unfold dN
   exact aFl rfl (lT (aO rfl rfl (fV p)) (aO rfl rfl (gC p))) (aO rfl rfl (iX p)) (by omega)
  have l1:=kW m (slp p) p.2.2
  obtain ⟨m2,q3,⟨g2,n2,l2⟩,ih⟩:=sD K c cell qs (mO m (slp p) p.2.2) (some (.p (plD p))) (fun z hz=>hq z (.tail _ hz)) (by omega) (g.put gp.1 gp.2)
  exact ⟨m2,q3,⟨g2,fun _=>n2 (.inr aFy),by rw [aQp];omega⟩,(u9 rfl hb).trans ih⟩
theorem aEx{ps:List Pl}(ro:RO 80 5 ps)(h10:ps.length<=10)(cell:Int):∃ qs:List Pl,RO 100 15 qs/\qs.length<=10/\cD K c [.p (.list (ps.map plD)),.p (.int cell)]=.ok (.o (.list (qs.map plD))):=by
 obtain ⟨m1,q3,⟨g1,n1,l1⟩,h1⟩:=sD K c (ps:=ps) cell ps [] none ro.g (by rw [aRx];omega) .nil
 rw [aRx,aR8] at l1
 obtain ⟨m2,q4,q5,q6,q7,q8,q9,⟨g2,n2,l2⟩,h2⟩:=aA1 K c ro cell q3 h10 ps.length 0 m1 none none none none none none (by omega) (g1.mono (by decide) (by decide)) (n1 (.inl ro.n)) (by omega)
 refine ⟨eW m2,aOu g2 n2,by rw [jS];exact l2,?_⟩
 have ln:g9 [.p (.list (ps.map plD))]=.ok (.p (.int (ps.length:Nat))):=by simp [g9,jF]
 unfold cD
 refine eC ?_
 rw [show cW 10 [.p (.list (ps.map plD)),.p (.int cell)]=[some (.p (.list (ps.map plD))),some (.p (.int cell)),none,none,none,none,none,none,none,none] from rfl]
 unfold eV
 refine (aN (iV (d:=.dict []) rfl)).trans ((aN ((lO (ds:=ps.map plD) rfl).trans h1)).trans ?_)
 refine (aN ((lO (aLx (zL rfl ln) (lD ps.length (by omega)))).trans h2)).trans ?_
 exact aH5 (i:=2) (by omega) rfl fun k h e=>by
  have x0:ixE (.p (slD k)) (.p (.int 0))=.ok (.p (.int k.1)):=oJ _ _
  have x1:ixE (.p (slD k)) (.p (.int 1))=.ok (.p (.int k.2)):=pA _ _ _
  have x2:=aL3 e (x:=.p (.dict (encM slD frD m2))) rfl
  ktr_call 2 ⟨gX,x0,x1,x2,plD⟩
noncomputable def gA:MS:=(cJ 1 (aV 2 (mB K c) (aB (aD 1) (aB (aV 2 (kK K c) (aB (aD 2) (aB (aD 3) aK))) aK))))
noncomputable def iK:MS:=(bC (cJ 1 (aE aT (aB (mC (.int 0)) (aB (mC (.int 1)) aK)))) (bC (tV (iE (aD 0)) (eS 2 (aZ (aM 2) (aZ (aM 3) eP))) (gA K c)) (eX (aD 1))))
noncomputable def bZ(ls:List L):Res L:=gS 4 (iK K c) ls
theorem qK:∀ ls,bZ K c ls=.bad\/gS 4 (iK K c) ls=bZ K c ls:=fun _=>.inr rfl
def shD(x:(Int×Int)×(Int×Int)):D:=.tuple [frD x.1,frD x.2]
theorem aCw{m n:Nat}{x y:Int×Int}(hx:Good m x)(hy:Good n y):Good (m+n+1) (FR.mk (x.1*y.1) (x.2*y.2)):=by
 have p:=aAr hx.1 hy.1
 exact oR ((Sz.mul hx.2.1 hy.2.1).mono (by omega)) ((Sz.mul hx.2.2 hy.2.2).mono (by omega)) (by omega)
def ssF(t:Int×Int)(xs:List ((Int×Int)×(Int×Int))):Int×Int:=xs.foldl (fun t x=>hP t (FR.mk (x.1.1*x.2.1) (x.1.2*x.2.2))) t
theorem aA4(K:aQk)(c:Cls)(A:Option L):∀ (xs:List ((Int×Int)×(Int×Int))) (t:Int×Int) (n:Nat) (r2 r3:Option L),Good n t->n+300*xs.length<=1900->(∀ x∈xs,Good 60 x.1/\Good 200 x.2)->Good 1900 (ssF t xs)/\∃ (q2 q3:Option L),gY (eS 2 (aZ (aM 2) (aZ (aM 3) eP))) (gA K c) (xs.map shD) [A,some (.p (frD t)),r2,r3]=some (.nx [A,some (.p (frD (ssF t xs))),q2,q3])
 | [],t,n,r2,r3,g,hn,_=>⟨g.mono (by omega),r2,r3,rfl⟩
 | x :: xs,t,n,r2,r3,g,hn,hx=>by
  rw [aQp] at hn
  obtain ⟨g1,g2⟩:=hx x (.head _)
  have p:=aAr g1.1 g2.1
  have ht:=aBt K c (x:=x.1) (y:=x.2) (g1.mono (by decide)).fsz (g2.mono (by decide)).fsz (by omega)
  have gt:=aCw g1 g2
  have hp:=zO K c g gt (by omega) (by decide)
  obtain ⟨gt',q2,q3,ih⟩:=aA4 K c A xs _ _ (some (.p (frD x.1))) (some (.p (frD x.2))) (wO g gt) (by omega) fun y hy=>hx y (.tail _ hy)
  refine ⟨gt',q2,q3,?_⟩
  have hb:gA K c [A,some (.p (frD t)),some (.p (frD x.1)),some (.p (frD x.2))]=some (.nx [A,some (.p (frD (hP t (FR.mk (x.1.1*x.2.1) (x.1.2*x.2.2))))),some (.p (frD x.1)),some (.p (frD x.2))]):=by
   unfold gA
   refine eF ?_
   ktr_call 3 ⟨aV,aB,aK,aD,Res.bind,Ev.c,iW,gJ,sA,ht,hp,qT⟩
  rw [aQx,u9 rfl hb]
  exact ih
theorem aDn{xs:List ((Int×Int)×(Int×Int))}(hl:xs.length<=3)(hx:∀ x∈xs,Good 60 x.1/\Good 200 x.2):Good 1900 (ssF (0,1) xs)/\bZ K c [.p (.list (xs.map shD))]=.ok (.p (frD (ssF (0,1) xs))):=by
 obtain ⟨g,q2,q3,h⟩:=aA4 K c (some (.p (.list (xs.map shD)))) xs (0,1) 2 none none ⟨aVc 1,by unfold Sz;decide,by unfold Sz;decide⟩ (by omega) hx
 refine ⟨g,?_⟩
 unfold bZ
 refine eC ?_
 rw [show cW 4 [.p (.list (xs.map shD))]=[some (.p (.list (xs.map shD))),none,none,none] from rfl]
 unfold iK
 refine (aN (eF (d:=frD (0,1)) rfl)).trans ((aN ((lO (ds:=xs.map shD) rfl).trans h)).trans ?_)
 rfl
noncomputable def fL(K:aQk)(c:Cls):En->Res Ev:=(aE aT (aB (aD 0) (aB (aF ixE (aD 1) (mC (.int 2))) aK)))
noncomputable def fG:MS:=(eX (aV 1 (bZ K c) (aB (fQ 2 [] (iE (aD 0)) (eS 2 (aZ (aM 0) (aZ (aM 1) eP))) hV (fL K c)) aK)))
noncomputable def bT(ls:List L):Res L:=gS 1 (fG K c) ls
theorem lR:∀ ls,bT K c ls=.bad\/gS 1 (fG K c) ls=bT K c ls:=fun _=>.inr rfl
def mxD(x:(Int×Int)×Pl):D:=.tuple [frD x.1,plD x.2]
def mhF(xs:List ((Int×Int)×Pl)):Int×Int:=ssF (0,1) (xs.map fun x=>(x.1,x.2.2.2))
theorem aNl{xs:List ((Int×Int)×Pl)}(hl:xs.length<=3)(hx:∀ x∈xs,Good 60 x.1/\Good 200 x.2.2.2):Good 1900 (mhF xs)/\bT K c [.p (.list (xs.map mxD))]=.ok (.p (frD (mhF xs))):=by
 obtain ⟨g,h⟩:=aDn K c (xs:=xs.map fun x=>(x.1,x.2.2.2)) (by rw [aQm];exact hl) (fun y hy=>by
  obtain ⟨x,h1,rfl⟩:=aRk.mp hy
  exact hx x h1)
 refine ⟨g,?_⟩
 unfold bT
 unfold mhF
 refine eC ?_
 rw [show cW 1 [.p (.list (xs.map mxD))]=[some (.p (.list (xs.map mxD)))] from rfl]
 have hm:oX (cB 2 [] (eS 2 (aZ (aM 0) (aZ (aM 1) eP))) hV (fL K c) [some (.p (.list (xs.map mxD)))]) (xs.map mxD)=some (xs.map fun x=>shD (x.1,x.2.2.2)):=eI _ fun x _=>rfl
 have hc:=jC (n:=2) (js:=[]) (fi:=iE (aD 0)) (tg:=eS 2 (aZ (aM 0) (aZ (aM 1) eP))) (ft:=hV) (fe:=fL K c) (en:=[some (.p (.list (xs.map mxD)))]) (ds:=xs.map mxD) rfl (by rw [aQm];omega) hm
 have e:(xs.map fun x=>shD (x.1,x.2.2.2))=(xs.map fun x=>(x.1,x.2.2.2)).map shD:=by rw [aR7];rfl
 rw [e] at hc
 unfold fG
 refine gI ?_
 ktr_call 3 ⟨aV,aB,aK,hc,Res.bind,Ev.c,iW,gJ,sA,h,qT⟩
noncomputable def dY(K:aQk)(c:Cls):List L->Res L:=mOf eFF (fun a=>FSz 2000 a.1/\FSz 2000 a.2) fun a=>.ok (.p (.bool (ltF a.1 a.2)))
noncomputable def jN(K:aQk)(c:Cls):MS:=(eX (aF ltE (aF g8 (aF ixE (aD 0) (mC (.int 0))) (aF ixE (aD 1) (mC (.int 1)))) (aF g8 (aF ixE (aD 1) (mC (.int 0))) (aF ixE (aD 0) (mC (.int 1))))))
theorem rG:∀ ls,dY K c ls=.bad\/gS 2 (jN K c) ls=dY K c ls:=lF fun a h=>by
 obtain ⟨x,y⟩:=a
 obtain ⟨⟨x1,x2⟩,⟨y1,y2⟩⟩:=h
 dsimp only at x1 x2 y1 y2 ⊢
 refine eC ?_
 rw [show cW 2 (eFF (x,y))=[some (.p (frD x)),some (.p (frD y))] from rfl]
 unfold jN
 walk_at "1d"
 rfl
theorem aEw{x y:Int×Int}(hx:FSz 2000 x)(hy:FSz 2000 y):dY K c [.p (frD x),.p (frD y)]=.ok (.p (.bool (ltF x y))):=kA (a:=(x,y)) kJ ⟨hx,hy⟩
theorem aK0(x y:Pl):PyData.eqv (plD x) (plD y)=decide (x=y):=by
 have:PyData.eqv (plD x) (plD y)=(x.1 == y.1 && (x.2.1 == y.2.1 && (PyData.eqv (frD x.2.2) (frD y.2.2) && true))):=by simp [plD,PyData.eqv,PyData.eqvAll]
 rw [this,aCc]
 by_cases h:x=y
 ·subst h;simp
 ·rw [aQr h]
  by_cases h1:x.1=y.1
  ·by_cases h2:x.2.1=y.2.1
   ·have h3:¬ x.2.2=y.2.2:=fun h3=>h (aWp h1 (aWp h2 h3))
    simp [h3]
   ·simp [h2]
  ·simp [h1]
theorem aLu(x:Pl):SeqAt.shaped (plD x)=true:=by simp [SeqAt.shaped,plD,frD,PyData.canLay0,PyData.canLayAll0,PyData.depth,PyData.depthAll]
theorem aLp(p q:Pl):SeqAt.noMix (plD p) (plD q)=true:=by simp [plD,frD,SeqAt.noMix,SeqAt.noMixAll]
theorem aJ2(p:Pl)(ps:List Pl):decide (countIn (plD p) (ps.map plD)≠0)=decide (p∈ps):=by
 rw [decide_eq_decide,countIn_ne_zero,aRk]
 constructor
 ·rintro ⟨q,hq,e⟩
  rw [<- plI e]
  exact hq
 ·intro h
  exact ⟨p,h,rfl⟩
theorem aHg(p:Pl)(ps:List Pl):pW false (.p (plD p)) (.p (.list (ps.map plD)))=.ok (.p (.bool (decide (p∈ps)))):=by
 unfold pW
 simp only [dat]
 rw [aQt ⟨aLu p,aF6 ps,fun z hz=>by obtain ⟨q,_,rfl⟩:=aRk.mp hz;exact aLp q p⟩]
 rw [aQv (by decide),aJ2]
theorem aKs{K:aQk}{C:Addr}{fs:List (Str×D)}{f:Str}{d:D}(h1:L2.Cls K C)(h2:NoAttr K C f)(hl:fs.lookup f=some d):sW K f (.x (.i C fs))=.ok (.p d):=by
 unfold sW
 dsimp only
 rw [aQt ⟨h1,h2⟩,hl]
theorem wF(p:Pl)(ps:List Pl):pW true (.p (plD p)) (.p (.list (ps.map plD)))=.ok (.p (.bool (!decide (p∈ps)))):=by
 have h:=aHg p ps
 unfold pW at h ⊢
 dsimp only [dat] at h ⊢
 split at h
 ·rename_i z
  rw [aQt z]
  simp only [aQv aRd,Res.ok.injEq,Ev.p.injEq,PyData.bool.injEq] at h
  rw [aQt rfl,h]
 ·cases h
def plN(p:Pl):List HS.NK:=[.i p.1,.i p.2.1,.t [p.2.2.1,p.2.2.2]]
theorem aH0{p q:Pl}(h:plN p=plN q):p=q:=by
 obtain ⟨a,b,x,y⟩:=p
 obtain ⟨a',b',x',y'⟩:=q
 unfold plN at h
 simp only [List.cons.injEq,HS.NK.i.injEq,HS.NK.t.injEq,and_true] at h
 obtain ⟨rfl,rfl,rfl,rfl⟩:=h
 rfl
theorem aGe:∀ qs:List Pl,aI1 (qs.map plD)=some (qs.map plN)
 | []=>rfl
 | q :: qs=>by
  have h:ntO (plD q)=some (plN q):=rfl
  rw [aQx,aQx]
  unfold aI1
  rw [h,aGe qs]
theorem aF4:∀ ks:List (List HS.NK),((ddN ks).length=ks.length↔ks.Nodup)/\(ddN ks).length<=ks.length
 | []=>⟨⟨fun _=>List.Pairwise.nil,fun _=>rfl⟩,aQu _⟩
 | k :: r=>by
  obtain ⟨h1,h2⟩:=aF4 r
  unfold ddN
  by_cases z:k∈ddN r
  ·rw [aQt z,aQp,aR3]
   exact ⟨⟨fun h=>by omega,fun h=>absurd (ddN_mem.mp z) h.1⟩,by omega⟩
  ·rw [aQv z,aQp,aQp,aR3]
   refine ⟨⟨fun h=>⟨fun y=>z (ddN_mem.mpr y),h1.mp (by omega)⟩,fun h=>by rw [h1.mpr h.2]⟩,by omega⟩
theorem aOq(qs:List Pl):(qs.map plN).Nodup↔qs.Nodup:=by
 constructor
 ·intro h
  exact (aTp.mp h).imp fun {a b} z y=>z (by rw [y])
 ·intro h
  exact aTp.mpr (h.imp fun {a b} z y=>z (aH0 y))
theorem aIi{qs:List Pl}(hl:qs.length < 64):jQ (.p (.list (qs.map plD)))=.ok (.p (.int ((ddN (qs.map plN)).length:Nat))):=by
 have sh:shO (qs.map plN)=true:=by
  cases qs with
  | nil=>rfl
  | cons q qs =>
   show (qs.map plN).all _=true
   rw [aSi]
   intro x hx
   obtain ⟨y,_,rfl⟩:=aRk.mp hx
   rfl
 unfold jQ
 dsimp only [iO]
 rw [aGe]
 dsimp only
 rw [aQt ⟨sh,by rw [aQm];exact hl⟩]
def aI7(p:Pl)(qs rs:List Pl):Bool:=decide (qs.length≠0/\qs.length<=3/\qs.Nodup) && (!decide (p∈qs) && qs.all fun q=>decide (q∈rs))
noncomputable def cQ(K:aQk)(c:Cls):En->Res Ev:=(aF (pW false) (aD 0) (aD 1))
noncomputable def d6:MS:=(bC (eA (mOr (bH (aF (eqE false) (aE g9 (aB (aD 1) aK)) (mC (.int 0)))) (mOr (bH (aF gtE (aE g9 (aB (aD 1) aK)) (mC (.int 3)))) (bH (aF (eqE true) (mUn jQ (aD 1)) (aE g9 (aB (aD 1) aK)))))) (eX (mC (.bool false))) bR) (eX (gW (aF (pW true) (aD 0) (aD 1)) (aE aC2 (aB (fQ 1 [2] (iE (aD 1)) (aM 0) hV (cQ K c)) aK)))))
noncomputable def bQ(ls:List L):Res L:=gS 3 (d6 K c) ls
theorem jW:∀ ls,bQ K c ls=.bad\/gS 3 (d6 K c) ls=bQ K c ls:=fun _=>.inr rfl
theorem aKl(p:Pl)(qs rs:List Pl):bQ K c [.p (plD p),.p (.list (qs.map plD)),.p (.list (rs.map plD))]=.ok (.p (.bool (aI7 p qs rs))):=by
 have ln:∀ en:En,en[1]? = some (some (.p (.list (qs.map plD))))->aE g9 (aB (aD 1) aK) en=.ok (.p (.int (qs.length:Nat))):=fun en h=>by
  have v:aD 1 en=.ok (.p (.list (qs.map plD))):=by unfold aD;rw [h]
  rw [sN (ds:=qs.map plD) v rfl,aQm]
 have l1:=ln [some (.p (plD p)),some (.p (.list (qs.map plD))),some (.p (.list (rs.map plD)))] rfl
 unfold bQ
 refine eC ?_
 rw [show cW 3 [.p (plD p),.p (.list (qs.map plD)),.p (.list (rs.map plD))]=[some (.p (plD p)),some (.p (.list (qs.map plD))),some (.p (.list (rs.map plD)))] from rfl]
 unfold d6 aI7
 have t1:bH (aF (eqE false) (aE g9 (aB (aD 1) aK)) (mC (.int 0))) [some (.p (plD p)),some (.p (.list (qs.map plD))),some (.p (.list (rs.map plD)))]=.ok ((qs.length:Int) == 0):=eY (aO l1 rfl mF)
 have t2:bH (aF gtE (aE g9 (aB (aD 1) aK)) (mC (.int 3))) [some (.p (plD p)),some (.p (.list (qs.map plD))),some (.p (.list (rs.map plD)))]=.ok (decide ((3:Int) < qs.length)):=eY (aO l1 rfl rfl)
 by_cases z1:qs.length=0
 ·rw [show ((qs.length:Int) == 0)=true by simp [z1]] at t1
  rw [aQr (fun h=>h.1 z1),aSu]
  exact fA ((jI (aC0 t1)).trans rfl)
 rw [show ((qs.length:Int) == 0)=false by simp;intro h;exact z1 (by rw [h];rfl)] at t1
 by_cases z2:(3:Int) < qs.length
 ·rw [aQ3 z2] at t2
  rw [aQr (fun h=>by have:=h.2.1;omega),aSu]
  exact fA ((jI (oK t1 (aC0 t2))).trans rfl)
 rw [aQr z2] at t2
 have t3:bH (aF (eqE true) (mUn jQ (aD 1)) (aE g9 (aB (aD 1) aK))) [some (.p (plD p)),some (.p (.list (qs.map plD))),some (.p (.list (rs.map plD)))]=.ok (!decide (qs.Nodup)):=by
  have e:(!(((ddN (qs.map plN)).length:Int) == (qs.length:Int)))=!decide (qs.Nodup):=by
   congr 1
   have:=(aF4 (qs.map plN)).1
   rw [aQm,aOq] at this
   by_cases z:qs.Nodup
   ·rw [aQ3 z,this.mpr z];simp
   ·rw [aQr z,aSt]
    exact fun h=>z (this.mp (by omega))
  rw [<- e]
  exact eY (aO (aDa rfl (aIi (by omega))) l1 ne_is)
 by_cases z3:qs.Nodup
 ·rw [aQ3 z3] at t3
  rw [aQ3 (p:=qs.length≠0/\qs.length<=3/\qs.Nodup) ⟨z1,by omega,z3⟩,aSj]
  refine (aN ((kF (oK t1 (oK t2 t3))).trans rfl)).trans (gI ?_)
  have n1:=aO (op:=pW true) (f:=aD 0) (g:=aD 1) (en:=[some (.p (plD p)),some (.p (.list (qs.map plD))),some (.p (.list (rs.map plD)))]) rfl rfl (wF p qs)
  have hm:oX (cB 1 [2] (aM 0) hV (cQ K c) [some (.p (plD p)),some (.p (.list (qs.map plD))),some (.p (.list (rs.map plD)))]) (qs.map plD)=some (qs.map fun q=>PyData.bool (decide (q∈rs))):=eI _ fun q _=>by
   have:=aHg q rs
   unfold cB cQ
   ktr_call 3 ⟨aM,hV,List.replicate,aTb,aTr,zV,aFc,aF,aD,Res.bind,Ev.c,this⟩
  have hc:=jC (n:=1) (js:=[2]) (fi:=iE (aD 1)) (tg:=aM 0) (ft:=hV) (fe:=cQ K c) (en:=[some (.p (plD p)),some (.p (.list (qs.map plD))),some (.p (.list (rs.map plD)))]) rfl (by rw [aQm];omega) hm
  have al:aE aC2 (aB (fQ 1 [2] (iE (aD 1)) (aM 0) hV (cQ K c)) aK) [some (.p (plD p)),some (.p (.list (qs.map plD))),some (.p (.list (rs.map plD)))]=.ok (.p (.bool (qs.all fun q=>decide (q∈rs)))):=jE (cI hc rfl) (aKq rfl)
  by_cases z4:p∈qs
  ·rw [aQ3 z4] at n1 ⊢
   exact wQ n1
  ·rw [aQr z4] at n1 ⊢
   exact nH n1 al
 ·rw [aQr z3] at t3
  rw [aQr (p:=qs.length≠0/\qs.length<=3/\qs.Nodup) (fun h=>z3 h.2.2),aSu]
  exact fA ((jI (oK t1 (oK t2 t3))).trans rfl)
theorem aEn{x y:Int×Int}:eqE false (.p (frD x)) (.p (frD y))=.ok (.p (.bool (decide (x=y)))):=by simp [eqE,dat,aJf,aCc]
abbrev Pt3:=(Int×Int)×Pl
def pk(i:Pl->Int×Int)(xs:List Pt3):List ((Int×Int)×(Int×Int)):=xs.map fun x=>(x.1,i x.2)
structure GX(x:Pt3):Prop where
 s:Good 60 x.1
 i:Sz 100 x.2.1
 j:Sz 100 x.2.2.1
 h:Good 200 x.2.2.2
theorem yD{i:Int}(h:Sz 100 i):Good 200 (i,1):=⟨aVc 1,h.mono (by decide),(show Sz 200 (1:Int) by unfold Sz;decide)⟩
def shB(ss:List (Int×Int)):Bool:=(ss.all fun s=>ltF (0,1) s) && decide (ssF (0,1) (ss.map fun s=>(s,((1:Int),(1:Int))))=(1,1))
noncomputable def hZ(K:aQk)(c:Cls):En->Res Ev:=(aE aT (aB (aD 0) (aB (aE aT (aB (mC (.int 1)) (aB (mC (.int 1)) aK))) aK)))
noncomputable def dS:En->Res Ev:=(aV 2 (j7 K c) (aB (aE aT (aB (mC (.int 0)) (aB (mC (.int 1)) aK))) (aB (aD 0) aK)))
noncomputable def iG:MS:=(bC (eA (nR (bH (aE aC2 (aB (fQ 1 [] (iE (aD 0)) (aM 0) hV (dS K c)) aK)))) (eX (mC (.bool false))) bR) (eX (aF (eqE false) (aV 1 (bZ K c) (aB (fQ 1 [] (iE (aD 0)) (aM 0) hV (hZ K c)) aK)) (aE aT (aB (mC (.int 1)) (aB (mC (.int 1)) aK))))))
noncomputable def dX(ls:List L):Res L:=gS 1 (iG K c) ls
theorem rC:∀ ls,dX K c ls=.bad\/gS 1 (iG K c) ls=dX K c ls:=fun _=>.inr rfl
theorem aOi{ss:List (Int×Int)}(hl:ss.length<=3)(hx:∀ x∈ss,Good 60 x):dX K c [.p (.list (ss.map frD))]=.ok (.p (.bool (shB ss))):=by
 obtain ⟨g,h⟩:=aDn K c (xs:=ss.map fun s=>(s,((1:Int),(1:Int)))) (by rw [aQm];exact hl) (fun y hy=>by
  obtain ⟨x,h1,rfl⟩:=aRk.mp hy
  exact ⟨hx x h1,yD (by unfold Sz;decide)⟩)
 unfold dX
 refine eC ?_
 rw [show cW 1 [.p (.list (ss.map frD))]=[some (.p (.list (ss.map frD)))] from rfl]
 unfold iG shB
 have m1:oX (cB 1 [] (aM 0) hV (dS K c) [some (.p (.list (ss.map frD)))]) (ss.map frD)=some (ss.map fun s=>PyData.bool (ltF (0,1) s)):=eI _ fun s hs=>by
  have l:=sR K c (x:=(0,1)) (y:=s) ⟨(show Sz 2 (0:Int) by unfold Sz;decide).mono (by decide),(show Sz 2 (1:Int) by unfold Sz;decide).mono (by decide)⟩ ((hx s hs).mono (by decide)).fsz
  have e:dS K c [some (.p (frD s))]=.ok (.p (.bool (ltF (0,1) s))):=by
   unfold dS
   exact gB (a:=frD (0,1)) (b:=frD s) (x:=.p (frD (0,1))) rfl rfl l
  unfold cB
  ktr_call 3 ⟨aM,hV,List.replicate,aTb,aTr,zV,aSo,e,Ev.c⟩
 have c1:=jC (n:=1) (js:=[]) (fi:=iE (aD 0)) (tg:=aM 0) (ft:=hV) (fe:=dS K c) (en:=[some (.p (.list (ss.map frD)))]) rfl (by rw [aQm];omega) m1
 have t1:bH (aE aC2 (aB (fQ 1 [] (iE (aD 0)) (aM 0) hV (dS K c)) aK)) [some (.p (.list (ss.map frD)))]=.ok (ss.all fun s=>ltF (0,1) s):=eY (jE (cI c1 rfl) (aKq rfl))
 cases z:(ss.all fun s=>ltF (0,1) s) with
 | false =>
  rw [z] at t1
  exact fA ((jI (aLs t1)).trans rfl)
 | true =>
  rw [z] at t1
  refine (aN ((kF (aC8 t1)).trans rfl)).trans (gI ?_)
  have m2:oX (cB 1 [] (aM 0) hV (hZ K c) [some (.p (.list (ss.map frD)))]) (ss.map frD)=some (ss.map fun s=>shD (s,((1:Int),(1:Int)))):=eI _ fun s _=>rfl
  have c2:=jC (n:=1) (js:=[]) (fi:=iE (aD 0)) (tg:=aM 0) (ft:=hV) (fe:=hZ K c) (en:=[some (.p (.list (ss.map frD)))]) rfl (by rw [aQm];omega) m2
  have e:(ss.map fun s=>shD (s,((1:Int),(1:Int))))=(ss.map fun s=>(s,((1:Int),(1:Int)))).map shD:=by rw [aR7];rfl
  rw [e] at c2
  rw [aSj]
  exact aO (yS c2 rfl h) (y:=.p (frD (1,1))) rfl aEn
def aMo(xs:List Pt3)(p:Pl):Bool:=decide (ssF (0,1) (pk (fun q=>(q.1,1)) xs)=(p.1,1)) && (decide (ssF (0,1) (pk (fun q=>(q.2.1,1)) xs)=(p.2.1,1)) && !ltF (mhF xs) p.2.2)
noncomputable def kU(K:aQk)(c:Cls):En->Res Ev:=(aE aT (aB (aD 0) (aB (aE aT (aB (aF ixE (aD 1) (mC (.int 1))) (aB (mC (.int 1)) aK))) aK)))
noncomputable def kT(K:aQk)(c:Cls):En->Res Ev:=(aE aT (aB (aD 0) (aB (aE aT (aB (aF ixE (aD 1) (mC (.int 0))) (aB (mC (.int 1)) aK))) aK)))
noncomputable def fW:MS:=(bC (cJ 2 (aV 1 (bZ K c) (aB (fQ 2 [] (iE (aD 0)) (eS 2 (aZ (aM 0) (aZ (aM 1) eP))) hV (kT K c)) aK))) (bC (cJ 3 (aV 1 (bZ K c) (aB (fQ 2 [] (iE (aD 0)) (eS 2 (aZ (aM 0) (aZ (aM 1) eP))) hV (kU K c)) aK))) (eX (gW (aF (eqE false) (aD 2) (aE aT (aB (aF ixE (aD 1) (mC (.int 0))) (aB (mC (.int 1)) aK)))) (gW (aF (eqE false) (aD 3) (aE aT (aB (aF ixE (aD 1) (mC (.int 1))) (aB (mC (.int 1)) aK)))) (mL (aV 2 (j7 K c) (aB (aV 1 (bT K c) (aB (aD 0) aK)) (aB (aF ixE (aD 1) (mC (.int 2))) aK)))))))))
noncomputable def cY(ls:List L):Res L:=gS 4 (fW K c) ls
theorem mH:∀ ls,cY K c ls=.bad\/gS 4 (fW K c) ls=cY K c ls:=fun _=>.inr rfl
theorem aLw{xs:List Pt3}(hl:xs.length<=3)(hx:∀ x∈xs,GX x){p:Pl}(hp:Good 200 p.2.2):cY K c [.p (.list (xs.map mxD)),.p (plD p)]=.ok (.p (.bool (aMo xs p))):=by
 have one:∀ {i:Pl->Int×Int} (hi:∀ x∈xs,Good 200 (i x.2)) (fe:En->Res Ev) (en:En),en[0]? = some (some (.p (.list (xs.map mxD))))->(∀ x:Pt3,fe [some (.p (frD x.1)),some (.p (plD x.2))]=.ok (.p (shD (x.1,i x.2))))->aV 1 (bZ K c) (aB (fQ 2 [] (iE (aD 0)) (eS 2 (aZ (aM 0) (aZ (aM 1) eP))) hV fe) aK) en=.ok (.p (frD (ssF (0,1) (pk i xs)))):=fun {i} hi fe en h0 he=>by
  obtain ⟨g,h⟩:=aDn K c (xs:=pk i xs) (by unfold pk;rw [aQm];exact hl) (fun y hy=>by
   obtain ⟨x,h1,rfl⟩:=aRk.mp hy
   exact ⟨(hx x h1).s,hi x h1⟩)
  have v:iE (aD 0) en=.ok (xs.map mxD):=by unfold iE aD;rw [h0];rfl
  have m2:oX (cB 2 [] (eS 2 (aZ (aM 0) (aZ (aM 1) eP))) hV fe en) (xs.map mxD)=some (xs.map fun x=>shD (x.1,i x.2)):=eI _ fun x _=>by
   have e:cB 2 [] (eS 2 (aZ (aM 0) (aZ (aM 1) eP))) hV fe en (mxD x)=(match fe [some (.p (frD x.1)),some (.p (plD x.2))] with | .ok r=>(match r.c with | .p d=>some (some d) | _=>none) | _=>none):=rfl
   rw [e,he x]
   rfl
  have c2:=jC (n:=2) (js:=[]) v (by rw [aQm];omega) m2
  have e:(xs.map fun x=>shD (x.1,i x.2))=(pk i xs).map shD:=by unfold pk;rw [aR7];rfl
  rw [e] at c2
  exact yS c2 rfl h
 obtain ⟨gm,hm⟩:=aNl K c hl (fun x h=>⟨(hx x h).s,(hx x h).h⟩)
 have lg:=sR K c (x:=mhF xs) (y:=p.2.2) (gm.mono (by decide)).fsz (hp.mono (by decide)).fsz
 unfold cY
 refine eC ?_
 rw [show cW 4 [.p (.list (xs.map mxD)),.p (plD p)]=[some (.p (.list (xs.map mxD))),some (.p (plD p)),none,none] from rfl]
 unfold fW aMo
 refine (aN (eF (one (i:=fun q=>(q.1,1)) (fun x h=>yD (hx x h).i) _ _ rfl fun x=>rfl))).trans ?_
 refine (aN (eF (one (i:=fun q=>(q.2.1,1)) (fun x h=>yD (hx x h).j) _ _ rfl fun x=>rfl))).trans (gI ?_)
 generalize ssF (0,1) (pk (fun q=>(q.1,1)) xs)=X
 generalize ssF (0,1) (pk (fun q=>(q.2.1,1)) xs)=Y
 have b1:aF (eqE false) (aD 2) (aE aT (aB (aF ixE (aD 1) (mC (.int 0))) (aB (mC (.int 1)) aK))) [some (.p (.list (xs.map mxD))),some (.p (plD p)),some (.p (frD X)),some (.p (frD Y))]=.ok (.p (.bool (decide (X=(p.1,1))))):=aO rfl (lT (aO rfl rfl (fV p)) rfl) (aEn (y:=(p.1,1)))
 have b2:aF (eqE false) (aD 3) (aE aT (aB (aF ixE (aD 1) (mC (.int 1))) (aB (mC (.int 1)) aK))) [some (.p (.list (xs.map mxD))),some (.p (plD p)),some (.p (frD X)),some (.p (frD Y))]=.ok (.p (.bool (decide (Y=(p.2.1,1))))):=aO rfl (lT (aO rfl rfl (gC p)) rfl) (aEn (y:=(p.2.1,1)))
 have b3:mL (aV 2 (j7 K c) (aB (aV 1 (bT K c) (aB (aD 0) aK)) (aB (aF ixE (aD 1) (mC (.int 2))) aK))) [some (.p (.list (xs.map mxD))),some (.p (plD p)),some (.p (frD X)),some (.p (frD Y))]=.ok (.p (.bool (!ltF (mhF xs) p.2.2))):=by
  have:=gB (f:=aV 1 (bT K c) (aB (aD 0) aK)) (g:=aF ixE (aD 1) (mC (.int 2))) (en:=[some (.p (.list (xs.map mxD))),some (.p (plD p)),some (.p (frD X)),some (.p (frD Y))]) (yS rfl rfl hm) (aO rfl rfl (iX p)) lg
  unfold mL
  rw [this]
  rfl
 by_cases z1:X=(p.1,1)
 ·rw [aQ3 z1] at b1 ⊢
  by_cases z2:Y=(p.2.1,1)
  ·rw [aQ3 z2] at b2 ⊢
   exact nH b1 (nH b2 b3)
  ·rw [aQr z2] at b2 ⊢
   exact nH b1 (wQ b2)
 ·rw [aQr z1] at b1 ⊢
  exact wQ b1
abbrev oMx(c:Cls)(p:Pl)(xs:List Pt3):L:=.x (.i c.Mixture [("plane",plD p),("parts",.list (xs.map mxD))])
def yY(p:Pl)(xs:List Pt3)(rs:List Pl):Bool:=decide (p∈rs) && (aI7 p (xs.map (·.2)) rs && (shB (xs.map (·.1)) && aMo xs p))
noncomputable def iD(K:aQk)(c:Cls):En->Res Ev:=(aD 0)
noncomputable def iL(K:aQk)(c:Cls):En->Res Ev:=(aD 1)
noncomputable def fY:MS:=(bC (eA (mOr (bH (aF (pW true) (mUn (sW K "plane") (aD 0)) (aD 1))) (nR (bH (aV 3 (bQ K c) (aB (mUn (sW K "plane") (aD 0)) (aB (fQ 2 [] (iE (mUn (sW K "parts") (aD 0))) (eS 2 (aZ (aM 0) (aZ (aM 1) eP))) hV (iL K c)) (aB (aD 1) aK))))))) (eX (mC (.bool false))) bR) (eX (gW (aV 1 (dX K c) (aB (fQ 2 [] (iE (mUn (sW K "parts") (aD 0))) (eS 2 (aZ (aM 0) (aZ (aM 1) eP))) hV (iD K c)) aK)) (aV 2 (cY K c) (aB (mUn (sW K "parts") (aD 0)) (aB (mUn (sW K "plane") (aD 0)) aK))))))
noncomputable def aY(ls:List L):Res L:=gS 2 (fY K c) ls
theorem mG:∀ ls,aY K c ls=.bad\/gS 2 (fY K c) ls=aY K c ls:=fun _=>.inr rfl
theorem aMh(hk:jY K c){p:Pl}{xs:List Pt3}(rs:List Pl)(hl:xs.length<=1000)(hx:∀ x∈xs,GX x)(hp:Good 200 p.2.2):aY K c [oMx c p xs,.p (.list (rs.map plD))]=.ok (.p (.bool (yY p xs rs))):=by
 have f1:sW K "plane" (.x (.i c.Mixture [("plane",plD p),("parts",.list (xs.map mxD))]))=.ok (.p (plD p)):=aKs hk.a hk.a1 (by rfl)
 have f2:sW K "parts" (.x (.i c.Mixture [("plane",plD p),("parts",.list (xs.map mxD))]))=.ok (.p (.list (xs.map mxD))):=aKs hk.a hk.a2 (by rfl)
 have u:=aKl K c p (xs.map (·.2)) rs
 unfold aY
 refine eC ?_
 rw [show cW 2 [oMx c p xs,.p (.list (rs.map plD))]=[some (oMx c p xs),some (.p (.list (rs.map plD)))] from rfl]
 have it:iE (mUn (sW K "parts") (aD 0)) [some (oMx c p xs),some (.p (.list (rs.map plD)))]=.ok (xs.map mxD):=itL (aDa rfl f2)
 have m1:oX (cB 2 [] (eS 2 (aZ (aM 0) (aZ (aM 1) eP))) hV (iL K c) [some (oMx c p xs),some (.p (.list (rs.map plD)))]) (xs.map mxD)=some (xs.map fun x=>plD x.2):=eI _ fun x _=>rfl
 have m2:oX (cB 2 [] (eS 2 (aZ (aM 0) (aZ (aM 1) eP))) hV (iD K c) [some (oMx c p xs),some (.p (.list (rs.map plD)))]) (xs.map mxD)=some (xs.map fun x=>frD x.1):=eI _ fun x _=>rfl
 have c1:=jC (n:=2) (js:=[]) it (by rw [aQm];omega) m1
 have c2:=jC (n:=2) (js:=[]) it (by rw [aQm];omega) m2
 rw [show (xs.map fun x=>plD x.2)=(xs.map (·.2)).map plD by rw [aR7];rfl] at c1
 rw [show (xs.map fun x=>frD x.1)=(xs.map (·.1)).map frD by rw [aR7];rfl] at c2
 unfold fY yY
 have t1:=eY (aO (op:=pW true) (f:=mUn (sW K "plane") (aD 0)) (g:=aD 1) (en:=[some (oMx c p xs),some (.p (.list (rs.map plD)))]) (aDa rfl f1) rfl (wF p rs))
 by_cases z1:p∈rs
 ·rw [aQ3 z1] at t1 ⊢
  rw [aSj]
  have t2:=eY (aL1 (aDa rfl f1:mUn (sW K "plane") (aD 0) [some (oMx c p xs),some (.p (.list (rs.map plD)))]=_) c1 (show aD 1 [some (oMx c p xs),some (.p (.list (rs.map plD)))]=.ok (.p (.list (rs.map plD))) from rfl) u)
  cases z2:aI7 p (xs.map (·.2)) rs with
  | false =>
   rw [z2] at t2
   exact fA ((jI (oK t1 (aLs t2))).trans rfl)
  | true =>
   rw [z2] at t2
   refine (aN ((kF (oK t1 (aC8 t2))).trans rfl)).trans (gI ?_)
   have l3:xs.length<=3:=by
    unfold aI7 at z2
    rw [aS1,aUg] at z2
    have:=z2.1.2.1
    rw [aQm] at this
    exact this
   have sk:=aOi K c (ss:=xs.map (·.1)) (by rw [aQm];exact l3) (fun y hy=>by
    obtain ⟨x,h1,rfl⟩:=aRk.mp hy
    exact (hx x h1).s)
   have b1:=yS c2 rfl sk
   have b2:=gB (f:=mUn (sW K "parts") (aD 0)) (g:=mUn (sW K "plane") (aD 0)) (en:=[some (oMx c p xs),some (.p (.list (rs.map plD)))]) (aDa rfl f2) (aDa rfl f1) (aLw K c l3 hx hp)
   rw [aSj]
   cases z3:shB (xs.map (·.1)) with
   | false=>rw [z3] at b1;exact wQ b1
   | true=>rw [z3] at b1;exact nH b1 b2
 ·rw [aQr z1] at t1 ⊢
  exact fA ((jI (aC0 t1)).trans rfl)
theorem aOj{tg:D->En->Option En}{f:MS}{d:D}{ds:List D}{en e:En}{l:L}(h1:tg d en=some e)(h2:f e=some (.rt l)):gY tg f (d :: ds) en=some (.rt l):=by
 rw [gY,h1]
 dsimp only
 rw [h2]
def rw4(k:Nat)(q:Pl):Int×Int:=match k with
 | 0=>(1,1)
 | 1=>(q.1,1)
 | 2=>(q.2.1,1)
 | _=>q.2.2
def Sm(k:Nat)(ys:List Pt3):Int×Int:=ssF (0,1) (pk (rw4 k) ys)
theorem aLm{x:Pt3}(g:GX x)(k:Nat):Good 200 (rw4 k x.2):=by
 unfold rw4
 split
 ·exact yD (by unfold Sz;decide)
 ·exact yD g.i
 ·exact yD g.j
 ·exact g.h
theorem aPe(K:aQk)(c:Cls){ys:List Pt3}(hl:ys.length<=3)(h:∀ x∈ys,GX x)(k:Nat):Good 1900 (Sm k ys):=(aDn K c (xs:=pk (rw4 k) ys) (by unfold pk;rw [aQm];exact hl) (fun y hy=>by
 obtain ⟨x,h1,rfl⟩:=aRk.mp hy
 exact ⟨(h x h1).s,aLm (h x h1) k⟩)).1
theorem aJe(k:Nat)(ys:List Pt3)(x:Pt3):Sm k (ys++[x])=hP (Sm k ys) (FR.mk (x.1.1*(rw4 k x.2).1) (x.1.2*(rw4 k x.2).2)):=by
 unfold Sm pk ssF
 rw [aRn,List.foldl_append]
 rfl
def chk(rs:List Pl):List Pl->List Pt3->Bool
 | _,[]=>true
 | us,x :: zs=>decide (x.2∈rs) && (!decide (x.2∈us) && (decide (1<=x.1.1) && chk rs (us++[x.2]) zs))
theorem zD(rs:List Pl):∀ (zs:List Pt3) (us:List Pl),chk rs us zs=true↔(∀ x∈zs,x.2∈rs)/\(∀ x∈zs,x.2∉us)/\(∀ x∈zs,1<=x.1.1)/\(zs.map (·.2)).Nodup
 | [],us=>by
  simp [chk]
 | x :: zs,us=>by
  unfold chk
  rw [aS1,aS1,aS1,aUg,aWi,aWr,aUg,zD rs zs (us++[x.2]),aQx,aR3]
  constructor
  ·rintro ⟨a,b,d,e1,e2,e3,e4⟩
   refine ⟨fun y hy=>?_,fun y hy=>?_,fun y hy=>?_,fun h=>?_,e4⟩
   ·rcases aQy.mp hy with rfl | hy
    ·exact a
    ·exact e1 y hy
   ·rcases aQy.mp hy with rfl | hy
    ·exact b
    ·exact fun z=>e2 y hy (aTh _ z)
   ·rcases aQy.mp hy with rfl | hy
    ·exact d
    ·exact e3 y hy
   ·obtain ⟨y,hy,e⟩:=aRk.mp h
    exact e2 y hy (aQ5 _ (by rw [e];exact .head _))
  ·rintro ⟨a,b,d,e,f⟩
   refine ⟨a x (.head _),b x (.head _),d x (.head _),fun y hy=>a y (.tail _ hy),fun y hy z=>?_,fun y hy=>d y (.tail _ hy),f⟩
   rcases aSe.mp z with z | z
   ·exact b y (.tail _ hy) z
   ·exact e (aRk.mpr ⟨y,hy,aQ1.mp z⟩)
theorem aFq{m n:Nat}{x y:Int×Int}(hx:Good m x)(hy:Good n y)(h1:m<=2000)(h2:n<=2000):bF K c [.p (frD x),.p (frD y)]=.ok (.p (frD (FR.mk (x.1*y.1) (x.2*y.2)))):=kA (a:=(x,y)) kJ ⟨hx.mono h1,hy.mono h2⟩
theorem ix4{f:Nat->Int×Int}{x:Ev}(hx:jF x=some ((List.range 4).map fun k=>frD (f k))){k:Nat}(hk:k < 4){i:Int}(hi:i=(k:Int)):ixE x (.p (.int i))=.ok (.p (frD (f k))):=by
 have:=l9 (x:=x) (enc:=fun k=>frD (f k)) (xs:=List.range 4) (d:=0) (k:=k) hx (by rw [aR5];exact hk) hi
 rw [this]
 simp [List.getD,hk]
noncomputable def fM:En->Res Ev:=(aV 2 (bK K c) (aB (aF ixE (aD 3) (aD 0)) (aB (aV 2 (bF K c) (aB (aD 2) (aB (aF ixE (aD 1) (aD 0)) aK))) aK)))
noncomputable def dE:MS:=(bC (eA (mOr (bH (aF (pW true) (aD 6) (aD 2))) (mOr (bH (aF (pW false) (aD 6) (aD 4))) (bH (aF ltE (aF ixE (aD 5) (mC (.int 0))) (mC (.int 1)))))) (eX (mC (.bool false))) bR) (bC (gU 4 (aD 6)) (fun en=>(bC (cJ 7 (aE fI (aB (aE aT (aB (mC (.int 1)) (aB (mC (.int 1)) aK))) (aB (aE aT (aB (aF ixE (aD 6) (mC (.int 0))) (aB (mC (.int 1)) aK))) (aB (aE aT (aB (aF ixE (aD 6) (mC (.int 1))) (aB (mC (.int 1)) aK))) (aB (aF ixE (aD 6) (mC (.int 2))) aK)))))) (fun en=>(cJ 3 (fQ 1 [7,5,3] (t8 lM (aB (mC (.int 4)) aK)) (aM 0) hV (fM K c))) (frz 7 en))) (frz 3 en))))
noncomputable def fE:MS:=(bC (eA (mOr (bH (aF (pW true) (aD 0) (aD 2))) (mOr (bH (aF ltE (aE g9 (aB (aD 1) aK)) (mC (.int 1)))) (bH (aF gtE (aE g9 (aB (aD 1) aK)) (mC (.int 3)))))) (eX (mC (.bool false))) bR) (bC (cJ 3 (aE fI (aB (aE aT (aB (mC (.int 0)) (aB (mC (.int 1)) aK))) (aB (aE aT (aB (mC (.int 0)) (aB (mC (.int 1)) aK))) (aB (aE aT (aB (mC (.int 0)) (aB (mC (.int 1)) aK))) (aB (aE aT (aB (mC (.int 0)) (aB (mC (.int 1)) aK))) aK)))))) (bC (cJ 4 (aE fI (aB (aD 0) aK))) (bC (tV (iE (aD 1)) (eS 2 (aZ (aM 5) (aZ (aM 6) eP))) (dE K c)) (bC (eA (mOr (bH (aF (eqE true) (aF ixE (aD 3) (mC (.int 0))) (aE aT (aB (mC (.int 1)) (aB (mC (.int 1)) aK))))) (mOr (bH (aF (eqE true) (aF ixE (aD 3) (mC (.int 1))) (aE aT (aB (aF ixE (aD 0) (mC (.int 0))) (aB (mC (.int 1)) aK))))) (bH (aF (eqE true) (aF ixE (aD 3) (mC (.int 2))) (aE aT (aB (aF ixE (aD 0) (mC (.int 1))) (aB (mC (.int 1)) aK))))))) (eX (mC (.bool false))) bR) (eX (mL (aV 2 (dY K c) (aB (aF ixE (aD 3) (mC (.int 3))) (aB (aF ixE (aD 0) (mC (.int 2))) aK))))))))))
noncomputable def bE(ls:List L):Res L:=gS 8 (fE K c) ls
theorem lK:∀ ls,bE K c ls=.bad\/gS 8 (fE K c) ls=bE K c ls:=fun _=>.inr rfl
theorem aP6{p:Pl}{xs:List Pt3}{rs:List Pl}{ys:List Pt3}(hl:ys.length<=3)(hy:∀ x∈ys,GX x){x:Pt3}(gx:GX x)(us:List Pl)(hu:us.length<=1000)(r7:Option L):dE K c [some (.p (plD p)),some (.p (.list (xs.map mxD))),some (.p (.list (rs.map plD))),some (.o (.list ((List.range 4).map fun k=>frD (Sm k ys)))),some (.o (.list ((us).map plD))),some (.p (frD x.1)),some (.p (plD x.2)),r7]=if decide (x.2∈rs) && (!decide (x.2∈us) && decide (1<=x.1.1)) then some (.nx [some (.p (plD p)),some (.p (.list (xs.map mxD))),some (.p (.list (rs.map plD))),some (.o (.list ((List.range 4).map fun k=>frD (Sm k (ys++[x]))))),some (.o (.list ((us++[x.2]).map plD))),some (.p (frD x.1)),some (.p (plD x.2)),some (.p (.list ((List.range 4).map fun k=>frD (rw4 k x.2))))]) else some (.rt (.p (.bool false))):=by
 unfold dE
 have t1:=eY (aO (op:=pW true) (f:=aD 6) (g:=aD 2) (en:=[some (.p (plD p)),some (.p (.list (xs.map mxD))),some (.p (.list (rs.map plD))),some (.o (.list ((List.range 4).map fun k=>frD (Sm k ys)))),some (.o (.list ((us).map plD))),some (.p (frD x.1)),some (.p (plD x.2)),r7]) rfl rfl (wF x.2 rs))
 have t2:=eY (aO (op:=pW false) (f:=aD 6) (g:=aD 4) (en:=[some (.p (plD p)),some (.p (.list (xs.map mxD))),some (.p (.list (rs.map plD))),some (.o (.list ((List.range 4).map fun k=>frD (Sm k ys)))),some (.o (.list ((us).map plD))),some (.p (frD x.1)),some (.p (plD x.2)),r7]) rfl rfl (aHg x.2 us))
 have t3:bH (aF ltE (aF ixE (aD 5) (mC (.int 0))) (mC (.int 1))) [some (.p (plD p)),some (.p (.list (xs.map mxD))),some (.p (.list (rs.map plD))),some (.o (.list ((List.range 4).map fun k=>frD (Sm k ys)))),some (.o (.list ((us).map plD))),some (.p (frD x.1)),some (.p (plD x.2)),r7]=.ok (decide (x.1.1 < 1)):=eY (aO (aO rfl rfl (oJ _ _)) rfl rfl)
 by_cases z1:x.2∈rs
 case neg =>
  rw [aQr z1] at t1 ⊢
  rw [aSu,aQv aRd]
  exact fA ((jI (aC0 t1)).trans rfl)
 rw [aQ3 z1] at t1 ⊢
 by_cases z2:x.2∈us
 ·rw [aQ3 z2] at t2 ⊢
  rw [aSj,aSv,aSu,aQv aRd]
  exact fA ((jI (oK t1 (aC0 t2))).trans rfl)
 rw [aQr z2] at t2 ⊢
 by_cases z3:1<=x.1.1
 case neg =>
  rw [aQ3 (show x.1.1 < 1 by omega)] at t3
  rw [aQr z3,aSj,aW7,aSj,aQv aRd]
  exact fA ((jI (oK t1 (oK t2 t3))).trans rfl)
 rw [aQr (show ¬ x.1.1 < 1 by omega)] at t3
 rw [aQ3 z3,aSj,aW7,aSj,aQt rfl]
 refine (aN ((kF (oK t1 (oK t2 t3))).trans rfl)).trans ?_
 refine (aN (vW (i:=4) (ds:=us.map plD) (d:=plD x.2) rfl rfl (by rw [aQm];omega))).trans ?_
 rw [show us.map plD++[plD x.2]=(us++[x.2]).map plD by rw [aRn];rfl]
 refine fO (i:=3) (e1:=[some (.p (plD p)),some (.p (.list (xs.map mxD))),some (.p (.list (rs.map plD))),some (.p (.list ((List.range 4).map fun k=>frD (Sm k ys)))),some (.o (.list ((us++[x.2]).map plD))),some (.p (frD x.1)),some (.p (plD x.2)),r7]) rfl ?_
 refine (aN (iV (d:=.list ((List.range 4).map fun k=>frD (rw4 k x.2))) ?_)).trans ?_
 ·have e1:=lT (f:=aF ixE (aD 6) (mC (.int 0))) (g:=mC (.int 1)) (en:=[some (.p (plD p)),some (.p (.list (xs.map mxD))),some (.p (.list (rs.map plD))),some (.p (.list ((List.range 4).map fun k=>frD (Sm k ys)))),some (.o (.list ((us++[x.2]).map plD))),some (.p (frD x.1)),some (.p (plD x.2)),r7]) (aO rfl rfl (fV x.2)) rfl
  have e2:=lT (f:=aF ixE (aD 6) (mC (.int 1))) (g:=mC (.int 1)) (en:=[some (.p (plD p)),some (.p (.list (xs.map mxD))),some (.p (.list (rs.map plD))),some (.p (.list ((List.range 4).map fun k=>frD (Sm k ys)))),some (.o (.list ((us++[x.2]).map plD))),some (.p (frD x.1)),some (.p (plD x.2)),r7]) (aO rfl rfl (gC x.2)) rfl
  exact jE (cI rfl (cI e1 (cI e2 (cI (aO rfl rfl (iX x.2)) rfl)))) rfl
 refine fO (i:=7) (e1:=[some (.p (plD p)),some (.p (.list (xs.map mxD))),some (.p (.list (rs.map plD))),some (.p (.list ((List.range 4).map fun k=>frD (Sm k ys)))),some (.o (.list ((us++[x.2]).map plD))),some (.p (frD x.1)),some (.p (plD x.2)),some (.p (.list ((List.range 4).map fun k=>frD (rw4 k x.2))))]) rfl ?_
 refine (iV (d:=.list ((List.range 4).map fun k=>frD (Sm k (ys++[x])))) ?_).trans rfl
 refine jC (ds:=mR 0 4) (itA (cI rfl rfl) (lD 4 (by decide))) (by decide) (yL 4 _ fun k hk=>?_)
 have gs:=aPe K c hl hy k
 have gr:=aLm gx k
 have e:fM K c [some (.p (.int (0+(k:Int)))),some (.p (.list ((List.range 4).map fun k=>frD (rw4 k x.2)))),some (.p (frD x.1)),some (.p (.list ((List.range 4).map fun k=>frD (Sm k ys))))]=.ok (.p (frD (Sm k (ys++[x])))):=by
  rw [aJe]
  unfold fM
  exact gB (aO rfl rfl (ix4 (f:=fun k=>Sm k ys) rfl hk (by omega))) (gB rfl (aO rfl rfl (ix4 (f:=fun k=>rw4 k x.2) rfl hk (by omega))) (aFq K c gx.s gr (by decide) (by decide))) (lZ K c gs (aCw gx.s gr) (by decide) (by decide))
 unfold cB
 ktr_call 3 ⟨aM,hV,List.replicate,aTb,aTr,zV,aFc,e,Ev.c⟩
theorem aAa(K:aQk)(c:Cls){p:Pl}{xs:List Pt3}{rs:List Pl}:∀ (zs ys:List Pt3) (us:List Pl) (r5 r6 r7:Option L),ys.length+zs.length<=3->(∀ x∈ys,GX x)->(∀ x∈zs,GX x)->us.length+zs.length<=1000->(chk rs us zs=true/\∃ (us':List Pl) (q5 q6 q7:Option L),gY (eS 2 (aZ (aM 5) (aZ (aM 6) eP))) (dE K c) (zs.map mxD) [some (.p (plD p)),some (.p (.list (xs.map mxD))),some (.p (.list (rs.map plD))),some (.o (.list ((List.range 4).map fun k=>frD (Sm k ys)))),some (.o (.list ((us).map plD))),r5,r6,r7]=some (.nx [some (.p (plD p)),some (.p (.list (xs.map mxD))),some (.p (.list (rs.map plD))),some (.o (.list ((List.range 4).map fun k=>frD (Sm k (ys++zs))))),some (.o (.list ((us').map plD))),q5,q6,q7]))\/(chk rs us zs=false/\gY (eS 2 (aZ (aM 5) (aZ (aM 6) eP))) (dE K c) (zs.map mxD) [some (.p (plD p)),some (.p (.list (xs.map mxD))),some (.p (.list (rs.map plD))),some (.o (.list ((List.range 4).map fun k=>frD (Sm k ys)))),some (.o (.list ((us).map plD))),r5,r6,r7]=some (.rt (.p (.bool false))))
 | [],ys,us,r5,r6,r7,hl,hy,hz,hu=>.inl ⟨rfl,us,r5,r6,r7,by rw [aSo];rfl⟩
 | x :: zs,ys,us,r5,r6,r7,hl,hy,hz,hu=>by
  rw [aQp] at hl hu
  have b:=aP6 K c (p:=p) (xs:=xs) (rs:=rs) (ys:=ys) (by omega) hy (hz x (.head _)) us (by omega) r7
  have ce:chk rs us (x :: zs)=(decide (x.2∈rs) && (!decide (x.2∈us) && decide (1<=x.1.1)) && chk rs (us++[x.2]) zs):=by
   rw [chk]
   simp only [Bool.and_assoc]
  rw [ce]
  cases z:(decide (x.2∈rs) && (!decide (x.2∈us) && decide (1<=x.1.1))) with
  | false =>
   rw [z,aQv aRd] at b
   exact .inr ⟨rfl,by rw [aQx];exact aOj rfl b⟩
  | true =>
   rw [z,aQt rfl] at b
   rw [aSj]
   rcases aAa K c (p:=p) (xs:=xs) (rs:=rs) zs (ys++[x]) (us++[x.2]) (some (.p (frD x.1))) (some (.p (plD x.2))) (some (.p (.list ((List.range 4).map fun k=>frD (rw4 k x.2))))) (by rw [aQz];show ys.length+1+zs.length<=3;omega) (fun y h=>(aSe.mp h).elim (hy y) fun h=>by rw [aQ1.mp h];exact hz x (.head _)) (fun y h=>hz y (.tail _ h)) (by rw [aQz];show us.length+1+zs.length<=1000;omega) with ⟨h1,us',q5,q6,q7,h2⟩ | ⟨h1,h2⟩
   ·refine .inl ⟨h1,us',q5,q6,q7,?_⟩
    rw [aQx,u9 rfl b,h2,aWe]
    rfl
   ·refine .inr ⟨h1,?_⟩
    rw [aQx,u9 rfl b,h2]
theorem aLv(p:Pl)(xs:List Pt3)(rs:List Pl):yY p xs rs=(decide (p∈rs) && (decide (1<=xs.length/\xs.length<=3) && (chk rs [p] xs && (decide (Sm 0 xs=(1,1)/\Sm 1 xs=(p.1,1)/\Sm 2 xs=(p.2.1,1)) && !ltF (Sm 3 xs) p.2.2)))):=by
 have e0:(xs.map (·.1)).map (fun s=>(s,((1:Int),(1:Int))))=pk (rw4 0) xs:=by unfold pk;rw [aR7];rfl
 have e3:mhF xs=Sm 3 xs:=rfl
 have lt:∀ s:Int×Int,ltF (0,1) s=true↔1<=s.1:=fun s=>by
  unfold ltF
  rw [aUg]
  show 0*s.2 < s.1*1↔_
  omega
 rw [Bool.eq_iff_iff]
 unfold yY aI7 shB aMo
 rw [e0,e3]
 simp only [aS1,aUg,aWi,aWr,aSi,zD,aQm,aRk,lt]
 constructor
 ·rintro ⟨h1,⟨⟨h2,h3,h4⟩,h5,h6⟩,⟨h7,h8⟩,h9,ha,hb⟩
  exact ⟨h1,⟨by omega,h3⟩,⟨fun x hx=>h6 _ ⟨x,hx,rfl⟩,fun x hx z=>h5 ⟨x,hx,aQ1.mp z⟩,fun x hx=>h7 _ ⟨x,hx,rfl⟩,h4⟩,⟨h8,h9,ha⟩,hb⟩
 ·rintro ⟨h1,⟨h2,h3⟩,⟨h4,h5,h6,h7⟩,⟨h8,h9,ha⟩,hb⟩
  exact ⟨h1,⟨⟨by omega,h3,h7⟩,fun ⟨x,hx,e⟩=>h5 x hx (by rw [e];exact .head _),fun q ⟨x,hx,e⟩=>e▸h4 x hx⟩,⟨fun s ⟨x,hx,e⟩=>e▸h6 x hx,h8⟩,h9,ha,hb⟩
theorem aIl{x y:Int×Int}:eqE true (.p (frD x)) (.p (frD y))=.ok (.p (.bool (!decide (x=y)))):=by simp [eqE,dat,aJf,aCc]
theorem aN2{p:Pl}{xs:List Pt3}(rs:List Pl)(hl:xs.length<=1000)(hx:∀ x∈xs,GX x)(hp:Good 200 p.2.2):bE K c [.p (plD p),.p (.list (xs.map mxD)),.p (.list (rs.map plD))]=.ok (.p (.bool (yY p xs rs))):=by
 rw [aLv]
 unfold bE
 refine eC ?_
 rw [show cW 8 [.p (plD p),.p (.list (xs.map mxD)),.p (.list (rs.map plD))]=[some (.p (plD p)),some (.p (.list (xs.map mxD))),some (.p (.list (rs.map plD))),none,none,none,none,none] from rfl]
 unfold fE
 have t1:=eY (aO (op:=pW true) (f:=aD 0) (g:=aD 2) (en:=[some (.p (plD p)),some (.p (.list (xs.map mxD))),some (.p (.list (rs.map plD))),none,none,none,none,none]) rfl rfl (wF p rs))
 have ln:aE g9 (aB (aD 1) aK) [some (.p (plD p)),some (.p (.list (xs.map mxD))),some (.p (.list (rs.map plD))),none,none,none,none,none]=.ok (.p (.int (xs.length:Nat))):=by
  rw [sN (x:=.p (.list (xs.map mxD))) (ds:=xs.map mxD) rfl rfl,aQm]
 have t2:bH (aF ltE (aE g9 (aB (aD 1) aK)) (mC (.int 1))) [some (.p (plD p)),some (.p (.list (xs.map mxD))),some (.p (.list (rs.map plD))),none,none,none,none,none]=.ok (decide ((xs.length:Int) < 1)):=eY (aO ln rfl rfl)
 have t3:bH (aF gtE (aE g9 (aB (aD 1) aK)) (mC (.int 3))) [some (.p (plD p)),some (.p (.list (xs.map mxD))),some (.p (.list (rs.map plD))),none,none,none,none,none]=.ok (decide ((3:Int) < xs.length)):=eY (aO ln rfl rfl)
 by_cases z1:p∈rs
 case neg =>
  rw [aQr z1] at t1 ⊢
  exact fA ((jI (aC0 t1)).trans rfl)
 rw [aQ3 z1] at t1 ⊢
 by_cases z2:(xs.length:Int) < 1
 ·rw [aQ3 z2] at t2
  rw [aQr (show ¬ (1<=xs.length/\xs.length<=3) by omega)]
  exact fA ((jI (oK t1 (aC0 t2))).trans rfl)
 rw [aQr z2] at t2
 by_cases z3:(3:Int) < xs.length
 ·rw [aQ3 z3] at t3
  rw [aQr (show ¬ (1<=xs.length/\xs.length<=3) by omega)]
  exact fA ((jI (oK t1 (oK t2 t3))).trans rfl)
 rw [aQr z3] at t3
 rw [aQ3 (show 1<=xs.length/\xs.length<=3 by omega),aSj,aSj]
 refine (aN ((kF (oK t1 (oK t2 t3))).trans rfl)).trans ?_
 refine (aN (iV (d:=.list ((List.range 4).map fun k=>frD (Sm k []))) rfl)).trans ?_
 refine (aN (iV (d:=.list (([p]:List Pl).map plD)) rfl)).trans ?_
 rcases aAa K c (p:=p) (xs:=xs) (rs:=rs) xs [] [p] none none none (by show 0+xs.length<=3;omega) (fun _ h=>nomatch h) hx (by show 1+xs.length<=1000;omega) with ⟨h1,us',q5,q6,q7,h2⟩ | ⟨h1,h2⟩
 ·rw [h1,aSj]
  refine (aN ((lO (ds:=xs.map mxD) rfl).trans h2)).trans ?_
  rw [aTr]
  have gs:=fun k=>aPe K c (ys:=xs) (by omega) hx k
  have iS:∀ (k:Nat) (hk:k < 4) (i:Int),i=(k:Int)->aF ixE (aD 3) (mC (.int i)) [some (.p (plD p)),some (.p (.list (xs.map mxD))),some (.p (.list (rs.map plD))),some (.o (.list ((List.range 4).map fun k=>frD (Sm k xs)))),some (.o (.list ((us').map plD))),q5,q6,q7]=.ok (.p (frD (Sm k xs))):=fun k hk i hi=>aO rfl rfl (ix4 (f:=fun k=>Sm k xs) rfl hk hi)
  have u1:bH (aF (eqE true) (aF ixE (aD 3) (mC (.int 0))) (aE aT (aB (mC (.int 1)) (aB (mC (.int 1)) aK)))) [some (.p (plD p)),some (.p (.list (xs.map mxD))),some (.p (.list (rs.map plD))),some (.o (.list ((List.range 4).map fun k=>frD (Sm k xs)))),some (.o (.list ((us').map plD))),q5,q6,q7]=.ok (!decide (Sm 0 xs=(1,1))):=eY (aO (iS 0 (by decide) 0 rfl) rfl (aIl (y:=(1,1))))
  have u2:bH (aF (eqE true) (aF ixE (aD 3) (mC (.int 1))) (aE aT (aB (aF ixE (aD 0) (mC (.int 0))) (aB (mC (.int 1)) aK)))) [some (.p (plD p)),some (.p (.list (xs.map mxD))),some (.p (.list (rs.map plD))),some (.o (.list ((List.range 4).map fun k=>frD (Sm k xs)))),some (.o (.list ((us').map plD))),q5,q6,q7]=.ok (!decide (Sm 1 xs=(p.1,1))):=eY (aO (iS 1 (by decide) 1 rfl) (lT (aO rfl rfl (fV p)) rfl) (aIl (y:=(p.1,1))))
  have u3:bH (aF (eqE true) (aF ixE (aD 3) (mC (.int 2))) (aE aT (aB (aF ixE (aD 0) (mC (.int 1))) (aB (mC (.int 1)) aK)))) [some (.p (plD p)),some (.p (.list (xs.map mxD))),some (.p (.list (rs.map plD))),some (.o (.list ((List.range 4).map fun k=>frD (Sm k xs)))),some (.o (.list ((us').map plD))),q5,q6,q7]=.ok (!decide (Sm 2 xs=(p.2.1,1))):=eY (aO (iS 2 (by decide) 2 rfl) (lT (aO rfl rfl (gC p)) rfl) (aIl (y:=(p.2.1,1))))
  by_cases y1:Sm 0 xs=(1,1)
  case neg =>
   rw [aQr y1] at u1
   rw [aQr (fun h=>y1 h.1),aSu]
   exact fA ((jI (aC0 u1)).trans rfl)
  rw [aQ3 y1] at u1
  by_cases y2:Sm 1 xs=(p.1,1)
  case neg =>
   rw [aQr y2] at u2
   rw [aQr (fun h=>y2 h.2.1),aSu]
   exact fA ((jI (oK u1 (aC0 u2))).trans rfl)
  rw [aQ3 y2] at u2
  by_cases y3:Sm 2 xs=(p.2.1,1)
  case neg =>
   rw [aQr y3] at u3
   rw [aQr (fun h=>y3 h.2.2),aSu]
   exact fA ((jI (oK u1 (oK u2 u3))).trans rfl)
  rw [aQ3 y3] at u3
  rw [aQ3 ⟨y1,y2,y3⟩,aSj]
  refine (aN ((kF (oK u1 (oK u2 u3))).trans rfl)).trans (gI ?_)
  have uu:=aEw K c (x:=Sm 3 xs) (y:=p.2.2) ((gs 3).mono (by decide)).fsz (hp.mono (by decide)).fsz
  have:=gB (m:=dY K c) (iS 3 (by decide) 3 rfl) (aO (f:=aD 0) (g:=mC (.int 2)) rfl rfl (iX p)) uu
  unfold mL
  rw [this]
  rfl
 ·rw [h1,aSu]
  exact fA ((lO (ds:=xs.map mxD) rfl).trans h2)
theorem sS{g:D->En->Option En}{f:En->Res Ev}{en e:En}{x:Ev}{d:D}(h1:f en=.ok x)(hx:x.c=.p d)(h2:g d en=some e):vZ g f en=some (.nx e):=by
 unfold vZ
 rw [h1]
 dsimp only
 rw [hx]
 dsimp only
 rw [h2]
theorem aK1{en:En}{fe:En->Res Ev}{i:Nat}{ds:List D}{k:Nat}(h1:en[i]? = some (some (.o (.list ds))))(h2:fe en=.ok (.p (.int (k:Int))))(hk:k < ds.length)(hl:ds.length<=100000):pB i fe en=some (.nx (en.set i (some (.o (.list (ds.eraseIdx k)))))):=by
 unfold pB
 rw [h1]
 dsimp only
 rw [h2]
 dsimp only
 rw [aQt ⟨by omega,by omega,hl⟩]
 rfl
theorem aFb{α β:Type}(f:α->β):∀ (xs:List α) (k:Nat),(xs.map f).eraseIdx k=(xs.eraseIdx k).map f
 | [],_=>rfl
 | _ :: _,0=>rfl
 | x :: xs,k+1=>by
  show f x :: (xs.map f).eraseIdx k=f x :: (xs.eraseIdx k).map f
  rw [aFb f xs k]
theorem gZ{tg:D->En->Option En}{f:MS}(P:Nat->En->Prop):∀ (ds:List D) (n:Nat) (en:En),P n en->(∀ d∈ds,∀ m en,m < n+ds.length->P m en->∃ e e',tg d en=some e/\f e=some (.nx e')/\P (m+1) e')->∃ e',gY tg f ds en=some (.nx e')/\P (n+ds.length) e'
 | [],n,en,h,_=>⟨en,rfl,h⟩
 | d :: ds,n,en,h,hs=>by
  obtain ⟨e,e',h1,h2,h3⟩:=hs d (.head _) n en (by rw [aQp];omega) h
  obtain ⟨e'',h4,h5⟩:=gZ P ds (n+1) e' h3 fun d hd m en hm=>hs d (.tail _ hd) m en (by rw [aQp];omega)
  refine ⟨e'',(u9 h1 h2).trans h4,?_⟩
  rw [aQp,show n+(ds.length+1)=n+1+ds.length by omega]
  exact h5
def fD(y:Pl×List Pt3):D:=.tuple [plD y.1,.list (y.2.map mxD)]
def SHr(s:Int×Int):Prop:=s=(1,2)\/s=(1,4)
structure FY(rs:List Pl)(p:Pl)(xs:List Pt3):Prop where
 a:p∈rs
 l:2<=xs.length
 u:xs.length<=3
 x:∀ x∈xs,x.2∈rs/\SHr x.1
theorem pI{rs:List Pl}{k:Nat}(hk:k < rs.length){x:Ev}(hx:jF x=some (rs.map plD)){i:Int}(hi:i=(k:Int)):ixE x (.p (.int i))=.ok (.p (plD (rs.getD k (0,0,0,1)))):=l9 (k:=k) (d:=(0,0,0,1)) (xs:=rs) (enc:=plD) hx hk hi
theorem getD_in{rs:List Pl}{k:Nat}(hk:k < rs.length):rs.getD k (0,0,0,1)∈rs:=by
 rw [show rs.getD k (0,0,0,1)=rs[k] by simp [List.getD,hk]]
 exact aSs hk
theorem pO{a:Int}{n:Nat}(h:0 < n):∃ k:Nat,k < n/\a.fmod (n:Int)=(k:Int):=by
 have hm:=b9 (a:=a) (b:=(n:Int)) (by omega)
 exact ⟨(a.fmod (n:Int)).toNat,by omega,by omega⟩
theorem aOr(p q:Pl):eqE false (.p (plD p)) (.p (plD q))=.ok (.p (.bool (decide (p=q)))):=by simp [eqE,dat,aLu,aK0]
theorem aBn{n:Nat}{d:D}(h:d∈mR 0 n):∃ k:Nat,k < n/\d=.int (k:Int):=by
 unfold mR at h
 obtain ⟨k,hk,rfl⟩:=aRk.mp h
 exact ⟨k,aRz.mp hk,by rw [Int.zero_add]⟩
theorem qZ(n:Nat):(mR 0 n).length=n:=by unfold mR;rw [aQm,aR5]
structure GS(rs:List Pl):Prop where
 n:rs≠[]
 l:rs.length<=10
 g:∀ p∈rs,Sz 100 p.1/\Sz 100 p.2.1/\Good 150 p.2.2
noncomputable def cK(K:aQk)(c:Cls):MS:=(eA (kN (bH (aF (eqE false) (aF cU (aD 1) (mC (.int 5))) (mC (.int 1)))) (kN (bH (aF (eqE false) (aD 10) (aF ixE (aF ixE (aD 9) (mC (.int 0))) (mC (.int 1))))) (bH (aF (eqE false) (aE g9 (aB (aD 9) aK)) (mC (.int 2)))))) (cJ 9 (aE fI (aB (aE aT (aB (aE aT (aB (mC (.int 1)) (aB (mC (.int 4)) aK))) (aB (aF ixE (aF ixE (aD 11) (mC (.int 0))) (mC (.int 1))) aK))) (aB (aE aT (aB (aE aT (aB (mC (.int 1)) (aB (mC (.int 4)) aK))) (aB (aF ixE (aF ixE (aD 11) (mC (.int 1))) (mC (.int 1))) aK))) (aB (aF ixE (aD 9) (mC (.int 1))) aK))))) bR)
noncomputable def dI(K:aQk)(c:Cls):MS:=(bC (cJ 6 (aF uU (aF fP (aF ixE (aF ixE (aD 0) (aD 4)) (mC (.int 0))) (aF ixE (aF ixE (aD 0) (aD 5)) (mC (.int 0)))) (aF g8 (mC (.int 2)) (aF ixE (aD 3) (mC (.int 0)))))) (bC (cJ 7 (aF uU (aF fP (aF ixE (aF ixE (aD 0) (aD 4)) (mC (.int 1))) (aF ixE (aF ixE (aD 0) (aD 5)) (mC (.int 1)))) (aF g8 (mC (.int 2)) (aF ixE (aD 3) (mC (.int 1)))))) (eA (kN (bH (aF (eqE false) (aD 6) (mC (.int 0)))) (bH (aF (eqE false) (aD 7) (mC (.int 0))))) (gU 2 (aE aT (aB (aD 3) (aB (aE fI (aB (aE aT (aB (aE aT (aB (mC (.int 1)) (aB (mC (.int 2)) aK))) (aB (aF ixE (aD 0) (aD 5)) aK))) (aB (aE aT (aB (aE aT (aB (mC (.int 1)) (aB (mC (.int 2)) aK))) (aB (aF ixE (aD 0) (aD 4)) aK))) aK))) aK)))) bR)))
noncomputable def eG:MS:=(tV (t8 lM (aB (aD 4) aK)) (aM 5) (dI K c))
noncomputable def dJ:MS:=(tV (t8 lM (aB (aE g9 (aB (aD 0) aK)) aK)) (aM 4) (eG K c))
noncomputable def fR:MS:=(bC (cJ 2 (aE fI aK)) (bC (tV (iE (aD 0)) (aM 3) (dJ K c)) (bC (eA (mOr (bH (aF (eqE false) (aD 2) (aE fI aK))) (bH (aF (eqE false) (aF cU (aD 1) (mC (.int 5))) (mC (.int 0))))) (bC (cJ 8 (aE g9 (aB (aD 0) aK))) (eX (aE aT (aB (aF ixE (aD 0) (aF cU (aD 1) (aD 8))) (aB (aE fI (aB (aE aT (aB (aE aT (aB (mC (.int 1)) (aB (mC (.int 2)) aK))) (aB (aF ixE (aD 0) (aF cU (aF b8 (aD 1) (mC (.int 5))) (aD 8))) aK))) (aB (aE aT (aB (aE aT (aB (mC (.int 1)) (aB (mC (.int 2)) aK))) (aB (aF ixE (aD 0) (aF cU (aF b8 (aD 1) (mC (.int 7))) (aD 8))) aK))) aK))) aK))))) bR) (bC (vZ (eS 2 (aZ (aM 3) (aZ (aM 9) eP))) (aF ixE (aD 2) (aF cU (aF b8 (aD 1) (mC (.int 5))) (aE g9 (aB (aD 2) aK))))) (fun en=>(bC (tV (iE (aD 2)) (eS 2 (aZ (aM 10) (aZ (aM 11) eP))) (cK K c)) (fun en=>(eX (aE aT (aB (aD 3) (aB (aD 9) aK)))) (frz 9 en))) (frz 2 en))))))
noncomputable def cM(ls:List L):Res L:=gS 12 (fR K c) ls
theorem mM:∀ ls,cM K c ls=.bad\/gS 12 (fR K c) ls=cM K c ls:=fun _=>.inr rfl
def FQ(rs:List Pl)(F:List (Pl×List Pt3)):Prop:=∀ y∈F,FY rs y.1 y.2
def I2(rs:List Pl)(cell:Int)(p:Pl)(k:Nat)(b n:Nat)(en:En):Prop:=∃ (F:List (Pl×List Pt3)) (r5 r6 r7:Option L),en=[some (.p (.list (rs.map plD))),some (.p (.int cell)),some (.o (.list ((F).map fD))),some (.p (plD p)),some (.p (.int (k:Int))),r5,r6,r7,none,none,none,none]/\FQ rs F/\F.length<=b+n
def I1(rs:List Pl)(cell:Int)(p:Pl)(b n:Nat)(en:En):Prop:=∃ (F:List (Pl×List Pt3)) (r4 r5 r6 r7:Option L),en=[some (.p (.list (rs.map plD))),some (.p (.int cell)),some (.o (.list ((F).map fD))),some (.p (plD p)),r4,r5,r6,r7,none,none,none,none]/\FQ rs F/\F.length<=b+n*10
def I0(rs:List Pl)(cell:Int)(n:Nat)(en:En):Prop:=∃ (F:List (Pl×List Pt3)) (r3 r4 r5 r6 r7:Option L),en=[some (.p (.list (rs.map plD))),some (.p (.int cell)),some (.o (.list ((F).map fD))),r3,r4,r5,r6,r7,none,none,none,none]/\FQ rs F/\F.length<=n*100
theorem aP7{rs:List Pl}(g:GS rs){cell:Int}{p:Pl}(hp:p∈rs){k l:Nat}(hk:k < rs.length)(hl:l < rs.length){F:List (Pl×List Pt3)}(hF:FQ rs F)(hz:F.length<=5000)(r6 r7:Option L):∃ F' q6 q7,(FQ rs F'/\F'.length<=F.length+1)/\dI K c [some (.p (.list (rs.map plD))),some (.p (.int cell)),some (.o (.list ((F).map fD))),some (.p (plD p)),some (.p (.int (k:Int))),some (.p (.int (l:Int))),r6,r7,none,none,none,none]=some (.nx [some (.p (.list (rs.map plD))),some (.p (.int cell)),some (.o (.list ((F').map fD))),some (.p (plD p)),some (.p (.int (k:Int))),some (.p (.int (l:Int))),q6,q7,none,none,none,none]):=by
 have ik:=pI hk (x:=.p (.list (rs.map plD))) rfl (i:=(k:Int)) rfl
 have il:=pI hl (x:=.p (.list (rs.map plD))) rfl (i:=(l:Int)) rfl
 have mk:=getD_in hk
 have ml:=getD_in hl
 generalize rs.getD k (0,0,0,1)=a at ik mk
 generalize rs.getD l (0,0,0,1)=b at il ml
 obtain ⟨s1,s2,_⟩:=g.g p hp
 have w1:CMulW 2 p.1:=⟨(show Sz 100 (2:Int) by unfold Sz;decide).mono (by decide),s1.mono (by decide)⟩
 have w2:CMulW 2 p.2.1:=⟨(show Sz 100 (2:Int) by unfold Sz;decide).mono (by decide),s2.mono (by decide)⟩
 have hb:∀ {o},(eA (kN (bH (aF (eqE false) (aD 6) (mC (.int 0)))) (bH (aF (eqE false) (aD 7) (mC (.int 0))))) (gU 2 (aE aT (aB (aD 3) (aB (aE fI (aB (aE aT (aB (aE aT (aB (mC (.int 1)) (aB (mC (.int 2)) aK))) (aB (aF ixE (aD 0) (aD 5)) aK))) (aB (aE aT (aB (aE aT (aB (mC (.int 1)) (aB (mC (.int 2)) aK))) (aB (aF ixE (aD 0) (aD 4)) aK))) aK))) aK)))) bR) [some (.p (.list (rs.map plD))),some (.p (.int cell)),some (.o (.list ((F).map fD))),some (.p (plD p)),some (.p (.int (k:Int))),some (.p (.int (l:Int))),some (.p (.int (a.1+b.1 - 2*p.1))),some (.p (.int (a.2.1+b.2.1 - 2*p.2.1))),none,none,none,none]=o->dI K c [some (.p (.list (rs.map plD))),some (.p (.int cell)),some (.o (.list ((F).map fD))),some (.p (plD p)),some (.p (.int (k:Int))),some (.p (.int (l:Int))),r6,r7,none,none,none,none]=o:=fun {o} h=>by
  unfold dI
  refine (aN (eF (d:=.int (a.1+b.1 - 2*p.1)) ?_)).trans ?_
  ·exact aO (aO (aO (aO rfl rfl ik) rfl (fV a)) (aO (aO rfl rfl il) rfl (fV b)) (gR _ _)) (aO rfl (aO rfl rfl (fV p)) (kC w1)) (pQ _ _)
  refine (aN (eF (d:=.int (a.2.1+b.2.1 - 2*p.2.1)) ?_)).trans h
  ·exact aO (aO (aO (aO rfl rfl ik) rfl (gC a)) (aO (aO rfl rfl il) rfl (gC b)) (gR _ _)) (aO rfl (aO rfl rfl (gC p)) (kC w2)) (pQ _ _)
 generalize a.1+b.1 - 2*p.1=i at hb
 generalize a.2.1+b.2.1 - 2*p.2.1=j at hb
 have t1:bH (aF (eqE false) (aD 6) (mC (.int 0))) [some (.p (.list (rs.map plD))),some (.p (.int cell)),some (.o (.list ((F).map fD))),some (.p (plD p)),some (.p (.int (k:Int))),some (.p (.int (l:Int))),some (.p (.int i)),some (.p (.int j)),none,none,none,none]=.ok (i == 0):=eY (aO rfl rfl mF)
 have t2:bH (aF (eqE false) (aD 7) (mC (.int 0))) [some (.p (.list (rs.map plD))),some (.p (.int cell)),some (.o (.list ((F).map fD))),some (.p (plD p)),some (.p (.int (k:Int))),some (.p (.int (l:Int))),some (.p (.int i)),some (.p (.int j)),none,none,none,none]=.ok (j == 0):=eY (aO rfl rfl mF)
 cases z1:(i == 0) with
 | false=>rw [z1] at t1;exact ⟨F,some (.p (.int i)),some (.p (.int j)),⟨hF,by omega⟩,hb (kF (aHz t1))⟩
 | true =>
  rw [z1] at t1
  cases z2:(j == 0) with
  | false=>rw [z2] at t2;exact ⟨F,some (.p (.int i)),some (.p (.int j)),⟨hF,by omega⟩,hb (kF (uI t1 t2))⟩
  | true =>
   rw [z2] at t2
   refine ⟨F++[(p,[((1,2),b),((1,2),a)])],some (.p (.int i)),some (.p (.int j)),⟨fun y hy=>?_,by rw [aQz];exact aQu _⟩,hb ((jI (uI t1 t2)).trans ?_)⟩
   ·rcases aSe.mp hy with hy | hy
    ·exact hF y hy
    ·rw [aQ1.mp hy]
     refine ⟨hp,aQu 2,aT5 2,fun x hx=>?_⟩
     rcases aQy.mp hx with rfl | hx
     ·exact ⟨ml,.inl rfl⟩
     ·rw [aQ1.mp hx]
      exact ⟨mk,.inl rfl⟩
   ·have u:=vW (i:=2) (f:=aE aT (aB (aD 3) (aB (aE fI (aB (aE aT (aB (aE aT (aB (mC (.int 1)) (aB (mC (.int 2)) aK))) (aB (aF ixE (aD 0) (aD 5)) aK))) (aB (aE aT (aB (aE aT (aB (mC (.int 1)) (aB (mC (.int 2)) aK))) (aB (aF ixE (aD 0) (aD 4)) aK))) aK))) aK))) (en:=[some (.p (.list (rs.map plD))),some (.p (.int cell)),some (.o (.list ((F).map fD))),some (.p (plD p)),some (.p (.int (k:Int))),some (.p (.int (l:Int))),some (.p (.int i)),some (.p (.int j)),none,none,none,none]) (ds:=F.map fD) (d:=fD (p,[((1,2),b),((1,2),a)])) rfl (N.lT (y:=.f (.list ([((1,2),b),((1,2),a)].map mxD))) rfl (jE (cI (lT rfl (aO rfl rfl il)) (cI (lT rfl (aO rfl rfl ik)) rfl)) rfl)) (by rw [aQm];omega)
    refine u.trans ?_
    rw [show F.map fD++[fD (p,[((1,2),b),((1,2),a)])]=(F++[(p,[((1,2),b),((1,2),a)])]).map fD by rw [aRn];rfl]
    rfl
theorem aQi{rs:List Pl}(g:GS rs){cell:Int}{p:Pl}(hp:p∈rs){k:Nat}(hk:k < rs.length)(b:Nat)(hb:b<=3000)(en:En)(h:I2 rs cell p k b 0 en):∃ e',eG K c en=some (.nx e')/\I2 rs cell p k b k e':=by
 have l10:=g.l
 obtain ⟨e',h1,h2⟩:=gZ (tg:=aM 5) (f:=dI K c) (I2 rs cell p k b) (mR 0 k) 0 en h fun d hd m en hm hI=>by
  rw [qZ] at hm
  obtain ⟨l,hl,rfl⟩:=aBn hd
  obtain ⟨F,r5,r6,r7,rfl,hF,hz⟩:=hI
  obtain ⟨F',q6,q7,⟨h1,h2⟩,h3⟩:=aP7 K c g (cell:=cell) hp hk (show l < rs.length by omega) hF (by omega) r6 r7
  exact ⟨_,_,rfl,h3,F',some (.p (.int (l:Int))),q6,q7,rfl,h1,by omega⟩
 rw [qZ,aR8] at h2
 refine ⟨e',?_,h2⟩
 obtain ⟨F,r5,r6,r7,rfl,hF,hz⟩:=h
 unfold eG
 have it:t8 lM (aB (aD 4) aK) [some (.p (.list (rs.map plD))),some (.p (.int cell)),some (.o (.list ((F).map fD))),some (.p (plD p)),some (.p (.int (k:Int))),r5,r6,r7,none,none,none,none]=.ok (mR 0 k):=itA (rs:=[.p (.int (k:Int))]) rfl (lD k (by omega))
 exact (lO it).trans h1
theorem aP3{rs:List Pl}(g:GS rs){cell:Int}{p:Pl}(hp:p∈rs)(b:Nat)(hb:b<=2000)(en:En)(h:I1 rs cell p b 0 en):∃ e',dJ K c en=some (.nx e')/\I1 rs cell p b rs.length e':=by
 have l10:=g.l
 obtain ⟨e',h1,h2⟩:=gZ (tg:=aM 4) (f:=eG K c) (I1 rs cell p b) (mR 0 rs.length) 0 en h fun d hd m en hm hI=>by
  rw [qZ] at hm
  obtain ⟨k,hk,rfl⟩:=aBn hd
  obtain ⟨F,r4,r5,r6,r7,rfl,hF,hz⟩:=hI
  obtain ⟨e',h3,F',q5,q6,q7,rfl,h4,h5⟩:=aQi K c g (cell:=cell) hp hk (b+m*10) (by omega) _ ⟨F,r5,r6,r7,rfl,hF,hz⟩
  exact ⟨_,_,rfl,h3,F',some (.p (.int (k:Int))),q5,q6,q7,rfl,h4,by omega⟩
 rw [qZ,aR8] at h2
 refine ⟨e',?_,h2⟩
 obtain ⟨F,r4,r5,r6,r7,rfl,hF,hz⟩:=h
 unfold dJ
 have ln:=sN (f:=aD 0) (en:=[some (.p (.list (rs.map plD))),some (.p (.int cell)),some (.o (.list ((F).map fD))),some (.p (plD p)),r4,r5,r6,r7,none,none,none,none]) (x:=.p (.list (rs.map plD))) rfl rfl
 rw [aQm] at ln
 exact (lO (itA (cI ln rfl) (lD rs.length (by omega)))).trans h1
theorem aQa{rs:List Pl}(g:GS rs){cell:Int}(en:En)(h:I0 rs cell 0 en):∃ e',gY (aM 3) (dJ K c) (rs.map plD) en=some (.nx e')/\I0 rs cell rs.length e':=by
 have l10:=g.l
 obtain ⟨e',h1,h2⟩:=gZ (tg:=aM 3) (f:=dJ K c) (I0 rs cell) (rs.map plD) 0 en h fun d hd m en hm hI=>by
  rw [aQm] at hm
  obtain ⟨p,hp,rfl⟩:=aRk.mp hd
  obtain ⟨F,r3,r4,r5,r6,r7,rfl,hF,hz⟩:=hI
  obtain ⟨e',h3,F',q4,q5,q6,q7,rfl,h4,h5⟩:=aP3 K c g (cell:=cell) hp (m*100) (by omega) _ ⟨F,r4,r5,r6,r7,rfl,hF,by omega⟩
  exact ⟨_,_,rfl,h3,F',some (.p (plD p)),q4,q5,q6,q7,rfl,h4,by omega⟩
 rw [aQm,aR8] at h2
 exact ⟨e',h1,h2⟩
theorem aP5{rs:List Pl}{cell:Int}{F:List (Pl×List Pt3)}{p:Pl}{y:Pl×List Pt3}(hy:FY rs y.1 y.2){xs:List Pt3}(hx:FY rs p xs){v9:L}(h9:v9=.p (.list (xs.map mxD))\/v9=.o (.list (xs.map mxD)))(r4 r5 r6 r7:Option L):∃ xs' v9',(FY rs p xs'/\(v9'=.p (.list (xs'.map mxD))\/v9'=.o (.list (xs'.map mxD))))/\cK K c [some (.p (.list (rs.map plD))),some (.p (.int cell)),some (.p (.list (F.map fD))),some (.p (plD p)),r4,r5,r6,r7,none,some v9,some (.p (plD y.1)),some (.p (.list (y.2.map mxD)))]=some (.nx [some (.p (.list (rs.map plD))),some (.p (.int cell)),some (.p (.list (F.map fD))),some (.p (plD p)),r4,r5,r6,r7,none,some v9',some (.p (plD y.1)),some (.p (.list (y.2.map mxD)))]):=by
 obtain ⟨y1,ys⟩:=y
 have l2:=hy.l
 have hx2:=hx.l
 match ys,xs,l2,hx2 with
 | a :: b :: ys,d :: e :: xs,_,_ =>
  obtain ⟨z9,e9,s9⟩:∃ z9:Ev,aD 9 [some (.p (.list (rs.map plD))),some (.p (.int cell)),some (.p (.list (F.map fD))),some (.p (plD p)),r4,r5,r6,r7,none,some v9,some (.p (plD y1)),some (.p (.list ((a :: b :: ys).map mxD)))]=.ok z9/\z9.c=z9/\jF z9=some ((d :: e :: xs).map mxD):=by
   rcases h9 with rfl | rfl
   ·exact ⟨_,rfl,rfl,rfl⟩
   ·exact ⟨_,rfl,rfl,rfl⟩
  have i0:ixE z9 (.p (.int 0))=.ok (.p (mxD d)):=by
   have:=l9 (x:=z9) (enc:=mxD) (xs:=d :: e :: xs) (d:=d) (k:=0) (i:=0) s9.2 (aTe _) rfl
   exact this
  have i1:ixE z9 (.p (.int 1))=.ok (.p (mxD e)):=by
   have:=l9 (x:=z9) (enc:=mxD) (xs:=d :: e :: xs) (d:=d) (k:=1) (i:=1) s9.2 (aWu (aTe _)) rfl
   exact this
  have ln:=sN (x:=z9) e9 (by rw [s9.1];exact s9.2)
  rw [aQm] at ln
  have m1:∀ z:Pt3,ixE (.p (mxD z)) (.p (.int 1))=.ok (.p (plD z.2)):=fun z=>rfl
  have t1:bH (aF (eqE false) (aF cU (aD 1) (mC (.int 5))) (mC (.int 1))) [some (.p (.list (rs.map plD))),some (.p (.int cell)),some (.p (.list (F.map fD))),some (.p (plD p)),r4,r5,r6,r7,none,some v9,some (.p (plD y1)),some (.p (.list ((a :: b :: ys).map mxD)))]=.ok (cell.fmod 5 == 1):=eY (aO (aO rfl rfl (dB (by decide))) rfl mF)
  have t2:bH (aF (eqE false) (aD 10) (aF ixE (aF ixE (aD 9) (mC (.int 0))) (mC (.int 1)))) [some (.p (.list (rs.map plD))),some (.p (.int cell)),some (.p (.list (F.map fD))),some (.p (plD p)),r4,r5,r6,r7,none,some v9,some (.p (plD y1)),some (.p (.list ((a :: b :: ys).map mxD)))]=.ok (decide (y1=d.2)):=eY (aO rfl (aO (x:=.p (mxD d)) (aO e9 rfl (by rw [s9.1];exact i0)) rfl (m1 d)) (aOr y1 d.2))
  have t3:bH (aF (eqE false) (aE g9 (aB (aD 9) aK)) (mC (.int 2))) [some (.p (.list (rs.map plD))),some (.p (.int cell)),some (.p (.list (F.map fD))),some (.p (plD p)),r4,r5,r6,r7,none,some v9,some (.p (plD y1)),some (.p (.list ((a :: b :: ys).map mxD)))]=.ok (((d :: e :: xs).length:Int) == 2):=eY (aO ln rfl mF)
  have no:(kN (bH (aF (eqE false) (aF cU (aD 1) (mC (.int 5))) (mC (.int 1)))) (kN (bH (aF (eqE false) (aD 10) (aF ixE (aF ixE (aD 9) (mC (.int 0))) (mC (.int 1))))) (bH (aF (eqE false) (aE g9 (aB (aD 9) aK)) (mC (.int 2)))))) [some (.p (.list (rs.map plD))),some (.p (.int cell)),some (.p (.list (F.map fD))),some (.p (plD p)),r4,r5,r6,r7,none,some v9,some (.p (plD y1)),some (.p (.list ((a :: b :: ys).map mxD)))]=.ok false->∃ xs' v9',(FY rs p xs'/\(v9'=.p (.list (xs'.map mxD))\/v9'=.o (.list (xs'.map mxD))))/\cK K c [some (.p (.list (rs.map plD))),some (.p (.int cell)),some (.p (.list (F.map fD))),some (.p (plD p)),r4,r5,r6,r7,none,some v9,some (.p (plD y1)),some (.p (.list ((a :: b :: ys).map mxD)))]=some (.nx [some (.p (.list (rs.map plD))),some (.p (.int cell)),some (.p (.list (F.map fD))),some (.p (plD p)),r4,r5,r6,r7,none,some v9',some (.p (plD y1)),some (.p (.list ((a :: b :: ys).map mxD)))]):=fun h=>⟨d :: e :: xs,v9,⟨hx,h9⟩,by unfold cK;exact kF h⟩
  cases z1:(cell.fmod 5 == 1) with
  | false=>rw [z1] at t1;exact no (aHz t1)
  | true =>
  rw [z1] at t1
  by_cases z2:y1=d.2
  case neg=>rw [aQr z2] at t2;exact no (uI t1 (aHz t2))
  rw [aQ3 z2] at t2
  cases z3:(((d :: e :: xs).length:Int) == 2) with
  | false=>rw [z3] at t3;exact no (uI t1 (uI t2 t3))
  | true =>
  rw [z3] at t3
  refine ⟨[((1,4),a.2),((1,4),b.2),e],.o (.list ([((1,4),a.2),((1,4),b.2),e].map mxD)),⟨⟨hx.a,aT5 2,aQu 3,fun x h=>?_⟩,.inr rfl⟩,?_⟩
  ·rcases aQy.mp h with rfl | h
   ·exact ⟨(hy.x a (.head _)).1,.inr rfl⟩
   ·rcases aQy.mp h with rfl | h
    ·exact ⟨(hy.x b (.tail _ (.head _))).1,.inr rfl⟩
    ·rw [aQ1.mp h]
     exact hx.x e (.tail _ (.head _))
  ·unfold cK
   have o0:ixE (.p (.list ((a :: b :: ys).map mxD))) (.p (.int 0))=.ok (.p (mxD a)):=l9 (enc:=mxD) (xs:=a :: b :: ys) (d:=d) (k:=0) (i:=0) rfl (aTe _) rfl
   have o1:ixE (.p (.list ((a :: b :: ys).map mxD))) (.p (.int 1))=.ok (.p (mxD b)):=l9 (enc:=mxD) (xs:=a :: b :: ys) (d:=d) (k:=1) (i:=1) rfl (aWu (aTe _)) rfl
   refine (jI (uI t1 (uI t2 t3))).trans ((iV (d:=.list ([((1,4),a.2),((1,4),b.2),e].map mxD)) ?_).trans rfl)
   exact jE (cI (lT rfl (aO (aO rfl rfl o0) rfl (m1 a))) (cI (lT rfl (aO (aO rfl rfl o1) rfl (m1 b))) (cI (x:=.p (mxD e)) (aO e9 rfl (by rw [s9.1];exact i1)) rfl))) rfl
theorem aKn(x:Pt3):PyData.canLay0 (mxD x)=true:=by simp [mxD,plD,frD,PyData.canLay0,PyData.canLayAll0]
theorem aLj(x:Pt3):PyData.depth (mxD x)<=4:=by simp [mxD,plD,frD,PyData.depth,PyData.depthAll]
theorem aP2{rs:List Pl}{F:List (Pl×List Pt3)}(hF:FQ rs F):SeqAt.shaped (.list (F.map fD))=true:=aCs fD (fun y=>by simp [fD,PyData.canLay0,PyData.canLayAll0,uG mxD aKn,plD,frD]) (fun y=>by
 have:=uK mxD 4 aLj y.2
 simp [fD,PyData.depth,PyData.depthAll,plD,frD]
 omega) F
theorem aN1{rs:List Pl}(g:GS rs)(cell:Int):∃ p xs,FY rs p xs/\cM K c [.p (.list (rs.map plD)),.p (.int cell)]=.ok (.p (fD (p,xs))):=by
 have l10:=g.l
 have l0:0 < rs.length:=aV0.mpr g.n
 obtain ⟨e',h1,F,r3,r4,r5,r6,r7,rfl,hF,hz⟩:=aQa K c g (cell:=cell) _ ⟨[],none,none,none,none,none,rfl,(fun _ h=>nomatch h),aRj _⟩
 have st:cW 12 [.p (.list (rs.map plD)),.p (.int cell)]=[some (.p (.list (rs.map plD))),some (.p (.int cell)),none,none,none,none,none,none,none,none,none,none]:=rfl
 have d5:b8 (.p (.int cell)) (.p (.int 5))=.ok (.p (.int (cell.fdiv 5))):=gL (cdl (by decide) (by decide))
 have d7:b8 (.p (.int cell)) (.p (.int 7))=.ok (.p (.int (cell.fdiv 7))):=gL (cdl (by decide) (by decide))
 have run:∀ {o},(bC (eA (mOr (bH (aF (eqE false) (aD 2) (aE fI aK))) (bH (aF (eqE false) (aF cU (aD 1) (mC (.int 5))) (mC (.int 0))))) (bC (cJ 8 (aE g9 (aB (aD 0) aK))) (eX (aE aT (aB (aF ixE (aD 0) (aF cU (aD 1) (aD 8))) (aB (aE fI (aB (aE aT (aB (aE aT (aB (mC (.int 1)) (aB (mC (.int 2)) aK))) (aB (aF ixE (aD 0) (aF cU (aF b8 (aD 1) (mC (.int 5))) (aD 8))) aK))) (aB (aE aT (aB (aE aT (aB (mC (.int 1)) (aB (mC (.int 2)) aK))) (aB (aF ixE (aD 0) (aF cU (aF b8 (aD 1) (mC (.int 7))) (aD 8))) aK))) aK))) aK))))) bR) (bC (vZ (eS 2 (aZ (aM 3) (aZ (aM 9) eP))) (aF ixE (aD 2) (aF cU (aF b8 (aD 1) (mC (.int 5))) (aE g9 (aB (aD 2) aK))))) (fun en=>(bC (tV (iE (aD 2)) (eS 2 (aZ (aM 10) (aZ (aM 11) eP))) (cK K c)) (fun en=>(eX (aE aT (aB (aD 3) (aB (aD 9) aK)))) (frz 9 en))) (frz 2 en)))) [some (.p (.list (rs.map plD))),some (.p (.int cell)),some (.o (.list ((F).map fD))),r3,r4,r5,r6,r7,none,none,none,none]=some (.rt o)->cM K c [.p (.list (rs.map plD)),.p (.int cell)]=.ok o:=fun {o} h=>by
  unfold cM
  refine eC ?_
  rw [st]
  unfold fR
  refine (aN (iV (d:=.list []) rfl)).trans ?_
  exact (aN ((lO (ds:=rs.map plD) rfl).trans h1)).trans h
 have t1:bH (aF (eqE false) (aD 2) (aE fI aK)) [some (.p (.list (rs.map plD))),some (.p (.int cell)),some (.o (.list ((F).map fD))),r3,r4,r5,r6,r7,none,none,none,none]=.ok F.isEmpty:=by
  refine eY (aO (x:=.b (.list (F.map fD))) (y:=.f (.list [])) rfl rfl ?_)
  show eqE false (.b (.list (F.map fD))) (.p (.list []))=_
  unfold eqE
  dsimp only [dat]
  rw [aQt ⟨aP2 hF,rfl⟩]
  cases F<;>rfl
 have t2:bH (aF (eqE false) (aF cU (aD 1) (mC (.int 5))) (mC (.int 0))) [some (.p (.list (rs.map plD))),some (.p (.int cell)),some (.o (.list ((F).map fD))),r3,r4,r5,r6,r7,none,none,none,none]=.ok (cell.fmod 5 == 0):=eY (aO (aO rfl rfl (dB (by decide))) rfl mF)
 by_cases z:F.isEmpty=true\/(cell.fmod 5 == 0)=true
 ·have tt:mOr (bH (aF (eqE false) (aD 2) (aE fI aK))) (bH (aF (eqE false) (aF cU (aD 1) (mC (.int 5))) (mC (.int 0)))) [some (.p (.list (rs.map plD))),some (.p (.int cell)),some (.o (.list ((F).map fD))),r3,r4,r5,r6,r7,none,none,none,none]=.ok true:=by
   cases z1:F.isEmpty with
   | true=>rw [z1] at t1;exact aC0 t1
   | false =>
    rw [z1] at t1 z
    rw [z.resolve_left aRd] at t2
    exact oK t1 t2
  obtain ⟨k1,b1,m1⟩:=pO (a:=cell) l0
  obtain ⟨k2,b2,m2⟩:=pO (a:=cell.fdiv 5) l0
  obtain ⟨k3,b3,m3⟩:=pO (a:=cell.fdiv 7) l0
  have nz:((rs.length:Nat):Int)≠0:=by omega
  have q1:=dB (i:=cell) (j:=((rs.length:Nat):Int)) nz
  have q2:=dB (i:=cell.fdiv 5) (j:=((rs.length:Nat):Int)) nz
  have q3:=dB (i:=cell.fdiv 7) (j:=((rs.length:Nat):Int)) nz
  rw [m1] at q1
  rw [m2] at q2
  rw [m3] at q3
  have i1:=pI b1 (x:=.p (.list (rs.map plD))) rfl (i:=(k1:Int)) rfl
  have i2:=pI b2 (x:=.p (.list (rs.map plD))) rfl (i:=(k2:Int)) rfl
  have i3:=pI b3 (x:=.p (.list (rs.map plD))) rfl (i:=(k3:Int)) rfl
  have n1:=getD_in b1
  have n2:=getD_in b2
  have n3:=getD_in b3
  generalize rs.getD k1 (0,0,0,1)=A1 at i1 n1
  generalize rs.getD k2 (0,0,0,1)=A2 at i2 n2
  generalize rs.getD k3 (0,0,0,1)=A3 at i3 n3
  refine ⟨A1,[((1,2),A2),((1,2),A3)],⟨n1,aQu 2,aT5 2,fun x hx=>?_⟩,run ?_⟩
  ·rcases aQy.mp hx with rfl | hx
   ·exact ⟨n2,.inl rfl⟩
   ·rw [aQ1.mp hx]
    exact ⟨n3,.inl rfl⟩
  ·have ln:=sN (f:=aD 0) (en:=[some (.p (.list (rs.map plD))),some (.p (.int cell)),some (.o (.list ((F).map fD))),r3,r4,r5,r6,r7,none,none,none,none]) (x:=.p (.list (rs.map plD))) rfl rfl
   rw [aQm] at ln
   refine fA ((jI tt).trans ?_)
   refine (aN (eF ln)).trans (gI ?_)
   exact N.lT (y:=.f (.list ([((1,2),A2),((1,2),A3)].map mxD))) (aO rfl (aO rfl rfl q1) i1) (jE (cI (lT rfl (aO rfl (aO (aO rfl rfl d5) rfl q2) i2)) (cI (lT rfl (aO rfl (aO (aO rfl rfl d7) rfl q3) i3)) rfl)) rfl)
 ·have z1:F.isEmpty=false:=by
   cases y:F.isEmpty with
   | true=>exact absurd (.inl y) z
   | false=>rfl
  have z2:(cell.fmod 5 == 0)=false:=by
   cases y:(cell.fmod 5 == 0) with
   | true=>exact absurd (.inr y) z
   | false=>rfl
  rw [z1] at t1
  rw [z2] at t2
  have f0:0 < F.length:=aV0.mpr fun h=>by rw [h] at z1;cases z1
  obtain ⟨k,bk,mk⟩:=pO (a:=cell.fdiv 5) f0
  have q:=dB (i:=cell.fdiv 5) (j:=((F.length:Nat):Int)) (by omega)
  rw [mk] at q
  have ln:=sN (f:=aD 2) (en:=[some (.p (.list (rs.map plD))),some (.p (.int cell)),some (.o (.list ((F).map fD))),r3,r4,r5,r6,r7,none,none,none,none]) (x:=.b (.list (F.map fD))) rfl rfl
  rw [aQm] at ln
  have ix:ixE (.b (.list (F.map fD))) (.p (.int (k:Int)))=.ok (.p (fD (F.getD k ((0,0,0,1),[])))):=l9 (k:=k) (d:=((0,0,0,1),[])) (xs:=F) (enc:=fD) rfl bk rfl
  have hy:F.getD k ((0,0,0,1),[])∈F:=by
   rw [show F.getD k ((0,0,0,1),[])=F[k] by simp [List.getD,bk]]
   exact aSs bk
  generalize F.getD k ((0,0,0,1),[])=y at ix hy
  obtain ⟨p,ys⟩:=y
  have fy:=hF _ hy
  obtain ⟨e',h3,xs,v9,q10,q11,hx,h9,he⟩:=gZ (tg:=eS 2 (aZ (aM 10) (aZ (aM 11) eP))) (f:=cK K c) (fun _ en=>∃ xs v9 q10 q11,FY rs p xs/\(v9=.p (.list (xs.map mxD))\/v9=.o (.list (xs.map mxD)))/\en=[some (.p (.list (rs.map plD))),some (.p (.int cell)),some (.p (.list (F.map fD))),some (.p (plD p)),r4,r5,r6,r7,none,some v9,q10,q11]) (F.map fD) 0 [some (.p (.list (rs.map plD))),some (.p (.int cell)),some (.p (.list (F.map fD))),some (.p (plD p)),r4,r5,r6,r7,none,some (.p (.list (ys.map mxD))),none,none] ⟨ys,_,none,none,fy,.inl rfl,rfl⟩ fun d hd m en hm hI=>by
   obtain ⟨y,hy,rfl⟩:=aRk.mp hd
   obtain ⟨xs,v9,q10,q11,hx,h9,rfl⟩:=hI
   obtain ⟨xs',v9',⟨g1,g2⟩,g3⟩:=aP5 K c (cell:=cell) (F:=F) (hF y hy) hx h9 r4 r5 r6 r7
   exact ⟨_,_,rfl,g3,xs',v9',_,_,g1,g2,rfl⟩
  subst he
  refine ⟨p,xs,hx,run ?_⟩
  refine (aN ((kF (aO4 t1 t2)).trans rfl)).trans ?_
  refine (aN (sS (aO rfl (aO (aO rfl rfl d5) ln q) ix) rfl rfl)).trans ?_
  refine fO (i:=2) (e1:=[some (.p (.list (rs.map plD))),some (.p (.int cell)),some (.p (.list (F.map fD))),some (.p (plD p)),r4,r5,r6,r7,none,some (.p (.list (ys.map mxD))),none,none]) rfl ?_
  refine (aN ((lO (ds:=F.map fD) rfl).trans h3)).trans ?_
  refine fO (i:=9) (e1:=[some (.p (.list (rs.map plD))),some (.p (.int cell)),some (.p (.list (F.map fD))),some (.p (plD p)),r4,r5,r6,r7,none,some (.p (.list (xs.map mxD))),q10,q11]) (by rcases h9 with rfl | rfl<;>rfl) ?_
  exact gI rfl
theorem aFm(ds es:List D)(h:ds.length+es.length<=100000):fP (.p (.list ds)) (.p (.list es))=.ok (.f (.list (ds++es))):=aQt h
structure GP(q:Pl):Prop where
 i:Sz 100 q.1
 j:Sz 100 q.2.1
 h:Good 200 q.2.2
theorem GP.gx{q:Pl}(g:GP q){s:Int×Int}(h:Good 60 s):GX (s,q):=⟨h,g.i,g.j,g.h⟩
theorem GX.gp{x:Pt3}(g:GX x):GP x.2:=⟨g.i,g.j,g.h⟩
theorem GS.gp{rs:List Pl}(g:GS rs){q:Pl}(h:q∈rs):GP q:=let ⟨a,b,d⟩:=g.g q h;⟨a,b,d.mono (by decide)⟩
theorem SHr.g{s:Int×Int}(h:SHr s):Good 60 s:=by
 rcases h with rfl | rfl
 ·exact ⟨by decide,(show Sz 60 (1:Int) by unfold Sz;decide),(show Sz 60 (2:Int) by unfold Sz;decide)⟩
 ·exact ⟨by decide,(show Sz 60 (1:Int) by unfold Sz;decide),(show Sz 60 (4:Int) by unfold Sz;decide)⟩
theorem FY.gx{rs:List Pl}(g:GS rs){p:Pl}{xs:List Pt3}(f:FY rs p xs):∀ x∈xs,GX x:=fun x hx=>(g.gp (f.x x hx).1).gx (f.x x hx).2.g
noncomputable def d9(K:aQk)(c:Cls):En->Res Ev:=(aE aT (aB (aE aT (aB (mC (.int 1)) (aB (mC (.int 4)) aK))) (aB (aF ixE (aD 0) (mC (.int 1))) aK)))
noncomputable def dO:MS:=(bC (cJ 5 (aF cU (aD 4) (aE g9 (aB (aD 2) aK)))) (bC (cJ 6 (aE listE (aB (aD 2) aK))) (bC (vZ (eS 2 (aZ (aM 7) (aZ (aM 8) eP))) (aF ixE (aD 6) (aD 5))) (bC (cJ 9 (aF cU (aD 3) (mC (.int 10)))) (bC (eA (bH (aF (eqE false) (aD 9) (mC (.int 0)))) (lX 6 (aD 5) (aE aT (aB (aV 2 (bI K c) (aB (aF fP (aF uU (aF g8 (aF ixE (aD 7) (mC (.int 0))) (mC (.int 2))) (mC (.int 1))) (aF cU (aD 4) (mC (.int 3)))) (aB (aF fP (aF ixE (aD 7) (mC (.int 1))) (mC (.int 1))) aK))) (aB (aD 8) aK)))) bR) (bC (eA (bH (aF (eqE false) (aD 9) (mC (.int 1)))) (lX 6 (aD 5) (aE aT (aB (aD 7) (aB (aF ixE (aD 0) (aF cU (aF b8 (aD 4) (mC (.int 3))) (aE g9 (aB (aD 0) aK)))) aK)))) bR) (bC (eA (bH (aF (eqE false) (aD 9) (mC (.int 2)))) (lX 6 (aD 5) (aE aT (aB (aD 7) (aB (aD 1) aK)))) bR) (bC (eA (bH (aF (eqE false) (aD 9) (mC (.int 3)))) (gU 6 (aF ixE (aD 6) (aD 5))) bR) (bC (eA (bH (aF (eqE false) (aD 9) (mC (.int 4)))) (pB 6 (aD 5)) bR) (bC (eA (bH (aF (eqE false) (aD 9) (mC (.int 5)))) (cJ 6 (aE fI aK)) bR) (bC (eA (bH (aF (eqE false) (aD 9) (mC (.int 6)))) (lX 6 (aD 5) (aE aT (aB (aE aT (aB (aF g8 (mUn rO (mC (.int 1))) (aF cU (aD 4) (mC (.int 2)))) (aB (mC (.int 1)) aK))) (aB (aD 8) aK)))) bR) (bC (eA (bH (aF (eqE false) (aD 9) (mC (.int 7)))) (cJ 6 (aF fP (fQ 1 [] (iE (mSl (aD 6) aMp (mPt (mC (.int 2))))) (aM 0) hV (d9 K c)) (aE fI (aB (aE aT (aB (aE aT (aB (mC (.int 1)) (aB (mC (.int 2)) aK))) (aB (aF ixE (aD 0) (aF cU (aF b8 (aD 4) (mC (.int 3))) (aE g9 (aB (aD 0) aK)))) aK))) aK)))) bR) (bC (eA (bH (aF (eqE false) (aD 9) (mC (.int 8)))) (cJ 6 (mUn aMq (aD 6))) bR) (bC (eA (bH (aF (eqE false) (aD 9) (mC (.int 9)))) (cJ 1 (aE aT (aB (aF ixE (aD 1) (mC (.int 0))) (aB (aF ixE (aD 1) (mC (.int 1))) (aB (aV 2 (bK K c) (aB (aF ixE (aD 1) (mC (.int 2))) (aB (aE aT (aB (aF uU (aF cU (aD 4) (mC (.int 3))) (mC (.int 1))) (aB (aF fP (mC (.int 1)) (aF cU (aF b8 (aD 4) (mC (.int 3))) (mC (.int 9)))) aK))) aK))) aK))))) bR) (fun en=>(eX (aE aT (aB (aD 1) (aB (aD 6) aK)))) (frz 6 en))))))))))))))))
noncomputable def bA(ls:List L):Res L:=gS 10 (dO K c) ls
theorem jK:∀ ls,bA K c ls=.bad\/gS 10 (dO K c) ls=bA K c ls:=fun _=>.inr rfl
theorem aM4{rs:List Pl}(g:GS rs){p:Pl}{xs:List Pt3}(f:FY rs p xs)(cell other:Int):∃ p' xs',GP p'/\(∀ x∈xs',GX x)/\xs'.length<=10/\bA K c [.p (.list (rs.map plD)),.p (plD p),.p (.list (xs.map mxD)),.p (.int cell),.p (.int other)]=.ok (.p (fD (p',xs'))):=by
 have gx:=f.gx g
 have gp:=g.gp f.a
 have xl:=f.l
 have xu:=f.u
 have l0:0 < rs.length:=aV0.mpr g.n
 have r10:=b9 (a:=cell) (b:=10) (by decide)
 have o3:=b9 (a:=other) (b:=3) (by decide)
 have o2:=b9 (a:=other) (b:=2) (by decide)
 obtain ⟨k,hk,mk⟩:=pO (a:=other) (show 0 < xs.length by omega)
 have md:=dB (i:=other) (j:=((xs.length:Nat):Int)) (by omega)
 rw [mk] at md
 have d3:b8 (.p (.int other)) (.p (.int 3))=.ok (.p (.int (other.fdiv 3))):=gL (cdl (by decide) (by decide))
 have o9:=b9 (a:=other.fdiv 3) (b:=9) (by decide)
 obtain ⟨k2,hk2,mk2⟩:=pO (a:=other.fdiv 3) l0
 have md2:=dB (i:=other.fdiv 3) (j:=((rs.length:Nat):Int)) (by omega)
 rw [mk2] at md2
 have i2:=pI hk2 (x:=.p (.list (rs.map plD))) rfl (i:=(k2:Int)) rfl
 have gq:=g.gp (getD_in hk2)
 generalize rs.getD k2 (0,0,0,1)=q at i2 gq
 have ix:ixE (.b (.list (xs.map mxD))) (.p (.int (k:Int)))=.ok (.p (mxD (xs.getD k ((0,1),(0,0,0,1))))):=l9 (k:=k) (d:=((0,1),(0,0,0,1))) (xs:=xs) (enc:=mxD) rfl hk rfl
 have hy:xs.getD k ((0,1),(0,0,0,1))∈xs:=by
  rw [show xs.getD k ((0,1),(0,0,0,1))=xs[k] by simp [List.getD,hk]]
  exact aSs hk
 generalize xs.getD k ((0,1),(0,0,0,1))=y at ix hy
 have gy:=gx y hy
 have sy:=(f.x y hy).2
 generalize hr:cell.fmod 10=r at *
 have st:cW 10 [.p (.list (rs.map plD)),.p (plD p),.p (.list (xs.map mxD)),.p (.int cell),.p (.int other)]=[some (.p (.list (rs.map plD))),some (.p (plD p)),some (.p (.list (xs.map mxD))),some (.p (.int cell)),some (.p (.int other)),none,none,none,none,none]:=rfl
 have ln:=sN (f:=aD 2) (en:=[some (.p (.list (rs.map plD))),some (.p (plD p)),some (.p (.list (xs.map mxD))),some (.p (.int cell)),some (.p (.int other)),none,none,none,none,none]) (x:=.p (.list (xs.map mxD))) rfl rfl
 rw [aQm] at ln
 have lr:∀ p' d,aE g9 (aB (aD 0) aK) [some (.p (.list (rs.map plD))),some (.p p'),some (.p (.list (xs.map mxD))),some (.p (.int cell)),some (.p (.int other)),some (.p (.int (k:Int))),some (.o d),some (.p (frD y.1)),some (.p (plD y.2)),some (.p (.int r))]=.ok (.p (.int (rs.length:Nat))):=fun p' d=>by
  rw [sN (f:=aD 0) (x:=.p (.list (rs.map plD))) (ds:=rs.map plD) rfl rfl,aQm]
 have go:∀ p' xs',GP p'->(∀ x∈xs',GX x)->xs'.length<=10->(bC (eA (bH (aF (eqE false) (aD 9) (mC (.int 0)))) (lX 6 (aD 5) (aE aT (aB (aV 2 (bI K c) (aB (aF fP (aF uU (aF g8 (aF ixE (aD 7) (mC (.int 0))) (mC (.int 2))) (mC (.int 1))) (aF cU (aD 4) (mC (.int 3)))) (aB (aF fP (aF ixE (aD 7) (mC (.int 1))) (mC (.int 1))) aK))) (aB (aD 8) aK)))) bR) (bC (eA (bH (aF (eqE false) (aD 9) (mC (.int 1)))) (lX 6 (aD 5) (aE aT (aB (aD 7) (aB (aF ixE (aD 0) (aF cU (aF b8 (aD 4) (mC (.int 3))) (aE g9 (aB (aD 0) aK)))) aK)))) bR) (bC (eA (bH (aF (eqE false) (aD 9) (mC (.int 2)))) (lX 6 (aD 5) (aE aT (aB (aD 7) (aB (aD 1) aK)))) bR) (bC (eA (bH (aF (eqE false) (aD 9) (mC (.int 3)))) (gU 6 (aF ixE (aD 6) (aD 5))) bR) (bC (eA (bH (aF (eqE false) (aD 9) (mC (.int 4)))) (pB 6 (aD 5)) bR) (bC (eA (bH (aF (eqE false) (aD 9) (mC (.int 5)))) (cJ 6 (aE fI aK)) bR) (bC (eA (bH (aF (eqE false) (aD 9) (mC (.int 6)))) (lX 6 (aD 5) (aE aT (aB (aE aT (aB (aF g8 (mUn rO (mC (.int 1))) (aF cU (aD 4) (mC (.int 2)))) (aB (mC (.int 1)) aK))) (aB (aD 8) aK)))) bR) (bC (eA (bH (aF (eqE false) (aD 9) (mC (.int 7)))) (cJ 6 (aF fP (fQ 1 [] (iE (mSl (aD 6) aMp (mPt (mC (.int 2))))) (aM 0) hV (d9 K c)) (aE fI (aB (aE aT (aB (aE aT (aB (mC (.int 1)) (aB (mC (.int 2)) aK))) (aB (aF ixE (aD 0) (aF cU (aF b8 (aD 4) (mC (.int 3))) (aE g9 (aB (aD 0) aK)))) aK))) aK)))) bR) (bC (eA (bH (aF (eqE false) (aD 9) (mC (.int 8)))) (cJ 6 (mUn aMq (aD 6))) bR) (bC (eA (bH (aF (eqE false) (aD 9) (mC (.int 9)))) (cJ 1 (aE aT (aB (aF ixE (aD 1) (mC (.int 0))) (aB (aF ixE (aD 1) (mC (.int 1))) (aB (aV 2 (bK K c) (aB (aF ixE (aD 1) (mC (.int 2))) (aB (aE aT (aB (aF uU (aF cU (aD 4) (mC (.int 3))) (mC (.int 1))) (aB (aF fP (mC (.int 1)) (aF cU (aF b8 (aD 4) (mC (.int 3))) (mC (.int 9)))) aK))) aK))) aK))))) bR) (fun en=>(eX (aE aT (aB (aD 1) (aB (aD 6) aK)))) (frz 6 en)))))))))))) [some (.p (.list (rs.map plD))),some (.p (plD p)),some (.p (.list (xs.map mxD))),some (.p (.int cell)),some (.p (.int other)),some (.p (.int (k:Int))),some (.o (.list ((xs).map mxD))),some (.p (frD y.1)),some (.p (plD y.2)),some (.p (.int r))]=some (.rt (.p (fD (p',xs'))))->∃ p' xs',GP p'/\(∀ x∈xs',GX x)/\xs'.length<=10/\bA K c [.p (.list (rs.map plD)),.p (plD p),.p (.list (xs.map mxD)),.p (.int cell),.p (.int other)]=.ok (.p (fD (p',xs'))):=fun p' xs' h1 h2 h3 e=>by
  refine ⟨p',xs',h1,h2,h3,?_⟩
  unfold bA
  refine eC ?_
  rw [st]
  unfold dO
  refine (aN (eF (aO rfl ln md))).trans ?_
  refine (aN (iV (d:=.list (xs.map mxD)) rfl)).trans ?_
  refine (aN (sS (aO rfl rfl ix) rfl rfl)).trans ?_
  refine (aN (eF (d:=.int r) ?_)).trans e
  rw [<- hr]
  exact aO rfl rfl (dB (by decide))
 have tj:∀ {en:En} {j:Int},en[9]? = some (some (.p (.int r)))->bH (aF (eqE false) (aD 9) (mC (.int j))) en=.ok (r == j):=fun {en j} h=>eY (aO (show aD 9 en=.ok (.p (.int r)) by simp only [aD,h]) rfl mF)
 have no:∀ {f:MS} {en:En} {j:Int},en[9]? = some (some (.p (.int r)))->r≠j->eA (bH (aF (eqE false) (aD 9) (mC (.int j)))) f bR en=some (.nx en):=fun {f en j} h n=>by
  have t:=tj (j:=j) h
  rw [show (r == j)=false from aVv n] at t
  exact kF t
 have yes:∀ {f:MS} {en:En} {j:Int},en[9]? = some (some (.p (.int r)))->r=j->eA (bH (aF (eqE false) (aD 9) (mC (.int j)))) f bR en=f en:=fun {f en j} h n=>by
  have t:=tj (j:=j) h
  rw [n,aWv] at t
  exact jI t
 have stl:∀ z:Pt3,(xs.map mxD).set k (mxD z)=(xs.set k z).map mxD:=fun z=>by rw [List.map_set]
 have put:∀ z:Pt3,GX z->(∀ x∈xs.set k z,GX x)/\(xs.set k z).length<=10:=fun z gz=>⟨fun x hx=>(List.mem_or_eq_of_mem_set hx).elim (gx x) fun e=>e▸gz,by rw [aTl];omega⟩
 have lp:∀ z:Pt3,GX z->∀ fe:En->Res Ev,fe [some (.p (.list (rs.map plD))),some (.p (plD p)),some (.p (.list (xs.map mxD))),some (.p (.int cell)),some (.p (.int other)),some (.p (.int (k:Int))),some (.o (.list ((xs).map mxD))),some (.p (frD y.1)),some (.p (plD y.2)),some (.p (.int r))]=.ok (.p (mxD z))->lX 6 (aD 5) fe [some (.p (.list (rs.map plD))),some (.p (plD p)),some (.p (.list (xs.map mxD))),some (.p (.int cell)),some (.p (.int other)),some (.p (.int (k:Int))),some (.o (.list ((xs).map mxD))),some (.p (frD y.1)),some (.p (plD y.2)),some (.p (.int r))]=some (.nx [some (.p (.list (rs.map plD))),some (.p (plD p)),some (.p (.list (xs.map mxD))),some (.p (.int cell)),some (.p (.int other)),some (.p (.int (k:Int))),some (.o (.list ((xs.set k z).map mxD))),some (.p (frD y.1)),some (.p (plD y.2)),some (.p (.int r))]):=fun z gz fe h=>by
  have:=aHx (i:=6) (k:=k) (ds:=xs.map mxD) (d:=mxD z) (f:=aD 5) (g:=fe) (en:=[some (.p (.list (rs.map plD))),some (.p (plD p)),some (.p (.list (xs.map mxD))),some (.p (.int cell)),some (.p (.int other)),some (.p (.int (k:Int))),some (.o (.list ((xs).map mxD))),some (.p (frD y.1)),some (.p (plD y.2)),some (.p (.int r))]) rfl rfl h (by rw [aQm];exact hk)
  rw [stl] at this
  exact this
 have way:r=0\/r=1\/r=2\/r=3\/r=4\/r=5\/r=6\/r=7\/r=8\/r=9:=by omega
 rcases way with z | z | z | z | z | z | z | z | z | z
 ·have y2:y.1.2+1≠0/\Sz 10 (y.1.2+1)/\Sz 10 (y.1.1*2 - 1+other.fmod 3)/\Sz 10 y.1.1:=by
   rcases sy with e | e<;>rw [e]<;>refine ⟨by decide,by unfold Sz;decide,?_,by unfold Sz;decide⟩<;>unfold Sz<;>dsimp only<;>omega
  have lw:=l8 K c (t:=y.1.1*2 - 1+other.fmod 3) (b:=y.1.2+1) y2.1 (y2.2.1.mono (by decide))
  have gz:GX (FR.mk (y.1.1*2 - 1+other.fmod 3) (y.1.2+1),y.2):=gy.gp.gx (oR (y2.2.2.1.mono (by decide)) (y2.2.1.mono (by decide)) y2.1)
  have wm:CMulW y.1.1 2:=⟨y2.2.2.2.mono (by decide),(show Sz 10 (2:Int) by unfold Sz;decide).mono (by decide)⟩
  have x0:ixE (.p (frD y.1)) (.p (.int 0))=.ok (.p (.int y.1.1)):=rfl
  have x1:ixE (.p (frD y.1)) (.p (.int 1))=.ok (.p (.int y.1.2)):=rfl
  refine go p _ gp (put _ gz).1 (put _ gz).2 ?_
  refine (aN ((yes rfl z).trans (lp _ gz _ (lT (gB (aO (aO (aO (aO rfl rfl x0) rfl (kC wm)) rfl (pQ _ _)) (aO rfl rfl (dB (by decide))) (gR _ _)) (aO (aO rfl rfl x1) rfl (gR _ _)) lw) rfl)))).trans ?_
  repeat (refine (aN (no rfl (by omega))).trans ?_)
  refine fO (i:=6) (e1:=[some (.p (.list (rs.map plD))),some (.p (plD p)),some (.p (.list (xs.map mxD))),some (.p (.int cell)),some (.p (.int other)),some (.p (.int (k:Int))),some (.p (.list ((xs.set k _).map mxD))),some (.p (frD y.1)),some (.p (plD y.2)),some (.p (.int r))]) rfl ?_
  exact gI rfl
 ·have gz:GX (y.1,q):=gq.gx gy.s
  refine go p _ gp (put _ gz).1 (put _ gz).2 ?_
  repeat (refine (aN (no rfl (by omega))).trans ?_)
  refine (aN ((yes rfl z).trans (lp _ gz _ (lT rfl (aO rfl (aO (aO rfl rfl d3) (lr _ _) md2) i2))))).trans ?_
  repeat (refine (aN (no rfl (by omega))).trans ?_)
  refine fO (i:=6) (e1:=[some (.p (.list (rs.map plD))),some (.p (plD p)),some (.p (.list (xs.map mxD))),some (.p (.int cell)),some (.p (.int other)),some (.p (.int (k:Int))),some (.p (.list ((xs.set k _).map mxD))),some (.p (frD y.1)),some (.p (plD y.2)),some (.p (.int r))]) rfl ?_
  exact gI rfl
 ·have gz:GX (y.1,p):=gp.gx gy.s
  refine go p _ gp (put _ gz).1 (put _ gz).2 ?_
  repeat (refine (aN (no rfl (by omega))).trans ?_)
  refine (aN ((yes rfl z).trans (lp _ gz _ (lT rfl rfl)))).trans ?_
  repeat (refine (aN (no rfl (by omega))).trans ?_)
  refine fO (i:=6) (e1:=[some (.p (.list (rs.map plD))),some (.p (plD p)),some (.p (.list (xs.map mxD))),some (.p (.int cell)),some (.p (.int other)),some (.p (.int (k:Int))),some (.p (.list ((xs.set k _).map mxD))),some (.p (frD y.1)),some (.p (plD y.2)),some (.p (.int r))]) rfl ?_
  exact gI rfl
 ·refine go p (xs++[y]) gp (fun x hx=>(aSe.mp hx).elim (gx x) fun h=>by rw [aQ1.mp h];exact gy) (by rw [aQz];show xs.length+1<=10;omega) ?_
  repeat (refine (aN (no rfl (by omega))).trans ?_)
  refine (aN ((yes rfl z).trans (vW (i:=6) (ds:=xs.map mxD) (d:=mxD y) rfl (aO rfl rfl ix) (by rw [aQm];omega)))).trans ?_
  rw [show xs.map mxD++[mxD y]=(xs++[y]).map mxD by rw [aRn];rfl]
  repeat (refine (aN (no rfl (by omega))).trans ?_)
  refine fO (i:=6) (e1:=[some (.p (.list (rs.map plD))),some (.p (plD p)),some (.p (.list (xs.map mxD))),some (.p (.int cell)),some (.p (.int other)),some (.p (.int (k:Int))),some (.p (.list ((xs++[y]).map mxD))),some (.p (frD y.1)),some (.p (plD y.2)),some (.p (.int r))]) rfl ?_
  exact gI rfl
 ·refine go p (xs.eraseIdx k) gp (fun x hx=>gx x (List.mem_of_mem_eraseIdx hx)) (by have:=List.length_eraseIdx_le xs k;omega) ?_
  repeat (refine (aN (no rfl (by omega))).trans ?_)
  refine (aN ((yes rfl z).trans (aK1 (i:=6) (k:=k) (ds:=xs.map mxD) rfl rfl (by rw [aQm];exact hk) (by rw [aQm];omega)))).trans ?_
  rw [aFb]
  repeat (refine (aN (no rfl (by omega))).trans ?_)
  refine fO (i:=6) (e1:=[some (.p (.list (rs.map plD))),some (.p (plD p)),some (.p (.list (xs.map mxD))),some (.p (.int cell)),some (.p (.int other)),some (.p (.int (k:Int))),some (.p (.list ((xs.eraseIdx k).map mxD))),some (.p (frD y.1)),some (.p (plD y.2)),some (.p (.int r))]) rfl ?_
  exact gI rfl
 ·refine go p [] gp (fun _ h=>nomatch h) (aRj _) ?_
  repeat (refine (aN (no rfl (by omega))).trans ?_)
  refine (aN ((yes rfl z).trans (iV (d:=.list (([]:List Pt3).map mxD)) rfl))).trans ?_
  repeat (refine (aN (no rfl (by omega))).trans ?_)
  refine fO (i:=6) (e1:=[some (.p (.list (rs.map plD))),some (.p (plD p)),some (.p (.list (xs.map mxD))),some (.p (.int cell)),some (.p (.int other)),some (.p (.int (k:Int))),some (.p (.list (([]).map mxD))),some (.p (frD y.1)),some (.p (plD y.2)),some (.p (.int r))]) rfl ?_
  exact gI rfl
 ·have gz:GX ((-1*other.fmod 2,1),y.2):=gy.gp.gx ⟨aVc 1,(show Sz 60 (-1*other.fmod 2) by unfold Sz;omega),(show Sz 60 (1:Int) by unfold Sz;decide)⟩
  have wm:CMulW (-1) (other.fmod 2):=⟨(show Sz 10 (-1:Int) by unfold Sz;decide).mono (by decide),(show Sz 10 (other.fmod 2) by unfold Sz;omega).mono (by decide)⟩
  refine go p _ gp (put _ gz).1 (put _ gz).2 ?_
  repeat (refine (aN (no rfl (by omega))).trans ?_)
  refine (aN ((yes rfl z).trans (lp _ gz _ (lT (lT (aO (x:=.p (.int (-1))) rfl (aO rfl rfl (dB (by decide))) (kC wm)) rfl) rfl)))).trans ?_
  repeat (refine (aN (no rfl (by omega))).trans ?_)
  refine fO (i:=6) (e1:=[some (.p (.list (rs.map plD))),some (.p (plD p)),some (.p (.list (xs.map mxD))),some (.p (.int cell)),some (.p (.int other)),some (.p (.int (k:Int))),some (.p (.list ((xs.set k _).map mxD))),some (.p (frD y.1)),some (.p (plD y.2)),some (.p (.int r))]) rfl ?_
  exact gI rfl
 ·have cu:M.cutD (xs.map mxD) none (some (2:Int))=(xs.take 2).map mxD:=by
   unfold M.cutD
   rw [HT.aEp,show (some (2:Int))=some ((2:Nat):Int) from rfl,HT.vD,aQm,Nat.min_eq_left (by omega),List.drop_zero,Nat.sub_zero,aW9]
  have s1:mSl (aD 6) aMp (mPt (mC (.int 2))) [some (.p (.list (rs.map plD))),some (.p (plD p)),some (.p (.list (xs.map mxD))),some (.p (.int cell)),some (.p (.int other)),some (.p (.int (k:Int))),some (.o (.list ((xs).map mxD))),some (.p (frD y.1)),some (.p (plD y.2)),some (.p (.int r))]=.ok (.f (.list ((xs.take 2).map mxD))):=by
   rw [<- cu]
   exact aPf (x:=.b (.list (xs.map mxD))) (l:=none) (u:=some (2:Int)) rfl rfl rfl
  have hm:oX (cB 1 [] (aM 0) hV (d9 K c) [some (.p (.list (rs.map plD))),some (.p (plD p)),some (.p (.list (xs.map mxD))),some (.p (.int cell)),some (.p (.int other)),some (.p (.int (k:Int))),some (.o (.list ((xs).map mxD))),some (.p (frD y.1)),some (.p (plD y.2)),some (.p (.int r))]) ((xs.take 2).map mxD)=some ((xs.take 2).map fun x=>mxD ((1,4),x.2)):=eI _ fun x _=>rfl
  have hc:=jC (n:=1) (js:=[]) (itL s1) (by rw [aQm,aSh];omega) hm
  have e:((xs.take 2).map fun x=>mxD ((1,4),x.2))=((xs.take 2).map fun x:Pt3=>(((1,4),x.2):Pt3)).map mxD:=by rw [aR7];rfl
  rw [e] at hc
  have g14:Good 60 (1,4):=SHr.g (.inr rfl)
  have g12:Good 60 (1,2):=SHr.g (.inl rfl)
  refine go p ((xs.take 2).map (fun x=>((1,4),x.2))++[((1,2),q)]) gp (fun x hx=>?_) (by rw [aQz,aQm,aSh];show min 2 xs.length+1<=10;omega) ?_
  ·rcases aSe.mp hx with h | h
   ·obtain ⟨w,hw,rfl⟩:=aRk.mp h
    exact (gx w (aVp hw)).gp.gx g14
   ·rw [aQ1.mp h]
    exact gq.gx g12
  repeat (refine (aN (no rfl (by omega))).trans ?_)
  have ad:fP (.p (.list (((xs.take 2).map fun x:Pt3=>(((1,4),x.2):Pt3)).map mxD))) (.p (.list [mxD ((1,2),q)]))=.ok (.f (.list (((xs.take 2).map (fun x:Pt3=>(((1,4),x.2):Pt3))++[((1,2),q)]).map mxD))):=(aFm _ _ (by rw [aQm,aQm,aSh];show min 2 xs.length+1<=100000;omega)).trans (by rw [aRn];rfl)
  refine (aN ((yes rfl z).trans (iV (aO hc (aPa (lT rfl (aO rfl (aO (aO rfl rfl d3) (lr _ _) md2) i2))) ad)))).trans ?_
  repeat (refine (aN (no rfl (by omega))).trans ?_)
  refine fO (i:=6) (e1:=[some (.p (.list (rs.map plD))),some (.p (plD p)),some (.p (.list (xs.map mxD))),some (.p (.int cell)),some (.p (.int other)),some (.p (.int (k:Int))),some (.p (.list (((xs.take 2).map (fun x:Pt3=>(((1,4),x.2):Pt3))++[((1,2),q)]).map mxD))),some (.p (frD y.1)),some (.p (plD y.2)),some (.p (.int r))]) rfl ?_
  exact gI rfl
 ·refine go p xs.reverse gp (fun x hx=>gx x (List.mem_reverse.mp hx)) (by rw [aVw];omega) ?_
  repeat (refine (aN (no rfl (by omega))).trans ?_)
  refine (aN ((yes rfl z).trans (iV (d:=.list (xs.reverse.map mxD)) (aDa (x:=.b (.list (xs.map mxD))) rfl (by rw [List.map_reverse];rfl))))).trans ?_
  repeat (refine (aN (no rfl (by omega))).trans ?_)
  refine fO (i:=6) (e1:=[some (.p (.list (rs.map plD))),some (.p (plD p)),some (.p (.list (xs.map mxD))),some (.p (.int cell)),some (.p (.int other)),some (.p (.int (k:Int))),some (.p (.list ((xs.reverse).map mxD))),some (.p (frD y.1)),some (.p (plD y.2)),some (.p (.int r))]) rfl ?_
  exact gI rfl
 ·have gt:Good 10 (other.fmod 3 - 1,1+(other.fdiv 3).fmod 9):=⟨(show 1<=1+(other.fdiv 3).fmod 9 by omega),(show Sz 10 (other.fmod 3 - 1) by unfold Sz;omega),(show Sz 10 (1+(other.fdiv 3).fmod 9) by unfold Sz;omega)⟩
  have gh:=(g.g p f.a).2.2
  have ls:=lZ K c gh gt (by decide) (by decide)
  refine go (p.1,p.2.1,hP p.2.2 (other.fmod 3 - 1,1+(other.fdiv 3).fmod 9)) xs ⟨gp.i,gp.j,(wO gh gt).mono (by decide)⟩ gx (by omega) ?_
  repeat (refine (aN (no rfl (by omega))).trans ?_)
  refine (aN ((yes rfl z).trans (eF (d:=plD (p.1,p.2.1,hP p.2.2 (other.fmod 3 - 1,1+(other.fdiv 3).fmod 9))) (N.aMr (aO rfl rfl (fV p)) (aO rfl rfl (gC p)) (gB (aO rfl rfl (iX p)) (lT (aO (aO rfl rfl (dB (by decide))) rfl (pQ _ _)) (aO rfl (aO (aO rfl rfl d3) rfl (dB (by decide))) (gR _ _))) ls))))).trans ?_
  refine fO (i:=6) (e1:=[some (.p (.list (rs.map plD))),some (.p (plD (p.1,p.2.1,hP p.2.2 (other.fmod 3 - 1,1+(other.fdiv 3).fmod 9)))),some (.p (.list (xs.map mxD))),some (.p (.int cell)),some (.p (.int other)),some (.p (.int (k:Int))),some (.p (.list ((xs).map mxD))),some (.p (frD y.1)),some (.p (plD y.2)),some (.p (.int r))]) rfl ?_
  exact gI rfl
def pl4(q:Pl):List Int:=[q.1,q.2.1,q.2.2.1,q.2.2.2]
def un4(k:List Int):Pl:=(k.getD 0 0,k.getD 1 0,k.getD 2 0,k.getD 3 0)
theorem aFr:∀ qs:List Pl,aF0 (qs.map plD)=some (qs.map pl4)
 | []=>rfl
 | q :: qs=>by
  have h:aF0 ((q :: qs).map plD)=(aF0 (qs.map plD)).map fun ks=>pl4 q :: ks:=rfl
  rw [h,aFr qs]
  rfl
theorem aL9{qs:List Pl}(hl:qs.length < 64):∃ rs:List Pl,oQ [.p (.list (qs.map plD))]=.ok (.f (.list (rs.map plD))):=by
 refine ⟨(i6 (qs.map pl4)).map un4,?_⟩
 have e:(i6 (qs.map pl4)).map aJb=((i6 (qs.map pl4)).map un4).map plD:=by
  rw [aR7]
  refine List.map_congr_left fun k hk=>?_
  obtain ⟨q,_,rfl⟩:=aRk.mp ((fN _).mem_iff.mp hk)
  rfl
 rw [<- e]
 unfold oQ
 dsimp only [iO]
 rw [aFr]
 dsimp only
 rw [aQt (by rw [aQm];exact hl)]
def eD(z:Nat×(Int×Int)):D:=.tuple [.int (z.1:Int),slD z.2]
def L4:List (Nat×(Int×Int)):=[(0,(0,0)),(1,(0,2)),(2,(2,0)),(3,(2,2))]
noncomputable def kB(K:aQk)(c:Cls):En->Res Ev:=(aE aT (aB (aE aT (aB (mC (.int 1)) (aB (mC (.int 4)) aK))) (aB (aD 0) aK)))
noncomputable def gM:MS:=(bC (cJ 6 (aV 2 (aG K c) (aB (aD 0) (aB (aF fP (mC (.int 2)) (aD 4)) aK)))) (bC (cJ 7 (aV 2 (bI K c) (aB (aF uU (aF cU (aD 6) (mC (.int 99))) (mC (.int 49))) (aB (aF fP (mC (.int 1)) (aF cU (aF b8 (aD 6) (mC (.int 99))) (mC (.int 6)))) aK)))) (bC (gU 2 (aE aT (aB (aF fP (aF ixE (aD 1) (mC (.int 0))) (aF ixE (aD 5) (mC (.int 0)))) (aB (aF fP (aF ixE (aD 1) (mC (.int 1))) (aF ixE (aD 5) (mC (.int 1)))) (aB (aD 7) aK))))) (cJ 3 (aV 2 (bK K c) (aB (aD 3) (aB (aV 2 (bF K c) (aB (aE aT (aB (mC (.int 1)) (aB (mC (.int 4)) aK))) (aB (aD 7) aK))) aK)))))))
noncomputable def i7:MS:=(bC (cJ 1 (aE aT (aB (aF cU (aV 2 (aG K c) (aB (aD 0) (aB (mC (.int 0)) aK))) (mC (.int 7))) (aB (aF cU (aV 2 (aG K c) (aB (aD 0) (aB (mC (.int 1)) aK))) (mC (.int 7))) aK)))) (bC (cJ 2 (aE fI aK)) (bC (cJ 3 (aE aT (aB (mC (.int 0)) (aB (mC (.int 1)) aK)))) (bC (tV (t8 aHu (aB (aE fI (aB (aE aT (aB (mC (.int 0)) (aB (mC (.int 0)) aK))) (aB (aE aT (aB (mC (.int 0)) (aB (mC (.int 2)) aK))) (aB (aE aT (aB (mC (.int 2)) (aB (mC (.int 0)) aK))) (aB (aE aT (aB (mC (.int 2)) (aB (mC (.int 2)) aK))) aK))))) aK)) (eS 2 (aZ (aM 4) (aZ (aM 5) eP))) (gM K c)) (bC (cJ 8 (aV 2 (bI K c) (aB (aF uU (mC (.int 0)) (aF cU (aV 2 (aG K c) (aB (aD 0) (aB (mC (.int 6)) aK))) (mC (.int 3)))) (aB (aF fP (mC (.int 1)) (aF cU (aF b8 (aV 2 (aG K c) (aB (aD 0) (aB (mC (.int 6)) aK))) (mC (.int 3))) (mC (.int 5)))) aK)))) (bC (cJ 9 (aE aT (aB (aF fP (aF ixE (aD 1) (mC (.int 0))) (mC (.int 1))) (aB (aF fP (aF ixE (aD 1) (mC (.int 1))) (mC (.int 1))) (aB (aV 2 (bK K c) (aB (aD 3) (aB (aD 8) aK))) aK))))) (fun en=>(eX (aE aT (aB (aE oQ (aB (aF fP (aD 2) (aE fI (aB (aD 9) aK))) aK)) (aB (aD 9) (aB (fQ 1 [] (iE (aD 2)) (aM 0) hV (kB K c)) aK))))) (frz 2 en))))))))
noncomputable def dD(ls:List L):Res L:=gS 10 (i7 K c) ls
theorem rV:∀ ls,dD K c ls=.bad\/gS 10 (i7 K c) ls=dD K c ls:=fun _=>.inr rfl
def I4(vs:List Int)(co:Int×Int)(n:Nat)(en:En):Prop:=∃ (qs:List Pl) (t:Int×Int) (r4 r5 r6 r7:Option L),en=[some (.p (.list (vs.map .int))),some (.p (slD co)),some (.o (.list ((qs).map plD))),some (.p (frD t)),r4,r5,r6,r7,none,none]/\(∀ q∈qs,GP q)/\qs.length<=n/\Good (2+15*n) t
theorem aPs(vs:List Int){co:Int×Int}(hc:0<=co.1/\co.1<=6/\0<=co.2/\co.2<=6){z:Nat×(Int×Int)}(hz:0<=z.2.1/\z.2.1<=2/\0<=z.2.2/\z.2.2<=2){qs:List Pl}(hq:∀ q∈qs,GP q){n:Nat}(hn:n<=10)(hl:qs.length<=n){t:Int×Int}(ht:Good (2+15*n) t)(r6 r7:Option L):∃ e',gM K c [some (.p (.list (vs.map .int))),some (.p (slD co)),some (.o (.list ((qs).map plD))),some (.p (frD t)),some (.p (.int (z.1:Int))),some (.p (slD z.2)),r6,r7,none,none]=some (.nx e')/\I4 vs co (n+1) e':=by
 have ck:=gT K c vs (2+z.1)
 rw [show ((2+z.1:Nat):Int)=2+(z.1:Int) by omega] at ck
 generalize vs.getD (2+z.1) 0=cl at ck
 have f1:=b9 (a:=cl) (b:=99) (by decide)
 have f2:=b9 (a:=cl.fdiv 99) (b:=6) (by decide)
 have s1:Sz 10 (cl.fmod 99 - 49):=by unfold Sz;omega
 have s2:Sz 10 (1+(cl.fdiv 99).fmod 6):=by unfold Sz;omega
 have nz:1+(cl.fdiv 99).fmod 6≠0:=by omega
 have lw:=l8 K c (t:=cl.fmod 99 - 49) (b:=1+(cl.fdiv 99).fmod 6) nz (s2.mono (by decide))
 have gh:Good 10 (FR.mk (cl.fmod 99 - 49) (1+(cl.fdiv 99).fmod 6)):=oR s1 s2 nz
 have e6:=eF (i:=6) (gB (f:=aD 0) (g:=aF fP (mC (.int 2)) (aD 4)) (en:=[some (.p (.list (vs.map .int))),some (.p (slD co)),some (.o (.list ((qs).map plD))),some (.p (frD t)),some (.p (.int (z.1:Int))),some (.p (slD z.2)),r6,r7,none,none]) rfl (aO rfl rfl (gR _ _)) ck)
 have d99:b8 (.p (.int cl)) (.p (.int 99))=.ok (.p (.int (cl.fdiv 99))):=gL (cdl (by decide) (by decide))
 generalize hh:FR.mk (cl.fmod 99 - 49) (1+(cl.fdiv 99).fmod 6)=h at lw gh
 have x0:∀ s:Int×Int,ixE (.p (slD s)) (.p (.int 0))=.ok (.p (.int s.1)):=fun _=>rfl
 have x1:∀ s:Int×Int,ixE (.p (slD s)) (.p (.int 1))=.ok (.p (.int s.2)):=fun _=>rfl
 have g14:Good 3 (1,4):=⟨by decide,(show Sz 3 (1:Int) by unfold Sz;decide),(show Sz 3 (4:Int) by unfold Sz;decide)⟩
 have pr:=aFq K c g14 gh (by decide) (by decide)
 have gt:=aCw g14 gh
 have sm:=lZ K c ht gt (by omega) (by decide)
 have gq:GP (co.1+z.2.1,co.2+z.2.2,h):=⟨(show Sz 100 (co.1+z.2.1) by unfold Sz;omega),(show Sz 100 (co.2+z.2.2) by unfold Sz;omega),gh.mono (by decide)⟩
 refine ⟨_,?_,qs++[(co.1+z.2.1,co.2+z.2.2,h)],hP t (FR.mk (1*h.1) (4*h.2)),some (.p (.int (z.1:Int))),some (.p (slD z.2)),some (.p (.int cl)),some (.p (frD h)),rfl,fun q hx=>?_,?_,(wO ht gt).mono (by omega)⟩
 ·unfold gM
  refine (aN e6).trans ?_
  refine (aN (eF (gB (aO (aO rfl rfl (dB (by decide))) rfl (pQ _ _)) (aO rfl (aO (aO rfl rfl d99) rfl (dB (by decide))) (gR _ _)) lw))).trans ?_
  refine (aN (vW (i:=2) (ds:=qs.map plD) (d:=plD (co.1+z.2.1,co.2+z.2.2,h)) rfl (N.aMr (aO (aO rfl rfl (x0 co)) (aO rfl rfl (x0 z.2)) (gR _ _)) (aO (aO rfl rfl (x1 co)) (aO rfl rfl (x1 z.2)) (gR _ _)) rfl) (by rw [aQm];omega))).trans ?_
  rw [show qs.map plD++[plD (co.1+z.2.1,co.2+z.2.2,h)]=(qs++[(co.1+z.2.1,co.2+z.2.2,h)]).map plD by rw [aRn];rfl]
  exact eF (gB rfl (gB (a:=frD (1,4)) (x:=.p (frD (1,4))) rfl rfl pr) sm)
 ·rcases aSe.mp hx with hx | hx
  ·exact hq q hx
  ·rw [aQ1.mp hx];exact gq
 ·rw [aQz]
  show qs.length+1<=n+1
  omega
theorem aHc(vs:List Int):∃ rs p xs,Good 200 p.2.2/\(∀ x∈xs,GX x)/\xs.length<=10/\dD K c [.p (.list (vs.map .int))]=.ok (.p (.tuple [.list (List.map plD rs),plD p,.list (List.map mxD xs)])):=by
 have c0:aG K c [.p (.list (vs.map .int)),.p (.int 0)]=.ok (.p (.int (vs.getD 0 0))):=gT K c vs 0
 have c1:aG K c [.p (.list (vs.map .int)),.p (.int 1)]=.ok (.p (.int (vs.getD 1 0))):=gT K c vs 1
 have c6:aG K c [.p (.list (vs.map .int)),.p (.int 6)]=.ok (.p (.int (vs.getD 6 0))):=gT K c vs 6
 have f1:=b9 (a:=vs.getD 0 0) (b:=7) (by decide)
 have f2:=b9 (a:=vs.getD 1 0) (b:=7) (by decide)
 have f3:=b9 (a:=vs.getD 6 0) (b:=3) (by decide)
 have f4:=b9 (a:=(vs.getD 6 0).fdiv 3) (b:=5) (by decide)
 have e1:=eF (i:=1) (lT (f:=aF cU (aV 2 (aG K c) (aB (aD 0) (aB (mC (.int 0)) aK))) (mC (.int 7))) (g:=aF cU (aV 2 (aG K c) (aB (aD 0) (aB (mC (.int 1)) aK))) (mC (.int 7))) (en:=[some (.p (.list (vs.map .int))),none,none,none,none,none,none,none,none,none]) (aO (gB rfl rfl c0) rfl (dB (by decide))) (aO (gB rfl rfl c1) rfl (dB (by decide))))
 obtain ⟨co,hco⟩:∃ co:Int×Int,co=((vs.getD 0 0).fmod 7,(vs.getD 1 0).fmod 7):=⟨_,rfl⟩
 have hc:0<=co.1/\co.1<=6/\0<=co.2/\co.2<=6:=by rw [hco];exact ⟨f1.1,by show (vs.getD 0 0).fmod 7<=6;omega,f2.1,by show (vs.getD 1 0).fmod 7<=6;omega⟩
 rw [show (.tuple [.int ((vs.getD 0 0).fmod 7),.int ((vs.getD 1 0).fmod 7)]:D)=slD co by rw [hco];rfl] at e1
 clear hco
 obtain ⟨e',h1,qs,t,r4,r5,r6,r7,rfl,hq,hl,ht⟩:=gZ (tg:=eS 2 (aZ (aM 4) (aZ (aM 5) eP))) (f:=gM K c) (I4 vs co) (L4.map eD) 0 [some (.p (.list (vs.map .int))),some (.p (slD co)),some (.o (.list (([]).map plD))),some (.p (frD (0,1))),none,none,none,none,none,none] ⟨[],(0,1),none,none,none,none,rfl,(fun _ h=>nomatch h),aQu _,⟨aVc 1,(show Sz 2 (0:Int) by unfold Sz;decide),(show Sz 2 (1:Int) by unfold Sz;decide)⟩⟩ fun d hd m en hm hI=>by
  obtain ⟨z,hz,rfl⟩:=aRk.mp hd
  obtain ⟨qs,t,r4,r5,r6,r7,rfl,hq,hl,ht⟩:=hI
  have hz:0<=z.2.1/\z.2.1<=2/\0<=z.2.2/\z.2.2<=2:=by
   have k:∀ z∈L4,0<=z.2.1/\z.2.1<=2/\0<=z.2.2/\z.2.2<=2:=by decide
   exact k z hz
  have hm:m < 0+4:=hm
  obtain ⟨e',g1,g2⟩:=aPs K c vs hc hz hq (n:=m) (by omega) hl ht r6 r7
  exact ⟨_,e',rfl,g1,g2⟩
 have hl:qs.length<=4:=hl
 have ht:Good 62 t:=ht
 have d3:b8 (.p (.int (vs.getD 6 0))) (.p (.int 3))=.ok (.p (.int ((vs.getD 6 0).fdiv 3))):=gL (cdl (by decide) (by decide))
 have s1:Sz 10 (0 - (vs.getD 6 0).fmod 3):=by unfold Sz;omega
 have s2:Sz 10 (1+((vs.getD 6 0).fdiv 3).fmod 5):=by unfold Sz;omega
 have nz:1+((vs.getD 6 0).fdiv 3).fmod 5≠0:=by omega
 have lw:=l8 K c (t:=0 - (vs.getD 6 0).fmod 3) (b:=1+((vs.getD 6 0).fdiv 3).fmod 5) nz (s2.mono (by decide))
 have gh:Good 10 (FR.mk (0 - (vs.getD 6 0).fmod 3) (1+((vs.getD 6 0).fdiv 3).fmod 5)):=oR s1 s2 nz
 have e8:=eF (i:=8) (gB (f:=aF uU (mC (.int 0)) (aF cU (aV 2 (aG K c) (aB (aD 0) (aB (mC (.int 6)) aK))) (mC (.int 3)))) (g:=aF fP (mC (.int 1)) (aF cU (aF b8 (aV 2 (aG K c) (aB (aD 0) (aB (mC (.int 6)) aK))) (mC (.int 3))) (mC (.int 5)))) (en:=[some (.p (.list (vs.map .int))),some (.p (slD co)),some (.o (.list ((qs).map plD))),some (.p (frD t)),r4,r5,r6,r7,none,none]) (aO rfl (aO (gB rfl rfl c6) rfl (dB (by decide))) (pQ _ _)) (aO rfl (aO (aO (gB rfl rfl c6) rfl d3) rfl (dB (by decide))) (gR _ _)) lw)
 generalize FR.mk (0 - (vs.getD 6 0).fmod 3) (1+((vs.getD 6 0).fdiv 3).fmod 5)=h at lw gh e8
 have sm:=lZ K c ht gh (by decide) (by decide)
 have gs:=wO ht gh
 generalize hP t h=s at sm gs
 have x0:ixE (.p (slD co)) (.p (.int 0))=.ok (.p (.int co.1)):=rfl
 have x1:ixE (.p (slD co)) (.p (.int 1))=.ok (.p (.int co.2)):=rfl
 have e9:=eF (i:=9) (N.aMr (f:=aF fP (aF ixE (aD 1) (mC (.int 0))) (mC (.int 1))) (g:=aF fP (aF ixE (aD 1) (mC (.int 1))) (mC (.int 1))) (h:=aV 2 (bK K c) (aB (aD 3) (aB (aD 8) aK))) (en:=[some (.p (.list (vs.map .int))),some (.p (slD co)),some (.o (.list ((qs).map plD))),some (.p (frD t)),r4,r5,r6,r7,some (.p (frD h)),none]) (aO (aO rfl rfl x0) rfl (gR _ _)) (aO (aO rfl rfl x1) rfl (gR _ _)) (gB rfl rfl sm))
 obtain ⟨rs,sr⟩:=aL9 (qs:=qs++[(co.1+1,co.2+1,s)]) (by rw [aQz];show qs.length+1 < 64;omega)
 have g14:Good 60 (1,4):=SHr.g (.inr rfl)
 refine ⟨rs,(co.1+1,co.2+1,s),qs.map fun q=>((1,4),q),gs.mono (by decide),fun x hx=>?_,by rw [aQm];omega,?_⟩
 ·obtain ⟨q,hqq,rfl⟩:=aRk.mp hx
  exact (hq q hqq).gx g14
 unfold dD
 refine eC ?_
 rw [show cW 10 [.p (.list (vs.map .int))]=[some (.p (.list (vs.map .int))),none,none,none,none,none,none,none,none,none] from rfl]
 unfold i7
 refine (aN e1).trans ?_
 refine (aN (iV (d:=.list (([]:List Pl).map plD)) rfl)).trans ?_
 refine (aN (eF (d:=frD (0,1)) rfl)).trans ?_
 refine (aN ((lO (ds:=L4.map eD) rfl).trans h1)).trans ?_
 refine (aN e8).trans ?_
 refine (aN e9).trans ?_
 refine fO (i:=2) (e1:=[some (.p (.list (vs.map .int))),some (.p (slD co)),some (.p (.list ((qs).map plD))),some (.p (frD t)),r4,r5,r6,r7,some (.p (frD h)),some (.p (plD (co.1+1,co.2+1,s)))]) rfl ?_
 have ad:fP (.p (.list (qs.map plD))) (.p (.list [plD (co.1+1,co.2+1,s)]))=.ok (.f (.list ((qs++[(co.1+1,co.2+1,s)]).map plD))):=(aFm _ _ (by rw [aQm];show qs.length+1<=100000;omega)).trans (by rw [aRn];rfl)
 have hm:oX (cB 1 [] (aM 0) hV (kB K c) [some (.p (.list (vs.map .int))),some (.p (slD co)),some (.p (.list ((qs).map plD))),some (.p (frD t)),r4,r5,r6,r7,some (.p (frD h)),some (.p (plD (co.1+1,co.2+1,s)))]) (qs.map plD)=some (qs.map fun q=>mxD ((1,4),q)):=eI _ fun x _=>rfl
 have hcp:=jC (n:=1) (js:=[]) (fi:=iE (aD 2)) rfl (by rw [aQm];omega) hm
 rw [show (qs.map fun q=>mxD ((1,4),q))=(qs.map fun q=>(((1,4),q):Pt3)).map mxD by rw [aR7];rfl] at hcp
 exact gI (N.aMr (jE (cI (aO rfl (aPa rfl) ad) rfl) sr) rfl hcp)
theorem aKj{C:Addr}{n:Nat}{f1 f2:Str}{mi:List L->Option (D×D)}{fr:En->Res (List Ev)}{en:En}{rs:List Ev}{ls:List L}{d:D×D}(h:fr en=.ok rs)(ha:gJ yO rs=some ls)(hn:ls.length=n)(hm:mi ls=some d):qW C n f1 f2 mi fr en=.ok (.x (.i C [(f1,d.1),(f2,d.2)])):=by
 unfold qW
 rw [h]
 show (match gJ yO rs with
  | some ls=>if ls.length=n then match mi ls with
    | some d=>Res.ok (Ev.x (.i C [(f1,d.1),(f2,d.2)]))
    | none=>.bad
   else .bad
  | none=>.bad)=_
 rw [ha]
 dsimp only
 rw [aQt hn,hm]
theorem aL8{C:Addr}{x:Str}{m:List L->Res L}{fo fa:En->Res Ev}{en:En}{fs:List (Str×D)}{a:D}{r:L}{y:Ev}(ho:fo en=.ok (.x (.i C fs)))(hl:fs.lookup x=none)(h1:fa en=.ok y)(hm:m [.x (.i C fs),.p a]=.ok r)(hy:y.c=.p a:=by rfl):yF C x 2 m fo (aB fa aK) en=.ok (qT r):=by
 unfold yF
 rw [ho]
 show (if C=C/\fs.lookup x=none then (aB fa aK en).bind fun rs=>iW 2 m (.x (.i C fs) :: rs) else .bad)=_
 rw [aQt ⟨rfl,hl⟩,cI h1 rfl]
 show iW 2 m [.x (.i C fs),y.c]=_
 rw [hy]
 unfold iW
 rw [show gJ sA [.x (.i C fs),.p a]=some [.x (.i C fs),.p a] from rfl]
 dsimp only
 rw [aQt (show [L.x (.i C fs),L.p a].length=2 from rfl),hm]
 rfl
noncomputable def dR(K:aQk)(c:Cls):List L->Option (D×D):=miF (aD 1) (aE listE (aB (aD 2) aK))
theorem aN8(p:Pl)(xs:List Pt3):dR K c [.p (plD p),.p (.list (xs.map mxD))]=some (plD p,.list (xs.map mxD)):=by
 have e:fvE (.ok (.f (.list (xs.map mxD))))=some (.list (xs.map mxD)):=aQt (aCm mxD (fun _=>rfl) xs)
 unfold dR miF
 rw [show fvE (aD 1 (none :: [L.p (plD p),.p (.list (xs.map mxD))].map some))=some (plD p) from rfl]
 rw [show fvE (aE listE (aB (aD 2) aK) (none :: [L.p (plD p),.p (.list (xs.map mxD))].map some))=fvE (.ok (.f (.list (xs.map mxD)))) from rfl,e]
theorem rX(b:Bool):eqE false (.p (.bool b)) (.p (.bool b))=.ok (.p (.bool true)):=xI rfl rfl rfl false
noncomputable def jP(K:aQk)(c:Cls):En->Res Ev:=(mIf (bH (aF (eqE false) (aE aT (aB (aF ixE (aD 0) (mC (.int 0))) (aB (aF ixE (aD 0) (mC (.int 1))) aK))) (aE aT (aB (aF ixE (aD 1) (mC (.int 0))) (aB (aF ixE (aD 1) (mC (.int 1))) aK))))) (aD 1) (aD 0))
noncomputable def aE6:MS:=(bC (cJ 0 (aV 1 (dC K c) (aB (aD 0) aK))) (fun en=>(bC (cJ 1 (aV 2 (aG K c) (aB (aD 0) (aB (mC (.int 0)) aK)))) (bC (cJ 2 (aV 4 (cT K c) (aB (aD 1) (aB (mSl (aD 0) (mPt (mC (.int 6))) (mPt (mC (.int 18)))) (aB (mC (.int 5)) (aB (aF ixE (aE aT (aB (mC (.int 9)) (aB (mC (.int 5)) (aB (mC (.int 3)) aK)))) (aF cU (aF b8 (aD 1) (mC (.int 12))) (mC (.int 3)))) aK)))))) (fun en=>(bC (cJ 2 (aV 2 (cD K c) (aB (aD 2) (aB (aV 2 (aG K c) (aB (aD 0) (aB (mC (.int 1)) aK))) aK)))) (fun en=>(bC (vZ (eS 2 (aZ (aM 3) (aZ (aM 4) eP))) (aV 2 (cM K c) (aB (aD 2) (aB (aV 2 (aG K c) (aB (aD 0) (aB (mC (.int 2)) aK))) aK)))) (bC (eA (bH (aF (eqE false) (aF cU (aV 2 (aG K c) (aB (aD 0) (aB (mC (.int 3)) aK))) (mC (.int 2))) (mC (.int 1)))) (vZ (eS 2 (aZ (aM 3) (aZ (aM 4) eP))) (aV 5 (bA K c) (aB (aD 2) (aB (aD 3) (aB (aD 4) (aB (aF b8 (aV 2 (aG K c) (aB (aD 0) (aB (mC (.int 3)) aK))) (mC (.int 2))) (aB (aV 2 (aG K c) (aB (aD 0) (aB (mC (.int 4)) aK))) aK))))))) bR) (bC (eA (bH (aF (eqE false) (aF cU (aV 2 (aG K c) (aB (aD 0) (aB (mC (.int 3)) aK))) (mC (.int 20))) (mC (.int 19)))) (cJ 2 (fQ 1 [3] (iE (aD 2)) (aM 0) hV (jP K c))) bR) (bC (eA (bH (aF (eqE false) (aF cU (aV 2 (aG K c) (aB (aD 0) (aB (mC (.int 5)) aK))) (mC (.int 6))) (mC (.int 1)))) (vZ (eS 3 (aZ (aM 2) (aZ (aM 3) (aZ (aM 4) eP)))) (aV 1 (dD K c) (aB (aD 0) aK))) bR) (fun en=>(bC (cJ 5 (aE listE (aB (aD 4) aK))) (bC (cJ 6 (qW c.Mixture 2 "plane" "parts" (dR K c) (aB (aD 3) (aB (aD 5) aK)))) (bC (cJ 7 (aV 3 (bE K c) (aB (aD 3) (aB (aD 4) (aB (aD 2) aK))))) (bC (cJ 8 (aE listE (aB (aD 2) aK))) (fun en=>(bC (cJ 9 (yF c.Mixture "holds" 2 (aY K c) (aD 6) (aB (aD 8) aK))) (bC (oH 5) (bC (cJ 10 (yF c.Mixture "holds" 2 (aY K c) (aD 6) (aB (aD 8) aK))) (bC (eA (mOr (nR (bH (mUn (vU K (.type "bool")) (aD 9)))) (nR (bH (mUn (vU K (.type "bool")) (aD 10))))) (eX (mC (.bool false))) bR) (eX (gW (aF (eqE false) (aD 9) (aD 7)) (gW (aF (eqE false) (aD 10) (aD 7)) (aF (eqE false) (aD 8) (aD 2))))))))) (frz 8 en)))))) (frz 2 en)))))) (frz 2 en))) (frz 2 en)))) (frz 0 en)))
noncomputable def xW(ls:List L):Res L:=gS 11 (aE6 K c) ls
theorem aLy:∀ ls,xW K c ls=.bad\/gS 11 (aE6 K c) ls=xW K c ls:=fun _=>.inr rfl
theorem aPd(hk:jY K c){rs:List Pl}{p:Pl}{xs:List Pt3}(hp:Good 200 p.2.2)(hx:∀ x∈xs,GX x)(hl:xs.length<=10){v2:L}(h2:v2=.p (.list (rs.map plD))\/v2=.o (.list (rs.map plD)))(vs:List Int)(s1:Option L):(fun en=>(bC (cJ 5 (aE listE (aB (aD 4) aK))) (bC (cJ 6 (qW c.Mixture 2 "plane" "parts" (dR K c) (aB (aD 3) (aB (aD 5) aK)))) (bC (cJ 7 (aV 3 (bE K c) (aB (aD 3) (aB (aD 4) (aB (aD 2) aK))))) (bC (cJ 8 (aE listE (aB (aD 2) aK))) (fun en=>(bC (cJ 9 (yF c.Mixture "holds" 2 (aY K c) (aD 6) (aB (aD 8) aK))) (bC (oH 5) (bC (cJ 10 (yF c.Mixture "holds" 2 (aY K c) (aD 6) (aB (aD 8) aK))) (bC (eA (mOr (nR (bH (mUn (vU K (.type "bool")) (aD 9)))) (nR (bH (mUn (vU K (.type "bool")) (aD 10))))) (eX (mC (.bool false))) bR) (eX (gW (aF (eqE false) (aD 9) (aD 7)) (gW (aF (eqE false) (aD 10) (aD 7)) (aF (eqE false) (aD 8) (aD 2))))))))) (frz 8 en)))))) (frz 2 en)) [some (.p (.list (vs.map .int))),s1,some v2,some (.p (plD p)),some (.p (.list (xs.map mxD))),none,none,none,none,none,none]=some (.rt (.p (.bool true))):=by
 have ho:=aMh K c hk rs (p:=p) (by omega) hx hp
 have mr:=aN2 K c rs (p:=p) (by omega) hx hp
 have ib:vU K (.type "bool") (.p (.bool (yY p xs rs)))=.ok (.p (.bool true)):=by simp [vU,dat,tyD,hk.bb]
 refine fO (i:=2) (e1:=[some (.p (.list (vs.map .int))),s1,some (.p (.list (rs.map plD))),some (.p (plD p)),some (.p (.list (xs.map mxD))),none,none,none,none,none,none]) (by rcases h2 with rfl | rfl<;>rfl) ?_
 refine (aN (iV (d:=.list (xs.map mxD)) rfl)).trans ?_
 have mk:qW c.Mixture 2 "plane" "parts" (dR K c) (aB (aD 3) (aB (aD 5) aK)) [some (.p (.list (vs.map .int))),s1,some (.p (.list (rs.map plD))),some (.p (plD p)),some (.p (.list (xs.map mxD))),some (.o (.list (xs.map mxD))),none,none,none,none,none]=.ok (.x (.i c.Mixture [("plane",plD p),("parts",.list (xs.map mxD))])):=aKj (rs:=[.p (plD p),.b (.list (xs.map mxD))]) rfl rfl rfl (aN8 K c p xs)
 refine (aN (show cJ 6 _ [some (.p (.list (vs.map .int))),s1,some (.p (.list (rs.map plD))),some (.p (plD p)),some (.p (.list (xs.map mxD))),some (.o (.list (xs.map mxD))),none,none,none,none,none]=some (.nx [some (.p (.list (vs.map .int))),s1,some (.p (.list (rs.map plD))),some (.p (plD p)),some (.p (.list (xs.map mxD))),some (.o (.list (xs.map mxD))),some (oMx c p xs),none,none,none,none]) by unfold cJ;rw [mk];rfl)).trans ?_
 refine (aN (eF (aL1 rfl rfl rfl mr))).trans ?_
 refine (aN (iV (d:=.list (rs.map plD)) rfl)).trans ?_
 refine fO (i:=8) (e1:=[some (.p (.list (vs.map .int))),s1,some (.p (.list (rs.map plD))),some (.p (plD p)),some (.p (.list (xs.map mxD))),some (.o (.list (xs.map mxD))),some (oMx c p xs),some (.p (.bool (yY p xs rs))),some (.p (.list (rs.map plD))),none,none]) rfl ?_
 have lk:([("plane",plD p),("parts",.list (xs.map mxD))]:List (Str×D)).lookup ("holds" : Str)=none:=by rfl
 refine (aN (eF (aL8 (a:=.list (rs.map plD)) (fs:=[("plane",plD p),("parts",.list (xs.map mxD))]) rfl lk rfl ho))).trans ?_
 refine (aN (show oH 5 [some (.p (.list (vs.map .int))),s1,some (.p (.list (rs.map plD))),some (.p (plD p)),some (.p (.list (xs.map mxD))),some (.o (.list (xs.map mxD))),some (oMx c p xs),some (.p (.bool (yY p xs rs))),some (.p (.list (rs.map plD))),some (.p (.bool (yY p xs rs))),none]=some (.nx [some (.p (.list (vs.map .int))),s1,some (.p (.list (rs.map plD))),some (.p (plD p)),some (.p (.list (xs.map mxD))),some (.o (.list [])),some (oMx c p xs),some (.p (.bool (yY p xs rs))),some (.p (.list (rs.map plD))),some (.p (.bool (yY p xs rs))),none]) from rfl)).trans ?_
 refine (aN (eF (aL8 (a:=.list (rs.map plD)) (fs:=[("plane",plD p),("parts",.list (xs.map mxD))]) rfl lk rfl ho))).trans ?_
 generalize yY p xs rs=b at *
 refine (aN (kF (aO4 (aC8 (eY (aDa rfl ib))) (aC8 (eY (aDa rfl ib)))))).trans (gI ?_)
 exact nH (aO rfl rfl (rX b)) (nH (aO rfl rfl (rX b)) (aO rfl rfl (xI (d:=.list (rs.map plD)) rfl rfl (aF6 rs) false)))
theorem aJg(hk:jY K c){rs:List Pl}{p:Pl}{xs:List Pt3}(hp:Good 200 p.2.2)(hx:∀ x∈xs,GX x)(hl:xs.length<=10){v2:L}(h2:v2=.p (.list (rs.map plD))\/v2=.o (.list (rs.map plD)))(vs:List Int)(s1:Option L):(bC (eA (bH (aF (eqE false) (aF cU (aV 2 (aG K c) (aB (aD 0) (aB (mC (.int 5)) aK))) (mC (.int 6))) (mC (.int 1)))) (vZ (eS 3 (aZ (aM 2) (aZ (aM 3) (aZ (aM 4) eP)))) (aV 1 (dD K c) (aB (aD 0) aK))) bR) (fun en=>(bC (cJ 5 (aE listE (aB (aD 4) aK))) (bC (cJ 6 (qW c.Mixture 2 "plane" "parts" (dR K c) (aB (aD 3) (aB (aD 5) aK)))) (bC (cJ 7 (aV 3 (bE K c) (aB (aD 3) (aB (aD 4) (aB (aD 2) aK))))) (bC (cJ 8 (aE listE (aB (aD 2) aK))) (fun en=>(bC (cJ 9 (yF c.Mixture "holds" 2 (aY K c) (aD 6) (aB (aD 8) aK))) (bC (oH 5) (bC (cJ 10 (yF c.Mixture "holds" 2 (aY K c) (aD 6) (aB (aD 8) aK))) (bC (eA (mOr (nR (bH (mUn (vU K (.type "bool")) (aD 9)))) (nR (bH (mUn (vU K (.type "bool")) (aD 10))))) (eX (mC (.bool false))) bR) (eX (gW (aF (eqE false) (aD 9) (aD 7)) (gW (aF (eqE false) (aD 10) (aD 7)) (aF (eqE false) (aD 8) (aD 2))))))))) (frz 8 en)))))) (frz 2 en))) [some (.p (.list (vs.map .int))),s1,some v2,some (.p (plD p)),some (.p (.list (xs.map mxD))),none,none,none,none,none,none]=some (.rt (.p (.bool true))):=by
 have c5:aG K c [.p (.list (vs.map .int)),.p (.int 5)]=.ok (.p (.int (vs.getD 5 0))):=gT K c vs 5
 have te:bH (aF (eqE false) (aF cU (aV 2 (aG K c) (aB (aD 0) (aB (mC (.int 5)) aK))) (mC (.int 6))) (mC (.int 1))) [some (.p (.list (vs.map .int))),s1,some v2,some (.p (plD p)),some (.p (.list (xs.map mxD))),none,none,none,none,none,none]=.ok ((vs.getD 5 0).fmod 6 == 1):=eY (aO (aO (gB rfl rfl c5) rfl (dB (by decide))) rfl mF)
 cases hb:((vs.getD 5 0).fmod 6 == 1) with
 | false =>
  rw [hb] at te
  exact (aN ((kF te).trans rfl)).trans (aPd K c hk hp hx hl h2 vs s1)
 | true =>
  rw [hb] at te
  obtain ⟨rs',p',xs',g1,g2,g3,fo⟩:=aHc K c vs
  have ca:=yS (f:=aD 0) (en:=[some (.p (.list (vs.map .int))),s1,some v2,some (.p (plD p)),some (.p (.list (xs.map mxD))),none,none,none,none,none,none]) rfl rfl fo
  exact (aN ((jI te).trans (sS (e:=[some (.p (.list (vs.map .int))),s1,some (.p (.list (rs'.map plD))),some (.p (plD p')),some (.p (.list (xs'.map mxD))),none,none,none,none,none,none]) ca rfl rfl))).trans (aPd K c hk g1 g2 g3 (.inl rfl) vs s1)
theorem aLg(hk:jY K c){rs:List Pl}(hr:rs.length<=1000){p:Pl}{xs:List Pt3}(hp:Good 200 p.2.2)(hx:∀ x∈xs,GX x)(hl:xs.length<=10)(vs:List Int)(s1:Option L):(bC (eA (bH (aF (eqE false) (aF cU (aV 2 (aG K c) (aB (aD 0) (aB (mC (.int 3)) aK))) (mC (.int 20))) (mC (.int 19)))) (cJ 2 (fQ 1 [3] (iE (aD 2)) (aM 0) hV (jP K c))) bR) (bC (eA (bH (aF (eqE false) (aF cU (aV 2 (aG K c) (aB (aD 0) (aB (mC (.int 5)) aK))) (mC (.int 6))) (mC (.int 1)))) (vZ (eS 3 (aZ (aM 2) (aZ (aM 3) (aZ (aM 4) eP)))) (aV 1 (dD K c) (aB (aD 0) aK))) bR) (fun en=>(bC (cJ 5 (aE listE (aB (aD 4) aK))) (bC (cJ 6 (qW c.Mixture 2 "plane" "parts" (dR K c) (aB (aD 3) (aB (aD 5) aK)))) (bC (cJ 7 (aV 3 (bE K c) (aB (aD 3) (aB (aD 4) (aB (aD 2) aK))))) (bC (cJ 8 (aE listE (aB (aD 2) aK))) (fun en=>(bC (cJ 9 (yF c.Mixture "holds" 2 (aY K c) (aD 6) (aB (aD 8) aK))) (bC (oH 5) (bC (cJ 10 (yF c.Mixture "holds" 2 (aY K c) (aD 6) (aB (aD 8) aK))) (bC (eA (mOr (nR (bH (mUn (vU K (.type "bool")) (aD 9)))) (nR (bH (mUn (vU K (.type "bool")) (aD 10))))) (eX (mC (.bool false))) bR) (eX (gW (aF (eqE false) (aD 9) (aD 7)) (gW (aF (eqE false) (aD 10) (aD 7)) (aF (eqE false) (aD 8) (aD 2))))))))) (frz 8 en)))))) (frz 2 en)))) [some (.p (.list (vs.map .int))),s1,some (.p (.list (rs.map plD))),some (.p (plD p)),some (.p (.list (xs.map mxD))),none,none,none,none,none,none]=some (.rt (.p (.bool true))):=by
 have c3:aG K c [.p (.list (vs.map .int)),.p (.int 3)]=.ok (.p (.int (vs.getD 3 0))):=gT K c vs 3
 have te:bH (aF (eqE false) (aF cU (aV 2 (aG K c) (aB (aD 0) (aB (mC (.int 3)) aK))) (mC (.int 20))) (mC (.int 19))) [some (.p (.list (vs.map .int))),s1,some (.p (.list (rs.map plD))),some (.p (plD p)),some (.p (.list (xs.map mxD))),none,none,none,none,none,none]=.ok ((vs.getD 3 0).fmod 20 == 19):=eY (aO (aO (gB rfl rfl c3) rfl (dB (by decide))) rfl mF)
 cases hb:((vs.getD 3 0).fmod 20 == 19) with
 | false =>
  rw [hb] at te
  exact (aN ((kF te).trans rfl)).trans (aJg K c hk hp hx hl (.inl rfl) vs s1)
 | true =>
  rw [hb] at te
  have hm:oX (cB 1 [3] (aM 0) hV (jP K c) [some (.p (.list (vs.map .int))),s1,some (.p (.list (rs.map plD))),some (.p (plD p)),some (.p (.list (xs.map mxD))),none,none,none,none,none,none]) (rs.map plD)=some (rs.map fun q=>plD (if slp q=slp p then p else q)):=eI _ fun q _=>by
   have t:bH (aF (eqE false) (aE aT (aB (aF ixE (aD 0) (mC (.int 0))) (aB (aF ixE (aD 0) (mC (.int 1))) aK))) (aE aT (aB (aF ixE (aD 1) (mC (.int 0))) (aB (aF ixE (aD 1) (mC (.int 1))) aK)))) [some (.p (plD q)),some (.p (plD p))]=.ok (decide (slp q=slp p)):=eY (aO (lT (aO rfl rfl (fV q)) (aO rfl rfl (gC q))) (lT (aO rfl rfl (fV p)) (aO rfl rfl (gC p))) (aEn (x:=slp q) (y:=slp p)))
   have e:jP K c [some (.p (plD q)),some (.p (plD p))]=.ok (.p (plD (if slp q=slp p then p else q))):=by
    unfold jP mIf
    rw [t]
    by_cases z:slp q=slp p
    ·rw [aQt z,aQ3 z];rfl
    ·rw [aQv z,aQr z];rfl
   unfold cB
   ktr_call 3 ⟨aM,hV,List.replicate,aTb,aTr,zV,aFc,e,Ev.c⟩
  have hc:=jC (n:=1) (js:=[3]) (fi:=iE (aD 2)) rfl (by rw [aQm];omega) hm
  rw [show (rs.map fun q=>plD (if slp q=slp p then p else q))=(rs.map fun q=>if slp q=slp p then p else q).map plD by rw [aR7];rfl] at hc
  exact (aN ((jI te).trans (iV hc))).trans (aJg K c hk (rs:=rs.map fun q=>if slp q=slp p then p else q) hp hx hl (.inr rfl) vs s1)
theorem aNu(hk:jY K c){rs:List Pl}(g:GS rs){p:Pl}{xs:List Pt3}(f:FY rs p xs)(vs:List Int)(s1:Option L):(bC (eA (bH (aF (eqE false) (aF cU (aV 2 (aG K c) (aB (aD 0) (aB (mC (.int 3)) aK))) (mC (.int 2))) (mC (.int 1)))) (vZ (eS 2 (aZ (aM 3) (aZ (aM 4) eP))) (aV 5 (bA K c) (aB (aD 2) (aB (aD 3) (aB (aD 4) (aB (aF b8 (aV 2 (aG K c) (aB (aD 0) (aB (mC (.int 3)) aK))) (mC (.int 2))) (aB (aV 2 (aG K c) (aB (aD 0) (aB (mC (.int 4)) aK))) aK))))))) bR) (bC (eA (bH (aF (eqE false) (aF cU (aV 2 (aG K c) (aB (aD 0) (aB (mC (.int 3)) aK))) (mC (.int 20))) (mC (.int 19)))) (cJ 2 (fQ 1 [3] (iE (aD 2)) (aM 0) hV (jP K c))) bR) (bC (eA (bH (aF (eqE false) (aF cU (aV 2 (aG K c) (aB (aD 0) (aB (mC (.int 5)) aK))) (mC (.int 6))) (mC (.int 1)))) (vZ (eS 3 (aZ (aM 2) (aZ (aM 3) (aZ (aM 4) eP)))) (aV 1 (dD K c) (aB (aD 0) aK))) bR) (fun en=>(bC (cJ 5 (aE listE (aB (aD 4) aK))) (bC (cJ 6 (qW c.Mixture 2 "plane" "parts" (dR K c) (aB (aD 3) (aB (aD 5) aK)))) (bC (cJ 7 (aV 3 (bE K c) (aB (aD 3) (aB (aD 4) (aB (aD 2) aK))))) (bC (cJ 8 (aE listE (aB (aD 2) aK))) (fun en=>(bC (cJ 9 (yF c.Mixture "holds" 2 (aY K c) (aD 6) (aB (aD 8) aK))) (bC (oH 5) (bC (cJ 10 (yF c.Mixture "holds" 2 (aY K c) (aD 6) (aB (aD 8) aK))) (bC (eA (mOr (nR (bH (mUn (vU K (.type "bool")) (aD 9)))) (nR (bH (mUn (vU K (.type "bool")) (aD 10))))) (eX (mC (.bool false))) bR) (eX (gW (aF (eqE false) (aD 9) (aD 7)) (gW (aF (eqE false) (aD 10) (aD 7)) (aF (eqE false) (aD 8) (aD 2))))))))) (frz 8 en)))))) (frz 2 en))))) [some (.p (.list (vs.map .int))),s1,some (.p (.list (rs.map plD))),some (.p (plD p)),some (.p (.list (xs.map mxD))),none,none,none,none,none,none]=some (.rt (.p (.bool true))):=by
 have c3:aG K c [.p (.list (vs.map .int)),.p (.int 3)]=.ok (.p (.int (vs.getD 3 0))):=gT K c vs 3
 have c4:aG K c [.p (.list (vs.map .int)),.p (.int 4)]=.ok (.p (.int (vs.getD 4 0))):=gT K c vs 4
 have te:bH (aF (eqE false) (aF cU (aV 2 (aG K c) (aB (aD 0) (aB (mC (.int 3)) aK))) (mC (.int 2))) (mC (.int 1))) [some (.p (.list (vs.map .int))),s1,some (.p (.list (rs.map plD))),some (.p (plD p)),some (.p (.list (xs.map mxD))),none,none,none,none,none,none]=.ok ((vs.getD 3 0).fmod 2 == 1):=eY (aO (aO (gB rfl rfl c3) rfl (dB (by decide))) rfl mF)
 have lr:=g.l
 cases hb:((vs.getD 3 0).fmod 2 == 1) with
 | false =>
  rw [hb] at te
  have:=f.u
  exact (aN ((kF te).trans rfl)).trans (aLg K c hk (by omega) (g.gp f.a).h (f.gx g) (by omega) vs s1)
 | true =>
  rw [hb] at te
  obtain ⟨p',xs',g1,g2,g3,po⟩:=aM4 K c g f ((vs.getD 3 0).fdiv 2) (vs.getD 4 0)
  have d2:b8 (.p (.int (vs.getD 3 0))) (.p (.int 2))=.ok (.p (.int ((vs.getD 3 0).fdiv 2))):=gL (cdl (by decide) (by decide))
  have a3:aF b8 (aV 2 (aG K c) (aB (aD 0) (aB (mC (.int 3)) aK))) (mC (.int 2)) [some (.p (.list (vs.map .int))),s1,some (.p (.list (rs.map plD))),some (.p (plD p)),some (.p (.list (xs.map mxD))),none,none,none,none,none,none]=.ok (.p (.int ((vs.getD 3 0).fdiv 2))):=aO (gB rfl rfl c3) rfl d2
  have a4:aV 2 (aG K c) (aB (aD 0) (aB (mC (.int 4)) aK)) [some (.p (.list (vs.map .int))),s1,some (.p (.list (rs.map plD))),some (.p (plD p)),some (.p (.list (xs.map mxD))),none,none,none,none,none,none]=.ok (.p (.int (vs.getD 4 0))):=gB rfl rfl c4
  have ar:(aB (aD 2) (aB (aD 3) (aB (aD 4) (aB (aF b8 (aV 2 (aG K c) (aB (aD 0) (aB (mC (.int 3)) aK))) (mC (.int 2))) (aB (aV 2 (aG K c) (aB (aD 0) (aB (mC (.int 4)) aK))) aK))))) [some (.p (.list (vs.map .int))),s1,some (.p (.list (rs.map plD))),some (.p (plD p)),some (.p (.list (xs.map mxD))),none,none,none,none,none,none]=.ok [.p (.list (rs.map plD)),.p (plD p),.p (.list (xs.map mxD)),.p (.int ((vs.getD 3 0).fdiv 2)),.p (.int (vs.getD 4 0))]:=cI (x:=.p (.list (rs.map plD))) rfl (cI (x:=.p (plD p)) rfl (cI (x:=.p (.list (xs.map mxD))) rfl (cI a3 (cI a4 rfl))))
  have ca:=yJ ar rfl rfl po
  exact (aN ((jI te).trans (sS (e:=[some (.p (.list (vs.map .int))),s1,some (.p (.list (rs.map plD))),some (.p (plD p')),some (.p (.list (xs'.map mxD))),none,none,none,none,none,none]) ca rfl rfl))).trans (aLg K c hk (by omega) g1.h g2 g3 vs s1)
theorem aNx(vs:List Int)(a b:Nat):∃ cs:List Int,M.cutD (vs.map .int) (some (a:Int)) (some (b:Int))=cs.map .int/\(∀ x∈cs,x∈vs)/\cs.length<=b - a:=by
 refine ⟨(vs.drop (HT.sIx vs.length 0 (some (a:Int)))).take (HT.sIx vs.length vs.length (some (b:Int)) - HT.sIx vs.length 0 (some (a:Int))),?_,fun x hx=>aVn (aVp hx),?_⟩
 ·unfold M.cutD
  rw [aQm,aW9,List.map_drop]
 ·rw [aSh,aTa,HT.vD,HT.vD]
  omega
theorem aG0{vs:List Int}(h:∀ v∈vs,0<=v/\Sz 200 v)(k:Nat):0<=vs.getD k 0/\Sz 200 (vs.getD k 0):=by
 by_cases hk:k < vs.length
 ·exact h _ (by rw [show vs.getD k 0=vs[k] by simp [List.getD,hk]];exact aSs hk)
 ·have:vs.getD k 0=0:=by simp [List.getD,aWs hk]
  rw [this]
  exact ⟨by decide,by unfold Sz;decide⟩
theorem aNa{m:Mp}(g:Gm m)(n:eW m≠[]):RO 80 5 (eW m):=⟨n,xH g.1,fun p hp=>by
 have k:=vJ g p hp
 exact ⟨⟨k.i0,k.i1,k.j0,k.j1⟩,k.h.p,k.h.t,k.h.b,k.h.f⟩⟩
theorem aLe(hk:jY K c)(ns:List Int)(hn:ns.length<=63):xW K c [.p (.list (ns.map .int))]=.ok (.p (.bool true)):=by
 obtain ⟨vs,vl,vb,sk⟩:=aHe K c ns hn
 have vz:∀ v∈vs,0<=v/\Sz 200 v:=fun v hv=>by
  obtain ⟨a,b⟩:=vb v hv
  unfold PR at b
  exact ⟨a,by unfold Sz;omega⟩
 have gz:=aG0 vz
 have c0:aG K c [.p (.list (vs.map .int)),.p (.int 0)]=.ok (.p (.int (vs.getD 0 0))):=gT K c vs 0
 have c1:aG K c [.p (.list (vs.map .int)),.p (.int 1)]=.ok (.p (.int (vs.getD 1 0))):=gT K c vs 1
 have c2:aG K c [.p (.list (vs.map .int)),.p (.int 2)]=.ok (.p (.int (vs.getD 2 0))):=gT K c vs 2
 obtain ⟨cs,ec,cm,cl⟩:=aNx vs 6 18
 have z3:=b9 (a:=(vs.getD 0 0).fdiv 12) (b:=3) (by decide)
 obtain ⟨wd,w0,w1,ew⟩:∃ wd:Int,1<=wd/\wd<=9/\ixE (.p (.tuple [.int 9,.int 5,.int 3])) (.p (.int (((vs.getD 0 0).fdiv 12).fmod 3)))=.ok (.p (.int wd)):=by
  rcases (show ((vs.getD 0 0).fdiv 12).fmod 3=0\/((vs.getD 0 0).fdiv 12).fmod 3=1\/((vs.getD 0 0).fdiv 12).fmod 3=2 by omega) with z | z | z
  ·rw [z];exact ⟨9,by decide,by decide,rfl⟩
  ·rw [z];exact ⟨5,by decide,by decide,rfl⟩
  ·rw [z];exact ⟨3,by decide,by decide,rfl⟩
 obtain ⟨m,gm,mn,ml,rk⟩:=aDe K c (kind:=vs.getD 0 0) (w:=wd) (mo:=5) (gz 0).2 w0 w1 cs (by omega) fun x hx=>vz x (cm x hx)
 have rl:(eW m).length<=10:=by rw [jS];omega
 have rn:eW m≠[]:=mn
 obtain ⟨rs,ro,r10,mk⟩:=aEx K c (aNa gm rn) rl (vs.getD 1 0)
 have g:GS rs:=⟨ro.n,r10,fun p hp=>by
  obtain ⟨⟨b1,b2,b3,b4⟩,gn⟩:=ro.g p hp
  unfold slp at b1 b2 b3 b4
  dsimp only at b1 b2 b3 b4
  exact ⟨by unfold Sz;omega,by unfold Sz;omega,⟨gn.p,gn.t.mono (by decide),gn.s.mono (by decide)⟩⟩⟩
 obtain ⟨p,xs,f,pf⟩:=aN1 K c g (vs.getD 2 0)
 have sl:mSl (aD 0) (mPt (mC (.int 6))) (mPt (mC (.int 18))) [some (.p (.list (vs.map .int))),some (.p (.int (vs.getD 0 0))),none,none,none,none,none,none,none,none,none]=.ok (.f (.list (cs.map .int))):=by
  rw [<- ec]
  exact aPf (x:=.p (.list (vs.map .int))) (l:=some 6) (u:=some 18) rfl rfl rfl
 have d12:b8 (.p (.int (vs.getD 0 0))) (.p (.int 12))=.ok (.p (.int ((vs.getD 0 0).fdiv 12))):=gL (cdl (by decide) (by decide))
 unfold xW
 refine eC ?_
 rw [show cW 11 [.p (.list (ns.map .int))]=[some (.p (.list (ns.map .int))),none,none,none,none,none,none,none,none,none,none] from rfl]
 unfold aE6
 refine (aN (iV (yS rfl rfl sk))).trans ?_
 refine fO (i:=0) (e1:=[some (.p (.list (vs.map .int))),none,none,none,none,none,none,none,none,none,none]) rfl ?_
 refine (aN (eF (gB rfl rfl c0))).trans ?_
 have iw:aF cU (aF b8 (aD 1) (mC (.int 12))) (mC (.int 3)) [some (.p (.list (vs.map .int))),some (.p (.int (vs.getD 0 0))),none,none,none,none,none,none,none,none,none]=.ok (.p (.int (((vs.getD 0 0).fdiv 12).fmod 3))):=aO (aO rfl rfl d12) rfl (dB (by decide))
 have tw:aE aT (aB (mC (.int 9)) (aB (mC (.int 5)) (aB (mC (.int 3)) aK))) [some (.p (.list (vs.map .int))),some (.p (.int (vs.getD 0 0))),none,none,none,none,none,none,none,none,none]=.ok (.p (.tuple [.int 9,.int 5,.int 3])):=rfl
 have ar:(aB (aD 1) (aB (mSl (aD 0) (mPt (mC (.int 6))) (mPt (mC (.int 18)))) (aB (mC (.int 5)) (aB (aF ixE (aE aT (aB (mC (.int 9)) (aB (mC (.int 5)) (aB (mC (.int 3)) aK)))) (aF cU (aF b8 (aD 1) (mC (.int 12))) (mC (.int 3)))) aK)))) [some (.p (.list (vs.map .int))),some (.p (.int (vs.getD 0 0))),none,none,none,none,none,none,none,none,none]=.ok [.p (.int (vs.getD 0 0)),.p (.list (cs.map .int)),.p (.int 5),.p (.int wd)]:=cI (x:=.p (.int (vs.getD 0 0))) rfl (cI sl (cI (x:=.p (.int 5)) rfl (cI (aO tw iw ew) rfl)))
 have rc:aV 4 (cT K c) (aB (aD 1) (aB (mSl (aD 0) (mPt (mC (.int 6))) (mPt (mC (.int 18)))) (aB (mC (.int 5)) (aB (aF ixE (aE aT (aB (mC (.int 9)) (aB (mC (.int 5)) (aB (mC (.int 3)) aK)))) (aF cU (aF b8 (aD 1) (mC (.int 12))) (mC (.int 3)))) aK)))) [some (.p (.list (vs.map .int))),some (.p (.int (vs.getD 0 0))),none,none,none,none,none,none,none,none,none]=.ok (.f (.list ((eW m).map plD))):=yJ ar rfl rfl rk
 refine (aN (iV rc)).trans ?_
 refine fO (i:=2) (e1:=[some (.p (.list (vs.map .int))),some (.p (.int (vs.getD 0 0))),some (.p (.list ((eW m).map plD))),none,none,none,none,none,none,none,none]) rfl ?_
 refine (aN (iV (gB rfl (gB rfl rfl c1) mk))).trans ?_
 refine fO (i:=2) (e1:=[some (.p (.list (vs.map .int))),some (.p (.int (vs.getD 0 0))),some (.p (.list (rs.map plD))),none,none,none,none,none,none,none,none]) rfl ?_
 have ca:=gB (f:=aD 2) (g:=aV 2 (aG K c) (aB (aD 0) (aB (mC (.int 2)) aK))) (en:=[some (.p (.list (vs.map .int))),some (.p (.int (vs.getD 0 0))),some (.p (.list (rs.map plD))),none,none,none,none,none,none,none,none]) rfl (gB rfl rfl c2) pf
 exact (aN (sS (e:=[some (.p (.list (vs.map .int))),some (.p (.int (vs.getD 0 0))),some (.p (.list (rs.map plD))),some (.p (plD p)),some (.p (.list (xs.map mxD))),none,none,none,none,none,none]) ca rfl rfl)).trans (aNu K c hk g f vs (some (.p (.int (vs.getD 0 0)))))
local macro_rules | `(tactic| walk_at "s") => `(tactic| exact ⟨rfl,rfl,rfl,by decide +kernel,rfl,by decide +kernel,by decide +kernel⟩)
section
variable {P:Program}{w:World}{K:aQk}{mg:Str->Option Value}{base:Heap}
theorem n4:bV ["self","plane","parts"] ["self","plane","parts"] (aQ eZ):=by walk_at "s"
theorem nE{c:Cls}(Df:aMt K mg "Mixture" c.Mixture "Mixture.__init__" ["self","plane","parts"] eZ "plane" "parts")(B:Blt mg):Mak P w K mg base 1 "Mixture" c.Mixture 2 "plane" "parts" (dR K c):=by
 refine aPz (k:=0) Df n4 rfl rfl (by decide +kernel) (fun f b A o s H E hr=>⟨_,_,_,_,_,_,_,_,rfl,xP rfl (Or.inl rfl),xP rfl (Or.inl rfl),(dv 1),(k9 iH qP mS rfl B.list_ rA (aA (dv 2) aH)),rfl,rfl⟩)
theorem aIu:bV ["a","b"] ["a","b"] (aQ wK):=by walk_at "s"
theorem aIw{c:Cls}(Df:Def K mg "plus" ["a","b"] wK)(B:Blt mg)(C:l7 mg c)(O:l4 mg base c)(hk:jY K c)(c_fraction:Cal P w K mg base 2 "fraction" 2 (eQ K c)):Cal P w K mg base 3 "plus" 2 (mB K c):=by
 refine oW (k:=2) Df aIu rfl (fun f b A o s H E hr=>⟨aCa K c,?_,aGu K c⟩)
 exact (aR (cP (aU c_fraction hr cR (aA (aS cF dF cG (aS bW cZ aI (aX (dv 0) aC ra) (aX (dv 1) aC ra)) (aS bW cZ aI (aX (dv 1) aC ra) (aX (dv 0) aC ra))) (aA (aS bW cZ aI (aX (dv 0) aC ra) (aX (dv 1) aC ra)) aH)))))
theorem sc__law_low:bV ["_law_top","_law_bottom","_law_one","_law_other"] ["_law_top","_law_bottom"] (aQ jU):=by walk_at "s"
theorem vB{c:Cls}(Df:Def K mg "_law_low" ["_law_top","_law_bottom"] jU)(B:Blt mg)(C:l7 mg c)(O:l4 mg base c)(hk:jY K c):Cal P w K mg base 1 "_law_low" 2 (bI K c):=by
 refine oW (k:=0) Df sc__law_low rfl (fun f b A o s H E hr=>⟨pR K c,?_,vG K c⟩)
 exact (aJ (a8 (i:=2) sc__law_low.nd rfl (Or.inl rfl) (bX mX vT qV rfl B.abs_ vP (aA (dv 0) aH))) (aJ (a8 (i:=3) sc__law_low.nd rfl (Or.inl rfl) (bX mX vT qV rfl B.abs_ vP (aA (dv 1) aH))) (aJ (xK aRq (bL aDq iY bY (dv 3) aC (bG _)) (aR (aL7 (i:=2) (j:=3) rfl sc__law_low.nd rfl rfl (by decide) rfl rfl (aA (dv 3) (aA (aS a7 bM aI (dv 2) (dv 3)) aH))))) (aJ (eL (bL qR iY bY (dv 1) aC (bG _)) (aR (a8 (i:=2) sc__law_low.nd rfl (Or.inl rfl) (wN (dv 2)))) bS) (aR (cP (aW (aA (aS cA dA aI (dv 0) (dv 2)) (aA (aS cA dA aI (dv 1) (dv 2)) aH)))))))))
theorem sc_law:bV ["_law_script","_law_kind","_law_roof","_law_plane","_law_parts","_law_handed","_law_paper","_law_due","_law_copy","_law_first","_law_second"] ["_law_script"] (aQ tF):=by walk_at "s"
theorem aJi{c:Cls}{f:Addr}{fd:FuncData}(F:Fun K "law" "law" tF f fd)(B:Blt mg)(C:l7 mg c)(O:l4 mg base c)(hk:jY K c)(k_Mixture:Mak P w K mg base 1 "Mixture" c.Mixture 2 "plane" "parts" (dR K c))(c_Mixture_holds:aJ5 P w K mg base 7 c.Mixture "holds" 2 (aY K c))(c__law_mix_right:Cal P w K mg base 3 "_law_mix_right" 3 (bE K c))(c__law_cell_at:Cal P w K mg base 1 "_law_cell_at" 2 (aG K c))(c__law_four:Cal P w K mg base 3 "_law_four" 1 (dD K c))(c__law_put_otherwise:Cal P w K mg base 3 "_law_put_otherwise" 5 (bA K c))(c__law_pair_for:Cal P w K mg base 1 "_law_pair_for" 2 (cM K c))(c__law_with_mixed:Cal P w K mg base 3 "_law_with_mixed" 2 (cD K c))(c__law_roof_by:Cal P w K mg base 3 "_law_roof_by" 4 (cT K c))(c__law_stirred:Cal P w K mg base 2 "_law_stirred" 1 (dC K c)):FnOk P w K mg base (CXr P w) 8 f fd ["_law_script"] (spM K 1 (xW K c)):=by
 refine fnM (k:=7) F sc_law rfl (fun cdv A outer s H E hr=>⟨aE6 K c,?_,aLy K c⟩)
 exact (aJ (a8 (i:=0) sc_law.nd rfl (Or.inl rfl) (aU c__law_stirred hr cR (aA (dv 0) aH))) (gH 0 (aJ (a8 (i:=1) sc_law.nd rfl (Or.inl rfl) (aU c__law_cell_at hr cR (aA (dv 0) (aA aC aH)))) (aJ (a8 (i:=2) sc_law.nd rfl (Or.inl rfl) (aU c__law_roof_by hr cR (aA (dv 1) (aA (aJ4 (dv 0) (u4 aC) (u4 aC)) (aA aC (aA (aX (aW (aA aC (aA aC (aA aC aH)))) (aS a7 bM aI (aS cA dA aI (dv 1) aC) aC) ra) aH)))))) (gH 2 (aJ (a8 (i:=2) sc_law.nd rfl (Or.inl rfl) (aU c__law_with_mixed hr cR (aA (dv 2) (aA (aU c__law_cell_at hr cR (aA (dv 0) (aA aC aH))) aH)))) (gH 2 (aJ (rZ (aU c__law_pair_for hr cR (aA (dv 2) (aA (aU c__law_cell_at hr cR (aA (dv 0) (aA aC aH))) aH))) (iF (n:=2) rfl (bN (a9 (i:=3) sc_law.nd rfl (Or.inr rfl)) (bN (a9 (i:=4) sc_law.nd rfl (Or.inl rfl)) fT)))) (aJ (eL (bL (cV (u64 hr)) dW cH (aS a7 bM aI (aU c__law_cell_at hr cR (aA (dv 0) (aA aC aH))) aC) aC (bG _)) (aR (rZ (aU c__law_put_otherwise hr cR (aA (dv 2) (aA (dv 3) (aA (dv 4) (aA (aS cA dA aI (aU c__law_cell_at hr cR (aA (dv 0) (aA aC aH))) aC) (aA (aU c__law_cell_at hr cR (aA (dv 0) (aA aC aH))) aH)))))) (iF (n:=2) rfl (bN (a9 (i:=3) sc_law.nd rfl (Or.inr rfl)) (bN (a9 (i:=4) sc_law.nd rfl (Or.inl rfl)) fT))))) bS) (aJ (eL (bL (cV (u64 hr)) dW cH (aS a7 bM aI (aU c__law_cell_at hr cR (aA (dv 0) (aA aC aH))) aC) aC (bG _)) (aR (aIc (i:=2) sc_law.nd rfl (Or.inl rfl) (xs:=["_law_one"]) (ys:=["_law_plane"]) (js:=[3]) (cl:=[("_law_plane",s.heap.objs.size+1)]) rfl (d4 (dv 2)) (lC (ys:=["_law_plane"]) (js:=[3]) rfl (aSq.mpr ⟨rfl,(fun _ h=>nomatch h)⟩) (eJ ⟨rfl,.inl rfl,.inl rfl,rfl,rfl⟩ cO) (by decide +kernel) (by decide +kernel)) (eJ ⟨rfl,.inl rfl,.inl rfl,rfl,rfl⟩ cO) (by decide +kernel) rfl (by decide +kernel) rfl (by decide) (fun C s₀ H₀ ex pn=>(a9 (i:=0) (show (["_law_one","_law_plane"]:List Str).Nodup by decide +kernel) rfl (Or.inl rfl))) (fun C s₀ H₀ ex pn=>fS) (fun C s₀ H₀ ex pn=>(aOf (bL (cV (u64 hr)) dW cH (aW (aA (aX (dv 0) aC ra) (aA (aX (dv 0) aC ra) aH))) (aW (aA (aX (dv 1) aC ra) (aA (aX (dv 1) aC ra) aH))) (bG _)) (dv 1) (dv 0))))) bS) (aJ (eL (bL (cV (u64 hr)) dW cH (aS a7 bM aI (aU c__law_cell_at hr cR (aA (dv 0) (aA aC aH))) aC) aC (bG _)) (aR (rZ (aU c__law_four hr cR (aA (dv 0) aH)) (iF (n:=3) rfl (bN (a9 (i:=2) sc_law.nd rfl (Or.inl rfl)) (bN (a9 (i:=3) sc_law.nd rfl (Or.inr rfl)) (bN (a9 (i:=4) sc_law.nd rfl (Or.inl rfl)) fT)))))) bS) (gH 2 (aJ (a8 (i:=5) sc_law.nd rfl (Or.inl rfl) (k9 iH qP mS rfl B.list_ rA (aA (dv 4) aH))) (aJ (a8 (i:=6) sc_law.nd rfl (Or.inl rfl) (aI0 k_Mixture hr cR (aA (dv 3) (aA (dv 5) aH)))) (aJ (a8 (i:=7) sc_law.nd rfl (Or.inl rfl) (aU c__law_mix_right hr cR (aA (dv 3) (aA (dv 4) (aA (dv 2) aH))))) (aJ (a8 (i:=8) sc_law.nd rfl (Or.inl rfl) (k9 iH qP mS rfl B.list_ rA (aA (dv 2) aH))) (gH 8 (aJ (a8 (i:=9) sc_law.nd rfl (Or.inl rfl) (aBr c_Mixture_holds hr cR (dv 6) (aA (dv 8) aH))) (aJ (aEu (i:=5) (kL (aLo aSk PySem.F.slot_list_clear PySem.F.type_list_clear aDj (pv 5)))) (aJ (a8 (i:=10) sc_law.nd rfl (Or.inl rfl) (aBr c_Mixture_holds hr cR (dv 6) (aA (dv 8) aH))) (aJ (eL (DW.t (oE (xN (wG (aGl (cv:=.type "bool") rfl B.isinstance_ (.inl ⟨_,rfl⟩) rfl (dv 9) (aB5 (v:=.ty "bool") rfl B.bool_ zS rfl)))) (oU (xN (wG (aGl (cv:=.type "bool") rfl B.isinstance_ (.inl ⟨_,rfl⟩) rfl (dv 10) (aB5 (v:=.ty "bool") rfl B.bool_ zS rfl))))))) (aR (cP uZ)) bS) (aR (cP (pP (j9 (cV (u64 hr)) dW cH (dv 9) (dv 7) (bG _)) (pP (j9 (cV (u64 hr)) dW cH (dv 10) (dv 7) (bG _)) (w5 (j9 (cV (u64 hr)) dW cH (dv 8) (dv 2) (bG _))))))))))))))))))))))))))))
end
section
variable {P:Program}{w:World}{K:aQk}{mg:Str->Option Value}{base:Heap}
theorem qO:bV ["shares"] ["shares"] (aQ iJ):=by walk_at "s"
theorem rL{c:Cls}(Df:Def K mg "are_shares" ["shares"] iJ)(B:Blt mg)(C:l7 mg c)(O:l4 mg base c)(hk:jY K c)(c_shared_sum:Cal P w K mg base 4 "shared_sum" 1 (bZ K c))(c_less:Cal P w K mg base 1 "less" 2 (j7 K c)):Cal P w K mg base 5 "are_shares" 1 (dX K c):=by
 refine oW (k:=4) Df qO rfl (fun f b A o s H E hr=>⟨iG K c,?_,rC K c⟩)
 exact (aJ (eL (xN (wG (bX (vO rfl rfl) aF7 aBf rfl B.all_ aF3 (aA (gK (xs:=["share"]) (ys:=[]) (js:=[]) (cl:=[]) rfl (d4 (dv 0)) (lC (ys:=[]) (js:=[]) rfl (fun _ h=>nomatch h) cO (by decide +kernel) (by decide +kernel)) cO (by decide +kernel) rfl (by decide +kernel) rfl (by decide) (fun C s₀ H₀ ex pn=>(a9 (i:=0) (show (["share"]:List Str).Nodup by decide +kernel) rfl (Or.inl rfl))) (fun C s₀ H₀ ex pn=>fS) (fun C s₀ H₀ ex pn=>(aU c_less hr aIg (aA (aW (aA aC (aA aC aH))) (aA (dv 0) aH))))) aH)))) (aR (cP uZ)) bS) (aR (cP (j9 (cV (u64 hr)) dW cH (aU c_shared_sum hr cR (aA (gK (xs:=["share"]) (ys:=[]) (js:=[]) (cl:=[]) rfl (d4 (dv 0)) (lC (ys:=[]) (js:=[]) rfl (fun _ h=>nomatch h) cO (by decide +kernel) (by decide +kernel)) cO (by decide +kernel) rfl (by decide +kernel) rfl (by decide) (fun C s₀ H₀ ex pn=>(a9 (i:=0) (show (["share"]:List Str).Nodup by decide +kernel) rfl (Or.inl rfl))) (fun C s₀ H₀ ex pn=>fS) (fun C s₀ H₀ ex pn=>(aW (aA (dv 0) (aA (aW (aA aC (aA aC aH))) aH))))) aH)) (aW (aA aC (aA aC aH))) (bG _)))))
theorem nJ:bV ["_law_one","_law_other"] ["_law_one","_law_other"] (aQ gN):=by walk_at "s"
theorem nS{c:Cls}(Df:Def K mg "_law_product" ["_law_one","_law_other"] gN)(B:Blt mg)(C:l7 mg c)(O:l4 mg base c)(hk:jY K c)(c__law_low:Cal P w K mg base 1 "_law_low" 2 (bI K c)):Cal P w K mg base 2 "_law_product" 2 (bF K c):=by
 refine oW (k:=1) Df nJ rfl (fun f b A o s H E hr=>⟨iN K c,?_,oM K c⟩)
 exact (aR (cP (aU c__law_low hr cR (aA (aS bW cZ aI (aX (dv 0) aC ra) (aX (dv 1) aC ra)) (aA (aS bW cZ aI (aX (dv 0) aC ra) (aX (dv 1) aC ra)) aH)))))
theorem sc__law_put_otherwise:bV ["_law_roof","_law_plane","_law_parts","_law_cell","_law_other","_law_at","_law_some","_law_share","_law_one","_law_way"] ["_law_roof","_law_plane","_law_parts","_law_cell","_law_other"] (aQ dQ):=by walk_at "s"
theorem jJ{c:Cls}(Df:Def K mg "_law_put_otherwise" ["_law_roof","_law_plane","_law_parts","_law_cell","_law_other"] dQ)(B:Blt mg)(C:l7 mg c)(O:l4 mg base c)(hk:jY K c)(c__law_sum:Cal P w K mg base 2 "_law_sum" 2 (bK K c))(c__law_low:Cal P w K mg base 1 "_law_low" 2 (bI K c)):Cal P w K mg base 3 "_law_put_otherwise" 5 (bA K c):=by
 refine oW (k:=2) Df sc__law_put_otherwise rfl (fun f b A o s H E hr=>⟨dO K c,?_,jK K c⟩)
 exact (aJ (a8 (i:=5) sc__law_put_otherwise.nd rfl (Or.inl rfl) (aS a7 bM aI (dv 4) (bX bP hX fJ (by rfl) B.len_ aRp (aA (dv 2) aH)))) (aJ (a8 (i:=6) sc__law_put_otherwise.nd rfl (Or.inl rfl) (k9 iH qP mS (by rfl) B.list_ rA (aA (dv 2) aH))) (aJ (rZ (aX (dv 6) (dv 5) ra) (iF (n:=2) rfl (bN (a9 (i:=7) sc__law_put_otherwise.nd rfl (Or.inl rfl)) (bN (a9 (i:=8) sc__law_put_otherwise.nd rfl (Or.inl rfl)) fT)))) (aJ (a8 (i:=9) sc__law_put_otherwise.nd rfl (Or.inl rfl) (aS a7 bM aI (dv 3) aC)) (aJ (eL (bL (cV (u64 hr)) dW cH (dv 9) aC (bG _)) (aR (q0 (i:=6) (dv 5) (aW (aA (aU c__law_low hr cR (aA (aS cF dF cG (aS kP kX bY (aS bW cZ aI (aX (dv 7) aC ra) aC) aC) (aS a7 bM aI (dv 4) aC)) (aA (aS cF dF cG (aX (dv 7) aC ra) aC) aH))) (aA (dv 8) aH))) (fun _ _ p q=>s8 q (wR (pv 6) p set_list)))) bS) (aJ (eL (bL (cV (u64 hr)) dW cH (dv 9) aC (bG _)) (aR (q0 (i:=6) (dv 5) (aW (aA (dv 7) (aA (aX (dv 0) (aS a7 bM aI (aS cA dA aI (dv 4) aC) (bX bP hX fJ (by rfl) B.len_ aRp (aA (dv 0) aH))) ra) aH))) (fun _ _ p q=>s8 q (wR (pv 6) p set_list)))) bS) (aJ (eL (bL (cV (u64 hr)) dW cH (dv 9) aC (bG _)) (aR (q0 (i:=6) (dv 5) (aW (aA (dv 7) (aA (dv 1) aH))) (fun _ _ p q=>s8 q (wR (pv 6) p set_list)))) bS) (aJ (eL (bL (cV (u64 hr)) dW cH (dv 9) aC (bG _)) (aR (jM (i:=6) (aX (dv 6) (dv 5) ra) (fun t q=>kL (yA aSk aSz aS0 jL (pv 6) (i8 q mD))))) bS) (aJ (eL (bL (cV (u64 hr)) dW cH (dv 9) aC (bG _)) (aR (aD9 (i:=6) (dv 5) (fun t q=>kL (yA aSk PySem.F.slot_list_pop PySem.F.type_list_pop aEg (pv 6) (i8 q mD))))) bS) (aJ (eL (bL (cV (u64 hr)) dW cH (dv 9) aC (bG _)) (aR (a8 (i:=6) sc__law_put_otherwise.nd rfl (Or.inl rfl) (iC aH))) bS) (aJ (eL (bL (cV (u64 hr)) dW cH (dv 9) aC (bG _)) (aR (q0 (i:=6) (dv 5) (aW (aA (aW (aA (aS bW cZ aI (wN aC) (aS a7 bM aI (dv 4) aC)) (aA aC aH))) (aA (dv 8) aH))) (fun _ _ p q=>s8 q (wR (pv 6) p set_list)))) bS) (aJ (eL (bL (cV (u64 hr)) dW cH (dv 9) aC (bG _)) (aR (a8 (i:=6) sc__law_put_otherwise.nd rfl (Or.inl rfl) (aS cF dF cG (gK (xs:=["_law_part"]) (ys:=[]) (js:=[]) (cl:=[]) rfl (d4 (aJ4 (dv 6) aI2 (u4 aC))) (lC (ys:=[]) (js:=[]) rfl (fun _ h=>nomatch h) cO (by decide +kernel) (by decide +kernel)) cO (by decide +kernel) rfl (by decide +kernel) rfl (by decide) (fun C s₀ H₀ ex pn=>(a9 (i:=0) (show (["_law_part"]:List Str).Nodup by decide +kernel) rfl (Or.inl rfl))) (fun C s₀ H₀ ex pn=>fS) (fun C s₀ H₀ ex pn=>(aW (aA (aW (aA aC (aA aC aH))) (aA (aX (dv 0) aC ra) aH))))) (iC (aA (aW (aA (aW (aA aC (aA aC aH))) (aA (aX (dv 0) (aS a7 bM aI (aS cA dA aI (dv 4) aC) (bX bP hX fJ (by rfl) B.len_ aRp (aA (dv 0) aH))) ra) aH))) aH))))) bS) (aJ (eL (bL (cV (u64 hr)) dW cH (dv 9) aC (bG _)) (aR (a8 (i:=6) sc__law_put_otherwise.nd rfl (Or.inl rfl) (yR rfl (by rfl) B.list_ (by rfl) B.reversed_ (dv 6)))) bS) (aJ (eL (bL (cV (u64 hr)) dW cH (dv 9) aC (bG _)) (aR (a8 (i:=1) sc__law_put_otherwise.nd rfl (Or.inl rfl) (aW (aA (aX (dv 1) aC ra) (aA (aX (dv 1) aC ra) (aA (aU c__law_sum hr cR (aA (aX (dv 1) aC ra) (aA (aW (aA (aS kP kX bY (aS a7 bM aI (dv 4) aC) aC) (aA (aS cF dF cG aC (aS a7 bM aI (aS cA dA aI (dv 4) aC) aC)) aH))) aH))) aH)))))) bS) (gH 6 (aR (cP (aW (aA (dv 1) (aA (dv 6) aH))))))))))))))))))))
end
section
variable {P:Program}{w:World}{K:aQk}{mg:Str->Option Value}{base:Heap}
theorem aI5:bV ["a","b"] ["a","b"] (aQ wY):=by walk_at "s"
theorem aIz{c:Cls}(Df:Def K mg "less" ["a","b"] wY)(B:Blt mg)(C:l7 mg c)(O:l4 mg base c)(hk:jY K c):Cal P w K mg base 1 "less" 2 (j7 K c):=by
 refine oW (k:=0) Df aI5 rfl (fun f b A o s H E hr=>⟨aA2 K c,?_,aG9 K c⟩)
 exact (aR (cP (j9 qR iY bY (aS bW cZ aI (aX (dv 0) aC ra) (aX (dv 1) aC ra)) (aS bW cZ aI (aX (dv 1) aC ra) (aX (dv 0) aC ra)) (bG _))))
theorem sc__law_stirred:bV ["_law_script","_law_prime","_law_made","_law_k","_law_cell"] ["_law_script"] (aQ gO):=by walk_at "s"
theorem n6{c:Cls}(Df:Def K mg "_law_stirred" ["_law_script"] gO)(B:Blt mg)(C:l7 mg c)(O:l4 mg base c)(hk:jY K c)(c__law_cell_at:Cal P w K mg base 1 "_law_cell_at" 2 (aG K c)):Cal P w K mg base 2 "_law_stirred" 1 (dC K c):=by
 refine oW (k:=1) Df sc__law_stirred rfl (fun f b A o s H E hr=>⟨iP K c,?_,oB K c⟩)
 exact (aJ (a8 (i:=1) sc__law_stirred.nd rfl (Or.inl rfl) aC) (aJ (a8 (i:=2) sc__law_stirred.nd rfl (Or.inl rfl) (iC aH)) (aJ (jA aRq rfl (iZ rfl B.range_ (aA (bX (zU rfl) aJh aHq rfl B.max_ aJ6 (aA (bX bP hX fJ rfl B.len_ aRp (aA (dv 0) aH)) (aA aC aH))) aH)) (a9 (i:=3) sc__law_stirred.nd rfl (Or.inl rfl)) (aJ (a8 (i:=4) sc__law_stirred.nd rfl (Or.inl rfl) (aS a7 bM aI (aU c__law_cell_at hr cR (aA (dv 0) (aA (dv 3) aH))) (dv 1))) (aJ (a8 (i:=4) sc__law_stirred.nd rfl (Or.inl rfl) (aS a7 bM aI (aS cF dF cG (aS cF dF cG (aS cF dF cG (aS bW cZ aI (dv 4) aC) (aS bW cZ aI (aS bW cZ aI (dv 3) (dv 3)) aC)) (dv 3)) aC) (dv 1))) (aR (jM (i:=2) (aS a7 bM aI (aS bW cZ aI (aS a7 bM aI (aS bW cZ aI (dv 4) aC) (dv 1)) aC) (dv 1)) (fun t q=>kL (yA aSk aSz aS0 jL (pv 2) (i8 q mD)))))))) (aR (cP (dv 2))))))
theorem uA:bV ["_law_one","_law_other"] ["_law_one","_law_other"] (aQ jT):=by walk_at "s"
theorem vH{c:Cls}(Df:Def K mg "_law_sum" ["_law_one","_law_other"] jT)(B:Blt mg)(C:l7 mg c)(O:l4 mg base c)(hk:jY K c)(c__law_low:Cal P w K mg base 1 "_law_low" 2 (bI K c)):Cal P w K mg base 2 "_law_sum" 2 (bK K c):=by
 refine oW (k:=1) Df uA rfl (fun f b A o s H E hr=>⟨lQ K c,?_,u7 K c⟩)
 exact (aR (cP (aU c__law_low hr cR (aA (aS cF dF cG (aS bW cZ aI (aX (dv 0) aC ra) (aX (dv 1) aC ra)) (aS bW cZ aI (aX (dv 1) aC ra) (aX (dv 0) aC ra))) (aA (aS bW cZ aI (aX (dv 0) aC ra) (aX (dv 1) aC ra)) aH)))))
theorem sc__law_mix_right:bV ["_law_plane","_law_parts","_law_roof","_law_sums","_law_used","_law_share","_law_one","_law_row"] ["_law_plane","_law_parts","_law_roof"] (aQ fB):=by walk_at "s"
theorem lL{c:Cls}(Df:Def K mg "_law_mix_right" ["_law_plane","_law_parts","_law_roof"] fB)(B:Blt mg)(C:l7 mg c)(O:l4 mg base c)(hk:jY K c)(c__law_under:Cal P w K mg base 1 "_law_under" 2 (dY K c))(c__law_sum:Cal P w K mg base 2 "_law_sum" 2 (bK K c))(c__law_product:Cal P w K mg base 2 "_law_product" 2 (bF K c)):Cal P w K mg base 3 "_law_mix_right" 3 (bE K c):=by
 refine oW (k:=2) Df sc__law_mix_right rfl (fun f b A o s H E hr=>⟨fE K c,?_,lK K c⟩)
 refine aJ ?a0 ?y0
 case a0=>exact (eL (DW.t (oE (bL (rF (u65 hr)) pN lJ (dv 0) (dv 2) (by with_unfolding_all rfl)) (oE (bL qR iY bY (bX bP hX fJ rfl B.len_ aRp (aA (dv 1) aH)) aC (bG _)) (oU (bL aDq iY bY (bX bP hX fJ rfl B.len_ aRp (aA (dv 1) aH)) aC (bG _)))))) (aR (cP uZ)) bS)
 case y0 =>
   refine aJ ?a1 ?y1
   case a1=>((refine a8 (i:=3) ?n ?h1 ?h2 ?e ?s ?f);(case n=>exact sc__law_mix_right.nd);(case h1=>rfl);(case h2=>exact (Or.inr rfl));(case s=>rfl);(case f=>first | exact .inl rfl | exact .inr rfl);(case e=>((refine iC ?l);(refine aA (aW (aA aC (aA aC aH))) ?m0);(refine aA (aW (aA aC (aA aC aH))) ?m1);(refine aA (aW (aA aC (aA aC aH))) ?m2);(exact aA (aW (aA aC (aA aC aH))) aH))))
   case y1 =>
  refine aJ ?a2 ?y2
  case a2=>exact (a8 (i:=4) sc__law_mix_right.nd rfl (Or.inl rfl) (iC (aA (dv 0) aH)))
  case y2 =>
    refine aJ ?a3 ?y3
    case a3=>exact (jA aRq rfl (d4 (dv 1)) (iF (n:=2) rfl (bN (a9 (i:=5) sc__law_mix_right.nd rfl (Or.inr rfl)) (bN (a9 (i:=6) sc__law_mix_right.nd rfl (Or.inl rfl)) fT))) (aJ (eL (DW.t (oE (bL (rF (u65 hr)) pN lJ (dv 6) (dv 2) (by with_unfolding_all rfl)) (oE (bL (aFj (u65 hr)) pN lJ (dv 6) (dv 4) (by with_unfolding_all rfl)) (oU (bL qR iY bY (aX (dv 5) aC ra) aC (bG _)))))) (aR (cP uZ)) bS) (aJ (jM (i:=4) (dv 6) (fun t q=>kL (yA aSk aSz aS0 jL (pv 4) (i8 q mD)))) (gH 3 (aJ (a8 (i:=7) sc__law_mix_right.nd rfl (Or.inr rfl) (iC (aA (aW (aA aC (aA aC aH))) (aA (aW (aA (aX (dv 6) aC ra) (aA aC aH))) (aA (aW (aA (aX (dv 6) aC ra) (aA aC aH))) (aA (aX (dv 6) aC ra) aH)))))) (gH 7 (aR (a8 (i:=3) sc__law_mix_right.nd rfl (Or.inr rfl) (gK (xs:=["_law_k"]) (ys:=["_law_row","_law_share","_law_sums"]) (js:=[7,5,3]) (cl:=[("_law_sums",s.heap.objs.size+1),("_law_share",s.heap.objs.size+1+1),("_law_row",s.heap.objs.size+1+1+1)]) rfl (iZ rfl B.range_ (aA aC aH)) (lC (ys:=["_law_row","_law_share","_law_sums"]) (js:=[7,5,3]) rfl (aSq.mpr ⟨rfl,(aSq.mpr ⟨rfl,(aSq.mpr ⟨rfl,(fun _ h=>nomatch h)⟩)⟩)⟩) (eJ ⟨rfl,.inl rfl,.inl rfl,rfl,rfl⟩ (eJ ⟨rfl,.inl rfl,.inl rfl,rfl,rfl⟩ (eJ ⟨rfl,.inl rfl,.inl rfl,rfl,rfl⟩ cO))) (by decide +kernel) (by decide +kernel)) (eJ ⟨rfl,.inl rfl,.inl rfl,rfl,rfl⟩ (eJ ⟨rfl,.inl rfl,.inl rfl,rfl,rfl⟩ (eJ ⟨rfl,.inl rfl,.inl rfl,rfl,rfl⟩ cO))) (by decide +kernel) rfl (by decide +kernel) rfl (by decide) (fun C s₀ H₀ ex pn=>(a9 (i:=0) (show (["_law_k","_law_row","_law_share","_law_sums"]:List Str).Nodup by decide +kernel) rfl (Or.inl rfl))) (fun C s₀ H₀ ex pn=>fS) (fun C s₀ H₀ ex pn=>(aU c__law_sum hr aIg (aA (aX (dv 3) (dv 0) ra) (aA (aU c__law_product hr aIg (aA (dv 2) (aA (aX (dv 1) (dv 0) ra) aH))) aH)))))))))))))
    case y3 =>
   refine aJ ?a4 ?y4
   case a4=>exact (eL (DW.t (oE (bL (tQ (u64 hr)) dW cH (aX (dv 3) aC ra) (aW (aA aC (aA aC aH))) (bG _)) (oE (bL (tQ (u64 hr)) dW cH (aX (dv 3) aC ra) (aW (aA (aX (dv 0) aC ra) (aA aC aH))) (bG _)) (oU (bL (tQ (u64 hr)) dW cH (aX (dv 3) aC ra) (aW (aA (aX (dv 0) aC ra) (aA aC aH))) (bG _)))))) (aR (cP uZ)) bS)
   case y4 =>
     exact (aR (cP (aFp (aU c__law_under hr cR (aA (aX (dv 3) aC ra) (aA (aX (dv 0) aC ra) aH))))))
end
section
variable {P:Program}{w:World}{K:aQk}{mg:Str->Option Value}{base:Heap}
theorem sc_shared_sum:bV ["rows","total","share","number"] ["rows"] (aQ iI):=by walk_at "s"
theorem rH{c:Cls}(Df:Def K mg "shared_sum" ["rows"] iI)(B:Blt mg)(C:l7 mg c)(O:l4 mg base c)(hk:jY K c)(c_plus:Cal P w K mg base 3 "plus" 2 (mB K c))(c_times:Cal P w K mg base 3 "times" 2 (kK K c)):Cal P w K mg base 4 "shared_sum" 1 (bZ K c):=by
 refine oW (k:=3) Df sc_shared_sum rfl (fun f b A o s H E hr=>⟨iK K c,?_,qK K c⟩)
 exact (aJ (a8 (i:=1) sc_shared_sum.nd rfl (Or.inl rfl) (aW (aA aC (aA aC aH)))) (aJ (jA aRq rfl (d4 (dv 0)) (iF (n:=2) rfl (bN (a9 (i:=2) sc_shared_sum.nd rfl (Or.inl rfl)) (bN (a9 (i:=3) sc_shared_sum.nd rfl (Or.inl rfl)) fT))) (aR (a8 (i:=1) sc_shared_sum.nd rfl (Or.inl rfl) (aU c_plus hr cR (aA (dv 1) (aA (aU c_times hr cR (aA (dv 2) (aA (dv 3) aH))) aH)))))) (aR (cP (dv 1)))))
theorem jZ:bV ["plane","planes","roof"] ["plane","planes","roof"] (aQ dZ):=by walk_at "s"
theorem j6{c:Cls}(Df:Def K mg "are_unlike_others" ["plane","planes","roof"] dZ)(B:Blt mg)(C:l7 mg c)(O:l4 mg base c)(hk:jY K c){t_MOST_PARTS:Tok}(c_MOST_PARTS:mg "MOST_PARTS" = some (.int 3 t_MOST_PARTS)):Cal P w K mg base 1 "are_unlike_others" 3 (bQ K c):=by
 refine oW (k:=0) Df jZ rfl (fun f b A o s H E hr=>⟨d6 K c,?_,jW K c⟩)
 exact (aJ (eL (DW.t (oE (bL (cV (u64 hr)) dW cH (bX bP hX fJ rfl B.len_ aRp (aA (dv 1) aH)) aC (bG _)) (oE (bL aDq iY bY (bX bP hX fJ rfl B.len_ aRp (aA (dv 1) aH)) (aEv rfl c_MOST_PARTS) (bG _)) (oU (bL (tQ (u64 hr)) dW cH (yU rfl (u64 hr) rfl B.len_ rfl B.set_ (dv 1)) (bX bP hX fJ rfl B.len_ aRp (aA (dv 1) aH)) (bG _)))))) (aR (cP uZ)) bS) (aR (cP (pP (j9 (rF (u65 hr)) pN lJ (dv 0) (dv 1) (by with_unfolding_all rfl)) (w5 (bX (vO rfl rfl) aF7 aBf rfl B.all_ aF3 (aA (gK (xs:=["part"]) (ys:=["roof"]) (js:=[2]) (cl:=[("roof",s.heap.objs.size+1)]) rfl (d4 (dv 1)) (lC (ys:=["roof"]) (js:=[2]) rfl (aSq.mpr ⟨rfl,(fun _ h=>nomatch h)⟩) (eJ ⟨rfl,.inl rfl,.inl rfl,rfl,rfl⟩ cO) (by decide +kernel) (by decide +kernel)) (eJ ⟨rfl,.inl rfl,.inl rfl,rfl,rfl⟩ cO) (by decide +kernel) rfl (by decide +kernel) rfl (by decide) (fun C s₀ H₀ ex pn=>(a9 (i:=0) (show (["part","roof"]:List Str).Nodup by decide +kernel) rfl (Or.inl rfl))) (fun C s₀ H₀ ex pn=>fS) (fun C s₀ H₀ ex pn=>(j9 (aFj (u65 hr)) pN lJ (dv 0) (dv 1) (by with_unfolding_all rfl)))) aH)))))))
theorem sc__law_pair_for:bV ["_law_roof","_law_cell","_law_found","_law_plane","_law_k","_law_l","_law_i","_law_j","_law_many","_law_parts","_law_one","_law_others"] ["_law_roof","_law_cell"] (aQ fU):=by walk_at "s"
theorem mI{c:Cls}(Df:Def K mg "_law_pair_for" ["_law_roof","_law_cell"] fU)(B:Blt mg)(C:l7 mg c)(O:l4 mg base c)(hk:jY K c):Cal P w K mg base 1 "_law_pair_for" 2 (cM K c):=by
 refine oW (k:=0) Df sc__law_pair_for rfl (fun f b A o s H E hr=>⟨fR K c,?_,mM K c⟩)
 exact (aJ (a8 (i:=2) sc__law_pair_for.nd rfl (Or.inl rfl) (iC aH)) (aJ (jA aRq rfl (d4 (dv 0)) (a9 (i:=3) sc__law_pair_for.nd rfl (Or.inl rfl)) (aR (jA aRq rfl (iZ rfl B.range_ (aA (bX bP hX fJ rfl B.len_ aRp (aA (dv 0) aH)) aH)) (a9 (i:=4) sc__law_pair_for.nd rfl (Or.inl rfl)) (aR (jA aRq rfl (iZ rfl B.range_ (aA (dv 4) aH)) (a9 (i:=5) sc__law_pair_for.nd rfl (Or.inl rfl)) (aJ (a8 (i:=6) sc__law_pair_for.nd rfl (Or.inl rfl) (aS kP kX bY (aS cF dF cG (aX (aX (dv 0) (dv 4) ra) aC ra) (aX (aX (dv 0) (dv 5) ra) aC ra)) (aS bW cZ aI aC (aX (dv 3) aC ra)))) (aJ (a8 (i:=7) sc__law_pair_for.nd rfl (Or.inl rfl) (aS kP kX bY (aS cF dF cG (aX (aX (dv 0) (dv 4) ra) aC ra) (aX (aX (dv 0) (dv 5) ra) aC ra)) (aS bW cZ aI aC (aX (dv 3) aC ra)))) (aR (eL (DW.t (pM (bL (cV (u64 hr)) dW cH (dv 6) aC (bG _)) (uS (bL (cV (u64 hr)) dW cH (dv 7) aC (bG _))))) (aR (jM (i:=2) (aW (aA (dv 3) (aA (iC (aA (aW (aA (aW (aA aC (aA aC aH))) (aA (aX (dv 0) (dv 5) ra) aH))) (aA (aW (aA (aW (aA aC (aA aC aH))) (aA (aX (dv 0) (dv 4) ra) aH))) aH))) aH))) (fun t q=>kL (yA aSk aSz aS0 jL (pv 2) (i8 q mD))))) bS))))))))) (aJ (eL (DW.t (oE (bL (cV (u64 hr)) dW cH (dv 2) (iC aH) (bG _)) (oU (bL (cV (u64 hr)) dW cH (aS a7 bM aI (dv 1) aC) aC (bG _))))) (aJ (a8 (i:=8) sc__law_pair_for.nd rfl (Or.inl rfl) (bX bP hX fJ rfl B.len_ aRp (aA (dv 0) aH))) (aR (cP (aW (aA (aX (dv 0) (aS a7 bM aI (dv 1) (dv 8)) ra) (aA (iC (aA (aW (aA (aW (aA aC (aA aC aH))) (aA (aX (dv 0) (aS a7 bM aI (aS cA dA aI (dv 1) aC) (dv 8)) ra) aH))) (aA (aW (aA (aW (aA aC (aA aC aH))) (aA (aX (dv 0) (aS a7 bM aI (aS cA dA aI (dv 1) aC) (dv 8)) ra) aH))) aH))) aH)))))) bS) (aJ (rZ (aX (dv 2) (aS a7 bM aI (aS cA dA aI (dv 1) aC) (bX bP hX fJ rfl B.len_ aRp (aA (dv 2) aH))) ra) (iF (n:=2) rfl (bN (a9 (i:=3) sc__law_pair_for.nd rfl (Or.inl rfl)) (bN (a9 (i:=9) sc__law_pair_for.nd rfl (Or.inl rfl)) fT)))) (gH 2 (aJ (jA aRq rfl (d4 (dv 2)) (iF (n:=2) rfl (bN (a9 (i:=10) sc__law_pair_for.nd rfl (Or.inl rfl)) (bN (a9 (i:=11) sc__law_pair_for.nd rfl (Or.inl rfl)) fT))) (aR (eL (DW.t (pM (bL (cV (u64 hr)) dW cH (aS a7 bM aI (dv 1) aC) aC (bG _)) (pM (bL (cV (u64 hr)) dW cH (dv 10) (aX (aX (dv 9) aC ra) aC ra) (bG _)) (uS (bL (cV (u64 hr)) dW cH (bX bP hX fJ rfl B.len_ aRp (aA (dv 9) aH)) aC (bG _)))))) (aR (a8 (i:=9) sc__law_pair_for.nd rfl (Or.inl rfl) (iC (aA (aW (aA (aW (aA aC (aA aC aH))) (aA (aX (aX (dv 11) aC ra) aC ra) aH))) (aA (aW (aA (aW (aA aC (aA aC aH))) (aA (aX (aX (dv 11) aC ra) aC ra) aH))) (aA (aX (dv 9) aC ra) aH)))))) bS))) (gH 9 (aR (cP (aW (aA (dv 3) (aA (dv 9) aH))))))))))))
end
section
variable {P:Program}{w:World}{K:aQk}{mg:Str->Option Value}{base:Heap}
theorem sc_fraction:bV ["top","bottom","divisor"] ["top","bottom"] (aQ jV):=by walk_at "s"
theorem uR{c:Cls}(Df:Def K mg "fraction" ["top","bottom"] jV)(B:Blt mg)(C:l7 mg c)(O:l4 mg base c)(hk:jY K c)(c_greatest_divisor:Cal P w K mg base 1 "greatest_divisor" 2 (b6 K c)):Cal P w K mg base 2 "fraction" 2 (eQ K c):=by
 refine oW (k:=1) Df sc_fraction rfl (fun f b A o s H E hr=>⟨hU K c,?_,uC K c⟩)
 exact (aJ (eL (bL (cV (u64 hr)) dW cH (dv 1) aC (bG _)) (aR (aEy aHj rfl rfl O.NoFraction PySem.F.excBase_ValueError (aA aMk aH))) bS) (aJ (a8 (i:=2) sc_fraction.nd rfl (Or.inl rfl) (aU c_greatest_divisor hr cR (aA (dv 0) (aA (dv 1) aH)))) (aJ (eL (bL qR iY bY (dv 1) aC (bG _)) (aR (a8 (i:=2) sc_fraction.nd rfl (Or.inl rfl) (wN (dv 2)))) bS) (aR (cP (aW (aA (aS cA dA aI (dv 0) (dv 2)) (aA (aS cA dA aI (dv 1) (dv 2)) aH))))))))
theorem aD3:bV ["a","b"] ["a","b"] (aQ qM):=by walk_at "s"
theorem aD1{c:Cls}(Df:Def K mg "times" ["a","b"] qM)(B:Blt mg)(C:l7 mg c)(O:l4 mg base c)(hk:jY K c)(c_fraction:Cal P w K mg base 2 "fraction" 2 (eQ K c)):Cal P w K mg base 3 "times" 2 (kK K c):=by
 refine oW (k:=2) Df aD3 rfl (fun f b A o s H E hr=>⟨uP K c,?_,aEf K c⟩)
 exact (aR (cP (aU c_fraction hr cR (aA (aS bW cZ aI (aX (dv 0) aC ra) (aX (dv 1) aC ra)) (aA (aS bW cZ aI (aX (dv 0) aC ra) (aX (dv 1) aC ra)) aH)))))
theorem lY:bV ["_law_kind","_law_i","_law_j","_law_rest"] ["_law_kind","_law_i","_law_j","_law_rest"] (aQ fH):=by walk_at "s"
theorem lP{c:Cls}(Df:Def K mg "_law_height_by" ["_law_kind","_law_i","_law_j","_law_rest"] fH)(B:Blt mg)(C:l7 mg c)(O:l4 mg base c)(hk:jY K c)(c__law_low:Cal P w K mg base 1 "_law_low" 2 (bI K c)):Cal P w K mg base 2 "_law_height_by" 4 (bU K c):=by
 refine oW (k:=1) Df lY rfl (fun f b A o s H E hr=>⟨eB K c,?_,lS K c⟩)
 exact (aJ (eL (bL (cV (u64 hr)) dW cH (aS a7 bM aI (dv 0) aC) aC (bG _)) (aR (cP (aW (aA (aS kP kX bY (aS a7 bM aI (dv 3) aC) (aS bW cZ aI (aS cF dF cG (aS cF dF cG (aS bW cZ aI (dv 1) (dv 1)) (aS bW cZ aI (dv 1) (dv 2))) (aS bW cZ aI (dv 2) (dv 2))) (aS cF dF cG aC (aS a7 bM aI (aS cA dA aI (dv 0) aC) aC)))) (aA aC aH))))) bS) (aJ (eL (bL (cV (u64 hr)) dW cH (aS a7 bM aI (dv 0) aC) aC (bG _)) (aR (cP (aW (aA (aS a7 bM aI (dv 3) aC) (aA aC aH))))) bS) (aJ (eL (bL (cV (u64 hr)) dW cH (aS a7 bM aI (aS cA dA aI (dv 0) aC) aC) aC (bG _)) (aR (cP (aU c__law_low hr cR (aA (aS kP kX bY (aS a7 bM aI (dv 3) (aS cF dF cG (aS bW cZ aI aC (aS aFd aF2 aI aC aC)) aC)) (aS aFd aF2 aI aC aC)) (aA (aS cF dF cG aC (aS a7 bM aI (aS cA dA aI (dv 3) aC) aC)) aH))))) bS) (aR (cP (aU c__law_low hr cR (aA (aS kP kX bY (aS a7 bM aI (dv 3) aC) aC) (aA (aS cF dF cG aC (aS a7 bM aI (aS cA dA aI (dv 3) aC) aC)) aH))))))))
theorem sc__law_with_mixed:bV ["_law_roof","_law_cell","_law_high","_law_plane","_law_k","_law_l","_law_i","_law_j","_law_amid","_law_low_here"] ["_law_roof","_law_cell"] (aQ eT):=by walk_at "s"
theorem kS{c:Cls}(Df:Def K mg "_law_with_mixed" ["_law_roof","_law_cell"] eT)(B:Blt mg)(C:l7 mg c)(O:l4 mg base c)(hk:jY K c)(c__law_sum:Cal P w K mg base 2 "_law_sum" 2 (bK K c))(c__law_low:Cal P w K mg base 1 "_law_low" 2 (bI K c))(c__law_product:Cal P w K mg base 2 "_law_product" 2 (bF K c)):Cal P w K mg base 3 "_law_with_mixed" 2 (cD K c):=by
 refine oW (k:=2) Df sc__law_with_mixed rfl (fun f b A o s H E hr=>⟨eV K c,?_,k8 K c⟩)
 exact (aJ (a8 (i:=2) sc__law_with_mixed.nd rfl (Or.inr rfl) qE) (aJ (jA aRq rfl (d4 (dv 0)) (a9 (i:=3) sc__law_with_mixed.nd rfl (Or.inl rfl)) (aR (nL (i:=2) (u1 hr) (pv 2) (aW (aA (aX (dv 3) aC ra) (aA (aX (dv 3) aC ra) aH))) (aX (dv 3) aC ra) rfl))) (aJ (jA aRq rfl (iZ rfl B.range_ (aA (bX bP hX fJ rfl B.len_ aRp (aA (dv 0) aH)) aH)) (a9 (i:=4) sc__law_with_mixed.nd rfl (Or.inl rfl)) (aR (jA aRq rfl (iZ rfl B.range_ (aA (dv 4) aH)) (a9 (i:=5) sc__law_with_mixed.nd rfl (Or.inl rfl)) (aJ (a8 (i:=6) sc__law_with_mixed.nd rfl (Or.inl rfl) (aS cF dF cG (aX (aX (dv 0) (dv 4) ra) aC ra) (aX (aX (dv 0) (dv 5) ra) aC ra))) (aJ (a8 (i:=7) sc__law_with_mixed.nd rfl (Or.inl rfl) (aS cF dF cG (aX (aX (dv 0) (dv 4) ra) aC ra) (aX (aX (dv 0) (dv 5) ra) aC ra))) (aR (eL (DW.t (pM (bL (cV (u64 hr)) dW cH (aS a7 bM aI (dv 6) aC) aC (bG _)) (pM (bL (cV (u64 hr)) dW cH (aS a7 bM aI (dv 7) aC) aC (bG _)) (pM (aBb (u1 hr) (aW (aA (aS cA dA aI (dv 6) aC) (aA (aS cA dA aI (dv 7) aC) aH))) (dv 2)) (uS (bL qR iY bY (bX pC aAm vM rfl B.len_ aRp (aA (dv 2) aH)) aC (bG _))))))) (aJ (a8 (i:=8) sc__law_with_mixed.nd rfl (Or.inl rfl) (aU c__law_product hr cR (aA (aW (aA aC (aA aC aH))) (aA (aU c__law_sum hr cR (aA (aX (aX (dv 0) (dv 4) ra) aC ra) (aA (aX (aX (dv 0) (dv 5) ra) aC ra) aH))) aH)))) (aJ (a8 (i:=9) sc__law_with_mixed.nd rfl (Or.inl rfl) (aS bW cZ aI (aS a7 bM aI (aS cF dF cG (aS cF dF cG (dv 1) (aS bW cZ aI (dv 4) (dv 4))) (dv 5)) aC) (aS a7 bM aI (dv 1) aC))) (aR (nL (i:=2) (u1 hr) (pv 2) (aW (aA (aS cA dA aI (dv 6) aC) (aA (aS cA dA aI (dv 7) aC) aH))) (aU c__law_sum hr cR (aA (dv 8) (aA (aU c__law_low hr cR (aA (wN (dv 9)) (aA (aS cF dF cG aC (aS a7 bM aI (dv 1) aC)) aH))) aH))) rfl)))) bS))))))) (gH 2 (aR (cP (gK (xs:=["_law_slope"]) (ys:=["_law_high"]) (js:=[2]) (cl:=[("_law_high",s.heap.objs.size+1)]) rfl (d4 (bX (SRT.pJ rfl) pD nO rfl B.sorted_ nK (aA (dv 2) aH))) (lC (ys:=["_law_high"]) (js:=[2]) rfl (aSq.mpr ⟨rfl,(fun _ h=>nomatch h)⟩) (eJ ⟨rfl,.inl rfl,.inl rfl,rfl,rfl⟩ cO) (by decide +kernel) (by decide +kernel)) (eJ ⟨rfl,.inl rfl,.inl rfl,rfl,rfl⟩ cO) (by decide +kernel) rfl (by decide +kernel) rfl (by decide) (fun C s₀ H₀ ex pn=>(a9 (i:=0) (show (["_law_slope","_law_high"]:List Str).Nodup by decide +kernel) rfl (Or.inl rfl))) (fun C s₀ H₀ ex pn=>fS) (fun C s₀ H₀ ex pn=>(aW (aA (aX (dv 0) aC ra) (aA (aX (dv 0) aC ra) (aA (uW (u1 hr) (dv 1) (dv 0) ra) aH))))))))))))
end
section
variable {P:Program}{w:World}{K:aQk}{mg:Str->Option Value}{base:Heap}
theorem sc_greatest_divisor:bV ["a","b","larger","smaller","rest"] ["a","b"] (aQ eK):=by walk_at "s"
theorem kE{c:Cls}(Df:Def K mg "greatest_divisor" ["a","b"] eK)(B:Blt mg)(C:l7 mg c)(O:l4 mg base c)(hk:jY K c):Cal P w K mg base 1 "greatest_divisor" 2 (b6 K c):=by
 refine oW (k:=0) Df sc_greatest_divisor rfl (fun f b A o s H E hr=>⟨iM K c,?_,kM K c⟩)
 exact (aJ (a8 (i:=2) sc_greatest_divisor.nd rfl (Or.inl rfl) (bX mX vT qV rfl B.abs_ vP (aA (dv 0) aH))) (aJ (a8 (i:=3) sc_greatest_divisor.nd rfl (Or.inl rfl) (bX mX vT qV rfl B.abs_ vP (aA (dv 1) aH))) (aJ (xK aRq (bL (tQ (u64 hr)) dW cH (dv 3) aC (bG _)) (aJ (a8 (i:=4) sc_greatest_divisor.nd rfl (Or.inl rfl) (aS a7 bM aI (dv 2) (dv 3))) (aJ (a8 (i:=2) sc_greatest_divisor.nd rfl (Or.inl rfl) (dv 3)) (aR (a8 (i:=3) sc_greatest_divisor.nd rfl (Or.inl rfl) (dv 4)))))) (aR (cP (dv 2))))))
theorem mJ:bV ["self","roof"] ["self","roof"] (aQ eM):=by walk_at "s"
theorem mK{c:Cls}(Df:aMw K c.Mixture "holds" "Mixture.holds" ["self","roof"] eM)(B:Blt mg)(C:l7 mg c)(O:l4 mg base c)(hk:jY K c)(c_are_shares:Cal P w K mg base 5 "are_shares" 1 (dX K c))(c_lies_no_lower:Cal P w K mg base 6 "lies_no_lower" 2 (cY K c))(c_are_unlike_others:Cal P w K mg base 1 "are_unlike_others" 3 (bQ K c)):aJ5 P w K mg base 7 c.Mixture "holds" 2 (aY K c):=by
 refine aOx (k:=6) Df mJ rfl (fun f b A o s H E hr=>⟨fY K c,?_,mG K c⟩)
 exact (aJ (eL (DW.t (oE (bL (rF (u65 hr)) pN lJ (pL (dv 0)) (dv 1) (by with_unfolding_all rfl)) (oU (xN (wG (aU c_are_unlike_others hr cR (aA (pL (dv 0)) (aA (gK (xs:=["share","part"]) (ys:=[]) (js:=[]) (cl:=[]) rfl (d4 (pL (dv 0))) (lC (ys:=[]) (js:=[]) rfl (fun _ h=>nomatch h) cO (by decide +kernel) (by decide +kernel)) cO (by decide +kernel) rfl (by decide +kernel) rfl (by decide) (fun C s₀ H₀ ex pn=>(iF (n:=2) rfl (bN (a9 (i:=0) (show (["share","part"]:List Str).Nodup by decide +kernel) rfl (Or.inl rfl)) (bN (a9 (i:=1) (show (["share","part"]:List Str).Nodup by decide +kernel) rfl (Or.inl rfl)) fT)))) (fun C s₀ H₀ ex pn=>fS) (fun C s₀ H₀ ex pn=>(dv 1))) (aA (dv 1) aH))))))))) (aR (cP uZ)) bS) (aR (cP (pP (aU c_are_shares hr cR (aA (gK (xs:=["share","part"]) (ys:=[]) (js:=[]) (cl:=[]) rfl (d4 (pL (dv 0))) (lC (ys:=[]) (js:=[]) rfl (fun _ h=>nomatch h) cO (by decide +kernel) (by decide +kernel)) cO (by decide +kernel) rfl (by decide +kernel) rfl (by decide) (fun C s₀ H₀ ex pn=>(iF (n:=2) rfl (bN (a9 (i:=0) (show (["share","part"]:List Str).Nodup by decide +kernel) rfl (Or.inl rfl)) (bN (a9 (i:=1) (show (["share","part"]:List Str).Nodup by decide +kernel) rfl (Or.inl rfl)) fT)))) (fun C s₀ H₀ ex pn=>fS) (fun C s₀ H₀ ex pn=>(dv 0))) aH)) (w5 (aU c_lies_no_lower hr cR (aA (pL (dv 0)) (aA (pL (dv 0)) aH))))))))
theorem oC:bV ["_law_script","_law_k"] ["_law_script","_law_k"] (aQ gP):=by walk_at "s"
theorem n5{c:Cls}(Df:Def K mg "_law_cell_at" ["_law_script","_law_k"] gP)(B:Blt mg)(C:l7 mg c)(O:l4 mg base c)(hk:jY K c):Cal P w K mg base 1 "_law_cell_at" 2 (aG K c):=by
 refine oW (k:=0) Df oC rfl (fun f b A o s H E hr=>⟨iR K c,?_,nX K c⟩)
 exact (aJ (eL (bL qR iY bY (dv 1) (bX bP hX fJ rfl B.len_ aRp (aA (dv 0) aH)) (bG _)) (aR (cP (aX (dv 0) (dv 1) ra))) bS) (aR (cP aC)))
theorem sc__law_four:bV ["_law_script","_law_corner","_law_planes","_law_total","_law_k","_law_slope","_law_cell","_law_height","_law_low_here","_law_plane"] ["_law_script"] (aQ i9):=by walk_at "s"
theorem tK{c:Cls}(Df:Def K mg "_law_four" ["_law_script"] i9)(B:Blt mg)(C:l7 mg c)(O:l4 mg base c)(hk:jY K c)(c__law_sum:Cal P w K mg base 2 "_law_sum" 2 (bK K c))(c__law_low:Cal P w K mg base 1 "_law_low" 2 (bI K c))(c__law_cell_at:Cal P w K mg base 1 "_law_cell_at" 2 (aG K c))(c__law_product:Cal P w K mg base 2 "_law_product" 2 (bF K c)):Cal P w K mg base 3 "_law_four" 1 (dD K c):=by
 refine oW (k:=2) Df sc__law_four rfl (fun f b A o s H E hr=>⟨i7 K c,?_,rV K c⟩)
 exact (aJ (a8 (i:=1) sc__law_four.nd rfl (Or.inl rfl) (aW (aA (aS a7 bM aI (aU c__law_cell_at hr cR (aA (dv 0) (aA aC aH))) aC) (aA (aS a7 bM aI (aU c__law_cell_at hr cR (aA (dv 0) (aA aC aH))) aC) aH)))) (aJ (a8 (i:=2) sc__law_four.nd rfl (Or.inl rfl) (iC aH)) (aJ (a8 (i:=3) sc__law_four.nd rfl (Or.inl rfl) (aW (aA aC (aA aC aH)))) (aJ (jA aRq rfl (aI4 rfl B.enumerate_ (aA (iC (aA (aW (aA aC (aA aC aH))) (aA (aW (aA aC (aA aC aH))) (aA (aW (aA aC (aA aC aH))) (aA (aW (aA aC (aA aC aH))) aH))))) aH)) (iF (n:=2) rfl (bN (a9 (i:=4) sc__law_four.nd rfl (Or.inl rfl)) (bN (a9 (i:=5) sc__law_four.nd rfl (Or.inl rfl)) fT))) (aJ (a8 (i:=6) sc__law_four.nd rfl (Or.inl rfl) (aU c__law_cell_at hr cR (aA (dv 0) (aA (aS cF dF cG aC (dv 4)) aH)))) (aJ (a8 (i:=7) sc__law_four.nd rfl (Or.inl rfl) (aU c__law_low hr cR (aA (aS kP kX bY (aS a7 bM aI (dv 6) aC) aC) (aA (aS cF dF cG aC (aS a7 bM aI (aS cA dA aI (dv 6) aC) aC)) aH)))) (aJ (jM (i:=2) (aW (aA (aS cF dF cG (aX (dv 1) aC ra) (aX (dv 5) aC ra)) (aA (aS cF dF cG (aX (dv 1) aC ra) (aX (dv 5) aC ra)) (aA (dv 7) aH)))) (fun t q=>kL (yA aSk aSz aS0 jL (pv 2) (i8 q mD)))) (aR (a8 (i:=3) sc__law_four.nd rfl (Or.inl rfl) (aU c__law_sum hr cR (aA (dv 3) (aA (aU c__law_product hr cR (aA (aW (aA aC (aA aC aH))) (aA (dv 7) aH))) aH))))))))) (aJ (a8 (i:=8) sc__law_four.nd rfl (Or.inl rfl) (aU c__law_low hr cR (aA (aS kP kX bY aC (aS a7 bM aI (aU c__law_cell_at hr cR (aA (dv 0) (aA aC aH))) aC)) (aA (aS cF dF cG aC (aS a7 bM aI (aS cA dA aI (aU c__law_cell_at hr cR (aA (dv 0) (aA aC aH))) aC) aC)) aH)))) (aJ (a8 (i:=9) sc__law_four.nd rfl (Or.inl rfl) (aW (aA (aS cF dF cG (aX (dv 1) aC ra) aC) (aA (aS cF dF cG (aX (dv 1) aC ra) aC) (aA (aU c__law_sum hr cR (aA (dv 3) (aA (dv 8) aH))) aH))))) (gH 2 (aR (cP (aW (aA (bX (SRT.x4 rfl (u64 hr)) aDh aBy rfl B.sorted_ nK (aA (aS cF dF cG (dv 2) (iC (aA (dv 9) aH))) aH)) (aA (dv 9) (aA (gK (xs:=["_law_one"]) (ys:=[]) (js:=[]) (cl:=[]) rfl (d4 (dv 2)) (lC (ys:=[]) (js:=[]) rfl (fun _ h=>nomatch h) cO (by decide +kernel) (by decide +kernel)) cO (by decide +kernel) rfl (by decide +kernel) rfl (by decide) (fun C s₀ H₀ ex pn=>(a9 (i:=0) (show (["_law_one"]:List Str).Nodup by decide +kernel) rfl (Or.inl rfl))) (fun C s₀ H₀ ex pn=>fS) (fun C s₀ H₀ ex pn=>(aW (aA (aW (aA aC (aA aC aH))) (aA (dv 0) aH))))) aH)))))))))))))
end
section
variable {P:Program}{w:World}{K:aQk}{mg:Str->Option Value}{base:Heap}
theorem lH:bV ["mixture"] ["mixture"] (aQ fC):=by walk_at "s"
theorem lW{c:Cls}(Df:Def K mg "mixture_height" ["mixture"] fC)(B:Blt mg)(C:l7 mg c)(O:l4 mg base c)(hk:jY K c)(c_shared_sum:Cal P w K mg base 4 "shared_sum" 1 (bZ K c)):Cal P w K mg base 5 "mixture_height" 1 (bT K c):=by
 refine oW (k:=4) Df lH rfl (fun f b A o s H E hr=>⟨fG K c,?_,lR K c⟩)
 exact (aR (cP (aU c_shared_sum hr cR (aA (gK (xs:=["share","plane"]) (ys:=[]) (js:=[]) (cl:=[]) rfl (d4 (dv 0)) (lC (ys:=[]) (js:=[]) rfl (fun _ h=>nomatch h) cO (by decide +kernel) (by decide +kernel)) cO (by decide +kernel) rfl (by decide +kernel) rfl (by decide) (fun C s₀ H₀ ex pn=>(iF (n:=2) rfl (bN (a9 (i:=0) (show (["share","plane"]:List Str).Nodup by decide +kernel) rfl (Or.inl rfl)) (bN (a9 (i:=1) (show (["share","plane"]:List Str).Nodup by decide +kernel) rfl (Or.inl rfl)) fT)))) (fun C s₀ H₀ ex pn=>fS) (fun C s₀ H₀ ex pn=>(aW (aA (dv 0) (aA (aX (dv 1) aC ra) aH))))) aH))))
theorem sc_lies_no_lower:bV ["parts","plane","along_x","along_y"] ["parts","plane"] (aQ fZ):=by walk_at "s"
theorem mP{c:Cls}(Df:Def K mg "lies_no_lower" ["parts","plane"] fZ)(B:Blt mg)(C:l7 mg c)(O:l4 mg base c)(hk:jY K c)(c_less:Cal P w K mg base 1 "less" 2 (j7 K c))(c_mixture_height:Cal P w K mg base 5 "mixture_height" 1 (bT K c))(c_shared_sum:Cal P w K mg base 4 "shared_sum" 1 (bZ K c)):Cal P w K mg base 6 "lies_no_lower" 2 (cY K c):=by
 refine oW (k:=5) Df sc_lies_no_lower rfl (fun f b A o s H E hr=>⟨fW K c,?_,mH K c⟩)
 exact (aJ (a8 (i:=2) sc_lies_no_lower.nd rfl (Or.inl rfl) (aU c_shared_sum hr cR (aA (gK (xs:=["share","part"]) (ys:=[]) (js:=[]) (cl:=[]) rfl (d4 (dv 0)) (lC (ys:=[]) (js:=[]) rfl (fun _ h=>nomatch h) cO (by decide +kernel) (by decide +kernel)) cO (by decide +kernel) rfl (by decide +kernel) rfl (by decide) (fun C s₀ H₀ ex pn=>(iF (n:=2) rfl (bN (a9 (i:=0) (show (["share","part"]:List Str).Nodup by decide +kernel) rfl (Or.inl rfl)) (bN (a9 (i:=1) (show (["share","part"]:List Str).Nodup by decide +kernel) rfl (Or.inl rfl)) fT)))) (fun C s₀ H₀ ex pn=>fS) (fun C s₀ H₀ ex pn=>(aW (aA (dv 0) (aA (aW (aA (aX (dv 1) aC ra) (aA aC aH))) aH))))) aH))) (aJ (a8 (i:=3) sc_lies_no_lower.nd rfl (Or.inl rfl) (aU c_shared_sum hr cR (aA (gK (xs:=["share","part"]) (ys:=[]) (js:=[]) (cl:=[]) rfl (d4 (dv 0)) (lC (ys:=[]) (js:=[]) rfl (fun _ h=>nomatch h) cO (by decide +kernel) (by decide +kernel)) cO (by decide +kernel) rfl (by decide +kernel) rfl (by decide) (fun C s₀ H₀ ex pn=>(iF (n:=2) rfl (bN (a9 (i:=0) (show (["share","part"]:List Str).Nodup by decide +kernel) rfl (Or.inl rfl)) (bN (a9 (i:=1) (show (["share","part"]:List Str).Nodup by decide +kernel) rfl (Or.inl rfl)) fT)))) (fun C s₀ H₀ ex pn=>fS) (fun C s₀ H₀ ex pn=>(aW (aA (dv 0) (aA (aW (aA (aX (dv 1) aC ra) (aA aC aH))) aH))))) aH))) (aR (cP (pP (j9 (cV (u64 hr)) dW cH (dv 2) (aW (aA (aX (dv 1) aC ra) (aA aC aH))) (bG _)) (pP (j9 (cV (u64 hr)) dW cH (dv 3) (aW (aA (aX (dv 1) aC ra) (aA aC aH))) (bG _)) (w5 (aFp (aU c_less hr cR (aA (aU c_mixture_height hr cR (aA (dv 0) aH)) (aA (aX (dv 1) aC ra) aH)))))))))))
theorem sc__law_roof_by:bV ["_law_kind","_law_cells","_law_most","_law_wide","_law_high","_law_cell","_law_i","_law_j","_law_height","_law_far"] ["_law_kind","_law_cells","_law_most","_law_wide"] (aQ gQ):=by walk_at "s"
theorem oS{c:Cls}(Df:Def K mg "_law_roof_by" ["_law_kind","_law_cells","_law_most","_law_wide"] gQ)(B:Blt mg)(C:l7 mg c)(O:l4 mg base c)(hk:jY K c)(c__law_height_by:Cal P w K mg base 2 "_law_height_by" 4 (bU K c)):Cal P w K mg base 3 "_law_roof_by" 4 (cT K c):=by
 refine oW (k:=2) Df sc__law_roof_by rfl (fun f b A o s H E hr=>⟨iQ K c,?_,nY K c⟩)
 exact (aJ (a8 (i:=4) sc__law_roof_by.nd rfl (Or.inr rfl) qE) (aJ (jA aRq rfl (d4 (dv 1)) (a9 (i:=5) sc__law_roof_by.nd rfl (Or.inl rfl)) (aJ (a8 (i:=6) sc__law_roof_by.nd rfl (Or.inl rfl) (aS a7 bM aI (dv 5) (dv 3))) (aJ (a8 (i:=7) sc__law_roof_by.nd rfl (Or.inl rfl) (aS a7 bM aI (aS cA dA aI (dv 5) (dv 3)) (dv 3))) (aJ (eL (bL (cV (u64 hr)) dW cH (aS a7 bM aI (dv 0) aC) aC (bG _)) (aR (a8 (i:=7) sc__law_roof_by.nd rfl (Or.inl rfl) (aS bW cZ aI (dv 6) (aS a7 bM aI (aS cA dA aI (dv 0) aC) aC)))) bS) (aJ (a8 (i:=8) sc__law_roof_by.nd rfl (Or.inl rfl) (aU c__law_height_by hr cR (aA (dv 0) (aA (dv 6) (aA (dv 7) (aA (aS cA dA aI (dv 5) (aS bW cZ aI (dv 3) (dv 3))) aH)))))) (aR (eL (aJq (u1 hr) (aW (aA (dv 6) (aA (dv 7) aH))) (dv 4)) (aJ (a8 (i:=9) sc__law_roof_by.nd rfl (Or.inl rfl) (uW (u1 hr) (dv 4) (aW (aA (dv 6) (aA (dv 7) aH))) ra)) (aR (eL (bL aDq iY bY (aS bW cZ aI (aX (dv 8) aC ra) (aX (dv 9) aC ra)) (aS bW cZ aI (aX (dv 9) aC ra) (aX (dv 8) aC ra)) (bG _)) (aR (nL (i:=4) (u1 hr) (pv 4) (aW (aA (dv 6) (aA (dv 7) aH))) (dv 8) rfl)) bS))) (aR (eL (bL qR iY bY (bX pC aAm vM rfl B.len_ aRp (aA (dv 4) aH)) (dv 2) (bG _)) (aR (nL (i:=4) (u1 hr) (pv 4) (aW (aA (dv 6) (aA (dv 7) aH))) (dv 8) rfl)) bS))))))))) (aJ (eL (bL (aJy (Nat.lt_of_succ_lt (u1 hr))) aJl aHo (dv 4) qE (bG _)) (aR (nL (i:=4) (u1 hr) (pv 4) (aW (aA (aS a7 bM aI (dv 0) (dv 3)) (aA aC aH))) (aW (aA aC (aA aC aH))) rfl)) bS) (gH 4 (aR (cP (gK (xs:=["_law_slope"]) (ys:=["_law_high"]) (js:=[4]) (cl:=[("_law_high",s.heap.objs.size+1)]) rfl (d4 (bX (SRT.pJ rfl) pD nO rfl B.sorted_ nK (aA (dv 4) aH))) (lC (ys:=["_law_high"]) (js:=[4]) rfl (aSq.mpr ⟨rfl,(fun _ h=>nomatch h)⟩) (eJ ⟨rfl,.inl rfl,.inl rfl,rfl,rfl⟩ cO) (by decide +kernel) (by decide +kernel)) (eJ ⟨rfl,.inl rfl,.inl rfl,rfl,rfl⟩ cO) (by decide +kernel) rfl (by decide +kernel) rfl (by decide) (fun C s₀ H₀ ex pn=>(a9 (i:=0) (show (["_law_slope","_law_high"]:List Str).Nodup by decide +kernel) rfl (Or.inl rfl))) (fun C s₀ H₀ ex pn=>fS) (fun C s₀ H₀ ex pn=>(aW (aA (aX (dv 0) aC ra) (aA (aX (dv 0) aC ra) (aA (uW (u1 hr) (dv 1) (dv 0) ra) aH))))))))))))
theorem qD:bV ["_law_one","_law_other"] ["_law_one","_law_other"] (aQ iB):=by walk_at "s"
theorem qN{c:Cls}(Df:Def K mg "_law_under" ["_law_one","_law_other"] iB)(B:Blt mg)(C:l7 mg c)(O:l4 mg base c)(hk:jY K c):Cal P w K mg base 1 "_law_under" 2 (dY K c):=by
 refine oW (k:=0) Df qD rfl (fun f b A o s H E hr=>⟨jN K c,?_,rG K c⟩)
 exact (aR (cP (j9 qR iY bY (aS bW cZ aI (aX (dv 0) aC ra) (aX (dv 1) aC ra)) (aS bW cZ aI (aX (dv 1) aC ra) (aX (dv 0) aC ra)) (bG _))))
end
theorem aLl{K:aQk}{h₀:Heap}{mg:Str->Option Value}{x:Str}{C:Addr}{bmB:List Value}{newId:String}(X:K.In h₀)(G:h₀.Ns mainGlobals mg)(e:aRs K mainGlobals x=some (some (.ref C)))(q:PySem.W.excIn K C bmB newId=true):PyProof.Rows.OwnCls x C bmB newId mg h₀:=by
 refine ⟨aTg X G e,?_⟩
 unfold PySem.W.excIn at q
 split at q
 ·rename_i d1 cd1 sl1 ho1
  split at q
  ·rename_i C1 bm1 s0 s1 s2 s3 n1 s5 hm1 hs1
   simp only [aS1,aTk,aWi] at q
   obtain ⟨⟨⟨⟨⟨rfl,rfl⟩,hdl⟩,htl⟩,hnok⟩,hini⟩:=q
   obtain ⟨c1,c2,c3,c4,c5,c6,c7,c8,c9,c10,c11⟩:=cd1
   dsimp only at hm1 hdl hnok hini
   subst hm1 hdl
   obtain ⟨sll⟩:=sl1
   simp only at hs1
   subst hs1
   exact ⟨bm1,c4,c1,c5,c2,c6,c7,c8,c9,c10,d1,s0,s1,s2,s3,s5,_,X _ _ ho1,.of_isNs (PySem.W.isNs_of_in X hnok),PySem.W.nsMap_none_of_in X hnok hini,PySem.W.tail_of_in X htl⟩
  ·cases q
 ·cases q
theorem yQ{α:Type}{us:List α}(h:us.length=1):∃ a,us=[a]:=List.length_eq_one_iff.mp h
theorem kG{α:Type}{us:List α}(h:us.length=2):∃ a b,us=[a,b]:=by
 cases us with
 | nil=>cases h
 | cons a r=>obtain ⟨b,rfl⟩:=yQ (aW6 h);exact ⟨a,b,rfl⟩
theorem aE8{α:Type}{us:List α}(h:us.length=3):∃ a b c,us=[a,b,c]:=by
 cases us with
 | nil=>cases h
 | cons a r=>obtain ⟨b,c,rfl⟩:=kG (aW6 h);exact ⟨a,b,c,rfl⟩
def aAq(K:aQk):Bool:=K.all fun p=>match p.2.cls with
 | .type n=>!(n == "list")
 | _=>true
theorem lookup_mem{a:Addr}{o:Obj}:∀ {l:List (Addr×Obj)},l.lookup a=some o->(a,o)∈l
 | (k,v) :: r,h=>by
  unfold List.lookup at h
  split at h
  ·rename_i z
   have e:a=k:=by simpa using z
   cases h
   rw [e]
   exact .head _
  ·exact .tail _ (lookup_mem h)
theorem xY{K:aQk}(h:aAq K=true){a:Addr}{o:Obj}(e:K.lookup a=some o)(hc:o.cls=.type "list"):False:=by
 have:=aSi.mp h (a,o) (lookup_mem e)
 dsimp only at this
 rw [hc] at this
 cases this
def aDl:Sp:=fun vs H Q _=>∃ (a:Addr) (ns:List Int),vs=[.ref a]/\Rd H a (.lst (ns.map V.int))/\ns.length<=63/\∀ H',Q (.bl true) H'
theorem sY{K:aQk}{G:Hp}:∀ ns:List Int,Reps K G (ns.map V.int) (ns.map PyData.int)
 | []=>.nil
 | i :: r=>.cons (.int i) (sY r)
theorem aL4{P:Program}{w:World}{K:aQk}{mg:Str->Option Value}{base:Heap}{f:Addr}{fd:FuncData}{c:Cls}(hk:jY K c)(F:FnOk P w K mg base (CXr P w) 8 f fd ["_law_script"] (spM K 1 (xW K c))):FnOk P w K mg base (CXr P w) 8 f fd ["_law_script"] aDl :=
 F.imp fun vs H Q E h=>by
  obtain ⟨a,ns,rfl,rd,hl,hq⟩:=h
  refine ⟨rfl,H,[.p (.list (ns.map .int))],Same.refl _,⟨.lst rd (sY ns),trivial⟩,?_⟩
  rw [aLe K c hk ns hl]
  intro G' H' v st r
  cases r
  exact hq H'
theorem aHd{α:Type}{us:List α}(h:us.length=4):∃ a0 a1 a2 a3,us=[a0,a1,a2,a3]:=by
 cases us with
 | nil=>cases h
 | cons a0 r=>obtain ⟨a1,a2,a3,rfl⟩:=aE8 (aW6 h);exact ⟨a0,a1,a2,a3,rfl⟩
theorem aNy{α:Type}{us:List α}(h:us.length=5):∃ a0 a1 a2 a3 a4,us=[a0,a1,a2,a3,a4]:=by
 cases us with
 | nil=>cases h
 | cons a0 r=>obtain ⟨a1,a2,a3,a4,rfl⟩:=aHd (aW6 h);exact ⟨a0,a1,a2,a3,a4,rfl⟩
structure FnAt(K:aQk)(x:Str)(st:Stmt)(f:Addr)(m:Value)(c:Addr):Prop where
 a:aRs K mainGlobals x=some (some (.ref f))
 l:K.lookup f=some ⟨.type "function",none,.func (PySem.W.fnOf x x (fK st) (dM st) (aQ st) .none .none .none m none (.ref c) .none),#[]⟩
 c:PySem.W.codeIn K (.ref c) x=true
 k:PySem.W.keepIn K (.ref f)=true
theorem FnAt.df{K:aQk}{h:Heap}{mg:Str->Option Value}{x:Str}{st:Stmt}{f c:Addr}{m:Value}{ps:List Str}(A:FnAt K x st f m c)(X:K.In h)(G:h.Ns mainGlobals mg)
  (hb:∀ (kV doc pm:Value) (an:Option Addr) (cdv ct:Value) (us:List Value),us.length=ps.length->bindArgs (PySem.W.fnOf x x (fK st) (dM st) (aQ st) .none kV doc pm an cdv ct) ⟨us,[]⟩=pure (ps.zip us)):Def K mg x ps st :=
 have F:=wL (st:=st) A.l A.c A.k
 ⟨_,_,F,F.binds hb,A.k,aTg X G A.a⟩
structure MAt(K:aQk)(x qual:Str)(st:Stmt)(f:Addr)(m:Value)(c:Addr):Prop where
 l:K.lookup f=some ⟨.type "function",none,.func (PySem.W.fnOf x qual (fK st) (dM st) (aQ st) .none .none .none m none (.ref c) .none),#[]⟩
 c:PySem.W.codeIn K (.ref c) qual=true
 k:PySem.W.keepIn K (.ref f)=true
 i:PySem.W.isFn K (.ref f)=true
theorem MAt.df{K:aQk}{x qual:Str}{st:Stmt}{f c C:Addr}{m:Value}{ps:List Str}(A:MAt K x qual st f m c)(g:PySem.W.findIn K (.ref C) x=some (some (.ref f)))(cl:L2.Cls K C)
  (hb:∀ (kV doc pm:Value) (an:Option Addr) (cdv ct:Value) (us:List Value),us.length=ps.length->bindArgs (PySem.W.fnOf x qual (fK st) (dM st) (aQ st) .none kV doc pm an cdv ct) ⟨us,[]⟩=pure (ps.zip us)):aMw K C x qual ps st :=
 have F:=wL (st:=st) A.l A.c A.k
 ⟨⟨_,_,F,F.binds hb,g,A.i,A.k⟩,cl⟩
theorem MAt.di{K:aQk}{mg:Str->Option Value}{y qual f1 f2:Str}{st:Stmt}{f c C:Addr}{m:Value}{ps:List Str}(A:MAt K "__init__" qual st f m c)(g:PySem.W.findIn K (.ref C) "__init__" = some (some (.ref f)))(mk:PySem.W.makesIn K C=true)(kp:PySem.W.keepIn K (.ref C)=true)(cl:L2.Cls K C)(hm:mg y=some (.ref C))(n1:NoAttr K C f1)(n2:NoAttr K C f2)
  (hb:∀ (kV doc pm:Value) (an:Option Addr) (cdv ct:Value) (us:List Value),us.length=ps.length->bindArgs (PySem.W.fnOf "__init__" qual (fK st) (dM st) (aQ st) .none kV doc pm an cdv ct) ⟨us,[]⟩=pure (ps.zip us)):aMt K mg y C qual ps st f1 f2 :=
 have F:=wL (st:=st) A.l A.c A.k
 ⟨⟨_,_,F,F.binds hb,mk,g,A.i,kp⟩,cl,hm,n1,n2⟩
local macro_rules | `(tactic| walk_at "q2") => `(tactic| (intro _ _ _ _ _ _ us hl;obtain ⟨_,_,_,h⟩:=aE8 hl;subst h;rfl))
local macro_rules | `(tactic| walk_at "q3") => `(tactic| (intro _ _ _ _ _ _ us hl;obtain ⟨_,_,h⟩:=kG hl;subst h;rfl))
local macro_rules | `(tactic| walk_at "q4") => `(tactic| (intro _ _ _ _ _ _ us hl;obtain ⟨_,h⟩:=yQ hl;subst h;rfl))
theorem all_mk{l:PySem.W.OpenLaw}{w:World}{K:aQk}{h:Heap}{mg:Str->Option Value}{fa:Addr}{fiMixture ciMixture f1 c1 f2 c2 f3 c3 f4 c4 f5 c5 f6 c6 f7 c7 f8 c8 f9 c9 f10 c10 f11 c11 f12 c12 f13 c13 f14 c14 f15 c15 f16 c16 f17 c17 f18 c18 f19 c19 f20 c20 f21 c21 f22 c22 f23 c23 f24 c24 f25 c25 CRoofError CNoFraction CPaper CMixture:Addr}{t__name__ tMOST_PARTS:Tok}(X:K.In h)(G:h.Ns mainGlobals mg)(hfa:mg "law" = some (.ref fa))
  {miMixture m1 m2 m3 m4 m5 m6 m7 m8 m9 m10 m11 m12 m13 m14 m15 m16 m17 m18 m19 m20 m21 m22 m23 m24 m25:Value}
  (h1:FnAt K "greatest_divisor" eK f1 m1 c1)
  (h2:FnAt K "fraction" jV f2 m2 c2)
  (h3:FnAt K "plus" wK f3 m3 c3)
  (h4:FnAt K "times" qM f4 m4 c4)
  (h5:FnAt K "less" wY f5 m5 c5)
  (h6:FnAt K "shared_sum" iI f6 m6 c6)
  (h7:FnAt K "mixture_height" fC f7 m7 c7)
  (h8:FnAt K "are_unlike_others" dZ f8 m8 c8)
  (h9:FnAt K "are_shares" iJ f9 m9 c9)
  (h10:FnAt K "lies_no_lower" fZ f10 m10 c10)
  (h11:MAt K "holds" "Mixture.holds" eM f11 m11 c11)
  (g11:PySem.W.findIn K (.ref CMixture) "holds" = some (some (.ref f11)))
  (h12:FnAt K "_law_cell_at" gP f12 m12 c12)
  (h13:FnAt K "_law_stirred" gO f13 m13 c13)
  (h14:FnAt K "_law_low" jU f14 m14 c14)
  (h15:FnAt K "_law_height_by" fH f15 m15 c15)
  (h16:FnAt K "_law_roof_by" gQ f16 m16 c16)
  (h17:FnAt K "_law_under" iB f17 m17 c17)
  (h18:FnAt K "_law_sum" jT f18 m18 c18)
  (h19:FnAt K "_law_product" gN f19 m19 c19)
  (h20:FnAt K "_law_mix_right" fB f20 m20 c20)
  (h21:FnAt K "_law_with_mixed" eT f21 m21 c21)
  (h22:FnAt K "_law_pair_for" fU f22 m22 c22)
  (h23:FnAt K "_law_put_otherwise" dQ f23 m23 c23)
  (h24:FnAt K "_law_four" i9 f24 m24 c24)
  (h25:FnAt K "law" tF f25 m25 c25)
  (hiMixture:MAt K "__init__" "Mixture.__init__" eZ fiMixture miMixture ciMixture)
  (giMixture:PySem.W.findIn K (.ref CMixture) "__init__" = some (some (.ref fiMixture)))
  (mkMixture:PySem.W.makesIn K CMixture=true)
  (kpMixture:PySem.W.keepIn K (.ref CMixture)=true)
  (z0:aRs K mainGlobals "abs" = some none)
  (z1:aRs K mainGlobals "all" = some none)
  (z2:aRs K mainGlobals "bool" = some none)
  (z3:aRs K mainGlobals "enumerate" = some none)
  (z4:aRs K mainGlobals "int" = some none)
  (z5:aRs K mainGlobals "isinstance" = some none)
  (z6:aRs K mainGlobals "len" = some none)
  (z7:aRs K mainGlobals "list" = some none)
  (z8:aRs K mainGlobals "max" = some none)
  (z9:aRs K mainGlobals "range" = some none)
  (z10:aRs K mainGlobals "reversed" = some none)
  (z11:aRs K mainGlobals "set" = some none)
  (z12:aRs K mainGlobals "sorted" = some none)
  (v__name__:aRs K mainGlobals "__name__" = some (some (.str "law_creasecurve_k47_mixtures_looked_at" t__name__)))
  (vMOST_PARTS:aRs K mainGlobals "MOST_PARTS" = some (some (.int 3 tMOST_PARTS)))
  (nRoofError:aRs K mainGlobals "RoofError" = some (some (.ref CRoofError)))
  (nNoFraction:aRs K mainGlobals "NoFraction" = some (some (.ref CNoFraction)))
  (nPaper:aRs K mainGlobals "Paper" = some (some (.ref CPaper)))
  (nMixture:aRs K mainGlobals "Mixture" = some (some (.ref CMixture)))
  (eNoFraction:PySem.W.excIn K CNoFraction [.type "ValueError",.type "Exception",.type "BaseException",.type "object"] "ValueError.__new__" = true)
  (pM1:PySem.W.plainGet K CMixture Str.empty=true)
  (pM2:PySem.W.hasDictIn K CMixture=true)
  (pM3:PySem.W.plainOver K CMixture=true)
  (pM4:PySem.W.findIn K (.ref CMixture) "__setattr__" = some (some (.builtin "object.__setattr__")))
  (pMf0:PySem.W.findIn K (.ref CMixture) "plane" = some none)
  (pMf1:PySem.W.findIn K (.ref CMixture) "parts" = some none)
  (xbb:PySem.W.kitOne K (.type "bool") (.type "bool")=some true)
  : ∃ fd:FuncData,(∀ (s:Shared) (v:Value),BindsTo s fd ⟨[v],[]⟩ [("_law_script",v)])/\∀ base:Heap,K.In base->base.Ns mainGlobals mg->FnOk l.prog w K mg base (CXr l.prog w) 8 fa fd ["_law_script"] aDl:=by
 have e:=hfa.symm.trans (aTg X G h25.a)
 cases e
 have B:Blt mg:=⟨aRr X G z0,aRr X G z1,aRr X G z2,aRr X G z3,aRr X G z4,aRr X G z5,aRr X G z6,aRr X G z7,aRr X G z8,aRr X G z9,aRr X G z10,aRr X G z11,aRr X G z12⟩
 let c:Cls:=⟨CRoofError,CNoFraction,CPaper,CMixture⟩
 have C:l7 mg c:=⟨aTg X G nRoofError,aTg X G nNoFraction,aTg X G nPaper,aTg X G nMixture⟩
 have hk:jY K c:=⟨xbb,⟨pM1,pM2,pM3,pM4⟩,pMf0,pMf1⟩
 have D11:aMw K c.Mixture "holds" "Mixture.holds" ["self","roof"] eM:=h11.df g11 hk.a (by walk_at "q3")
 have DiMixture:aMt K mg "Mixture" c.Mixture "Mixture.__init__" ["self","plane","parts"] eZ "plane" "parts":=hiMixture.di giMixture mkMixture kpMixture hk.a (aTg X G nMixture) hk.a1 hk.a2 (by walk_at "q2")
 refine ⟨PySem.W.fnOf "law" "law" (fK tF) (dM tF) (aQ tF) .none .none .none m25 none (.ref c25) .none,fun s v=>.of_eq rfl,fun base kb nb=>?_⟩
 have O:l4 mg base c:=⟨aLl kb nb nNoFraction eNoFraction⟩
 have GiMixture:Mak l.prog w K mg base 1 "Mixture" c.Mixture 2 "plane" "parts" (dR K c):=nE DiMixture B
 have G1:Cal l.prog w K mg base 1 "greatest_divisor" 2 (b6 K c):=kE (h1.df X G (by walk_at "q3")) B C O hk
 have G5:Cal l.prog w K mg base 1 "less" 2 (j7 K c):=aIz (h5.df X G (by walk_at "q3")) B C O hk
 have G8:Cal l.prog w K mg base 1 "are_unlike_others" 3 (bQ K c):=j6 (h8.df X G (by walk_at "q2")) B C O hk (aTg X G vMOST_PARTS)
 have G12:Cal l.prog w K mg base 1 "_law_cell_at" 2 (aG K c):=n5 (h12.df X G (by walk_at "q3")) B C O hk
 have G14:Cal l.prog w K mg base 1 "_law_low" 2 (bI K c):=vB (h14.df X G (by walk_at "q3")) B C O hk
 have G17:Cal l.prog w K mg base 1 "_law_under" 2 (dY K c):=qN (h17.df X G (by walk_at "q3")) B C O hk
 have G22:Cal l.prog w K mg base 1 "_law_pair_for" 2 (cM K c):=mI (h22.df X G (by walk_at "q3")) B C O hk
 have G2:Cal l.prog w K mg base 2 "fraction" 2 (eQ K c):=uR (h2.df X G (by walk_at "q3")) B C O hk G1
 have G13:Cal l.prog w K mg base 2 "_law_stirred" 1 (dC K c):=n6 (h13.df X G (by walk_at "q4")) B C O hk G12
 have G15:Cal l.prog w K mg base 2 "_law_height_by" 4 (bU K c):=lP (h15.df X G (fun _ _ _ _ _ _ us hl=>by obtain ⟨_,_,_,_,rfl⟩:=aHd hl;rfl)) B C O hk G14
 have G18:Cal l.prog w K mg base 2 "_law_sum" 2 (bK K c):=vH (h18.df X G (by walk_at "q3")) B C O hk G14
 have G19:Cal l.prog w K mg base 2 "_law_product" 2 (bF K c):=nS (h19.df X G (by walk_at "q3")) B C O hk G14
 have G3:Cal l.prog w K mg base 3 "plus" 2 (mB K c):=aIw (h3.df X G (by walk_at "q3")) B C O hk G2
 have G4:Cal l.prog w K mg base 3 "times" 2 (kK K c):=aD1 (h4.df X G (by walk_at "q3")) B C O hk G2
 have G16:Cal l.prog w K mg base 3 "_law_roof_by" 4 (cT K c):=oS (h16.df X G (fun _ _ _ _ _ _ us hl=>by obtain ⟨_,_,_,_,rfl⟩:=aHd hl;rfl)) B C O hk G15
 have G20:Cal l.prog w K mg base 3 "_law_mix_right" 3 (bE K c):=lL (h20.df X G (by walk_at "q2")) B C O hk G17 G18 G19
 have G21:Cal l.prog w K mg base 3 "_law_with_mixed" 2 (cD K c):=kS (h21.df X G (by walk_at "q3")) B C O hk G18 G14 G19
 have G23:Cal l.prog w K mg base 3 "_law_put_otherwise" 5 (bA K c):=jJ (h23.df X G (fun _ _ _ _ _ _ us hl=>by obtain ⟨_,_,_,_,_,rfl⟩:=aNy hl;rfl)) B C O hk G18 G14
 have G24:Cal l.prog w K mg base 3 "_law_four" 1 (dD K c):=tK (h24.df X G (by walk_at "q4")) B C O hk G18 G14 G12 G19
 have G6:Cal l.prog w K mg base 4 "shared_sum" 1 (bZ K c):=rH (h6.df X G (by walk_at "q4")) B C O hk G3 G4
 have G7:Cal l.prog w K mg base 5 "mixture_height" 1 (bT K c):=lW (h7.df X G (by walk_at "q4")) B C O hk G6
 have G9:Cal l.prog w K mg base 5 "are_shares" 1 (dX K c):=rL (h9.df X G (by walk_at "q4")) B C O hk G6 G5
 have G10:Cal l.prog w K mg base 6 "lies_no_lower" 2 (cY K c):=mP (h10.df X G (by walk_at "q3")) B C O hk G5 G7 G6
 have G11:aJ5 l.prog w K mg base 7 c.Mixture "holds" 2 (aY K c):=mK D11 B C O hk G9 G10 G8
 exact aL4 hk (aJi (wL (st:=tF) h25.l h25.c h25.k) B C O hk GiMixture G11 G20 G12 G24 G23 G22 G21 G16 G13)
theorem walk{l:PySem.W.OpenLaw}{q:Program}{loose:List Str}{XP:(Str->Option Value)->Heap->Prop}{YP:World->Heap->Prop}{d:DefRec}{K:Params->aQk}(hn:l.most=some 63)(hdf:d.params.defaults=[])
  {ts:List Addr} (hY:∀ (w:World) (h:Heap),YP w h->(K w.params).In h/\∀ P∈ts,h.get? P=some (PySem.W.tabObj #[])) (hT:∀ w:World,aIj (K w.params) ts=true) (hK:∀ w:World,aAq (K w.params)=true)
  (F:∀ (w:World) (mg:Str->Option Value) (fa:Addr) (h:Heap),(K w.params).In h->h.Ns mainGlobals mg->mg d.name=some (.ref fa) ->
   ∃ fd:FuncData,(∀ (s:Shared) (u:Value),BindsTo s fd ⟨[u],[]⟩ [("_law_script",u)])/\∀ base:Heap,(K w.params).In base->base.Ns mainGlobals mg->FnOk l.prog w (K w.params) mg base (CXr l.prog w) 8 fa fd ["_law_script"] aDl) :
  PySem.W.WalkO q loose XP YP l.row.toRowW d [] (fun f vs=>PySem.call f vs) :=
 L2.aH9 (n:=63) (k:=8) (x:="_law_script") (CX:=fun w=>CXr l.prog w) (sp:=fun _=>aDl) hn (by decide) hdf ⟨rfl,by decide,by decide⟩ hY hT F (fun w _ a ns hl _ hS=>⟨a,ns,rfl,hS.elim id (fun ⟨_,_,_,e,hc,_⟩=>(xY (hK w) e hc).elim),hl,fun _=>rfl⟩) fun _ _ _ _ _ ⟨_,_,_,_,_,_,_,z⟩=>z
end My
namespace Hd
open PySem PySem.W PyProof.Rows L2 My
abbrev mN:String:="law_creasecurve_k47_mixtures_looked_at"
abbrev pr:Program:=PySem.Challenge.pw_creasecurve_k47_mixtures_looked_at
def sub(i j:Nat):Stmt:=match top i with
 | .ClassDef (body:=b) ..=>b.getD j (.Pass ⟨0,0,0,0⟩)
 | _=>.Pass ⟨0,0,0,0⟩
noncomputable def vs(s:String)(t:Nat):Value:=.str (Str.ofString s) t
noncomputable def en(P:Params)(s:String)(t:Nat)(v:Value):DictEntry:=⟨PyData.keyHash P (Str.ofString s),.str (Str.ofString s) t,v⟩
noncomputable def fd(n q:String)(a:Arguments)(b:FuncBody)(s:Scope)(g:Nat)(c:List (Str×Nat))(d k dc m:Value)(an:Option Nat)(co ct:Value)(bl:Nat):FuncData:=⟨Str.ofString n,Str.ofString q,a,b,s,g,c,d,k,dc,m,an,co,ct,bl⟩
noncomputable def pE(e:DictEntry):Obj->Obj
 | ⟨c,d,.dict es n,s⟩=>⟨c,d,.dict (es.push e) (n+1),s⟩
 | o=>o
noncomputable def rE(i:Nat)(v:Value):Obj->Obj
 | ⟨c,d,.dict es n,s⟩=>⟨c,d,.dict (es.modify i fun e=>⟨e.hash,e.key,v⟩) n,s⟩
 | o=>o
noncomputable def pF(vs:List Value):Obj->Obj
 | ⟨c,d,.fields xs,s⟩=>⟨c,d,.fields (xs++vs.toArray),s⟩
 | o=>o
noncomputable def tu(xs:List Value):Obj:=⟨.type "tuple",none,.seq xs.toArray 0,#[]⟩
noncomputable def fl(xs:List Value):Obj:=⟨.none,none,.fields xs.toArray,#[]⟩
noncomputable def fo(i:Nat)(nm:String)(g:Nat)(m co c:Value):Obj:=⟨c,none,.func (fd nm nm (fK (top i)) (.stmts (dM (top i))) (aQ (top i)) g [] .none .none .none m none co .none 0),#[]⟩
noncomputable def co(nm:String)(t u l k a c:Nat)(v x:Value)(f:Nat):Obj:=⟨.type "code",none,.fields #[vs nm t,vs nm (t+1),vs "/claim/cut.py" (t+2),.int l 0,.int k 0,.int 0 0,.int 0 0,.int 3 0,.ref a,.bool true,.int 181 0,.ref c,.none,v,x,.ref f,.int u 0,.int l 0,vs "/claim/cut.py" (u+1)],#[]⟩
noncomputable def vL(t:Nat):List String->List Value
 | []=>[]
 | s :: r=>vs s t :: vL (t+1) r
noncomputable abbrev w0:Value:=vs "creasecurve.errors" 187
noncomputable abbrev w1:Value:=vs "creasecurve.fractions" 223
noncomputable abbrev w2:Value:=vs "creasecurve.papers" 287
noncomputable abbrev w3:Value:=vs "creasecurve.thinning" 269
noncomputable def dC(P:Params)(nm:String)(ss:List Value)(l n t:Nat)(T:BT):BT:=T |>
 (fun T=>T.set 3 (pE (en P nm (t+15) (.ref (n+9))))) |>
 (fun T=>T.set 12 (pF [(.int l 0),(.int 0 0),(.ref (n+5))])) |>
 (fun T=>T.set 24 (fun _=>⟨(.type "type"),none,(.cls ⟨"RoofError",[(.type "ValueError")],[(.ref 24),(.type "ValueError"),(.type "Exception"),(.type "BaseException"),(.type "object")],23,"RoofError",true,[],ss,false,none,false⟩),#[(some (.ref 15)),none,(some (vs "RoofError" 189)),(some (vs "RoofError" 197)),(some (.builtin "ValueError.__new__")),(some (.bool true))]⟩)) |>
 (fun T=>T.ins n (tu [(.ref 24)])) |>
 (fun T=>T.ins (n+1) ⟨(.type "builtin_function_or_method"),none,(.fields #[(.builtin "type.__prepare__"),(.type "type")]),#[]⟩) |>
 (fun T=>T.ins (n+2) ⟨(.type "dict"),none,(.dict #[en P "__module__" (t+7) w0,en P "__qualname__" (t+9) (vs nm (t+8)),en P "__firstlineno__" (t+11) (.int l (t+10)),en P "__static_attributes__" (t+12) (.ref (n+7))] 4),#[]⟩) |>
 (fun T=>T.ins (n+3) (tu [])) |>
 (fun T=>T.ins (n+4) (fl [])) |>
 (fun T=>T.ins (n+5) ⟨(.type "code"),none,(.fields #[(vs nm (t+2)),(vs nm (t+3)),(vs "/claim/cut.py" (t+4)),(.int l 0),(.int 0 0),(.int 0 0),(.int 0 0),(.int 0 0),(.ref (n+3)),(.bool false),(.int 181 0),(.ref (n+4)),.none,.none,.none,.none,(.int (t+5) 0),(.int l 0),(vs "/claim/cut.py" (t+6))]),#[]⟩) |>
 (fun T=>T.ins (n+6) ⟨(.type "frame"),none,.plain,#[(some (.ref (n+5))),(some (.ref 3)),(some (.ref (n+2))),none,(some w0),none,(some (.ref 0))]⟩) |>
 (fun T=>T.ins (n+7) (tu [])) |>
 (fun T=>T.ins (n+8) ⟨(.type "dict"),none,(.dict #[en P "__module__" (t+7) w0,en P "__firstlineno__" (t+11) (.int l (t+10)),en P "__static_attributes__" (t+12) (.ref (n+7)),en P "__doc__" (t+13) .none] 2),#[]⟩) |>
 (fun T=>T.ins (n+9) ⟨(.type "type"),none,(.cls ⟨nm,[(.ref 24)],[(.ref (n+9)),(.ref 24),(.type "ValueError"),(.type "Exception"),(.type "BaseException"),(.type "object")],(n+8),nm,true,[],[],false,none,false⟩),#[(some (.ref n)),none,(some (vs nm t)),(some (vs nm (t+8))),(some (.builtin "ValueError.__new__")),(some (.bool true))]⟩) |>
 (fun T=>T.ins (n+10) ⟨(.type "super"),none,(.fields #[(.ref (n+9)),(.ref (n+9)),(.ref (n+9))]),#[]⟩) |>
 (fun T=>T.ins (n+11) ⟨(.type "builtin_function_or_method"),none,(.fields #[(.builtin "object.__init_subclass__"),(.ref (n+9))]),#[]⟩)
noncomputable def d7(P:Params)(i:Nat)(nm:String)(m:Value)(l k:Nat)(vn:List String)(n t u:Nat)(T:BT):BT:=((((((((T.set 3 (pE (en P nm (u+2) (.ref (n+6))))).set 12 (pF [.int l 0,.int 0 0,.ref (n+5)])).ins n (tu [])).ins (n+1) (fl [])).ins (n+2) (tu (vL (t+3) vn))).ins (n+3) (tu [])).ins (n+4) (fo i nm 0 .none .none .none)).ins (n+5) (co nm t u l k n (n+1) (.ref (n+2)) (.ref (n+3)) (n+4))).ins (n+6) (fo i nm 3 m (.ref (n+5)) (.type "function"))
noncomputable def d5(P:Params)(i:Nat)(nm:String)(m:Value)(l k n t u:Nat)(T:BT):BT:=((((((T.set 3 (pE (en P nm (u+2) (.ref (n+4))))).set 12 (pF [.int l 0,.int 0 0,.ref (n+3)])).ins n (tu [])).ins (n+1) (fl [])).ins (n+2) (fo i nm 0 .none .none .none)).ins (n+3) (co nm t u l k n (n+1) .none .none (n+2))).ins (n+4) (fo i nm 3 m (.ref (n+3)) (.type "function"))
noncomputable def aHh:Env:={ scope:=pr.main.scope,locals:=mainNs,globals:=mainNs,cells:=[],code:=(.ref 13),frame:=some 14 }
noncomputable def cE:Code:=.body (behindTheImports pr) aHh
noncomputable def ol(P:Params):List Obj:=[boot_o_0 P,boot_o_1 P,boot_o_2 P,boot_o_3 P,boot_o_4 P,boot_o_5 P,boot_o_6 P,boot_o_7 P,boot_o_8 P,boot_o_9 P,boot_o_10 P,(⟨(.type "tuple"),none,(.seq #[] 0),#[]⟩:Obj),(⟨.none,none,(.fields #[]),#[]⟩:Obj),(⟨(.type "code"),none,(.fields #[(vs "<module>" 182),(vs "<module>" 183),(vs "/claim/cut.py" 184),(.int 1 0),(.int 0 0),(.int 0 0),(.int 0 0),(.int 0 0),(.ref 11),(.bool false),(.int 181 0),(.ref 12),.none,.none,.none,.none,(.int 185 0),(.int 1 0),(vs "/claim/cut.py" 186)]),#[]⟩:Obj),(⟨(.type "frame"),none,.plain,#[(some (.ref 13)),(some (.ref 3)),(some (.ref 3)),none,(some (vs "__main__" 164)),none,(some (.ref 0))]⟩:Obj)]
noncomputable def bt:Nat->List Obj->BT->BT
 | _,[],T=>T
 | i,o :: r,T=>bt (i+1) r (T.ins i o)
noncomputable def t0(P:Params):BT:=bt 0 (ol P) .nil
noncomputable abbrev sT(t:Params->BT)(n k:Nat)(w:World)(os:OsState):SharedT:=⟨t w.params,n,{},⟨[]⟩,boot_drawn,k,os⟩
abbrev B:List Frame:=[topFrame ⟨0,0,0,0⟩]
theorem aI8(w:World):(fun os=>topGo treeTable pr w 11 (some (.ref 6)) 12 ⟨boot_heap w.params,⟨[]⟩,boot_drawn,boot_toks,os⟩ (topStub pr))=(fun os=>some ((⟨⟨⟨ol w.params⟩,{}⟩,⟨[]⟩,boot_drawn,187,os⟩:Shared),⟨denote treeTable cE,cE,⟨0,0,0,0⟩,B⟩)):=by
 rw [PySem.W.Fast.te15667345088766844465,aRg,PySem.W.Fast.te11892475500146522536]
 kernel_rfl
theorem aK4(w:World):(fun os=>segRun treeTable pr w 11 (some (.ref 6)) 1 1 ⟨⟨⟨ol w.params⟩,{}⟩,⟨[]⟩,boot_drawn,187,os⟩ (blockOf (behindTheImports pr) aHh cE ⟨0,0,0,0⟩ B))=(fun os=>some (.next,(sT t0 15 187 w os).abs,cE,⟨0,0,0,0⟩)):=by
 rw [PySem.W.Fast.te14374325043358763698,aRg]
 kernel_rfl
noncomputable def t1(P:Params):BT :=
 (t0 P) |>
 (fun T=>T.set 3 (rE 0 w0)) |>
 (fun T=>T.set 3 (pE (en P "RoofError" 206 (.ref 24)))) |>
 (fun T=>T.set 12 (pF [(.int 2 0),(.int 0 0),(.ref 20)])) |>
 (fun T=>T.ins 15 (tu [(.type "ValueError")])) |>
 (fun T=>T.ins 16 ⟨(.type "builtin_function_or_method"),none,(.fields #[(.builtin "type.__prepare__"),(.type "type")]),#[]⟩) |>
 (fun T=>T.ins 17 ⟨(.type "dict"),none,(.dict #[en P "__module__" 196 w0,en P "__qualname__" 198 (vs "RoofError" 197),en P "__firstlineno__" 200 (.int 2 199),en P "__static_attributes__" 201 (.ref 22)] 4),#[]⟩) |>
 (fun T=>T.ins 18 (tu [])) |>
 (fun T=>T.ins 19 (fl [])) |>
 (fun T=>T.ins 20 ⟨(.type "code"),none,(.fields #[(vs "RoofError" 191),(vs "RoofError" 192),(vs "/claim/cut.py" 193),(.int 2 0),(.int 0 0),(.int 0 0),(.int 0 0),(.int 0 0),(.ref 18),(.bool false),(.int 181 0),(.ref 19),.none,.none,.none,.none,(.int 194 0),(.int 2 0),(vs "/claim/cut.py" 195)]),#[]⟩) |>
 (fun T=>T.ins 21 ⟨(.type "frame"),none,.plain,#[(some (.ref 20)),(some (.ref 3)),(some (.ref 17)),none,(some w0),none,(some (.ref 0))]⟩) |>
 (fun T=>T.ins 22 (tu [])) |>
 (fun T=>T.ins 23 ⟨(.type "dict"),none,(.dict #[en P "__module__" 196 w0,en P "__firstlineno__" 200 (.int 2 199),en P "__static_attributes__" 201 (.ref 22),en P "__weakref__" 203 (.ref 25),en P "__doc__" 204 .none] 3),#[]⟩) |>
 (fun T=>T.ins 24 ⟨(.type "type"),none,(.cls ⟨"RoofError",[(.type "ValueError")],[(.ref 24),(.type "ValueError"),(.type "Exception"),(.type "BaseException"),(.type "object")],23,"RoofError",true,[],[],false,none,false⟩),#[(some (.ref 15)),none,(some (vs "RoofError" 189)),(some (vs "RoofError" 197)),(some (.builtin "ValueError.__new__")),(some (.bool true))]⟩) |>
 (fun T=>T.ins 25 ⟨(.type "getset_descriptor"),none,(.fields #[(vs "__weakref__" 202),(.ref 24),(.builtin "ExceptionGroup.__weakref__"),.none]),#[]⟩) |>
 (fun T=>T.ins 26 ⟨(.type "super"),none,(.fields #[(.ref 24),(.ref 24),(.ref 24)]),#[]⟩) |>
 (fun T=>T.ins 27 ⟨(.type "builtin_function_or_method"),none,(.fields #[(.builtin "object.__init_subclass__"),(.ref 24)]),#[]⟩)
noncomputable def g0:List Stmt:=[top 0,top 1]
theorem hg0(w:World):(fun os=>segRunT treeTable pr w 11 (some (.ref 6)) 1 196 (sT t0 15 187 w os) (piecesOf g0 aHh cE ⟨0,0,0,0⟩ B))=(fun os=>some (.next,sT t1 28 207 w os,cE,⟨2,0,3,8⟩)):=by
 rw [aR2,aRg]
 kernel_rfl
noncomputable def t2(P:Params):BT :=
 (t1 P) |>
 (dC P "NoFraction" [(.ref 37)] 4 28 207) |>
 (fun T=>T.set 3 (rE 0 w1)) |>
 (d7 P 4 "greatest_divisor" w1 7 2 ["a","b","larger","smaller","rest"] 40 225 233) |>
 (d7 P 5 "fraction" w1 15 2 ["top","bottom","divisor"] 47 236 242) |>
 (d7 P 6 "plus" w1 22 2 ["a","b"] 54 245 250) |>
 (d7 P 7 "times" w1 24 2 ["a","b"] 61 253 258) |>
 (d7 P 8 "less" w1 26 2 ["a","b"] 68 261 266) |>
 (fun T=>T.set 3 (rE 0 w3))
noncomputable def g1:List Stmt:=[top 2,top 3,top 4,top 5,top 6,top 7,top 8,top 9]
theorem hg1(w:World):(fun os=>segRunT treeTable pr w 11 (some (.ref 6)) 1 386 (sT t1 28 207 w os) (piecesOf g1 aHh cE ⟨2,0,3,8⟩ B))=(fun os=>some (.next,sT t2 75 271 w os,cE,⟨28,0,28,8⟩)):=by
 rw [aR2,aRg]
 kernel_rfl
noncomputable def t3(P:Params):BT :=
 (t2 P) |>
 (d7 P 10 "shared_sum" w3 29 1 ["rows","total","share","number"] 75 271 278) |>
 (d5 P 11 "mixture_height" w3 34 1 82 281 284) |>
 (fun T=>T.set 3 (rE 0 w2)) |>
 (fun T=>T.set 3 (pE (en P "MOST_PARTS" 290 (.int 3 289)))) |>
 (d5 P 14 "are_unlike_others" w2 38 3 87 291 294) |>
 (d5 P 15 "are_shares" w2 42 1 92 297 300) |>
 (d5 P 16 "lies_no_lower" w2 46 2 97 303 306) |>
 (fun T=>T.set 3 (pE (en P "Paper" 328 (.ref 111)))) |>
 (fun T=>T.set 12 (pF [(.int 50 0),(.int 0 0),(.ref 107)])) |>
 (fun T=>T.ins 102 (tu [])) |>
 (fun T=>T.ins 103 ⟨(.type "builtin_function_or_method"),none,(.fields #[(.builtin "type.__prepare__"),(.type "type")]),#[]⟩) |>
 (fun T=>T.ins 104 ⟨(.type "dict"),none,(.dict #[en P "__module__" 316 w2,en P "__qualname__" 318 (vs "Paper" 317),en P "__firstlineno__" 320 (.int 50 319),en P "__static_attributes__" 321 (.ref 109)] 4),#[]⟩) |>
 (fun T=>T.ins 105 (tu [])) |>
 (fun T=>T.ins 106 (fl [])) |>
 (fun T=>T.ins 107 ⟨(.type "code"),none,(.fields #[(vs "Paper" 311),(vs "Paper" 312),(vs "/claim/cut.py" 313),(.int 50 0),(.int 0 0),(.int 0 0),(.int 0 0),(.int 0 0),(.ref 105),(.bool false),(.int 181 0),(.ref 106),.none,.none,.none,.none,(.int 314 0),(.int 50 0),(vs "/claim/cut.py" 315)]),#[]⟩) |>
 (fun T=>T.ins 108 ⟨(.type "frame"),none,.plain,#[(some (.ref 107)),(some (.ref 3)),(some (.ref 104)),none,(some w2),none,(some (.ref 0))]⟩) |>
 (fun T=>T.ins 109 (tu [])) |>
 (fun T=>T.ins 110 ⟨(.type "dict"),none,(.dict #[en P "__module__" 316 w2,en P "__firstlineno__" 320 (.int 50 319),en P "__static_attributes__" 321 (.ref 109),en P "__dict__" 323 (.ref 112),en P "__weakref__" 325 (.ref 113),en P "__doc__" 326 .none] 4),#[]⟩) |>
 (fun T=>T.ins 111 ⟨(.type "type"),none,(.cls ⟨"Paper",[(.type "object")],[(.ref 111),(.type "object")],110,"Paper",true,[],[],false,none,false⟩),#[none,none,(some (vs "Paper" 309)),(some (vs "Paper" 317)),(some (.builtin "object.__new__")),(some (.bool true))]⟩) |>
 (fun T=>T.ins 112 ⟨(.type "getset_descriptor"),none,(.fields #[(vs "__dict__" 322),(.ref 111),(.builtin "function.__dict__"),(.builtin "function.__dict__#set")]),#[]⟩) |>
 (fun T=>T.ins 113 ⟨(.type "getset_descriptor"),none,(.fields #[(vs "__weakref__" 324),(.ref 111),(.builtin "ExceptionGroup.__weakref__"),.none]),#[]⟩) |>
 (fun T=>T.ins 114 ⟨(.type "super"),none,(.fields #[(.ref 111),(.ref 111),(.ref 111)]),#[]⟩) |>
 (fun T=>T.ins 115 ⟨(.type "builtin_function_or_method"),none,(.fields #[(.builtin "object.__init_subclass__"),(.ref 111)]),#[]⟩)
noncomputable def g2:List Stmt:=[top 10,top 11,top 12,top 13,top 14,top 15,top 16,top 17]
theorem hg2(w:World):(fun os=>segRunT treeTable pr w 11 (some (.ref 6)) 1 345 (sT t2 75 271 w os) (piecesOf g2 aHh cE ⟨28,0,28,8⟩ B))=(fun os=>some (.next,sT t3 116 329 w os,cE,⟨50,0,51,8⟩)):=by
 rw [aR2,aRg]
 kernel_rfl
noncomputable def t4(P:Params):BT :=
 (t3 P) |>
 (fun T=>T.set 3 (pE (en P "Mixture" 361 (.ref 137)))) |>
 (fun T=>T.set 12 (pF [(.int 52 0),(.int 0 0),(.ref 121)])) |>
 (fun T=>T.set 111 (fun _=>⟨(.type "type"),none,(.cls ⟨"Paper",[(.type "object")],[(.ref 111),(.type "object")],110,"Paper",true,[],[(.ref 137)],false,none,false⟩),#[none,none,(some (vs "Paper" 309)),(some (vs "Paper" 317)),(some (.builtin "object.__new__")),(some (.bool true))]⟩)) |>
 (fun T=>T.ins 116 (tu [(.ref 111)])) |>
 (fun T=>T.ins 117 ⟨(.type "builtin_function_or_method"),none,(.fields #[(.builtin "type.__prepare__"),(.type "type")]),#[]⟩) |>
 (fun T=>T.ins 118 ⟨(.type "dict"),none,(.dict #[en P "__module__" 336 w2,en P "__qualname__" 338 (vs "Mixture" 337),en P "__firstlineno__" 340 (.int 52 339),en P "__init__" 349 (.ref 129),en P "holds" 355 (.ref 134),en P "__static_attributes__" 358 (.ref 135)] 6),#[]⟩) |>
 (fun T=>T.ins 119 (tu [])) |>
 (fun T=>T.ins 120 (fl [(.int 54 0),(.int 4 0),(.ref 128),(.int 58 0),(.int 4 0),(.ref 133)])) |>
 (fun T=>T.ins 121 ⟨(.type "code"),none,(.fields #[(vs "Mixture" 331),(vs "Mixture" 332),(vs "/claim/cut.py" 333),(.int 52 0),(.int 0 0),(.int 0 0),(.int 0 0),(.int 0 0),(.ref 119),(.bool false),(.int 181 0),(.ref 120),.none,.none,.none,.none,(.int 334 0),(.int 52 0),(vs "/claim/cut.py" 335)]),#[]⟩) |>
 (fun T=>T.ins 122 ⟨(.type "frame"),none,.plain,#[(some (.ref 121)),(some (.ref 3)),(some (.ref 118)),none,(some w2),none,(some (.ref 0))]⟩) |>
 (fun T=>T.ins 123 (tu [])) |>
 (fun T=>T.ins 124 (fl [])) |>
 (fun T=>T.ins 125 (tu [(vs "self" 344),(vs "plane" 345),(vs "parts" 346)])) |>
 (fun T=>T.ins 126 (tu [])) |>
 (fun T=>T.ins 127 ⟨.none,none,(.func (fd "__init__" "Mixture.__init__" (fK (sub 18 0)) (.stmts (dM (sub 18 0))) (aQ (sub 18 0)) 0 [] .none .none .none .none none .none .none 0)),#[]⟩) |>
 (fun T=>T.ins 128 ⟨(.type "code"),none,(.fields #[(vs "__init__" 341),(vs "Mixture.__init__" 342),(vs "/claim/cut.py" 343),(.int 54 0),(.int 3 0),(.int 0 0),(.int 0 0),(.int 3 0),(.ref 123),(.bool true),(.int 181 0),(.ref 124),.none,(.ref 125),(.ref 126),(.ref 127),(.int 347 0),(.int 54 0),(vs "/claim/cut.py" 348)]),#[]⟩) |>
 (fun T=>T.ins 129 ⟨(.type "function"),none,(.func (fd "__init__" "Mixture.__init__" (fK (sub 18 0)) (.stmts (dM (sub 18 0))) (aQ (sub 18 0)) 3 [] .none .none .none w2 none (.ref 128) .none 0)),#[]⟩) |>
 (fun T=>T.ins 130 (tu [])) |>
 (fun T=>T.ins 131 (fl [])) |>
 (fun T=>T.ins 132 ⟨.none,none,(.func (fd "holds" "Mixture.holds" (fK (sub 18 1)) (.stmts (dM (sub 18 1))) (aQ (sub 18 1)) 0 [] .none .none .none .none none .none .none 0)),#[]⟩) |>
 (fun T=>T.ins 133 ⟨(.type "code"),none,(.fields #[(vs "holds" 350),(vs "Mixture.holds" 351),(vs "/claim/cut.py" 352),(.int 58 0),(.int 2 0),(.int 0 0),(.int 0 0),(.int 3 0),(.ref 130),(.bool true),(.int 181 0),(.ref 131),.none,.none,.none,(.ref 132),(.int 353 0),(.int 58 0),(vs "/claim/cut.py" 354)]),#[]⟩) |>
 (fun T=>T.ins 134 ⟨(.type "function"),none,(.func (fd "holds" "Mixture.holds" (fK (sub 18 1)) (.stmts (dM (sub 18 1))) (aQ (sub 18 1)) 3 [] .none .none .none w2 none (.ref 133) .none 0)),#[]⟩) |>
 (fun T=>T.ins 135 (tu [(vs "parts" 356),(vs "plane" 357)])) |>
 (fun T=>T.ins 136 ⟨(.type "dict"),none,(.dict #[en P "__module__" 336 w2,en P "__firstlineno__" 340 (.int 52 339),en P "__init__" 349 (.ref 129),en P "holds" 355 (.ref 134),en P "__static_attributes__" 358 (.ref 135),en P "__doc__" 359 .none] 2),#[]⟩) |>
 (fun T=>T.ins 137 ⟨(.type "type"),none,(.cls ⟨"Mixture",[(.ref 111)],[(.ref 137),(.ref 111),(.type "object")],136,"Mixture",true,[],[],false,none,false⟩),#[(some (.ref 116)),none,(some (vs "Mixture" 329)),(some (vs "Mixture" 337)),(some (.builtin "object.__new__")),(some (.bool true))]⟩) |>
 (fun T=>T.ins 138 ⟨(.type "super"),none,(.fields #[(.ref 137),(.ref 137),(.ref 137)]),#[]⟩) |>
 (fun T=>T.ins 139 ⟨(.type "builtin_function_or_method"),none,(.fields #[(.builtin "object.__init_subclass__"),(.ref 137)]),#[]⟩) |>
 (fun T=>T.set 3 (rE 0 (vs mN 362))) |>
 (d7 P 20 "_law_cell_at" (vs mN 362) 63 2 ["_law_script","_law_k"] 140 364 369) |>
 (d7 P 21 "_law_stirred" (vs mN 362) 67 1 ["_law_script","_law_prime","_law_made","_law_k","_law_cell"] 147 372 380) |>
 (d7 P 22 "_law_whole" (vs mN 362) 75 1 ["_law_found"] 154 383 387)
noncomputable def g3:List Stmt:=[top 18,top 19,top 20,top 21,top 22]
theorem hg3(w:World):(fun os=>segRunT treeTable pr w 11 (some (.ref 6)) 1 377 (sT t3 116 329 w os) (piecesOf g3 aHh cE ⟨50,0,51,8⟩ B))=(fun os=>some (.next,sT t4 161 390 w os,cE,⟨75,0,76,77⟩)):=by
 rw [aR2,aRg]
 kernel_rfl
noncomputable def t5(P:Params):BT :=
 (t4 P) |>
 (d7 P 23 "_law_low" (vs mN 362) 77 2 ["_law_top","_law_bottom","_law_one","_law_other"] 161 390 397) |>
 (d7 P 24 "_law_height_by" (vs mN 362) 85 4 ["_law_kind","_law_i","_law_j","_law_rest"] 168 400 407) |>
 (d5 P 25 "_law_roof_by" (vs mN 362) 93 4 175 410 413) |>
 (d7 P 26 "_law_under" (vs mN 362) 110 2 ["_law_one","_law_other"] 180 416 421) |>
 (d7 P 27 "_law_sum" (vs mN 362) 112 2 ["_law_one","_law_other"] 187 424 429) |>
 (d7 P 28 "_law_product" (vs mN 362) 114 2 ["_law_one","_law_other"] 194 432 437) |>
 (d5 P 29 "_law_mix_right" (vs mN 362) 116 3 201 440 443) |>
 (d5 P 30 "_law_with_mixed" (vs mN 362) 130 2 206 446 449) |>
 (d7 P 31 "_law_pair_for" (vs mN 362) 143 2 ["_law_roof","_law_cell","_law_found","_law_plane","_law_k","_law_l","_law_i","_law_j","_law_many","_law_parts","_law_one","_law_others"] 211 452 467) |>
 (d5 P 32 "_law_put_otherwise" (vs mN 362) 160 5 218 470 473) |>
 (d5 P 33 "_law_four" (vs mN 362) 186 1 223 476 479) |>
 (d5 P 34 "law" (vs mN 362) 198 1 228 482 485)
noncomputable def g4:List Stmt:=[top 23,top 24,top 25,top 26,top 27,top 28,top 29,top 30,top 31,top 32,top 33,top 34]
theorem hg4(w:World):(fun os=>segRunT treeTable pr w 11 (some (.ref 6)) 1 351 (sT t4 161 390 w os) (piecesOf g4 aHh cE ⟨75,0,76,77⟩ B))=(fun os=>some (.next,sT t5 233 488 w os,cE,⟨198,0,219,90⟩)):=by
 rw [aR2,aRg]
 kernel_rfl
noncomputable def hF(P:Params):Heap:=absHeap (t5 P) 233 {}
theorem aLd(w:World):(fun os=>topRun treeTable pr w 11 (some (.ref 6)) 2 (sT t5 233 488 w os).abs ⟨doneF .next,cE,⟨198,0,219,90⟩,B⟩)=(fun os=>some ((⟨hF w.params,⟨[]⟩,boot_drawn,488,os⟩:Shared))):=by
 rw [PySem.W.Fast.te14082659384304107361,aRg]
 kernel_rfl
theorem hb:behindTheImports pr=g0++(g1++(g2++(g3++(g4++[])))):=by kernel_rfl
theorem aP9(w:World)(os:OsState):topRun treeTable pr w 11 (some (.ref 6)) (12+(1+(196+(386+(345+(377+(351+(2)))))))) ⟨boot_heap w.params,⟨[]⟩,boot_drawn,boot_toks,os⟩ (topStub pr)=some ⟨hF w.params,⟨[]⟩,boot_drawn,488,os⟩:=go_top (aVd (aI8 w) os) (piece_block (aVd (aK4 w) os) (by
 rw [hb]
 exact piece_app (segRun_of (aVd (hg0 w) os)) (piece_app (segRun_of (aVd (hg1 w) os)) (piece_app (segRun_of (aVd (hg2 w) os)) (piece_app (segRun_of (aVd (hg3 w) os)) (piece_app (segRun_of (aVd (hg4 w) os)) (piece_nil (aVd (aLd w) os))))))))
noncomputable def qv:Program:={ pr with main:={ pr.main with body:=[top 1,top 2,top 4,top 5,top 6,top 7,top 8,top 10,top 11,top 13,top 14,top 15,top 16,top 17,top 18,top 20,top 21,top 22,top 23,top 24,top 25,top 26,top 27,top 28,top 29,top 30,top 31,top 32,top 33,top 34] } }
noncomputable def ks:List Nat:=[3,20,23,24,33,36,37,45,46,52,53,59,60,66,67,73,74,80,81,85,86,90,91,95,96,100,101,107,110,111,121,128,129,133,134,136,137,145,146,152,153,159,160,166,167,173,174,178,179,185,186,192,193,199,200,204,205,209,210,216,217,221,222,226,227,231,232]
noncomputable def K(P:Params):Frag:=ks.map fun a=>(a,((t5 P).get a).getD default)
theorem ksE(P:Params):ks=(K P).map (·.1):=by kernel_rfl
noncomputable abbrev hk:Hook:=kmHook K ks ksE []
noncomputable abbrev xt:Shared->Bool:=fun s=>xlAt qv [] s && recOk [] s
theorem aOa(w:World):((boot_heap w.params).isNs mainGlobals && (⟨[]⟩:Array GenState).size == 0,(boot_heap w.params).objs.size,(boot_heap w.params).nsMap mainGlobals "__annotations__")=(true,11,(some (.ref 6))):=by kernel_rfl
theorem aMz(w:World):(fun os:OsState=>(staticsOk (importedModules pr.main.body) (boot_heap w.params) (hF w.params) && namesBound pr (hF w.params) && gensDone ⟨hF w.params,⟨[]⟩,boot_drawn,488,os⟩ && laidKept (boot_heap w.params) (hF w.params)))=fun _=>true:=by
 rw [aUs]
 kernel_rfl
theorem aNz(w:World):(fun os:OsState=>openSeen qv [] (importedModules pr.main.body) xt true ⟨hF w.params,⟨[]⟩,boot_drawn,488,os⟩)=fun _=>openGood qv []:=by
 rw [PySem.W.Fast.te4187177175401517315,aUs]
 kernel_rfl
theorem aOn(w:World):(fun os:OsState=>hk.obs ⟨hF w.params,⟨[]⟩,boot_drawn,488,os⟩)=fun _=>hk.val w:=by kernel_rfl
theorem left:LeftO pr qv [] xt hk.obs hk.val 3426:=LeftO.of_pieces (boot_open (by kernel_rfl) (by decide) (fun _=>by kernel_rfl)) aOa aP9 (by decide) fun w=>funext fun os=>looks_pair (aVd (aMz w) os) (looks_pair (aVd (aNz w) os) (aVd (aOn w) os))
theorem h1(w:World):FnAt (K w.params) "greatest_divisor" eK 46 w1 45:=by constructor<;>kernel_rfl
theorem h2(w:World):FnAt (K w.params) "fraction" jV 53 w1 52:=by constructor<;>kernel_rfl
theorem h3(w:World):FnAt (K w.params) "plus" wK 60 w1 59:=by constructor<;>kernel_rfl
theorem h4(w:World):FnAt (K w.params) "times" qM 67 w1 66:=by constructor<;>kernel_rfl
theorem h5(w:World):FnAt (K w.params) "less" wY 74 w1 73:=by constructor<;>kernel_rfl
theorem h6(w:World):FnAt (K w.params) "shared_sum" iI 81 w3 80:=by constructor<;>kernel_rfl
theorem h7(w:World):FnAt (K w.params) "mixture_height" fC 86 w3 85:=by constructor<;>kernel_rfl
theorem h8(w:World):FnAt (K w.params) "are_unlike_others" dZ 91 w2 90:=by constructor<;>kernel_rfl
theorem h9(w:World):FnAt (K w.params) "are_shares" iJ 96 w2 95:=by constructor<;>kernel_rfl
theorem h10(w:World):FnAt (K w.params) "lies_no_lower" fZ 101 w2 100:=by constructor<;>kernel_rfl
theorem h11(w:World):MAt (K w.params) "holds" "Mixture.holds" eM 134 w2 133:=by constructor<;>kernel_rfl
theorem h12(w:World):FnAt (K w.params) "_law_cell_at" gP 146 (vs mN 362) 145:=by constructor<;>kernel_rfl
theorem h13(w:World):FnAt (K w.params) "_law_stirred" gO 153 (vs mN 362) 152:=by constructor<;>kernel_rfl
theorem h14(w:World):FnAt (K w.params) "_law_low" jU 167 (vs mN 362) 166:=by constructor<;>kernel_rfl
theorem h15(w:World):FnAt (K w.params) "_law_height_by" fH 174 (vs mN 362) 173:=by constructor<;>kernel_rfl
theorem h16(w:World):FnAt (K w.params) "_law_roof_by" gQ 179 (vs mN 362) 178:=by constructor<;>kernel_rfl
theorem h17(w:World):FnAt (K w.params) "_law_under" iB 186 (vs mN 362) 185:=by constructor<;>kernel_rfl
theorem h18(w:World):FnAt (K w.params) "_law_sum" jT 193 (vs mN 362) 192:=by constructor<;>kernel_rfl
theorem h19(w:World):FnAt (K w.params) "_law_product" gN 200 (vs mN 362) 199:=by constructor<;>kernel_rfl
theorem h20(w:World):FnAt (K w.params) "_law_mix_right" fB 205 (vs mN 362) 204:=by constructor<;>kernel_rfl
theorem h21(w:World):FnAt (K w.params) "_law_with_mixed" eT 210 (vs mN 362) 209:=by constructor<;>kernel_rfl
theorem h22(w:World):FnAt (K w.params) "_law_pair_for" fU 217 (vs mN 362) 216:=by constructor<;>kernel_rfl
theorem h23(w:World):FnAt (K w.params) "_law_put_otherwise" dQ 222 (vs mN 362) 221:=by constructor<;>kernel_rfl
theorem h24(w:World):FnAt (K w.params) "_law_four" i9 227 (vs mN 362) 226:=by constructor<;>kernel_rfl
theorem h25(w:World):FnAt (K w.params) "law" tF 232 (vs mN 362) 231:=by constructor<;>kernel_rfl
theorem hiMixture(w:World):MAt (K w.params) "__init__" "Mixture.__init__" eZ 129 w2 128:=by constructor<;>kernel_rfl
end Hd
open PySem PySem.W PyProof.Rows
theorem Hd.said:PySem.Challenge.rw_creasecurve_k47_mixtures_looked_at.wellSaid=true:=by kernel_rfl
set_option maxRecDepth 100000 in
set_option maxHeartbeats 0 in
theorem PySem.Challenge.cw_creasecurve_k47_mixtures_looked_at_holds : PySem.Challenge.rw_creasecurve_k47_mixtures_looked_at.Holds := by
 refine holds_law Hd.said fun said=>?_
 refine holds_open (q:=Hd.qv) (Xt:=Hd.xt) (XP:=XL Hd.qv []) (YP:=Hd.hk.says) (N:=3426) Hd.left Hd.hk.of Hd.hk.keeps (fun s e=>xl_of s (aRh.mp e).1) XL.keeps (by rfl) (by rfl) (by rfl) (fun s e=>recFacts_of (aRh.mp e).2) (by rfl) said (by decide +kernel) ⟨rfl,rfl,rfl,rfl,rfl,by decide +kernel⟩ ?hw ?hc
 case hw=>w_witness2
 refine My.walk (l:=PySem.Challenge.rw_creasecurve_k47_mixtures_looked_at) rfl rfl (fun w h Y=>⟨PySem.W.km_in_of Y,PySem.W.km_tabs_of Y⟩) (fun w=>by kernel_rfl) (fun w=>by kernel_rfl) ?F
 case F =>
  intro w mg fa h KX G hmg
  exact My.all_mk (CRoofError:=24) (CNoFraction:=37) (CPaper:=111) (CMixture:=137) (t__name__:=362) (tMOST_PARTS:=289) KX G hmg (Hd.h1 w) (Hd.h2 w) (Hd.h3 w) (Hd.h4 w) (Hd.h5 w) (Hd.h6 w) (Hd.h7 w) (Hd.h8 w) (Hd.h9 w) (Hd.h10 w) (Hd.h11 w) (by kernel_rfl) (Hd.h12 w) (Hd.h13 w) (Hd.h14 w) (Hd.h15 w) (Hd.h16 w) (Hd.h17 w) (Hd.h18 w) (Hd.h19 w) (Hd.h20 w) (Hd.h21 w) (Hd.h22 w) (Hd.h23 w) (Hd.h24 w) (Hd.h25 w) (Hd.hiMixture w) (by kernel_rfl) (by kernel_rfl) (by kernel_rfl) (by kernel_rfl) (by kernel_rfl) (by kernel_rfl) (by kernel_rfl) (by kernel_rfl) (by kernel_rfl) (by kernel_rfl) (by kernel_rfl) (by kernel_rfl) (by kernel_rfl) (by kernel_rfl) (by kernel_rfl) (by kernel_rfl) (by kernel_rfl) (by kernel_rfl) (by kernel_rfl) (by kernel_rfl) (by kernel_rfl) (by kernel_rfl) (by kernel_rfl) (by kernel_rfl) (by kernel_rfl) (by kernel_rfl) (by kernel_rfl) (by kernel_rfl) (by kernel_rfl) (by kernel_rfl)

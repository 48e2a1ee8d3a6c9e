import PyProof.Rows.All
import Wide.All
import OpenK.AllK
import Wide.FinOn
import Lean
import PyProof.EqAt
import PyProof.EqKinds
import PyProof.TupleCall
import PyProof.AttrMissHeap
import PyProof.FactsAll.zip_1
import KE.KDictOf
import PyProof.Draws
import KE.KRevIter
import PyProof.FactsAll.range
import PyProof.Rows.RuleM_int
import KE.BitLaws
import PyProof.DictItems
import PySem.Challenge.RW_bendfronts_k37_all_bandings
set_option Elab.async false
set_option linter.all false
set_option maxRecDepth 100000
abbrev ka:=@PySem.wpAny_bind
abbrev ke:=@List.length_map
abbrev kg:=@if_neg
abbrev kh:=@if_pos
abbrev ki:=@Nat.le_refl
abbrev kj:=@List.length_append
abbrev km:=@PySem.Heap.get?_push_of_some
abbrev ko:=@PySem.wpAny_pure
abbrev kr:=@List.size_toArray
abbrev kz:=@List.getElem?_map
abbrev kC:=@List.getElem?_eq_some_iff
abbrev kE:=@of_decide_eq_true
abbrev kF:=@Int.eq_ofNat_of_zero_le
abbrev kG:=@decide_eq_true
abbrev kH:=@PySem.F.plainAttrs_list
abbrev kI:=@Int.toNat_natCast
abbrev kJ:=@List.take_of_length_le
abbrev kK:=@List.mem_cons_self
abbrev kL:=@List.mem_cons
abbrev kM:=@List.length_take
abbrev kO:=@Bool.false_ne_true
abbrev kP:=@List.map_append
abbrev kQ:=@List.mem_cons_of_mem
abbrev kR:=@PySem.F.slot_list_append
abbrev kS:=@PySem.F.type_list_append
abbrev kT:=@PySem.W.mg_of
abbrev kU:=@List.getElem?_eq_getElem
abbrev kX:=@Option.some.inj
abbrev kY:=@List.mem_of_getElem?
abbrev kZ:=@List.mem_singleton
abbrev k6:=@PySem.Heap.lt_size
abbrev k7:=@List.map_cons
abbrev k8:=@PySem.PassesOwn.never
abbrev k9:=@Nat.le_trans
abbrev Ka:=@PyProof.Rows.wpS_bind
abbrev Kb:=@Nat.ne_of_lt
abbrev Kc:=@List.append_assoc
abbrev Ke:=@List.getD_eq_getElem?_getD
abbrev Kf:=@Option.map_eq_some_iff
abbrev Kg:=@PySem.sizeLine_eq
abbrev Kh:=@List.take_add_one
abbrev Ki:=@PySem.Heap.get?_push_size
abbrev Kj:=@List.length_singleton
abbrev Kk:=@decide_eq_true_eq
abbrev Kl:=@PyProof.Rows.wpS_pure
abbrev Km:=@Nat.zero_le
abbrev Kn:=@decide_eq_false
abbrev Ko:=@Ne.symm
abbrev Kq:=@Array.length_toList
abbrev Kr:=@PySem.W.mg_none_of
abbrev Ks:=@congrArg
abbrev Kt:=@Nat.le_of_lt
abbrev Ku:=@List.mem_append
abbrev Kv:=@PySem.wpAny_holding
abbrev Kw:=@Bool.and_eq_true
abbrev Kx:=@List.nodup_cons
abbrev Ky:=@Nat.lt_of_lt_of_le
abbrev Kz:=@List.mem_flatMap
abbrev KA:=@List.length_replicate
abbrev KC:=@PySem.wpAny_truthy_bool
abbrev KD:=@List.length_drop
abbrev KG:=@List.length_set
abbrev KH:=@PySem.wpAny_mono
abbrev KJ:=@List.length_cons
abbrev KL:=@Nat.min_eq_right
abbrev KN:=@List.range_succ
abbrev KO:=@List.getElem?_append_right
abbrev KP:=@List.mem_append_right
abbrev KQ:=@List.drop_eq_getElem_cons
abbrev KR:=@Nat.min_eq_left
abbrev KS:=@PyProof.Rows.callWith_type1
abbrev KU:=@PyProof.Rows.slot_tuple_getitem
abbrev KW:=@List.take_append_drop
abbrev KY:=@List.lookup_cons
abbrev KZ:=@List.getElem?_set
abbrev K0:=@List.flatMap_cons
abbrev K6:=@List.mem_filterMap
abbrev K7:=@List.mem_map
abbrev K8:=@List.drop_eq_nil_of_le
abbrev K9:=@List.mem_range
abbrev qa:=@PySem.boot_len
abbrev qb:=@PySem.wpAny_call_entry
abbrev qc:=@Nat.max_eq_right
abbrev qd:=@PySem.wpAny_field
abbrev qe:=@PySem.wpAny_newObj_type
abbrev qf:=@List.length_eq_zero_iff
abbrev qg:=@PySem.W.kia_one
abbrev qh:=@List.append_nil
abbrev qi:=@Nat.max_eq_left
abbrev qj:=@List.getElem?_append_left
abbrev qm:=@List.nodup_append
abbrev qo:=@List.length_range
abbrev qp:=@List.Perm.append_left
abbrev qq:=@Option.map_some
abbrev qr:=@PySem.wpAny_typeOf
abbrev qt:=@Bool.false_eq_true
abbrev qu:=@List.pairwise_cons
abbrev qv:=@PySem.Heap.get?_update_other
abbrev qw:=@PyProof.Rows.wpS_forRange
abbrev qy:=@PySem.mem_of_lookup
abbrev qz:=@Nat.le_succ
abbrev qA:=@Array.getElem?_toList
abbrev qB:=@PySem.F.slot_dict_get
abbrev qC:=@List.replicate_succ'
abbrev qD:=@List.take_append_of_le_length
abbrev qE:=@Int.le_refl
abbrev qF:=@PySem.F.slot_dict_itemiterator_next
abbrev qG:=@PySem.wpAny_callSpecial?_slot
abbrev qH:=@Bool.eq_iff_iff
abbrev qI:=@beq_eq_false_iff_ne
abbrev qJ:=@List.filterMap_cons
abbrev qK:=@List.flatten_append
abbrev qL:=@List.map_set
abbrev qM:=@PySem.Paired.length
abbrev qN:=@Nat.lt_irrefl
abbrev qO:=@List.all_eq_true
abbrev qP:=@List.take_length
abbrev qQ:=@Int.emod_lt_of_pos
abbrev qR:=@PySem.wpAny_passesOwn
abbrev qS:=@Nat.ne_of_gt
abbrev qT:=@List.flatten_cons
abbrev qU:=@PySem.wpAny_standAt
abbrev qV:=@PySem.wpAny_rule
abbrev qW:=@List.any_cons
abbrev qX:=@List.map_take
abbrev qY:=@List.map_drop
abbrev qZ:=@List.replicate_succ
abbrev Xa:=@List.flatMap_append
abbrev Xb:=@Nat.le_add_right
abbrev Xc:=@List.not_mem_nil
abbrev Xd:=@decide_eq_decide
abbrev Xe:=@PySem.F.slot_zip_getattribute
abbrev Xf:=@PySem.wpAny_typeNameOfWhole_itemiter
abbrev Xg:=@PyProof.Rows.pairsOf_toList
abbrev Xh:=@List.pairwise_singleton
abbrev Xi:=@PySem.F.slot_list_count
abbrev Xj:=@PySem.F.type_list_count
abbrev Xk:=@Nat.exists_eq_add_of_le
abbrev Xl:=@PySem.Calls.spliced_cons
abbrev Xm:=@PySem.Calls.callWith_builtin
abbrev Xn:=@PySem.tupleKind_room_in1
abbrev Xo:=@PySem.F.entry_dict_get
abbrev Xp:=@if_false
abbrev Xq:=@List.nil_append
abbrev Xr:=@Bool.or_eq_true
abbrev Xs:=@List.length_nil
abbrev Xt:=@List.find?_cons
abbrev Xu:=@Int.emod_nonneg
abbrev Xv:=@List.perm_append_comm
abbrev Xw:=@List.mapM_toArray
abbrev Xx:=@List.mem_append_left
abbrev Xy:=@PySem.Calls.evalArgs_plain
abbrev Xz:=@PySem.wpAny_listPart
abbrev XA:=@PyProof.Rows.IntsAre.length
abbrev XB:=@PySem.Around.under_plainId
abbrev XC:=@List.countP_cons
abbrev XD:=@Nat.add_zero
abbrev XE:=@map_eq_pure_bind
abbrev XF:=@PySem.F.args_tuple_add_2
abbrev XG:=@PyProof.Rows.wpS_mono
abbrev XH:=@PySem.wpAny_Call_Name_kw
abbrev XI:=@PySem.call_meets
abbrev XJ:=@PySem.W.KFB.if_not
abbrev XM:=@List.getElem?_drop
abbrev XN:=@PySem.F.entry_tuple_add
abbrev XO:=@decide_eq_false_iff_not
abbrev XQ:=@PySem.F.plainAttrs_dict
abbrev XR:=@PyProof.Rows.boot_list
abbrev XS:=@PySem.Calls.spliced_nil
abbrev XT:=@PySem.F.slot_tuple_add
abbrev XU:=@if_true
abbrev XW:=@PySem.wpAny_seqItems
abbrev XX:=@List.pairwise_map
abbrev XY:=@List.Perm.refl
abbrev XZ:=@List.Perm.append_right
abbrev X0:=@PyProof.Rows.wpS_get
abbrev X8:=@Array.getElem?_eq_none
abbrev X9:=@PySem.wpAny_isOneOf_itemiter
abbrev Ta:=@List.drop_of_length_le
abbrev Tb:=@PySem.Heap.get?_update_self
abbrev Tc:=@PySem.F.slot_list_pop
abbrev Td:=@PySem.F.type_list_pop
abbrev Te:=@List.length_filter_le
abbrev Tf:=@PySem.wpAny_eqBool_int
abbrev Th:=@PySem.wpAny_callSpecialIfBound?_slot
abbrev Ti:=@Array.toList_map
abbrev Tj:=@PySem.Paired.snoc
abbrev To:=@List.eq_nil_of_length_eq_zero
abbrev Tp:=@PySem.F.slot_dict_itemiterator_iter
abbrev Tq:=@PyProof.Rows.boot_sorted
abbrev Tr:=@List.singleton_perm_singleton
abbrev Ts:=@Nat.pow_le_pow_right
abbrev Tt:=@PySem.wpAny_execs_nil
abbrev Tu:=@PySem.SeqAt.EqAt.same
abbrev Tv:=@PySem.wpAny_ite_split
abbrev Tw:=@PySem.codeAny_builtin
abbrev Tx:=@PyProof.Rows.boot_isinstance
abbrev Tz:=@List.sum_append
abbrev TB:=@PyProof.Rows.getElem?_mirror_all
abbrev TC:=@PyProof.Rows.pairsOf_size
abbrev TF:=@List.idxOf_lt_length_of_mem
abbrev TH:=@PySem.Calls.Name_function_global
abbrev TJ:=@PyProof.Rows.assignInOrder_cons
abbrev TK:=@PySem.Heap.IsSliceOf.new
abbrev TL:=@Nat.lt_of_le_of_lt
abbrev TM:=@List.nodup_iff_pairwise_ne
abbrev TN:=@Array.getElem?_eq_some_iff
abbrev TQ:=@PySem.F.excBase_ValueError
abbrev TR:=@PyProof.Rows.wpS_modify
abbrev TU:=@Array.perm_iff_toList_perm
abbrev TV:=@PySem.wpAny_newTuple
abbrev TY:=@Nat.add_sub_cancel
abbrev TZ:=@List.Perm.cons_inv
abbrev T1:=@PySem.Calls.call_function_entry
abbrev T2:=@List.getElem?_eq_none_iff
abbrev T3:=@List.exists_mem_of_ne_nil
abbrev T4:=@Sum.inl.inj
abbrev T5:=@PySem.wpAny_sequenceKey
abbrev T6:=@Nat.lt_succ_of_lt
abbrev T7:=@List.ext_getElem?
abbrev T8:=@List.find?_append
abbrev T9:=@Option.isSome_iff_exists
abbrev Na:=@PySem.evalPart_none
abbrev Nb:=@PySem.wpAny_comprehension_free
abbrev Nc:=@PyProof.Rows.sortedAll_old
abbrev Nd:=@List.length_filterMap_le
abbrev Nf:=@List.length_erase_of_mem
abbrev Ng:=@PySem.wpAny_attempt
abbrev Nh:=@PySem.plainId_quiet
abbrev Ni:=@PyProof.Rows.listUpdate_at
abbrev Nj:=@PySem.wpAny_newList
abbrev Nk:=@List.Pairwise.imp_of_mem
abbrev Nl:=@PySem.F.slot_list_insert
abbrev Nm:=@PySem.F.type_list_insert
abbrev Nn:=@List.sum_cons
abbrev Np:=@List.getElem?_replicate
abbrev Nq:=@PySem.noFill_tuple_add
abbrev Nr:=@Option.getD_none
abbrev Nt:=@PySem.IsL.isList
abbrev Nu:=@Nat.le_of_not_lt
abbrev Nv:=@List.getElem_mem
abbrev Nw:=@List.eraseIdx_cons_succ
abbrev Nx:=@List.cons_append
abbrev Ny:=@PySem.wpAny_pyIter_zip
abbrev Nz:=@PySem.F.args_dict_get_2
abbrev NA:=@PySem.F.args_dict_get_3
abbrev NB:=@List.getElem?_set_self
abbrev NF:=@PyProof.noPylong_small
abbrev NG:=@PySem.W.cellsFrom_some
abbrev NI:=@List.map_nil
abbrev NJ:=@beq_iff_eq
abbrev NK:=@PyProof.Rows.sortedAll_at
abbrev NL:=@bne_iff_ne
abbrev NO:=@List.map_map
abbrev NQ:=@Nat.zero_add
abbrev NS:=@PySem.call_meetsIn
abbrev NT:=@PyProof.Rows.mem_zip_self
abbrev NU:=@List.mem_filter
abbrev NV:=@List.of_mem_zip
abbrev NW:=@List.forIn_cons
abbrev NX:=@PySem.F.slot_tuple_lt
abbrev NZ:=@List.length_zip
abbrev N1:=@List.set_append_right
abbrev N5:=@PySem.F.type_dict_get
abbrev N6:=@List.getElem?_set_ne
abbrev N8:=@PySem.seqIndex_of
abbrev N9:=@PySem.wpAny_of_eq
abbrev Ma:=@List.forIn_nil
abbrev Mb:=@PySem.Heap.size_push
abbrev Mc:=@List.mem_iff_getElem
abbrev Md:=@or_false
abbrev Mf:=@PyProof.Rows.wpS_lift
abbrev Mg:=@List.drop_zero
abbrev Mh:=@PySem.F.slot_list_lt
abbrev Mj:=@PyProof.Rows.boot_max
abbrev Mk:=@Nat.mul_le_mul_right
abbrev Mq:=@List.countP_eq_zero
abbrev Mr:=@PySem.wpAny_release
abbrev Ms:=@PySem.seq_tuple_add
abbrev Mt:=@List.all_cons
abbrev Mu:=@List.take_nil
abbrev MA:=@PySem.typeIs_int
abbrev MB:=@Option.isNone_none
abbrev ME:=@Nat.and_one_is_mod
abbrev MI:=@List.countP_append
abbrev MJ:=@List.map_singleton
abbrev MK:=@List.getElem?_take
abbrev ML:=@of_decide_eq_false
abbrev MY:=@Bool.true_or
abbrev MZ:=@Int.le_trans
abbrev M7:=@Nat.sub_zero
namespace L2
open PySem PySem.Spec PyProof.Rows
abbrev Key:=Sum Int Str
def Zeg:Key->Value->Bool
 | .inl k,v=>Value.isInt k v
 | .inr x,v=>Value.isStrOf x v
def ZoX (w:World):Key->Int
 | .inl k=>hashInt k
 | .inr x=>hashStr w x
theorem Yx:∀{k:Key}{v:Value},Zeg k v=true->(∃i t,k=Sum.inl i/\v=Value.int i t)∨(∃x t,k=Sum.inr x/\v=Value.str x t)
 | .inl i,v,h=>by
  obtain ⟨t,e⟩:=Value.isInt_shape (k:=i) (v:=v) h
  exact .inl ⟨i,t,rfl,e⟩
 | .inr x,v,h=>by
  obtain ⟨t,e⟩:=Value.isStrOf_shape (x:=x) (v:=v) h
  exact .inr ⟨x,t,rfl,e⟩
theorem Zjb (i:Int) (t:Tok):Zeg (.inl i) (.int i t)=true:=by simp [Zeg,Value.isInt]
theorem Zi3 (x:Str) (t:Tok):Zeg (.inr x) (.str x t)=true:=by simp [Zeg,Value.isStrOf]
theorem Zm8 (a b:Int):decide ((Sum.inl a:Key)=Sum.inl b)=(a==b):=by
 by_cases e:a=b
 ·subst e;simp
 ·have h:¬(Sum.inl a:Key)=Sum.inl b:=fun q=>e (T4 q)
  rw [Kn h]
  exact (qI.mpr e).symm
theorem Zm7 (a b:Str):decide ((Sum.inr a:Key)=Sum.inr b)=decide (a=b):=by
 by_cases e:a=b
 ·subst e;simp
 ·have h:¬(Sum.inr a:Key)=Sum.inr b:=fun q=>e (Sum.inr.inj q)
  rw [Kn h,Kn e]
theorem ZmK (a:Int) (b:Str):decide ((Sum.inl a:Key)=Sum.inr b)=false:=Kn (fun q=>nomatch q)
theorem ZmY (a:Str) (b:Int):decide ((Sum.inr a:Key)=Sum.inl b)=false:=Kn (fun q=>nomatch q)
def ZT (prog:Program) (w:World):PySem.KeyKind prog w Key where
 is:=Zeg
 hash:=ZoX w
 inj:=fun v a b ha hb=>by
  rcases Yx ha with ⟨i,t,rfl,rfl⟩ | ⟨x,t,rfl,rfl⟩
  ·rcases Yx hb with ⟨j,u,rfl,e⟩ | ⟨y,u,rfl,e⟩
   ·injection e with e1 _;rw [e1]
   ·exact nomatch e
  ·rcases Yx hb with ⟨j,u,rfl,e⟩ | ⟨y,u,rfl,e⟩
   ·exact nomatch e
   ·injection e with e1 _;rw [e1]
 byValue:=fun k v h=>by
  rcases Yx h with ⟨i,t,rfl,rfl⟩ | ⟨x,t,rfl,rfl⟩<;>rfl
 pyHash:=fun hv h=>by
  rcases Yx hv with ⟨i,t,rfl,rfl⟩ | ⟨x,t,rfl,rfl⟩
  ·exact wpAny_pyHash_int h
  ·exact wpAny_pyHash_str h
 eqBool:=fun hu hv h=>by
  rcases Yx hu with ⟨i,t,rfl,rfl⟩ | ⟨x,t,rfl,rfl⟩
  ·rcases Yx hv with ⟨j,u,rfl,rfl⟩ | ⟨y,u,rfl,rfl⟩
   ·rw [Zm8] at h;exact Tf h
   ·rw [ZmK] at h;exact SeqAt.EqAt.int_str i t y u _ _ _ _ h
  ·rcases Yx hv with ⟨j,u,rfl,rfl⟩ | ⟨y,u,rfl,rfl⟩
   ·rw [ZmY] at h;exact SeqAt.EqAt.str_int x t j u _ _ _ _ h
   ·rw [Zm7] at h;exact wpAny_eqBool_str h
 «strs»:=fun k x t v h=>by
  rcases Yx h with ⟨i,u,rfl,e⟩ | ⟨y,u,rfl,e⟩
  ·exact nomatch e
  ·injection e with e1 _
   subst e1
   cases v<;>rfl
theorem ZfH (prog:Program) (w:World) (i:Int) (t:Tok):(ZT prog w).is (.inl i) (.int i t)=true:=Zjb i t
theorem Zgn (prog:Program) (w:World) (x:Str) (t:Tok):(ZT prog w).is (.inr x) (.str x t)=true:=Zi3 x t
inductive V where
 | non | bl (b:Bool) | int (i:Int) | str (x:Str) | byt (b:Array UInt8) | flt (b:UInt64) | ref (a:Addr) | ty (n:String)
 deriving DecidableEq
def RelV:V->Value->Prop
 | .non,u=>u=Value.none
 | .bl b,u=>u=Value.bool b
 | .int i,u=>∃t,u=Value.int i t
 | .str x,u=>∃t,u=Value.str x t
 | .byt b,u=>∃t,u=Value.bytes b t
 | .flt b,u=>∃t,u=Value.float b t
 | .ref a,u=>u=Value.ref a
 | .ty n,u=>u=Value.type n
abbrev Vals:List V->List Value->Prop:=Paired RelV
theorem Vals.length {xs:List V}{us:List Value} (r:Vals xs us):xs.length=us.length:=qM r
theorem Vals.get:∀{xs:List V}{us:List Value}{i:Nat}{x:V},Vals xs us->xs[i]? = some x -> ∃u,us[i]? = some u/\RelV x u
 | _,_,_,_,.nil,e=>by simp at e
 | _,_,0,_,.cons r _,e=>by simp at e;subst e;exact ⟨_,rfl,r⟩
 | _,_,i+1,x,.cons _ t,e=>by
  obtain ⟨u,h1,h2⟩:=Vals.get (i:=i) (x:=x) t (by simpa using e)
  exact ⟨u,by simpa using h1,h2⟩
theorem Vals.set {x:V}{u:Value} (r:RelV x u):∀{xs:List V}{us:List Value} (i:Nat),Vals xs us->Vals (xs.set i x) (us.set i u)
 | _,_,_,.nil=>.nil
 | _,_,0,.cons _ t=>.cons r t
 | _,_,i+1,.cons q t=>.cons q (Vals.set r i t)
theorem Vals.append:∀{xs ys:List V}{us ws:List Value},Vals xs us->Vals ys ws->Vals (xs++ys) (us++ws)
 | _,_,_,_,.nil,s=>s
 | _,_,_,_,.cons r t,s=>.cons r (Vals.append t s)
theorem Vals.take:∀{xs:List V}{us:List Value} (n:Nat),Vals xs us->Vals (xs.take n) (us.take n)
 | _,_,0,_=>.nil
 | _,_,_+1,.nil=>.nil
 | _,_,n+1,.cons r t=>.cons r (Vals.take n t)
theorem Vals.drop:∀{xs:List V}{us:List Value} (n:Nat),Vals xs us->Vals (xs.drop n) (us.drop n)
 | _,_,0,r=>r
 | _,_,_+1,.nil=>.nil
 | _,_,n+1,.cons _ t=>Vals.drop n t
def ZbQ:Option V->Option Value->Prop
 | some v,some u=>RelV v u
 | none,none=>True
 | _,_=>False
def KV {κ:Type}:List (κ × V)->List (κ × Value)->Prop:=Paired fun (p:κ × V) (q:κ × Value)=>p.1=q.1/\RelV p.2 q.2
def kV:Key->V
 | .inl i=>.int i
 | .inr x=>.str x
inductive HO where
 | lst (xs:List V)
 | tup (xs:List V)
 | dK (kvs:List (Key×V)) | dT (kvs:List (List Key×V))
 | set (S:Int->Bool) (n:Nat)
 | ins (C dx:Addr) (fs:List (Str×V))
 | own (x:Addr)
 | xd (fs:List (Str×V))
 | met (f x:Addr)
 | rng (lo hi:Int)
 | frz (o:Obj) (u:HO)
 | tbl (ps:Array Value)
 | ext (φ:Heap->Prop)
abbrev Hp:=Addr->Option HO
def upd (H:Hp) (a:Addr) (o:HO):Hp:=fun b=>if b=a then some o else H b
theorem Zc {H:Hp}{a:Addr}{o:HO}:upd H a o a=some o:=by unfold upd;rw [kh rfl]
theorem Zh {H:Hp}{a b:Addr}{o:HO} (h:b≠a):upd H a o b=H b:=by unfold upd;rw [kg h]
theorem Jv {H:Hp}{a:Addr}{o u:HO}:upd (upd H a o) a u=upd H a u:=by
 funext b;unfold upd;split<;>rfl
theorem Wr {H:Hp}{a b:Addr}{o u:HO} (h:H a=some o) (h':H b=some u) (d:o≠u):a≠b:=by
 intro e;subst e;rw [h] at h';exact d (kX h')
theorem Zf {H:Hp}{a b:Addr}{o:HO} (h:H a=some o) (h':H b=none):a≠b:=by
 intro e;subst e;rw [h] at h';cases h'
section
variable (P:Program) (w:World)
def Yc (H:Hp) (h:Heap) (a:Addr):HO->Prop
 | .lst xs=>xs.length<=sizeLine /\ ∃(its:List Value) (n:Nat),Vals xs its/\h.get? a=some { cls:=.type "list", data:=.seq its.toArray n }
 | .tup xs=>xs.length<=sizeLine /\ ∃its:List Value,Vals xs its/\IsTup h a its.toArray
 | .dK kvs=>kvs.length<=sizeLine/\(a==sysModules)=false /\ ∃vs,KV kvs vs/\h.DictOf (ZT P w) a vs
 | .dT kvs=>kvs.length<=sizeLine/\(a==sysModules)=false /\ ∃xs:List (List Key×Addr×Value),
   Paired (fun (p:List Key×V) (q:List Key×Addr×Value)=>p.1=q.1/\H q.2.1=some (.tup (p.1.map kV))/\RelV p.2 q.2.2) kvs xs /\
   ∃o es ep,h.get? a=some o/\o.ExactDict/\o.data = .dict es ep/\es.toList=xs.map (entryOfKey (tupleKind (ZT P w)))/\(xs.map (·.1)).Nodup
 | .set S n=>h.SetOf (intKind P w) a S n
 | .ins C dx fs=>H dx=some (.own a)/\fs.length<=1000/\dx≠a/\h.get? a=some (PySem.W.instObj C dx) /\
   ∃mA,h.Ns1 dx mA/\(∀f,ZbQ (fs.lookup f) (mA f))/\PySem.Within mA (fs.map (·.1))
 | .own _=>∃o,h.get? a=some o
 | .xd fs=>∃mA,h.Ns1 a mA /\ ∀f,ZbQ (fs.lookup f) (mA f)
 | .rng lo hi=>∃t u v,h.get? a=some { cls:=.type "range", data:=.fields #[.int lo t,.int hi u,.int 1 v] }
 | .frz o u=>h.get? a=some o/\Yc H h a u
 | .tbl ps=>h.get? a=some { cls:=.none,data:=.fields ps }
 | .met f x=>h.get? a=some (PySem.W.methodObj (.ref f) (.ref x))
 | .ext φ=>φ h/\(∃o,h.get? a=some o) /\ ∀h1 h2:Heap,φ h1->(∀o,h1.get? a=some o->h2.get? a=some o) -> φ h2
def GB (H:Hp) (h:Heap):Prop:=∀a o,H a=some o->Yc P w H h a o
end
section
variable {P:Program}{w:World}{H H':Hp}{h h':Heap}{a:Addr}{o:HO}
theorem Yc.lt (x:Yc P w H h a o):a<h.objs.size:=by
 cases o with
 | lst xs=>obtain ⟨_,_,_,_,e⟩:=x;exact k6 e
 | tup xs=>obtain ⟨_,_,_,p⟩:=x;exact p.lt
 | dK kvs=>obtain ⟨_,_,_,_,o,_,_,e,_⟩:=x;exact k6 e
 | dT kvs=>obtain ⟨_,_,_,_,o,_,_,e,_⟩:=x;exact k6 e
 | set S n=>obtain ⟨o,_,_,_,e,_⟩:=x;exact k6 e
 | ins C dx fs=>obtain ⟨_,_,_,e,_⟩:=x;exact k6 e
 | own y=>obtain ⟨_,e⟩:=x;exact k6 e
 | xd fs=>obtain ⟨_,⟨_,_,_,e,_⟩,_⟩:=x;exact k6 e
 | rng lo hi=>obtain ⟨_,_,_,e⟩:=x;exact k6 e
 | frz ob u=>obtain ⟨e,_⟩:=x;exact k6 e
 | tbl ps=>exact k6 (show h.get? a=some _ from x)
 | met f y=>exact k6 (show h.get? a=some _ from x)
 | ext φ=>obtain ⟨_,⟨_,e⟩,_⟩:=x;exact k6 e
theorem Paired.mapP {α β:Type}{F G:α -> β -> Prop}:∀{l₁:List α}{l₂:List β},Paired F l₁ l₂->(∀a b,F a b->G a b)->Paired G l₁ l₂
 | _,_,.nil,_=>.nil
 | _,_,.cons r t,f=>.cons (f _ _ r) (Paired.mapP t f)
theorem Paired.imp' {α β:Type}{F G:α -> β -> Prop} (f:∀a b,F a b->G a b) {l₁:List α}{l₂:List β} (r:Paired F l₁ l₂):Paired G l₁ l₂:=Paired.mapP r f
theorem Yc.stay (x:Yc P w H h a o) (k:∀b u,(b=a∨H b=some (.own a))->h.get? b=some u->h'.get? b=some u)
  (ho:∀b,H b=some (.own a)->H' b=some (.own a)) (ht:∀b xs,H b=some (.tup xs)->H' b=some (.tup xs)):Yc P w H' h' a o:=by
 induction o with
 | lst xs=>obtain ⟨z,its,n,r,e⟩:=x;exact ⟨z,its,n,r,k _ _ (.inl rfl) e⟩
 | tup xs=>obtain ⟨z,its,r,ob,e,c⟩:=x;exact ⟨z,its,r,ob,k _ _ (.inl rfl) e,c⟩
 | dK kvs=>obtain ⟨z,y,vs,r,ob,es,ep,e,c⟩:=x;exact ⟨z,y,vs,r,ob,es,ep,k _ _ (.inl rfl) e,c⟩
 | dT kvs=>
  obtain ⟨z,y,xs,r,ob,es,ep,e,c⟩:=x
  exact ⟨z,y,xs,Paired.mapP r fun p q z=>⟨z.1,ht _ _ z.2.1,z.2.2⟩,ob,es,ep,k _ _ (.inl rfl) e,c⟩
 | set S n=>obtain ⟨ob,es,ep,t,e,c⟩:=x;exact ⟨ob,es,ep,t,k _ _ (.inl rfl) e,c⟩
 | ins C dx fs=>
  obtain ⟨d,z,ne,e,mA,⟨od,es,ep,e2,c⟩,r⟩:=x
  exact ⟨ho _ d,z,ne,k _ _ (.inl rfl) e,mA,⟨od,es,ep,k _ _ (.inr d) e2,c⟩,r⟩
 | own y=>obtain ⟨ob,e⟩:=x;exact ⟨ob,k _ _ (.inl rfl) e⟩
 | xd fs=>obtain ⟨mA,⟨od,es,ep,e,c⟩,r⟩:=x;exact ⟨mA,⟨od,es,ep,k _ _ (.inl rfl) e,c⟩,r⟩
 | rng lo hi=>obtain ⟨t,u,v,e⟩:=x;exact ⟨t,u,v,k _ _ (.inl rfl) e⟩
 | frz ob u ih=>obtain ⟨e,q⟩:=x;exact ⟨k _ _ (.inl rfl) e,ih q⟩
 | tbl ps=>
  have e:h.get? a=some { cls:=.none,data:=.fields ps }:=x
  show h'.get? a=some { cls:=.none,data:=.fields ps }
  exact k a _ (.inl rfl) e
 | met f y=>
  have e:h.get? a=some (PySem.W.methodObj (.ref f) (.ref y)):=x
  show h'.get? a=some (PySem.W.methodObj (.ref f) (.ref y))
  exact k a _ (.inl rfl) e
 | ext φ=>obtain ⟨p,⟨o,e⟩,st⟩:=x;exact ⟨st _ _ p fun o q=>k _ _ (.inl rfl) q,⟨o,k _ _ (.inl rfl) e⟩,st⟩
theorem GB.lt (x:GB P w H h) (e:H a=some o):a<h.objs.size:=(x a o e).lt
theorem GB.fresh (x:GB P w H h) (e:h.objs.size<=a):H a=none:=by
 cases q:H a with
 | none=>rfl
 | some u=>exact absurd (Ky (x.lt q) e) (qN _)
theorem GB.kept (x:GB P w H h) (k:∀b u,h.get? b=some u->h'.get? b=some u):GB P w H h':=fun a o e=>
 (x a o e).stay (fun b u _ q=>k b u q) (fun _ q=>q) fun _ _ q=>q
theorem GB.laid (x:GB P w H h) (k:∀b u,h.get? b=some u->h'.get? b=some u) (hp:h.objs.size<=a) (new:Yc P w (upd H a o) h' a o):GB P w (upd H a o) h':=fun b u e=>by
 have hn:=x.fresh hp
 by_cases hb:b=a
 ·subst hb;rw [Zc] at e;cases e;exact new
 ·rw [Zh hb] at e
  exact (x b u e).stay (fun c v _ q=>k c v q) (fun c q=>by rw [Zh (Zf q hn)];exact q) fun c xs q=>by rw [Zh (Zf q hn)];exact q
end
def Rd (H:Hp) (a:Addr) (u:HO):Prop:=H a=some u ∨ ∃o,H a=some (.frz o u)
theorem Rd.ok {P:Program}{w:World}{H:Hp}{h:Heap}{a:Addr}{u:HO} (r:Rd H a u) (x:GB P w H h):Yc P w H h a u:=by
 rcases r with r | ⟨o,r⟩
 ·exact x a u r
 ·obtain ⟨_,q⟩:=x a _ r
  exact q
def Mut:Option HO->Prop
 | some (.lst _)=>True
 | some (.dK _)=>True
 | some (.dT _)=>True
 | some (.set _ _)=>True
 | some (.ins _ _ _)=>True
 | some (.ext _)=>True
 | _=>False
section
variable {P:Program}{w:World}{H:Hp}{h h':Heap}{x e:Addr}{o':HO}
theorem GB.write (ok:GB P w H h) (mu:Mut (H x)) (he:e=x∨H e=some (.own x)) (k:∀b u,b≠e->h.get? b=some u->h'.get? b=some u) (heo:∃u,h'.get? e=some u)
  (new:Yc P w (upd H x o') h' x o'):GB P w (upd H x o') h':=fun b u q=>by
 have nown:∀c y,H c=some (.own y)->c≠x:=fun c y r z=>by subst z;rw [r] at mu;exact mu
 have ntup:∀c xs,H c=some (.tup xs)->c≠x:=fun c xs r z=>by subst z;rw [r] at mu;exact mu
 by_cases hb:b=x
 ·subst hb;rw [Zc] at q;cases q;exact new
 ·rw [Zh hb] at q
  by_cases hbe:b=e
  ·have q':H b=some (.own x):=by
    rcases he with z | z
    ·exact absurd (hbe.trans z) hb
    ·rw [hbe];exact z
   rw [q] at q';cases q'
   obtain ⟨v,hv⟩:=heo
   exact ⟨v,by rw [hbe];exact hv⟩
  ·refine (ok b u q).stay (fun c v hc r=>k c v ?_ r) (fun c r=>by rw [Zh (nown c b r)];exact r) fun c xs r=>by rw [Zh (ntup c xs r)];exact r
   rcases hc with rfl | hc
   ·exact hbe
   ·rintro rfl
    rcases he with z | z
    ·exact nown c b hc z
    ·rw [hc] at z;cases z;exact hb rfl
end
structure Un (fs ex:List Addr) (H H':Hp) (h h':Heap):Prop where
 keep:∀b o,h.get? b=some o->H b=none->b∉fs->b∉ex->h'.get? b=some o
 slot:∀b o,h.get? b=some o->H b=none->b∈fs->b∉ex -> ∃sl,h'.get? b=some { o with slots:=sl }
 free:∀b o,h.get? b=some o->H b=none->b∉ex->H' b=none
 there:∀b o,h.get? b=some o->b∉ex -> ∃o',h'.get? b=some o'
 tups:∀b xs,H b=some (.tup xs)->H' b=some (.tup xs)
 frzs:∀b o u,H b=some (.frz o u)->H' b=some (.frz o u)
 tbls:∀b ps,H b=some (.tbl ps) -> ∃more,H' b=some (.tbl (ps++more))
section
variable {fs fs' ex ex':List Addr}{H H1 H2:Hp}{h h1 h2 h':Heap}{a x e:Addr}{o:HO}
theorem Un.any (u:Un fs ex H H1 h h1) {b:Addr}{ob:Obj} (q:h.get? b=some ob) (n:H b=none) (hx:b∉ex):∃sl,h1.get? b=some { ob with slots:=sl }:=by
 by_cases hb:b∈fs
 ·exact u.slot b ob q n hb hx
 ·exact ⟨ob.slots,u.keep b ob q n hb hx⟩
theorem Un.kept (k:∀b u,h.get? b=some u->h'.get? b=some u):Un fs ex H H h h':=
 ⟨fun b ob q _ _ _=>k b ob q,fun b ob q _ _ _=>⟨ob.slots,k b ob q⟩,fun _ _ _ n _=>n,fun b ob q _=>⟨ob,k b ob q⟩,fun _ _ q=>q,fun _ _ _ q=>q,fun _ ps q=>⟨#[],by rw [q];simp⟩⟩
theorem Un.refl:Un fs ex H H h h:=Un.kept fun _ _ q=>q
theorem Un.laid (k:∀b u,h.get? b=some u->h'.get? b=some u) (hp:h.objs.size<=a) (hn:H a=none):Un fs ex H (upd H a o) h h' where
 keep:=fun b u q _ _ _=>k b u q
 slot:=fun b u q _ _ _=>⟨u.slots,k b u q⟩
 free:=fun b u q n _=>by rw [Zh (Kb (Ky (k6 q) hp))];exact n
 there:=fun b u q _=>⟨u,k b u q⟩
 tups:=fun b xs q=>by rw [Zh (Zf q hn)];exact q
 frzs:=fun b u xs q=>by rw [Zh (Zf q hn)];exact q
 tbls:=fun b ps q=>⟨#[],by rw [Zh (Zf q hn),q];simp⟩
theorem Un.write (mu:Mut (H x)) (he:e=x∨H e=some (.own x)) (k:∀b u,b≠e->h.get? b=some u->h'.get? b=some u) (heo:∃u,h'.get? e=some u):Un fs ex H (upd H x o) h h':=by
 have hx:∀b,H b=none->b≠x:=fun b n z=>by subst z;rw [n] at mu;exact mu
 have hb:∀b,H b=none->b≠e:=fun b n z=>by
  subst z
  rcases he with r | r
  ·exact hx b n r
  ·rw [n] at r;cases r
 have hm:∀b u,H b=some u -> ¬Mut (some u)->b≠x:=fun b u q nm z=>by subst z;rw [q] at mu;exact nm mu
 refine ⟨fun b u q n _ _=>k b u (hb b n) q,fun b u q n _ _=>⟨u.slots,k b u (hb b n) q⟩,fun b u q n _=>by rw [Zh (hx b n)];exact n,fun b u q _=>?_,
  fun b xs q=>by rw [Zh (hm b _ q fun z=>z)];exact q,fun b u xs q=>by rw [Zh (hm b _ q fun z=>z)];exact q,fun b ps q=>⟨#[],by rw [Zh (hm b _ q fun z=>z),q];simp⟩⟩
 by_cases hbe:b=e
 ·subst hbe;exact heo
 ·exact ⟨u,k b u hbe q⟩
end
def trk (h:Heap) (H:Hp):List Addr:=(List.range h.objs.size).filter fun a=>(H a).isSome
def ZeY (h:Heap) (H:Hp):Heap:=PySem.W.hideAll h (trk h H)
theorem ZiE (h:Heap) (H:Hp):(ZeY h H).objs.size=h.objs.size:=PySem.W.hideAll_size _ _
theorem ZjQ {h:Heap}{H:Hp}{b:Addr}{o:Obj} (e:h.get? b=some o) (n:H b=none):(ZeY h H).get? b=some o:=
 PySem.W.hideAll_get _ e fun hm=>by
  have q:(H b).isSome=true:=(NU.mp hm).2
  rw [n] at q;simp at q
theorem Zl5 {h:Heap}{H:Hp}{b:Addr}{o:Obj} (e:(ZeY h H).get? b=some o):h.get? b=some o/\H b=none:=by
 have e':h.get? b=some o:=PySem.W.of_hideAll (trk h H) e
 refine ⟨e',?_⟩
 cases q:H b with
 | none=>rfl
 | some x=>
  have hm:b∈trk h H:=NU.mpr ⟨K9.mpr (k6 e'),by simp [q]⟩
  have z:(ZeY h H).get? b=none:=PySem.W.hideAll_none (trk h H) hm
  rw [z] at e;cases e
def Gw (g h:Heap) (L:Addr):List (Addr×Obj):=(List.range h.objs.size).filterMap fun a=>if a=L∨(g.get? a).isSome=true then none else (h.get? a).map fun o=>(a,o)
theorem UR {g h:Heap}{L a:Addr}{o:Obj} (h1:a≠L) (h2:g.get? a=none) (h3:h.get? a=some o):(a,o)∈Gw g h L:=
 K6.mpr ⟨a,K9.mpr (k6 h3),by simp [h1,h2,h3]⟩
theorem Zc2 {g h:Heap}{L:Addr}{p:Addr×Obj} (hp:p∈Gw g h L):p.1≠L/\g.get? p.1=none/\h.get? p.1=some p.2:=by
 obtain ⟨b,_,e⟩:=K6.mp hp
 split at e
 ·cases e
 ·rename_i hn
  cases q:h.get? b with
  | none=>rw [q] at e;simp at e
  | some u=>
   rw [q] at e
   simp only [qq,Option.some.injEq] at e
   subst e
   refine ⟨fun z=>hn (.inl z),?_,q⟩
   show g.get? b=none
   cases r:g.get? b with
   | none=>rfl
   | some v=>exact (hn (.inr (by simp [r]))).elim
theorem Zgt {g h:Heap}{L:Addr}:News g L h (Gw g h L):=fun p hp=>let ⟨a,b,c⟩:=Zc2 hp;⟨c,a,b⟩
structure Mod (K:PySem.W.Frag) (mg:Str->Option Value) (base:Heap):Prop where
 kin:K.In base
 glob:base.Ns mainGlobals mg
 blt:∃mb,base.Ns builtinsNs mb /\ ∀x:Str,x ≠ "__name__" -> mb x=bootBuiltins x
 nolimit:base.NoLimit
structure Cx where
 prog:Program
 w:World
 K:PySem.W.Frag
 mg:Str->Option Value
 base:Heap
 A:Around
 N:List Str
 s₀:Shared
 H₀:Hp
 env:Env
 outer:List Env
 stack:List Env
 ex:List Addr
 fn:Str->Bool
 calm:Bool
 pn:List (Addr×Obj)
 xe:Value->Shared->Prop
def frs (l:List Env):List Addr:=l.filterMap (·.frame)
abbrev Cx.fs (X:Cx):List Addr:=frs X.outer
def Vis (sc:Scope) (x:Str):Prop:=sc.names.lookup x=some .local∨sc.names.lookup x=some .cell∨sc.names.lookup x=some .free
def Loc (sc:Scope) (x:Str):Prop:=sc.names.lookup x=some .local∨sc.names.lookup x=some .cell
def Look (env:Env) (h:Heap) (m:Str->Option Value) (x:Str) (u:Value):Prop:=
 (env.kindOf x=some .local/\m x=some u)∨((env.kindOf x=some .cell∨env.kindOf x=some .free) /\ ∃c,env.cells.lookup x=some c/\h.IsCell c (some u))
structure Cx.Ok (X:Cx):Prop where
 mod:Mod X.K X.mg X.base
 kind:X.env.scope.kind = .function
 glob:X.env.globals=mainGlobals
 blt:X.env.builtins=builtinsNs
 above:X.s₀.heap.objs.size<=X.env.locals
 inj:∀x y c,X.env.cells.lookup x=some c->X.env.cells.lookup y=some c->x=y
 has:∀x,(X.env.kindOf x=some .cell∨X.env.kindOf x=some .free) -> ∃c,X.env.cells.lookup x=some c
 cab:∀x c,X.fn x=true->X.env.cells.lookup x=some c->X.s₀.heap.objs.size<=c
 hd:X.calm=true->X.A.handled=none
 frames:X.A.frames=some X.stack
 stk:X.stack=X.outer∨(X.stack=X.env::X.outer/\X.env.frame=some X.env.locals)
 exf:∀b∈X.ex,b≠X.env.locals /\ ∀x c,X.env.cells.lookup x=some c->c≠b
 bs:∀b o,X.base.get? b=some o->X.s₀.heap.get? b=some o/\X.H₀ b=none
 bsz:X.base.objs.size<=X.s₀.heap.objs.size
 noex:∀b o,X.base.get? b=some o->b∉X.ex
 exfs:∀b∈X.ex,b∉X.fs
 funs:X.s₀.heap.FunFrames X.base X.outer
 frf:∀b∈X.fs,X.H₀ b=none
structure Inv (X:Cx) (pins:List (Addr×Obj)) (σ:List (Option V)) (H:Hp) (s:Shared):Prop where
 ok:X.Ok
 os:s.os=X.s₀.os
 bare:AllBare s.gens
 base:Un X.fs X.ex X.H₀ H X.s₀.heap s.heap
 loc:∃m,s.heap.Ns X.env.locals m /\ ∀(i:Nat) (x:Str) (v:V),X.N[i]? = some x -> σ[i]? = some (some v)->Vis X.env.scope x -> ∃u,RelV v u/\Look X.env s.heap m x u
 cell:∀x c,X.env.cells.lookup x=some c -> ∃v,s.heap.IsCell c v
 free:H X.env.locals=none
 freeC:∀x c,X.env.cells.lookup x=some c->H c=none
 pin:∀p∈X.pn++pins,s.heap.get? p.1=some p.2/\H p.1=none/\p.1≠X.env.locals/\p.1∉X.fs /\ ∀v,p.2.data ≠ .cell v
 hok:GB X.prog X.w H s.heap
 len:σ.length=X.N.length
section
variable {X:Cx}{pins:List (Addr×Obj)} {σ:List (Option V)}{H H':Hp}{s:Shared}{h':Heap}
theorem Cx.Ok.nofr (ok:X.Ok) {b:Addr}{o:Obj} (e:X.base.get? b=some o):b∉X.fs:=fun hb=>by
 have:=(ok.funs.mem hb).1
 rw [e] at this;cases this
theorem Inv.bs (I:Inv X pins σ H s):∀b o,X.base.get? b=some o->s.heap.get? b=some o/\H b=none:=fun b o e=>
 ⟨I.base.keep b o (I.ok.bs b o e).1 (I.ok.bs b o e).2 (I.ok.nofr e) (I.ok.noex b o e),I.base.free b o (I.ok.bs b o e).1 (I.ok.bs b o e).2 (I.ok.noex b o e)⟩
theorem Inv.bk (I:Inv X pins σ H s):∀b o,X.base.get? b=some o->s.heap.get? b=some o:=fun b o e=>(I.bs b o e).1
theorem Inv.mod (I:Inv X pins σ H s):Mod X.K X.mg X.base:=I.ok.mod
theorem Inv.kIn (I:Inv X pins σ H s):X.K.In s.heap:=I.ok.mod.kin.keeps I.bk
theorem Inv.fr (I:Inv X pins σ H s):∃m,Fr X.base X.env.locals s.heap m:=
 let ⟨m,hn,_⟩:=I.loc
 ⟨m,hn,I.bk,k9 I.ok.bsz I.ok.above⟩
theorem Inv.lt (I:Inv X pins σ H s):X.env.locals<s.heap.objs.size:=let ⟨_,hn,_⟩:=I.loc;hn.lt
theorem Inv.sz (I:Inv X pins σ H s):X.s₀.heap.objs.size<=s.heap.objs.size:=k9 I.ok.above (Kt I.lt)
theorem Inv.nofs (I:Inv X pins σ H s) {a:Addr} (h:s.heap.objs.size<=a):a∉X.fs:=fun hb=>by
 obtain ⟨_,o,ho,_⟩:=I.ok.funs.mem hb
 exact absurd (Ky (k6 ho) (k9 I.sz h)) (qN _)
theorem Inv.cne (I:Inv X pins σ H s):∀x c,X.env.cells.lookup x=some c->c≠X.env.locals:=fun x c e z=>by
 obtain ⟨v,o,ho,hd⟩:=I.cell x c e
 obtain ⟨m,⟨o',es,ep,ho',hd',_⟩,_⟩:=I.loc
 rw [z,ho'] at ho;cases ho;rw [hd'] at hd;cases hd
theorem Inv.funs (I:Inv X pins σ H s):s.heap.FunFrames X.base X.outer:=by
 have all:∀(l:List Env),(∀b∈frs l,b∈X.fs)->X.s₀.heap.FunFrames X.base l->s.heap.FunFrames X.base l:=by
  intro l
  induction l with
  | nil=>intro _ _;trivial
  | cons env r ih=>
   intro hs hl
   obtain ⟨hk,⟨L,o,hf,hn,ho,hd⟩,hr⟩:=hl
   have hL:L∈X.fs:=hs L (by unfold frs;rw [qJ,hf];exact kK)
   obtain ⟨sl,e⟩:=I.base.slot L o ho (I.ok.frf L hL) hL fun z=>I.ok.exfs L z hL
   exact ⟨hk,⟨L,_,hf,hn,e,hd⟩,ih (fun b hb=>hs b (by unfold frs;rw [qJ,hf];exact kQ _ hb)) hr⟩
 exact all X.outer (fun _ hb=>hb) I.ok.funs
theorem Inv.stack (I:Inv X pins σ H s):s.heap.FunFrames X.base X.stack:=by
 rcases I.ok.stk with e | ⟨e,hf⟩
 ·rw [e];exact I.funs
 ·rw [e]
  obtain ⟨m,hn,_⟩:=I.loc
  refine .cons (by rw [I.ok.kind];decide) hf hn ?_ I.funs
  exact Heap.get?_none_of_le (k9 I.ok.bsz I.ok.above)
theorem Inv.stkSub (I:Inv X pins σ H s):∀b∈frs X.stack,b∈X.env.locals::X.fs:=fun b hb=>by
 rcases I.ok.stk with e | ⟨e,hf⟩
 ·rw [e] at hb;exact kQ _ hb
 ·rw [e] at hb
  unfold frs at hb
  rw [qJ,hf] at hb
  exact hb
theorem Inv.stkFree (I:Inv X pins σ H s):∀b∈frs X.stack,H b=none:=fun b hb=>by
 rcases kL.mp (I.stkSub b hb) with e | hb
 ·rw [e];exact I.free
 ·obtain ⟨_,o,ho,_⟩:=I.ok.funs.mem hb
  exact I.base.free b o ho (I.ok.frf b hb) fun z=>I.ok.exfs b z hb
theorem Inv.step {g':Array GenState}{t':Nat}{d':Drawn}{ch:List Addr} (I:Inv X pins σ H s)
  (hch:∀b∈ch,(b∈X.ex∨X.s₀.heap.objs.size<=b)/\b≠X.env.locals/\(∀x c,X.env.cells.lookup x=some c->c≠b) /\ ∀p∈X.pn++pins,p.1≠b)
  (keep:∀b o,b≠X.env.locals->b∉X.fs->b∉ch->s.heap.get? b=some o->H b=none->h'.get? b=some o)
  (slot:∀b o,b≠X.env.locals->b∈X.fs->b∉ch->s.heap.get? b=some o->H b=none -> ∃sl,h'.get? b=some { o with slots:=sl }) (free:∀b o,b∉ch->s.heap.get? b=some o->H b=none->H' b=none)
  (there:∀b o,b∉ch->s.heap.get? b=some o -> ∃o',h'.get? b=some o')
  (tups:∀b xs,H b=some (.tup xs)->H' b=some (.tup xs)) (frzs:∀b o u,H b=some (.frz o u)->H' b=some (.frz o u)) (tbls:∀b ps,H b=some (.tbl ps) -> ∃more,H' b=some (.tbl (ps++more)))
  (ns:∀m,s.heap.Ns X.env.locals m->h'.Ns X.env.locals m) (hok:GB X.prog X.w H' h') (hg:AllBare g'):
  Inv X pins σ H' { s with heap:=h',gens:=g',drawn:=d',toks:=t' }:=by
 have neL:∀b o,X.s₀.heap.get? b=some o->b≠X.env.locals:=fun b o e=>Kb (Ky (k6 e) I.ok.above)
 have neC:∀b o,X.s₀.heap.get? b=some o->b∉X.ex->b∉ch:=fun b o e hx hb=>by
  rcases (hch b hb).1 with z | z
  ·exact hx z
  ·exact absurd (Ky (k6 e) z) (qN _)
 have cellK:∀x c,X.env.cells.lookup x=some c -> ∀v,s.heap.IsCell c v->h'.IsCell c v:=fun x c e v ⟨o,ho,hd⟩=>by
  have nch:c∉ch:=fun z=>(hch c z).2.2.1 x c e rfl
  by_cases hc:c∈X.fs
  ·obtain ⟨sl,q⟩:=slot c o (I.cne x c e) hc nch ho (I.freeC x c e)
   exact ⟨_,q,hd⟩
  ·exact ⟨o,keep c o (I.cne x c e) hc nch ho (I.freeC x c e),hd⟩
 refine ⟨I.ok,I.os,hg,⟨fun b o e n hb hx=>?_,fun b o e n hb hx=>?_,fun b o e n hx=>?_,fun b o e hx=>?_,fun b xs e=>tups b xs (I.base.tups b xs e),fun b o xs e=>frzs b o xs (I.base.frzs b o xs e),fun b ps e=>?_⟩,?_,fun x c e=>?_,?_,fun x c e=>?_,fun p hp=>?_,hok,I.len⟩
 ·exact keep b o (neL b o e) hb (neC b o e hx) (I.base.keep b o e n hb hx) (I.base.free b o e n hx)
 ·obtain ⟨sl,e1⟩:=I.base.slot b o e n hb hx
  obtain ⟨sl',e2⟩:=slot b _ (neL b o e) hb (neC b o e hx) e1 (I.base.free b o e n hx)
  exact ⟨sl',e2⟩
 ·obtain ⟨o',e1⟩:=I.base.there b o e hx
  exact free b o' (neC b o e hx) e1 (I.base.free b o e n hx)
 ·obtain ⟨o',e1⟩:=I.base.there b o e hx
  exact there b o' (neC b o e hx) e1
 ·obtain ⟨m1,e1⟩:=I.base.tbls b ps e
  obtain ⟨m2,e2⟩:=tbls b _ e1
  exact ⟨m1++m2,by rw [e2,Array.append_assoc]⟩
 ·obtain ⟨m,hn,hl⟩:=I.loc
  refine ⟨m,ns m hn,fun i x v e1 e2 e3=>?_⟩
  obtain ⟨u,r,l⟩:=hl i x v e1 e2 e3
  refine ⟨u,r,?_⟩
  rcases l with l | ⟨k,c,e,z⟩
  ·exact .inl l
  ·exact .inr ⟨k,c,e,cellK x c e _ z⟩
 ·obtain ⟨v,z⟩:=I.cell x c e
  exact ⟨v,cellK x c e v z⟩
 ·obtain ⟨m,⟨o,_,_,ho,_⟩,_⟩:=I.loc
  exact free _ o (fun z=>(hch _ z).2.1 rfl) ho I.free
 ·obtain ⟨v,o,ho,hd⟩:=I.cell x c e
  exact free c o (fun z=>(hch c z).2.2.1 x c e rfl) ho (I.freeC x c e)
 ·obtain ⟨e,n,ne,nf,d⟩:=I.pin p hp
  have nch:p.1∉ch:=fun z=>(hch p.1 z).2.2.2 p hp rfl
  exact ⟨keep p.1 p.2 ne nf nch e n,free p.1 p.2 nch e n,ne,nf,d⟩
theorem Inv.un {t':Nat} (I:Inv X pins σ H s) (u:Un X.fs [] H H' s.heap h') (hok:GB X.prog X.w H' h'):Inv X pins σ H' { s with heap:=h',toks:=t' }:=by
 obtain ⟨m,⟨o,es,ep,ho,r⟩,_⟩:=id I.loc
 obtain ⟨sl,hL⟩:=u.any ho I.free (by simp)
 exact I.step (g':=s.gens) (d':=s.drawn) (ch:=[]) (fun _ z=>nomatch z) (fun b o _ hb _ e n=>u.keep b o e n hb (by simp)) (fun b o _ hb _ e n=>u.slot b o e n hb (by simp)) (fun b o _ e n=>u.free b o e n (by simp)) (fun b o _ e=>u.there b o e (by simp)) u.tups u.frzs u.tbls (fun m' hm=>by
  obtain ⟨o',es',ep',ho',r'⟩:=hm
  rw [ho] at ho';cases ho'
  exact ⟨_,es',ep',hL,r'⟩) hok I.bare
theorem Inv.call {g':Array GenState}{t':Nat}{d':Drawn}{ch:List Addr} (I:Inv X pins σ H s) (u:Un (frs X.stack) ch H H' s.heap h') (hok:GB X.prog X.w H' h') (hg:AllBare g')
  (hch:∀b∈ch,(b∈X.ex∨X.s₀.heap.objs.size<=b)/\b≠X.env.locals/\(∀x c,X.env.cells.lookup x=some c->c≠b) /\ ∀p∈X.pn++pins,p.1≠b):
  Inv X pins σ H' { s with heap:=h',gens:=g',drawn:=d',toks:=t' }:=by
 obtain ⟨m,⟨o,es,ep,ho,r⟩,_⟩:=id I.loc
 obtain ⟨sl,hL⟩:=u.any ho I.free fun z=>(hch _ z).2.1 rfl
 exact I.step (ch:=ch) hch (fun b o hL hb hc e n=>u.keep b o e n (fun z=>(kL.mp (I.stkSub b z)).elim hL hb) hc) (fun b o _ _ hc e n=>u.any e n hc) (fun b o hc e n=>u.free b o e n hc) (fun b o hc e=>u.there b o e hc) u.tups u.frzs u.tbls (fun m' hm=>by
  obtain ⟨o',es',ep',ho',r'⟩:=hm
  rw [ho] at ho';cases ho'
  exact ⟨_,es',ep',hL,r'⟩) hok hg
theorem Inv.turned {t':Nat}{it:Addr} (I:Inv X pins σ H s) (k:∀b o,b≠it->s.heap.get? b=some o->h'.get? b=some o) (hn:H it=none) (hL:it≠X.env.locals)
  (h1:it∈X.ex∨X.s₀.heap.objs.size<=it) (h2:∀x c,X.env.cells.lookup x=some c->c≠it) (h3:∀p∈X.pn++pins,p.1≠it):Inv X pins σ H { s with heap:=h',toks:=t' }:=by
 have nit:∀b u,H b=some u->b≠it:=fun b u e z=>by rw [z,hn] at e;cases e
 refine I.step (g':=s.gens) (d':=s.drawn) (ch:=[it]) (fun b hb=>?_) (fun b o _ _ hc e _=>k b o (fun z=>hc (by simp [z])) e) (fun b o _ _ hc e _=>⟨o.slots,k b o (fun z=>hc (by simp [z])) e⟩) (fun _ _ _ _ n=>n)
  (fun b o hc e=>⟨o,k b o (fun z=>hc (by simp [z])) e⟩) (fun _ _ e=>e) (fun _ _ _ e=>e) (fun b ps e=>⟨#[],by rw [e];simp⟩) (fun m hm=>?_) (fun b u e=>?_) I.bare
 ·have e:b=it:=by simpa using hb
  subst e
  exact ⟨h1,hL,h2,h3⟩
 ·obtain ⟨o,es,ep,ho,r⟩:=hm
  exact ⟨o,es,ep,k _ o (Ko hL) ho,r⟩
 ·refine (I.hok b u e).stay (fun c v hc q=>k c v ?_ q) (fun _ q=>q) fun _ _ q=>q
  rcases hc with z | z
  ·rw [z];exact nit b u e
  ·exact nit c _ z
theorem Inv.tok (I:Inv X pins σ H s) (t:Nat):Inv X pins σ H { s with toks:=t }:=I.un (h':=s.heap) (t':=t) Un.refl I.hok
theorem Inv.kept {t':Nat} (I:Inv X pins σ H s) (k:∀b u,s.heap.get? b=some u->h'.get? b=some u):Inv X pins σ H { s with heap:=h',toks:=t' }:=I.un (Un.kept k) (I.hok.kept k)
theorem Inv.laid {a:Addr}{o:HO}{t':Nat} (I:Inv X pins σ H s) (k:∀b u,s.heap.get? b=some u->h'.get? b=some u) (hp:s.heap.objs.size<=a) (new:Yc X.prog X.w (upd H a o) h' a o):
  Inv X pins σ (upd H a o) { s with heap:=h',toks:=t' }:=I.un (Un.laid k hp (I.hok.fresh hp)) (I.hok.laid k hp new)
theorem Inv.write {x e:Addr}{o:HO}{t':Nat} (I:Inv X pins σ H s) (mu:Mut (H x)) (he:e=x∨H e=some (.own x)) (k:∀b u,b≠e->s.heap.get? b=some u->h'.get? b=some u) (heo:∃u,h'.get? e=some u)
  (new:Yc X.prog X.w (upd H x o) h' x o):Inv X pins σ (upd H x o) { s with heap:=h',toks:=t' }:=I.un (Un.write mu he k heo) (I.hok.write mu he k heo new)
theorem Inv.pins_of {pins':List (Addr×Obj)} (I:Inv X pins σ H s) (h:∀p∈pins',s.heap.get? p.1=some p.2/\H p.1=none/\p.1≠X.env.locals/\p.1∉X.fs /\ ∀v,p.2.data ≠ .cell v):Inv X pins' σ H s:=
 ⟨I.ok,I.os,I.bare,I.base,I.loc,I.cell,I.free,I.freeC,fun p hp=>(Ku.mp hp).elim (fun z=>I.pin p (Xx _ z)) (h p),I.hok,I.len⟩
theorem ZfG {N:List Str} (hN:N.Nodup) {i j:Nat}{x:Str} (a:N[i]? = some x) (b:N[j]? = some x):i=j:=by
 obtain ⟨h1,e1⟩:=kC.mp a
 obtain ⟨h2,e2⟩:=kC.mp b
 exact (List.getElem_inj hN).mp (e1.trans e2.symm)
theorem Zd6 {M:Model}{A:Around}{E:Value->Shared->Prop}{i:Nat}{x:Str}{v:V}{u:Value}{Q:Unit->Shared->Prop} (I:Inv X pins σ H s) (hN:X.N.Nodup) (hi:X.N[i]? = some x) (hx:Loc X.env.scope x) (r:RelV v u)
  (h:∀s',Inv X pins (σ.set i (some v)) H s'->(∃a,Heap.SameBut a s.heap s'.heap/\(a=X.env.locals∨X.env.cells.lookup x=some a))->Q () s') (hf:X.fn x=true∨X.env.scope.names.lookup x=some .local:=by first | exact .inl rfl | exact .inr rfl | assumption):wpAny M A (storeName X.env x u) Q E s:=by
 obtain ⟨m,hn,hl⟩:=id I.loc
 have hcls:(X.env.scope.kind == .class||(X.env.scope.kind == .module&&X.env.locals != X.env.globals))=false:=by rw [I.ok.kind];rfl
 have hiσ:i < σ.length:=by rw [I.len];exact (kC.mp hi).1
 have cne:=I.cne
 have tracked:∀{a:Addr}{h':Heap},(∃o,s.heap.get? a=some o/\H a=none)->Heap.SameBut a s.heap h'->GB X.prog X.w H h':=fun {a h'} ha hs b ob e=>by
  obtain ⟨_,_,hfree⟩:=ha
  refine (I.hok b ob e).stay (fun c w' hc q=>(hs.2 c ?_).trans q) (fun _ q=>q) fun _ _ q=>q
  rintro rfl
  rcases hc with rfl | hc
  ·rw [hfree] at e;cases e
  ·rw [hfree] at hc;cases hc
 rcases hx with hk | hk
 ·refine wpAny_storeName_local hk hn (fun h' hn' hs=>?_) hcls
  obtain ⟨oL,_,_,hoL,_⟩:=id hn
  refine h _ ⟨I.ok,I.os,I.bare,⟨fun b o e n hb hx=>?_,fun b o e n hb hx=>?_,I.base.free,fun b o e hx=>?_,I.base.tups,I.base.frzs,I.base.tbls⟩,⟨_,hn',fun j y v' e1 e2 e3=>?_⟩,fun y c e=>?_,I.free,I.freeC,fun p hp=>?_,tracked ⟨oL,hoL,I.free⟩ hs,by simpa using I.len⟩ ⟨_,hs,.inl rfl⟩
  ·exact (hs.2 b (Kb (Ky (k6 e) I.ok.above))).trans (I.base.keep b o e n hb hx)
  ·obtain ⟨sl,e1⟩:=I.base.slot b o e n hb hx
   exact ⟨sl,(hs.2 b (Kb (Ky (k6 e) I.ok.above))).trans e1⟩
  ·obtain ⟨o',e1⟩:=I.base.there b o e hx
   exact ⟨o',(hs.2 b (Kb (Ky (k6 e) I.ok.above))).trans e1⟩
  ·by_cases hj:j=i
   ·subst hj
    rw [hi] at e1;cases e1
    rw [NB hiσ] at e2
    cases e2
    exact ⟨u,r,.inl ⟨hk,by simp⟩⟩
   ·rw [N6 (Ko hj)] at e2
    obtain ⟨u',r',q⟩:=hl j y v' e1 e2 e3
    refine ⟨u',r',?_⟩
    rcases q with ⟨k,e⟩ | ⟨k,c,e,z⟩
    ·refine .inl ⟨k,?_⟩
     have:y≠x:=fun e=>hj (ZfG hN e1 (e ▸ hi))
     simp [this,e]
    ·exact .inr ⟨k,c,e,z.sameBut hs (cne y c e)⟩
  ·obtain ⟨w',z⟩:=I.cell y c e
   exact ⟨w',z.sameBut hs (cne y c e)⟩
  ·obtain ⟨e,n,ne,nf,d⟩:=I.pin p hp
   exact ⟨(hs.2 p.1 ne).trans e,n,ne,nf,d⟩
 ·have hfn:X.fn x=true:=by
   rcases hf with z | z
   ·exact z
   ·rw [z] at hk;cases hk
  obtain ⟨c,hc⟩:=I.ok.has x (.inl hk)
  obtain ⟨w',z⟩:=I.cell x c hc
  refine wpAny_storeName_cell I.ok.kind hk hc z (fun h' hc' hs=>?_)
  obtain ⟨oc,hoc,hocd⟩:=id z
  refine h { s with heap:=h' } ⟨I.ok,I.os,I.bare,⟨fun b o e n hb hx=>?_,fun b o e n hb hx=>?_,I.base.free,fun b o e hx=>?_,I.base.tups,I.base.frzs,I.base.tbls⟩,⟨m,hn.sameBut hs (Ko (cne x c hc)),fun j y v' e1 e2 e3=>?_⟩,fun y c' e=>?_,I.free,I.freeC,fun p hp=>?_,tracked ⟨oc,hoc,I.freeC x c hc⟩ hs,by simpa using I.len⟩ ⟨c,hs,.inr hc⟩
  ·exact (hs.2 b (Kb (Ky (k6 e) (I.ok.cab x c hfn hc)))).trans (I.base.keep b o e n hb hx)
  ·obtain ⟨sl,e1⟩:=I.base.slot b o e n hb hx
   exact ⟨sl,(hs.2 b (Kb (Ky (k6 e) (I.ok.cab x c hfn hc)))).trans e1⟩
  ·obtain ⟨o',e1⟩:=I.base.there b o e hx
   exact ⟨o',(hs.2 b (Kb (Ky (k6 e) (I.ok.cab x c hfn hc)))).trans e1⟩
  ·by_cases hj:j=i
   ·subst hj
    rw [hi] at e1;cases e1
    rw [NB hiσ] at e2
    cases e2
    exact ⟨u,r,.inr ⟨.inl hk,c,hc,hc'⟩⟩
   ·rw [N6 (Ko hj)] at e2
    obtain ⟨u',r',q⟩:=hl j y v' e1 e2 e3
    refine ⟨u',r',?_⟩
    rcases q with q | ⟨k,c',e,z'⟩
    ·exact .inl q
    ·refine .inr ⟨k,c',e,z'.sameBut hs ?_⟩
     rintro rfl
     exact hj (ZfG hN e1 (I.ok.inj _ _ _ e hc ▸ hi))
  ·by_cases hcc:c'=c
   ·subst hcc;exact ⟨_,hc'⟩
   ·obtain ⟨w2,z2⟩:=I.cell y c' e
    exact ⟨w2,z2.sameBut hs hcc⟩
  ·obtain ⟨e,n,ne,nf,d⟩:=I.pin p hp
   refine ⟨(hs.2 p.1 ?_).trans e,n,ne,nf,d⟩
   intro q
   rw [q,hoc] at e
   have q':oc=p.2:=kX e
   exact d w' (by rw [<- q'];exact hocd)
theorem U0 {M:Model}{A:Around}{E:Value->Shared->Prop}{i:Nat}{x:Str}{v:V}{u:Value}{Q:Unit->Shared->Prop} (I:Inv X pins σ H s) (hN:X.N.Nodup) (hi:X.N[i]? = some x) (hx:Loc X.env.scope x) (r:RelV v u)
  (h:∀s',Inv X pins (σ.set i (some v)) H s'->Q () s') (hf:X.fn x=true∨X.env.scope.names.lookup x=some .local:=by first | exact .inl rfl | exact .inr rfl | assumption):wpAny M A (storeName X.env x u) Q E s:=
 Zd6 I hN hi hx r (fun s' I' _=>h s' I') hf
theorem Inv.call' {s':Shared}{ch:List Addr} (I:Inv X pins σ H s) (ho:s'.os=s.os) (u:Un (frs X.stack) ch H H' s.heap s'.heap) (hok:GB X.prog X.w H' s'.heap) (hg:AllBare s'.gens)
  (hch:∀b∈ch,(b∈X.ex∨X.s₀.heap.objs.size<=b)/\b≠X.env.locals/\(∀x c,X.env.cells.lookup x=some c->c≠b) /\ ∀p∈X.pn++pins,p.1≠b):Inv X pins σ H' s':=by
 obtain ⟨h',g',d',t',o'⟩:=s'
 have e:o'=s.os:=ho
 subst e
 exact I.call (g':=g') (t':=t') (d':=d') u hok hg hch
end
abbrev XK:=Value->Option Addr->Hp->Prop
abbrev St:=List (Option V)
abbrev VK:=V->Hp->Prop
abbrev TE:=St->Hp->VK->Prop
abbrev TT:=St->Hp->(Bool->Hp->Prop)->Prop
abbrev TA:=St->Hp->(List V->Hp->Prop)->Prop
structure Ends where
 nx:St->Hp->Prop
 rt:VK
 bk:St->Hp->Prop:=fun _ _=>False
 ct:St->Hp->Prop:=fun _ _=>False
abbrev TS:=Ends->St->Hp->Prop
def EP (X:Cx) (pins:List (Addr×Obj)) (σ:St) (Q:VK) (u:Value) (s':Shared):Prop:=∃v H',Inv X pins σ H' s'/\RelV v u/\Q v H'
def TP (X:Cx) (pins:List (Addr×Obj)) (σ:St) (Q:Bool->Hp->Prop) (b:Bool) (s':Shared):Prop:=∃H',Inv X pins σ H' s'/\Q b H'
def AP (X:Cx) (pins:List (Addr×Obj)) (σ:St) (Q:List V->Hp->Prop) (us:List Value) (s':Shared):Prop:=∃vs H',Inv X pins σ H' s'/\Vals vs us/\Q vs H'
def SP (X:Cx) (pins:List (Addr×Obj)) (D:Ends) (f:Flow) (s':Shared):Prop:=
 match f with
 | .next=>∃ σ' H',Inv X pins σ' H' s'/\D.nx σ' H'
 | .brk=>∃ σ' H',Inv X pins σ' H' s'/\D.bk σ' H'
 | .cont=>∃ σ' H',Inv X pins σ' H' s'/\D.ct σ' H'
 | .ret u=>∃v σ' H',Inv X pins σ' H' s'/\RelV v u/\D.rt v H'
def PE (X:Cx) (e:Expr) (t:TE):Prop:=
 ∀(pins:List (Addr×Obj)) (s:Shared) (σ:St) (H:Hp) (Q:VK),Inv X pins σ H s->t σ H Q->wpAny (model X.prog X.w) X.A (eval e X.env) (EP X pins σ Q) X.xe s
def PT (X:Cx) (e:Expr) (t:TT):Prop:=
 ∀(pins:List (Addr×Obj)) (s:Shared) (σ:St) (H:Hp) (Q:Bool->Hp->Prop),Inv X pins σ H s->t σ H Q->wpAny (model X.prog X.w) X.A (isTrue e X.env (eval e X.env)) (TP X pins σ Q) X.xe s
def PW (X:Cx) (e:Expr) (t:TT):Prop:=
 ∀(whole:Sem Value) (pins:List (Addr×Obj)) (s:Shared) (σ:St) (H:Hp) (Q:Bool->Hp->Prop),Inv X pins σ H s->t σ H Q->wpAny (model X.prog X.w) X.A (isTrue e X.env whole) (TP X pins σ Q) X.xe s
theorem PW.pt {X:Cx}{e:Expr}{t:TT} (h:PW X e t):PT X e t:=h _
def PA (X:Cx) (es:List Expr) (t:TA):Prop:=
 ∀(pos:Pos) (pins:List (Addr×Obj)) (s:Shared) (σ:St) (H:Hp) (Q:List V->Hp->Prop),Inv X pins σ H s->t σ H Q->wpAny (model X.prog X.w) X.A (spliced (backTo pos (starEach es X.env))) (AP X pins σ Q) X.xe s
def PS (X:Cx) (st:Stmt) (t:TS):Prop:=
 ∀(pins:List (Addr×Obj)) (s:Shared) (σ:St) (H:Hp) (D:Ends),Inv X pins σ H s->t D σ H->wpAny (model X.prog X.w) X.A (exec st X.env) (SP X pins D) X.xe s
def PSs (X:Cx) (st:List Stmt) (t:TS):Prop:=
 ∀(pins:List (Addr×Obj)) (s:Shared) (σ:St) (H:Hp) (D:Ends),Inv X pins σ H s->t D σ H->wpAny (model X.prog X.w) X.A (execs st X.env) (SP X pins D) X.xe s
theorem YG {α:Type}{t:Sem α}{Q Q':α -> Shared->Prop}{M:Model}{A:Around}{E:Value->Shared->Prop}{s:Shared} (h:wpAny M A t Q E s) (hQ:∀a s,Q a s->Q' a s):wpAny M A t Q' E s:=KH h hQ fun _ _ x=>x
section
variable {X:Cx}
def JC (i:Nat):TE:=fun σ H Q=>∃v,σ[i]? = some (some v)/\Q v H
def tC (v:V):TE:=fun _ H Q=>Q v H
theorem ZnF {i:Nat}{x:Str}{pos:Pos} (hN:X.N[i]? = some x) (hv:Vis X.env.scope x) (hd:(x==("__debug__" : Str))=false:=by decide) (hcd:(x==("__classdict__" : Str))=false:=by decide):PE X (.Name x pos) (JC i):=by
 intro pins s σ H Q I h
 obtain ⟨v,e,h⟩:=h
 obtain ⟨m,hn,hl⟩:=I.loc
 obtain ⟨u,r,l⟩:=hl i x v hN e hv
 have fin:EP X pins σ Q u s:=⟨v,H,I,r,h⟩
 rcases l with ⟨hk,hm⟩ | ⟨hk,c,hc,hcell⟩
 ·exact wpAny_Name (wpAny_loadName_local I.ok.kind hk hn hm fin) hd
 ·rcases hk with hk | hk
  ·exact wpAny_Name (wpAny_loadName_cell I.ok.kind hk hc hcell fin) hd
  ·exact wpAny_Name (wpAny_loadName_free I.ok.kind hk hc hcell fin hcd) hd
theorem Ze {i j pos}:PE X (.Constant (.int i) j pos) (tC (.int i)):=fun _ _ _ H _ I h=>wpAny_Constant_int ⟨.int i,H,I.tok _,⟨_,rfl⟩,h⟩
theorem Gk {b j pos}:PE X (.Constant (.bool b) j pos) (tC (.bl b)):=fun _ _ _ H _ I h=>Constant_bool ⟨.bl b,H,I,rfl,h⟩
theorem Zam {j pos}:PE X (.Constant .none j pos) (tC .non):=fun _ _ _ H _ I h=>Constant_none ⟨.non,H,I,rfl,h⟩
theorem ZG {x j pos}:PE X (.Constant (.str x) j pos) (tC (.str x)):=fun _ _ _ H _ I h=>Calls.Constant_str ⟨.str x,H,I.tok _,⟨_,rfl⟩,h⟩
def Gl (X:Cx) (x:Str):Prop:=X.env.kindOf x=some .globalImplicit
theorem ZhP {E:Value->Shared->Prop}{pins:List (Addr×Obj)}{s:Shared} {σ:St}{H:Hp}{x:Str}{u:Value}{pos:Pos}{Q:Value->Shared->Prop} (I:Inv X pins σ H s) (hg:Gl X x) (hm:X.mg x=some u) (h:Q u s)
  (hd:(x==("__debug__" : Str))=false:=by decide):wpAny (model X.prog X.w) X.A (eval (.Name x pos) X.env) Q E s:=
 TH I.ok.kind hg (Calls.loadGlobal_global (by rw [I.ok.glob];exact I.mod.glob.keeps I.bk) hm h) hd
theorem Up {E:Value->Shared->Prop}{pins:List (Addr×Obj)}{s:Shared} {σ:St}{H:Hp}{x:Str}{u:Value}{pos:Pos}{Q:Value->Shared->Prop} (I:Inv X pins σ H s) (hg:Gl X x) (hm:X.mg x=none) (hv:bootBuiltins x=some u) (h:Q u s)
  (hn:x ≠ "__name__" := by decide) (hd:(x==("__debug__" : Str))=false:=by decide):wpAny (model X.prog X.w) X.A (eval (.Name x pos) X.env) Q E s:=by
 obtain ⟨mb,h1,h2⟩:=I.mod.blt
 exact TH I.ok.kind hg (Calls.loadGlobal_builtin (by rw [I.ok.glob];exact I.mod.glob.keeps I.bk) hm (by rw [I.ok.blt];exact h1.keeps I.bk) ((h2 x hn).trans hv) h) hd
theorem ZcI {x:Str}{v:V}{u:Value}{pos:Pos} (hg:Gl X x) (hm:X.mg x=none) (hv:bootBuiltins x=some u) (r:RelV v u) (hn:x ≠ "__name__" := by decide) (hd:(x==("__debug__" : Str))=false:=by decide):PE X (.Name x pos) (tC v):=
 fun _ _ _ H _ I h=>Up I hg hm hv ⟨v,H,I,r,h⟩ hn hd
variable {a b:Expr}{ta tb:TE}{pos:Pos}
def PC (X:Cx) (op:CmpOp) (a b:Expr) (t:TE):Prop:=
 ∀(pins:List (Addr×Obj)) (s:Shared) (σ:St) (H:Hp) (Q:VK),Inv X pins σ H s->t σ H Q ->
  wpAny (model X.prog X.w) X.A (eval a X.env) (fun v s₁=>wpAny (model X.prog X.w) X.A (eval b X.env) (fun u s₂=>wpAny (model X.prog X.w) X.A (compareOp op v u) (EP X pins σ Q) X.xe s₂) X.xe s₁) X.xe s
def tB (t:TE):TT:=fun σ H Q=>t σ H fun x H1=>∃c,x = .bl c/\Q c H1
theorem ZeP {op:CmpOp}{t:TE} (h:PC X op a b t) (h1:behindInMarks op b=false:=by first | exact nobehind _ (by decide) (by decide) | rfl):PT X (.Compare a [op] [b] pos) (tB t):=by
 intro pins s σ H Q I hw
 refine wpAny_isTrue_Compare1 (YG (h pins s σ H _ I hw) fun v s1 h1=>YG h1 fun u s2 h2=>YG h2 fun c s3 ⟨x,H1,I1,r1,q1⟩=>?_) h1
 obtain ⟨d,rfl,q⟩:=q1
 cases r1
 exact KC ⟨H1,I1,q⟩
theorem GC {e:Expr}{t:TE} (h:PE X e t) (he:∀whole,isTrue e X.env whole=(do let v <- whole;standAt e.pos;holding [v] (truthy v)):=by intro _;rfl):PT X e (tB t):=by
 intro pins s σ H Q I hw
 refine isTrue_plain (YG (h pins s σ H _ I hw) fun v s1 ⟨x,H1,I1,r1,q1⟩=>?_) (he _)
 obtain ⟨d,rfl,q⟩:=q1
 cases r1
 exact KC ⟨H1,I1,q⟩
variable {tA tB':TT}{rest:List Expr}
def Zoe (t u:TT):TT:=fun σ H Q=>t σ H fun c H1=>if c=true then u σ H1 Q else Q false H1
def tOr (t u:TT):TT:=fun σ H Q=>t σ H fun c H1=>if c=true then Q true H1 else u σ H1 Q
def Zpg (t:TT):TT:=fun σ H Q=>t σ H fun c H1=>Q (!c) H1
theorem Uh (ha:PT X a tA):PW X (.BoolOp .And [a] pos) tA:=by
 intro wh pins s σ H Q I h
 refine isTrue_and (YG (ha pins s σ H Q I h) fun c s1 e=>?_)
 cases c with
 | true=>exact isTrue_and_nil e
 | false=>exact e
theorem Zhq (ha:PT X a tA):PW X (.BoolOp .Or [a] pos) tA:=by
 intro wh pins s σ H Q I h
 refine isTrue_or (YG (ha pins s σ H Q I h) fun c s1 e=>?_)
 cases c with
 | false=>exact isTrue_or_nil e
 | true=>exact e
theorem GI (ha:PT X a tA) (hb:PW X (.BoolOp .And (b::rest) pos) tB'):PW X (.BoolOp .And (a::b::rest) pos) (Zoe tA tB'):=by
 intro wh pins s σ H Q I h
 refine isTrue_and (YG (ha pins s σ H _ I h) fun c s1 ⟨H1,I1,q1⟩=>?_)
 cases c with
 | true=>exact hb wh pins s1 σ H1 Q I1 q1
 | false=>exact ⟨H1,I1,q1⟩
theorem ZhJ (ha:PT X a tA) (hb:PW X (.BoolOp .Or (b::rest) pos) tB'):PW X (.BoolOp .Or (a::b::rest) pos) (tOr tA tB'):=by
 intro wh pins s σ H Q I h
 refine isTrue_or (YG (ha pins s σ H _ I h) fun c s1 ⟨H1,I1,q1⟩=>?_)
 cases c with
 | true=>exact ⟨H1,I1,q1⟩
 | false=>exact hb wh pins s1 σ H1 Q I1 q1
theorem ZaY (ha:PT X a tA):PT X (.UnaryOp .Not a pos) (Zpg tA):=by
 intro pins s σ H Q I h
 exact isTrue_not (ha pins s σ H (fun c H1=>Q (!c) H1) I h)
def Zn2 (ta tb:TE):TE:=fun σ H Q=>ta σ H fun x H1=>∃c,x = .bl c/\if c=true then tb σ H1 Q else Q (.bl false) H1
def Zo6 (ta tb:TE):TE:=fun σ H Q=>ta σ H fun x H1=>∃c,x = .bl c/\if c=true then Q (.bl true) H1 else tb σ H1 Q
def Zop (ta:TE):TE:=fun σ H Q=>ta σ H fun x H1=>∃c,x = .bl c/\Q (.bl (!c)) H1
theorem ZaU {op}{t:TE} (h:PE X a t):PE X (.BoolOp op [a] pos) t:=fun pins s σ H Q I hw=>BoolOp_one (h pins s σ H Q I hw)
theorem Zc9 (ha:PE X a ta) (hb:PE X (.BoolOp .And (b::rest) pos) tb):PE X (.BoolOp .And (a::b::rest) pos) (Zn2 ta tb):=by
 intro pins s σ H Q I h
 refine BoolOp_and (YG (ha pins s σ H _ I h) fun v s1 ⟨x,H1,I1,r1,q1⟩=>?_)
 obtain ⟨c,rfl,q1⟩:=q1
 cases r1
 refine KC ?_
 cases c with
 | true=>exact hb pins s1 σ H1 Q I1 q1
 | false=>exact ⟨.bl false,H1,I1,rfl,q1⟩
theorem Zik (ha:PE X a ta) (hb:PE X (.BoolOp .Or (b::rest) pos) tb):PE X (.BoolOp .Or (a::b::rest) pos) (Zo6 ta tb):=by
 intro pins s σ H Q I h
 refine BoolOp_or (YG (ha pins s σ H _ I h) fun v s1 ⟨x,H1,I1,r1,q1⟩=>?_)
 obtain ⟨c,rfl,q1⟩:=q1
 cases r1
 refine KC ?_
 cases c with
 | false=>exact hb pins s1 σ H1 Q I1 q1
 | true=>exact ⟨.bl true,H1,I1,rfl,q1⟩
theorem ZnB (ha:PE X a ta):PE X (.UnaryOp .Not a pos) (Zop ta):=by
 intro pins s σ H Q I h
 refine UnaryOp_ (YG (ha pins s σ H _ I h) fun v s1 ⟨x,H1,I1,r1,q1⟩=>?_)
 obtain ⟨c,rfl,q1⟩:=q1
 cases r1
 exact not_of (KC ⟨.bl (!c),H1,I1,rfl,q1⟩)
def tIf (t:TT) (ta tb:TE):TE:=fun σ H Q=>t σ H fun c H1=>if c=true then ta σ H1 Q else tb σ H1 Q
theorem UX {c:Expr} (hc:PT X c tA) (ha:PE X a ta) (hb:PE X b tb):PE X (.IfExp c a b pos) (tIf tA ta tb):=by
 intro pins s σ H Q I h
 refine wpAny_IfExp (YG (hc pins s σ H _ I h) fun d s1 ⟨H1,I1,q1⟩=>?_)
 cases d with
 | true=>exact ha pins s1 σ H1 Q I1 q1
 | false=>exact hb pins s1 σ H1 Q I1 q1
end
def Zr (K:PySem.W.Frag) (H:Hp) (a:Addr) (xs:List V):Prop:=
 Rd H a (.lst xs) ∨
  ∃(o:Obj) (its:Array Value) (n:Nat),K.lookup a=some o/\o.cls = .type "list" /\ o.dict=none/\o.data = .seq its n/\its.size<=sizeLine/\Vals xs its.toList
def YX (K:PySem.W.Frag) (H:Hp) (a:Addr) (xs:List V):Prop:=
 Rd H a (.tup xs) ∨
  ∃(o:Obj) (its:Array Value) (n:Nat),K.lookup a=some o/\o.cls = .type "tuple" /\ o.data = .seq its n/\its.size<=sizeLine/\Vals xs its.toList
def Zpb:Value->Option V
 | .none=>some .non
 | .bool b=>some (.bl b)
 | .int i _=>some (.int i)
 | .str x _=>some (.str x)
 | .bytes b _=>some (.byt b)
 | .float b _=>some (.flt b)
 | .ref a=>some (.ref a)
 | .type n=>some (.ty n)
 | _=>none
theorem RelV.abs {x:V}{u:Value} (r:RelV x u):Zpb u=some x:=by
 cases x with
 | non=>cases r;rfl
 | bl _=>cases r;rfl
 | int _=>obtain ⟨t,rfl⟩:=r;rfl
 | str _=>obtain ⟨t,rfl⟩:=r;rfl
 | byt _=>obtain ⟨t,rfl⟩:=r;rfl
 | flt _=>obtain ⟨t,rfl⟩:=r;rfl
 | ref _=>cases r;rfl
 | ty _=>cases r;rfl
theorem RelV.inj {x y:V}{u:Value} (r:RelV x u) (q:RelV y u):x=y:=kX (r.abs.symm.trans q.abs)
theorem Vals.inj:∀{xs ys:List V}{us:List Value},Vals xs us->Vals ys us->xs=ys
 | _,_,_,.nil,.nil=>rfl
 | _,_,_,.cons r t,.cons r' t'=>by rw [r.inj r',Vals.inj t t']
section
variable {X:Cx}{pins:List (Addr×Obj)} {σ:St}{H:Hp}{s:Shared}{a:Addr}{xs ys:List V}
theorem Zr.of {K:PySem.W.Frag} (h:H a=some (.lst xs)):Zr K H a xs:=.inl (.inl h)
theorem YX.of {K:PySem.W.Frag} (h:H a=some (.tup xs)):YX K H a xs:=.inl (.inl h)
theorem Inv.list (I:Inv X pins σ H s) (h:Zr X.K H a xs):∃its:List Value,Vals xs its/\PlainL s.heap a its.toArray/\xs.length<=sizeLine:=by
 rcases h with h | ⟨o,its,n,hk,hc,hd,hs,hz,r⟩
 ·obtain ⟨z,its,n,r,e⟩:=h.ok I.hok
  exact ⟨its,r,⟨_,n,e,rfl,rfl,rfl⟩,z⟩
 ·refine ⟨its.toList,r,⟨o,n,I.kIn a o hk,hc,hd,by simpa using hs⟩,?_⟩
  have e:=r.length
  simp only [Kq] at e
  lia
theorem Inv.tuple (I:Inv X pins σ H s) (h:YX X.K H a xs):∃its:List Value,Vals xs its/\IsTup s.heap a its.toArray/\xs.length<=sizeLine:=by
 rcases h with h | ⟨o,its,n,hk,hc,hs,hz,r⟩
 ·obtain ⟨z,its,r,p⟩:=h.ok I.hok
  exact ⟨its,r,p,z⟩
 ·refine ⟨its.toList,r,⟨o,I.kIn a o hk,hc,n,by simpa using hs⟩,?_⟩
  have e:=r.length
  simp only [Kq] at e
  lia
theorem Inv.list_inj (I:Inv X pins σ H s) (h:Zr X.K H a xs) (h':Zr X.K H a ys):xs=ys:=by
 obtain ⟨its,r,⟨o,n,e,_,_,d⟩,_⟩:=I.list h
 obtain ⟨its',r',⟨o',n',e',_,_,d'⟩,_⟩:=I.list h'
 rw [e] at e';cases e'
 rw [d] at d'
 injection d' with d1 _
 have:its=its':=by simpa using Ks Array.toList d1
 subst this
 exact r.inj r'
theorem Inv.tuple_inj (I:Inv X pins σ H s) (h:YX X.K H a xs) (h':YX X.K H a ys):xs=ys:=by
 obtain ⟨its,r,⟨o,e,_,n,d⟩,_⟩:=I.tuple h
 obtain ⟨its',r',⟨o',e',_,n',d'⟩,_⟩:=I.tuple h'
 rw [e] at e';cases e'
 rw [d] at d'
 injection d' with d1 _
 have:its=its':=by simpa using Ks Array.toList d1
 subst this
 exact r.inj r'
end
abbrev Cx.wish (X:Cx) (E:Value->Shared->Prop):Cx:={ X with xe:=E }
abbrev Cx.nox (X:Cx):Cx:=X.wish fun _ _=>False
theorem Cx.Ok.wish {X:Cx} (ok:X.Ok) (E:Value->Shared->Prop):(X.wish E).Ok:=
 ⟨ok.mod,ok.kind,ok.glob,ok.blt,ok.above,ok.inj,ok.has,ok.cab,ok.hd,ok.frames,ok.stk,ok.exf,ok.bs,ok.bsz,ok.noex,ok.exfs,ok.funs,ok.frf⟩
theorem Cx.Ok.unwish {X:Cx}{E:Value->Shared->Prop} (ok:(X.wish E).Ok):X.Ok:=
 ⟨ok.mod,ok.kind,ok.glob,ok.blt,ok.above,ok.inj,ok.has,ok.cab,ok.hd,ok.frames,ok.stk,ok.exf,ok.bs,ok.bsz,ok.noex,ok.exfs,ok.funs,ok.frf⟩
section
variable {X:Cx}{pins:List (Addr×Obj)} {σ:St}{H:Hp}{s:Shared}{E:Value->Shared->Prop}
theorem Inv.wish (I:Inv X pins σ H s) (E:Value->Shared->Prop):Inv (X.wish E) pins σ H s:=⟨I.ok.wish E,I.os,I.bare,I.base,I.loc,I.cell,I.free,I.freeC,I.pin,I.hok,I.len⟩
theorem Inv.unwish (I:Inv (X.wish E) pins σ H s):Inv X pins σ H s:=⟨I.ok.unwish,I.os,I.bare,I.base,I.loc,I.cell,I.free,I.freeC,I.pin,I.hok,I.len⟩
theorem SP.unwish {D:Ends}{f:Flow}{s':Shared} (h:SP (X.wish E) pins D f s'):SP X pins D f s':=by
 cases f with
 | next=>obtain ⟨σ',H',I,q⟩:=h;exact ⟨σ',H',I.unwish,q⟩
 | brk=>obtain ⟨σ',H',I,q⟩:=h;exact ⟨σ',H',I.unwish,q⟩
 | cont=>obtain ⟨σ',H',I,q⟩:=h;exact ⟨σ',H',I.unwish,q⟩
 | ret u=>obtain ⟨v,σ',H',I,r,q⟩:=h;exact ⟨v,σ',H',I.unwish,r,q⟩
theorem PSs.nox {st:List Stmt}{t:TS} (h:PSs X.nox st t):PSs X st t:=fun pins s σ H D I hw=>
 KH (h pins s σ H D (I.wish _) hw) (fun _ _ q=>q.unwish) fun _ _ z=>False.elim z
end
section
variable {X:Cx}{st:Stmt}{rest:List Stmt}{t u:TS}{e:Expr}{te:TE}{pos:Pos}
def Zmv:TS:=fun D σ H=>D.nx σ H
def ZfK (t u:TS):TS:=fun D σ H=>t { D with nx:=u D } σ H
theorem ZJ:PSs X [] Zmv:=fun _ _ σ H _ I h=>Tt ⟨σ,H,I,h⟩
theorem Zd (h1:PS X st t) (h2:PSs X rest u):PSs X (st::rest) (ZfK t u):=by
 intro pins s σ H D I h
 refine wpAny_execs_cons (YG (h1 pins s σ H { D with nx:=u D } I h) fun f s1 q=>?_)
 cases f with
 | next=>
  obtain ⟨σ',H',I',q⟩:=q
  exact h2 pins s1 σ' H' D I' q
 | ret v=>exact q
 | brk=>exact q
 | cont=>exact q
theorem Zg (h1:PS X st t):PSs X [st] t:=by
 intro pins s σ H D I h
 refine wpAny_execs_cons (YG (h1 pins s σ H D I h) fun f s1 q=>?_)
 cases f with
 | next=>exact Tt q
 | ret v=>exact q
 | brk=>exact q
 | cont=>exact q
theorem Inv.quiet {pins:List (Addr×Obj)} {σ:St}{H:Hp}{s:Shared} (I:Inv X pins σ H s):interactive X.env=false:=by simp [interactive,I.ok.kind]
def Zn3 (te:TE):TS:=fun D σ H=>te σ H fun _ H1=>D.nx σ H1
theorem ZZ (he:PE X e te) (hs:swapsWith e none pos.line X.env=pure false:=by rfl):PS X (.Expr e pos) (Zn3 te):=by
 intro pins s σ H D I h
 exact wpAny_Expr_any (YG (he pins s σ H _ I h) fun v s1 ⟨x,H1,I1,r1,q1⟩=>⟨σ,H1,I1,q1⟩) I.quiet hs
def Zoj (te:TE):TS:=fun D σ H=>te σ H D.rt
theorem Zw (he:PE X e te):PS X (.Return (some e) pos) (Zoj te):=by
 intro pins s σ H D I h
 exact wpAny_Return_some (YG (he pins s σ H _ I h) fun v s1 ⟨x,H1,I1,r1,q1⟩=>⟨x,σ,H1,I1,r1,q1⟩)
def Zi6 (c:TT) (t u:TS):TS:=fun D σ H=>c σ H fun b H1=>if b=true then t D σ H1 else u D σ H1
theorem ZW {c:Expr}{a b:List Stmt}{tc:TT} (hc:PT X c tc) (ha:PSs X a t) (hb:PSs X b u):PS X (.If c a b pos) (Zi6 tc t u):=by
 intro pins s σ H D I h
 refine wpAny_If (YG (hc pins s σ H _ I h) fun d s1 ⟨H1,I1,q1⟩=>?_)
 cases d with
 | true=>exact ha pins s1 σ H1 D I1 q1
 | false=>exact hb pins s1 σ H1 D I1 q1
end
abbrev TG:=V->St->Hp->(St->Hp->Prop)->Prop
abbrev TGs:=List V->St->Hp->(St->Hp->Prop)->Prop
def PG (X:Cx) (target:Expr) (t:TG):Prop:=
 ∀(pins:List (Addr×Obj)) (s:Shared) (σ:St) (H:Hp) (v:V) (u:Value) (Q:St->Hp->Prop),Inv X pins σ H s->RelV v u->t v σ H Q ->
  wpAny (model X.prog X.w) X.A (assign target X.env u) (fun _ s'=>∃ σ' H',Inv X pins σ' H' s'/\Q σ' H') X.xe s
def PGs (X:Cx) (ts:List Expr) (t:TGs):Prop:=
 ∀(pins:List (Addr×Obj)) (s:Shared) (σ:St) (H:Hp) (vs:List V) (us:List Value) (Q:St->Hp->Prop),Inv X pins σ H s->Vals vs us->t vs σ H Q ->
  wpAny (model X.prog X.w) X.A (assignInOrder ((assignEach ts X.env).map (·.2)) us) (fun _ s'=>∃ σ' H',Inv X pins σ' H' s'/\Q σ' H') X.xe s
abbrev ZmJ:=V->V->V->Hp->(Hp->Prop)->Prop
def Zm3 (X:Cx) (t:ZmJ):Prop:=
 ∀(pins:List (Addr×Obj)) (s:Shared) (σ:St) (H:Hp) (o i v:V) (ov iv u:Value) (Q:Hp->Prop),Inv X pins σ H s->RelV o ov->RelV i iv->RelV v u->t o i v H Q ->
  wpAny (model X.prog X.w) X.A (setItem ov iv u) (fun _ s'=>∃H',Inv X pins σ H' s'/\Q H') X.xe s
abbrev TIp:=V->V->Hp->VK->Prop
def PIp (X:Cx) (op:Operator) (t:TIp):Prop:=
 ∀(pins:List (Addr×Obj)) (s:Shared) (σ:St) (H:Hp) (x y:V) (v u:Value) (Q:VK),Inv X pins σ H s->RelV x v->RelV y u->t x y H Q ->
  wpAny (model X.prog X.w) X.A (inplaceOp op v u) (EP X pins σ Q) X.xe s
section
variable {X:Cx}{pos:Pos}
def JX (i:Nat):TG:=fun v σ H Q=>Q (σ.set i (some v)) H
theorem Zk {i:Nat}{x:Str} (hN:X.N.Nodup) (hi:X.N[i]? = some x) (hx:Loc X.env.scope x) (hf:X.fn x=true∨X.env.scope.names.lookup x=some .local:=by first | exact .inl rfl | exact .inr rfl | assumption):PG X (.Name x pos) (JX i):=by
 intro pins s σ H v u Q I r h
 exact wpAny_assign_Name (U0 I hN hi hx r (fun s' I'=>⟨_,H,I',h⟩) hf)
def ZlH:TGs:=fun vs σ H Q=>vs = []/\Q σ H
def Zdm (t:TG) (u:TGs):TGs:=fun vs σ H Q=>∃v r,vs=v::r/\t v σ H fun σ' H'=>u r σ' H' Q
theorem ZQ:PGs X [] ZlH:=by
 intro pins s σ H vs us Q I r h
 obtain ⟨e,h⟩:=h
 subst e
 cases r
 exact assignInOrder_nil ⟨σ,H,I,h⟩
theorem Zm {e:Expr}{es:List Expr}{t:TG}{u:TGs} (h1:PG X e t) (h2:PGs X es u)
  (hs:(assignEach (e::es) X.env).map (·.2)=assign e X.env::(assignEach es X.env).map (·.2):=by rfl):PGs X (e::es) (Zdm t u):=by
 intro pins s σ H vs us Q I r h
 obtain ⟨v,vr,e1,h⟩:=h
 subst e1
 cases r with
 | cons r rr=>
  rw [hs]
  refine TJ (YG (h1 pins s σ H _ _ _ I r h) fun _ s1 ⟨σ1,H1,I1,q1⟩=>?_)
  exact h2 pins s1 σ1 H1 _ _ Q I1 rr q1
def ZkI (K:PySem.W.Frag) (n:Nat) (t:TGs):TG:=fun v σ H Q=>∃a xs,v = .ref a/\YX K H a xs/\xs.length=n/\t xs σ H Q
theorem Znw {es:List Expr}{k:Nat}{t:TGs}{n:Nat} (hc:X.calm=true) (h:PGs X es t)
  (hn:(assignEach es X.env).length=n:=by rfl) (hst:(assignEach es X.env).findIdx? (·.1)=none:=by rfl):PG X (.Tuple es k pos) (ZkI X.K n t):=by
 intro pins s σ H v u Q I r hw
 obtain ⟨a,xs,e1,hq,hl,hw⟩:=hw
 subst e1
 cases r
 obtain ⟨its,rv,ht,hz⟩:=I.tuple hq
 refine assign_Tuple_tuple (I.ok.hd hc) ht (by simp [hn,<- hl,rv.length]) hst fun h' hx=>?_
 have I1:Inv X pins σ H { s with heap:=h' }:=I.kept (t':=s.toks) fun b o e=>hx b o (Kb (k6 e)) e
 exact h pins _ σ H xs _ Q I1 (by simpa using rv) hw
def Zjf (to ti:TE) (t:ZmJ):TG:=fun v σ H Q=>to σ H fun o H1=>ti σ H1 fun i H2=>t o i v H2 fun H3=>Q σ H3
theorem Yv {o i:Expr}{to ti:TE}{t:ZmJ} (ho:PE X o to) (hi:PE X i ti) (hs:Zm3 X t)
  (ha:∀v,assign (.Subscript o i pos) X.env v=(do
   let ov <- holding [v] (eval o X.env)
   let iv <- holding [v,ov] (eval i X.env)
   standAt pos
   holding [v,ov,iv] (setItem ov iv v)
   release [v,ov,iv] []):=by intro _;rfl):PG X (.Subscript o i pos) (Zjf to ti t):=by
 intro pins s σ H v u Q I r h
 rw [ha]
 refine ka (Kv (YG (ho pins s σ H _ I h) fun ov s1 ⟨x,H1,I1,r1,q1⟩=>?_))
 refine ka (Kv (YG (hi pins s1 σ H1 _ I1 q1) fun iv s2 ⟨y,H2,I2,r2,q2⟩=>?_))
 refine ka (qU (ka (Kv (YG (hs pins s2 σ H2 x y v ov iv u _ I2 r1 r2 r q2) fun _ s3 ⟨H3,I3,q3⟩=>?_))))
 exact Mr ⟨σ,H3,I3,q3⟩
def Zcz (te:TE) (g:TG):TS:=fun D σ H=>te σ H fun x H1=>g x σ H1 D.nx
theorem Yj {tg e:Expr}{te:TE}{g:TG} (he:PE X e te) (hg:PG X tg g) (hs:swapsWithSole [tg] e pos.line X.env=pure false:=by rfl) (hw:swappedStores [tg] e X.env=pure none:=by rfl)
  (h1:(assignEach [tg] X.env).map (·.2) = [assign tg X.env]:=by rfl):PS X (.Assign [tg] e pos) (Zcz te g):=by
 intro pins s σ H D I h
 refine wpAny_Assign_stores (YG (he pins s σ H _ I h) fun v s1 ⟨x,H1,I1,r1,q1⟩=>?_) hs hw
 rw [h1]
 exact YG (hg pins s1 σ H1 x v _ I1 r1 q1) fun _ s2 q=>q
theorem Zn {i:Nat}{x:Str}{e:Expr}{te:TE}{pos':Pos} (hN:X.N.Nodup) (hi:X.N[i]? = some x) (hx:Loc X.env.scope x) (he:PE X e te) (hs:swapsWith e (some (.Name x pos')) pos.line X.env=pure false:=by rfl) (hf:X.fn x=true∨X.env.scope.names.lookup x=some .local:=by first | exact .inl rfl | exact .inr rfl | assumption):
  PS X (.Assign [.Name x pos'] e pos) (Zcz te (JX i)):=by
 intro pins s σ H D I h
 refine wpAny_Assign_Name (YG (he pins s σ H _ I h) fun v s1 ⟨y,H1,I1,r1,q1⟩=>?_) hs
 exact U0 I1 hN hi hx r1 (fun s2 I2=>⟨_,H1,I2,q1⟩) hf
def ZoZ (i j:Nat) (ta:TA):TS:=fun D σ H=>ta σ H fun vs H1=>∃v w,vs = [v,w]/\D.nx ((σ.set i (some v)).set j (some w)) H1
theorem ZkO {i j:Nat}{x y:Str}{a b:Expr}{ta:TA}{px py pt:Pos}{kt k2 pt2} (hc:X.calm=true) (hN:X.N.Nodup) (hi:X.N[i]? = some x) (hj:X.N[j]? = some y) (hij:i≠j)
  (hx:X.env.scope.names.lookup x=some .local) (hy:X.env.scope.names.lookup y=some .local) (ha:PA X [a,b] ta)
  (hw:swappedStores [.Tuple [.Name x px,.Name y py] kt pt] (.Tuple [a,b] k2 pt2) X.env=pure (some [x,y]))
  (hs:swapsWithSole [.Tuple [.Name x px,.Name y py] kt pt] (.Tuple [a,b] k2 pt2) pos.line X.env=pure false:=by rfl):
  PS X (.Assign [.Tuple [.Name x px,.Name y py] kt pt] (.Tuple [a,b] k2 pt2) pos) (ZoZ i j ta):=by
 intro pins s σ H D I h
 rw [exec_Assign_arm]
 refine ka (qU ?_)
 rw [hs]
 refine ka (ko ?_)
 rw [kg (by decide)]
 refine ka (Tuple_ (YG (ha _ pins s σ H _ I h) fun us s1 ⟨vs,H1,I1,r1,q1⟩=>?_))
 obtain ⟨v,w,e1,q1⟩:=q1
 subst e1
 obtain ⟨u1,u2,rfl,rv,rw'⟩:∃u1 u2,us = [u1,u2]/\RelV v u1/\RelV w u2:=by
  cases r1 with
  | cons p q=>
   cases q with
   | cons p' q'=>
    cases q'
    exact ⟨_,_,rfl,p,p'⟩
 refine qe ?_ (by show 2<=sizeLine;decide)
 have I2:Inv X pins σ H1 { s1 with heap:=s1.heap.push { cls:=.type "tuple", data:=.seq [u1,u2].toArray } }:=I1.kept (t':=s1.toks) fun b o e=>km _ e
 rw [hw]
 refine ka (ko ?_)
 show wpAny (model X.prog X.w) X.A (do rule "assign.swapped-stores"; let items <- unpackItems (.ref s1.heap.objs.size) 2 none;assignInOrder [fun v=>bindName X.env y v,fun v=>bindName X.env x v] items.reverse;pure Flow.next) _ _ _
 refine ka (qV (ka (unpackItems_tuple (items:=#[u1,u2]) (I.ok.hd hc) (IsTup.new s1.heap _) fun h' hx'=>?_)))
 have I3:=I2.kept (h':=h') (t':=s1.toks) fun b o e=>hx' b o (Kb (k6 e)) e
 show wpAny _ _ (assignInOrder [fun v=>bindName X.env y v,fun v=>bindName X.env x v] [u2,u1] >>= fun _=>pure Flow.next) _ _ _
 refine ka (TJ (wpAny_bindName (U0 I3 hN hj (.inl hy) rw' (fun s2 I4=>?_) (.inr hy))))
 refine TJ (wpAny_bindName (U0 I4 hN hi (.inl hx) rv (fun s3 I5=>assignInOrder_nil (ko ?_)) (.inr hx)))
 rw [List.set_comm _ _ (Ko hij)] at I5
 exact ⟨_,H1,I5,q1⟩
def Zpa (i:Nat) (te:TE) (ti:TIp):TS:=fun D σ H=>∃x,σ[i]? = some (some x)/\te σ H fun y H1=>ti x y H1 fun z H2=>D.nx (σ.set i (some z)) H2
theorem ZjZ {i:Nat}{x:Str}{e:Expr}{te:TE}{op:Operator}{ti:TIp}{pos':Pos} (hN:X.N.Nodup) (hi:X.N[i]? = some x) (hx:Loc X.env.scope x) (he:PE X e te) (ho:PIp X op ti) (hf:X.fn x=true∨X.env.scope.names.lookup x=some .local:=by first | exact .inl rfl | exact .inr rfl | assumption):
  PS X (.AugAssign (.Name x pos') op e pos) (Zpa i te ti):=by
 intro pins s σ H D I h
 obtain ⟨v,e1,h⟩:=h
 obtain ⟨m,hn,hl⟩:=I.loc
 have vis:Vis X.env.scope x:=by rcases hx with k | k;exact .inl k;exact .inr (.inl k)
 obtain ⟨u,r,l⟩:=hl i x v hi e1 vis
 refine wpAny_AugAssign_Name ?_
 have go:wpAny (model X.prog X.w) X.A (eval e X.env) (fun w s₂=>wpAny (model X.prog X.w) X.A (inplaceOp op u w) (fun r s₃=>wpAny (model X.prog X.w) X.A (storeName X.env x r) (fun _=>SP X pins D .next) X.xe s₃) X.xe s₂) X.xe s:=by
  refine YG (he pins s σ H _ I h) fun w s1 ⟨y,H1,I1,r1,q1⟩=>?_
  refine YG (ho pins s1 σ H1 v y u w _ I1 r r1 q1) fun z s2 ⟨zv,H2,I2,r2,q2⟩=>?_
  exact U0 I2 hN hi hx r2 (fun s3 I3=>⟨_,H2,I3,q2⟩) hf
 rcases l with ⟨hk,hm⟩ | ⟨hk,c,hc,hcell⟩
 ·exact wpAny_loadName_local I.ok.kind hk hn hm go
 ·rcases hk with hk | hk
  ·exact wpAny_loadName_cell I.ok.kind hk hc hcell go
  ·rcases hx with k | k
   ·have:X.env.scope.names.lookup x=some .free:=hk
    rw [k] at this;cases this
   ·have:X.env.scope.names.lookup x=some .free:=hk
    rw [k] at this;cases this
def ipI (f:Int->Int->Int):TIp:=fun x y H Q=>∃i j,x = .int i/\y = .int j/\Q (.int (f i j)) H
theorem Zno:PIp X .Add (ipI fun i j=>i+j):=by
 intro pins s σ H x y v u Q I r1 r2 h
 obtain ⟨i,j,e1,e2,q⟩:=h
 subst e1;subst e2
 obtain ⟨t,rfl⟩:=r1
 obtain ⟨t',rfl⟩:=r2
 exact iadd_int ⟨.int _,H,I.tok _,⟨_,rfl⟩,q⟩
theorem Znu:PIp X .Sub (ipI fun i j=>i-j):=by
 intro pins s σ H x y v u Q I r1 r2 h
 obtain ⟨i,j,e1,e2,q⟩:=h
 subst e1;subst e2
 obtain ⟨t,rfl⟩:=r1
 obtain ⟨t',rfl⟩:=r2
 exact isub_int ⟨.int _,H,I.tok _,⟨_,rfl⟩,q⟩
end
section
variable {X:Cx}{pos:Pos}
def Zjy (c:TT) (tb:TS):TS:=fun D σ H=>∃W:Nat->St->Hp->Prop,(∃m,W m σ H) /\ ∀m σ H,W m σ H ->
 c σ H fun b H1=>if b=true then ∃N:St->Hp->Prop,(∀ σ' H',N σ' H' -> ∃m',m'<m/\W m' σ' H')/\tb { D with nx:=N,ct:=N,bk:=D.nx } σ H1 else D.nx σ H1
theorem ZbB {c:Expr}{body:List Stmt}{tc:TT}{tb:TS} (hp:PassesOwn (model X.prog X.w) X.A X.env X.xe) (hc:PT X c tc) (hb:PSs X body tb):PS X (.While c body [] pos) (Zjy tc tb):=by
 intro pins s σ H D I h
 obtain ⟨W,⟨m0,w0⟩,turn⟩:=h
 refine wpAny_While (codeAny_whileLoop (fun n s'=>∃ σ' H',Inv X pins σ' H' s'/\W n σ' H') ?_ m0 ⟨σ,H,I,w0⟩)
 rintro n s1 ⟨σ1,H1,I1,w1⟩
 refine qR hp (YG (hc pins s1 σ1 H1 _ I1 (turn n σ1 H1 w1)) fun b s2 ⟨H2,I2,q2⟩=>?_)
 cases b with
 | true=>
  obtain ⟨N,hN,q2⟩:=q2
  rw [kh rfl]
  refine qR hp (YG (hb pins s2 σ1 H2 _ I2 q2) fun f s3 q3=>?_)
  cases f with
  | next=>
   obtain ⟨σ3,H3,I3,n3⟩:=q3
   obtain ⟨m',hm,w3⟩:=hN σ3 H3 n3
   exact ⟨m',hm,σ3,H3,I3,w3⟩
  | cont=>
   obtain ⟨σ3,H3,I3,n3⟩:=q3
   obtain ⟨m',hm,w3⟩:=hN σ3 H3 n3
   exact ⟨m',hm,σ3,H3,I3,w3⟩
  | brk=>exact q3
  | ret v=>exact q3
 | false=>
  rw [kg kO]
  exact Tt ⟨σ1,H2,I2,q2⟩
end
structure It where
 go:Nat->Hp->Prop
 yld:Nat->Hp->V->Hp->Prop
 stop:Nat->Hp->Prop
def Zcy (X:Cx) (pins:List (Addr×Obj)) (H:Hp) (b:Addr):Prop:=
 H b=none/\b≠X.env.locals/\b∉X.fs/\(b∈X.ex∨X.s₀.heap.objs.size<=b)/\(∀x c,X.env.cells.lookup x=some c->c≠b) /\ ∀p∈X.pn++pins,p.1≠b
theorem Inv.fpOk {X:Cx}{pins:List (Addr×Obj)} {σ:St}{H H':Hp}{s:Shared}{b:Addr} (I:Inv X pins σ H s) (hb:s.heap.objs.size<=b) (hn:H' b=none):Zcy X pins H' b:=by
 refine ⟨hn,qS (Ky I.lt hb),I.nofs hb,.inr (k9 I.sz hb),fun x c e z=>?_,fun p hp z=>?_⟩
 ·obtain ⟨v,q⟩:=I.cell x c e
  exact absurd (Ky q.lt (by rw [z];exact hb)) (qN _)
 ·exact absurd (Ky (k6 (I.pin p hp).1) (by rw [z];exact hb)) (qN _)
structure Turn (P:Program) (w:World) (K:PySem.W.Frag) (tg:Expr) (J:It) (fp:List Addr) (it:Addr) (tn:Nat->Heap->Prop):Prop where
 mem:it∈fp
 obj:∀i h,tn i h -> ∀b∈fp,∃o,h.get? b=some o /\ ∀v,o.data ≠ .cell v
 keep:∀i h h',tn i h->(∀b∈fp,∀o,h.get? b=some o->h'.get? b=some o)->tn i h'
 item:∀(X:Cx),X.prog=P->X.w=w->X.K=K->X.calm=true -> ∀(i:Nat) (pins:List (Addr×Obj)) (s:Shared) (σ:St) (H:Hp) (E:Value->Shared->Prop),Inv X pins σ H s->(∀b∈fp,Zcy X pins H b)->tn i s.heap->J.go i H ->
  wpAny (model P w) X.A (pyNext (.ref it)) (fun r s1=>∃u,r=some u /\
   wpAny (model P w) X.A (letOwnedTupleGo tg (.ref it) u) (fun _ s2=>∃x H',Inv X pins σ H' s2/\RelV x u/\J.yld i H x H'/\tn (i+1) s2.heap /\ ∀b∈fp,H' b=none) E s1) E s
 done:∀(X:Cx),X.prog=P->X.w=w->X.K=K->X.calm=true -> ∀(i:Nat) (pins:List (Addr×Obj)) (s:Shared) (σ:St) (H:Hp) (E:Value->Shared->Prop),Inv X pins σ H s->(∀b∈fp,Zcy X pins H b)->tn i s.heap->J.stop i H ->
  wpAny (model P w) X.A (pyNext (.ref it)) (fun r s1=>r=none/\Inv X pins σ H s1) E s
 self:∀(A:Around) (i:Nat) (s:Shared) (Q:Value->Shared->Prop) (E:Value->Shared->Prop),tn i s.heap->Q (.ref it) s->wpAny (model P w) A (pyIter (.ref it)) Q E s
abbrev TI:=St->Hp->(It->Hp->Prop)->Prop
def PIE (X:Cx) (pins:List (Addr×Obj)) (σ:St) (tg:Expr) (R:It->Hp->Prop) (itv:Value) (s2:Shared):Prop:=
 ∃(it:Addr) (fp:List Addr) (tn:Nat->Heap->Prop) (J:It) (H':Hp),itv = .ref it/\Inv X pins σ H' s2/\Turn X.prog X.w X.K tg J fp it tn/\tn 0 s2.heap/\(∀b∈fp,Zcy X pins H' b)/\R J H'
def PI (X:Cx) (tg iter:Expr) (wi:TI):Prop:=
 ∀(pins:List (Addr×Obj)) (s:Shared) (σ:St) (H:Hp) (R:It->Hp->Prop),Inv X pins σ H s->wi σ H R ->
  wpAny (model X.prog X.w) X.A (eval iter X.env) (fun v s1=>wpAny (model X.prog X.w) X.A (pyIter v) (PIE X pins σ tg R) X.xe s1) X.xe s
theorem Zhw {M:Model}{A:Around}{E:Value->Shared->Prop}{s:Shared}{tg:Expr}{it:Addr}{u:Value}{o:Obj}{n:String}{vs:Array Value}{Q:Unit->Shared->Prop} (ho:s.heap.get? it=some o) (hc:o.cls = .type n) (hd:o.data = .fields vs)
    (hn:["enumerate", "zip", "dict_itemiterator", "dict_reverseitemiterator", "odict_iterator", "itertools.zip_longest", "itertools.pairwise"].contains n=false) (hQ:Q () s):wpAny M A (letOwnedTupleGo tg (.ref it) u) Q E s:=by
  unfold letOwnedTupleGo
  cases tg<;>first
    | exact ko hQ
    | (cases u<;>first
        | exact ko hQ
        | (refine ka (wpAny_load ho ?_)
           rw [hc,hd]
           show wpAny M A (if (["enumerate", "zip", "dict_itemiterator", "dict_reverseitemiterator", "odict_iterator", "itertools.zip_longest", "itertools.pairwise"].contains n&&vs[0]? == some (rawInt _))=true then _ else _) Q E s
           rw [kg (by intro h;rw [hn,Bool.false_and] at h;cases h)]
           exact ko hQ))
def Itl (K:PySem.W.Frag) (a:Addr):It:=
 ⟨fun i H=>∃xs x,Zr K H a xs/\xs[i]? = some x,fun i H x H'=>H'=H /\ ∀xs,Zr K H a xs->xs[i]? = some x,fun i H=>∃xs,Zr K H a xs/\xs.length<=i⟩
def Itt (K:PySem.W.Frag) (a:Addr):It:=
 ⟨fun i H=>∃xs x,YX K H a xs/\xs[i]? = some x,fun i H x H'=>H'=H /\ ∀xs,YX K H a xs->xs[i]? = some x,fun i H=>∃xs,YX K H a xs/\xs.length<=i⟩
def Itr (lo:Int) (n:Nat):It:=⟨fun i _=>i<n,fun i H x H'=>H'=H/\x = .int (lo+i),fun i _=>n<=i⟩
theorem ZiK {P:Program}{w:World}{K:PySem.W.Frag}{tg:Expr} (a it:Addr):Turn P w K tg (Itl K a) [it] it (fun i h=>h.IsListIter it a i) where
 mem:=by simp
 obj:=fun i h st b hb=>by
  have e:b=it:=by simpa using hb
  subst e
  obtain ⟨o,e,c,d⟩:=st
  exact ⟨o,e,fun v z=>by rw [d] at z;cases z⟩
 keep:=fun i h h' st k=>st.at fun o e=>k it (by simp) o e
 item:=by
  intro X hP hw hK hc i pins s σ H E I hf st hg
  subst hP hw hK
  obtain ⟨xs,x,hq,hx⟩:=hg
  obtain ⟨its,rv,p,hz⟩:=I.list hq
  obtain ⟨u,hu,ru⟩:=rv.get hx
  obtain ⟨f0,f1,f2,f3,f4,f5⟩:=hf it (by simp)
  refine wpAny_pyNext_list_item st p.isList (x:=u) (by simpa using hu) fun h' st' sb=>?_
  have I1:Inv X pins σ H { s with heap:=h' }:=I.turned (t':=s.toks) (fun b o hb e=>(sb.2 b hb).trans e) f0 f1 f3 f4 f5
  obtain ⟨o,e,c,d⟩:=id st'
  exact ⟨u,rfl,Zhw (s:={ s with heap:=h' }) e c d (by decide) ⟨x,H,I1,ru,⟨rfl,fun ys hy=>by rw [I.list_inj hy hq];exact hx⟩,st',fun b hb=>(hf b hb).1⟩⟩
 done:=by
  intro X hP hw hK hc i pins s σ H E I hf st hg
  subst hP hw hK
  obtain ⟨xs,hq,hx⟩:=hg
  obtain ⟨its,rv,p,hz⟩:=I.list hq
  obtain ⟨f0,f1,f2,f3,f4,f5⟩:=hf it (by simp)
  have hl:=rv.length
  exact wpAny_pyNext_list_end (I.ok.hd hc) st p.isList (by simp;lia) fun h' eb=>⟨rfl,I.turned (t':=s.toks) (fun b o hb e=>eb b o hb e) f0 f1 f3 f4 f5⟩
 self:=fun _ _ _ _ _ st h=>wpAny_pyIter_listiter st h
theorem Zhl {P:Program}{w:World}{K:PySem.W.Frag}{tg:Expr} (a it:Addr):Turn P w K tg (Itt K a) [it] it (fun i h=>h.IsTupleIter it a i) where
 mem:=by simp
 obj:=fun i h st b hb=>by
  have e:b=it:=by simpa using hb
  subst e
  obtain ⟨o,e,c,d⟩:=st
  exact ⟨o,e,fun v z=>by rw [d] at z;cases z⟩
 keep:=fun i h h' st k=>st.at fun o e=>k it (by simp) o e
 item:=by
  intro X hP hw hK hc i pins s σ H E I hf st hg
  subst hP hw hK
  obtain ⟨xs,x,hq,hx⟩:=hg
  obtain ⟨its,rv,p,hz⟩:=I.tuple hq
  obtain ⟨u,hu,ru⟩:=rv.get hx
  obtain ⟨f0,f1,f2,f3,f4,f5⟩:=hf it (by simp)
  refine wpAny_pyNext_tuple_item st (show s.heap.IsTuple a its.toArray from p) (x:=u) (by simpa using hu) fun h' st' sb=>?_
  have I1:Inv X pins σ H { s with heap:=h' }:=I.turned (t':=s.toks) (fun b o hb e=>(sb.2 b hb).trans e) f0 f1 f3 f4 f5
  obtain ⟨o,e,c,d⟩:=id st'
  exact ⟨u,rfl,Zhw (s:={ s with heap:=h' }) e c d (by decide) ⟨x,H,I1,ru,⟨rfl,fun ys hy=>by rw [I.tuple_inj hy hq];exact hx⟩,st',fun b hb=>(hf b hb).1⟩⟩
 done:=by
  intro X hP hw hK hc i pins s σ H E I hf st hg
  subst hP hw hK
  obtain ⟨xs,hq,hx⟩:=hg
  obtain ⟨its,rv,p,hz⟩:=I.tuple hq
  obtain ⟨f0,f1,f2,f3,f4,f5⟩:=hf it (by simp)
  have hl:=rv.length
  exact wpAny_pyNext_tuple_end (I.ok.hd hc) st (show s.heap.IsTuple a its.toArray from p) (by simp;lia) fun h' eb=>⟨rfl,I.turned (t':=s.toks) (fun b o hb e=>eb b o hb e) f0 f1 f3 f4 f5⟩
 self:=fun _ _ _ _ _ st h=>wpAny_pyIter_tupleiter st h
theorem Zhh {P:Program}{w:World}{K:PySem.W.Frag}{tg:Expr} (it:Addr) (lo:Int) (n:Nat):Turn P w K tg (Itr lo n) [it] it (fun i h=>IsRangeIter h it (lo+(i:Nat)*1) ((n:Int)-(i:Nat)) 1) where
 mem:=by simp
 obj:=fun i h st b hb=>by
  have e:b=it:=by simpa using hb
  subst e
  exact ⟨_,st,fun v z=>by
   have z':Data.fields _=Data.cell v:=z
   cases z'⟩
 keep:=fun i h h' st k=>k it (by simp) _ st
 item:=by
  intro X hP hw hK hc i pins s σ H E I hf st hg
  subst hP hw hK
  obtain ⟨f0,f1,f2,f3,f4,f5⟩:=hf it (by simp)
  have W:=Walks.range (prog:=X.prog) (w:=X.w) (I.ok.hd hc) it lo 1 n
  refine W.item i s _ _ hg st fun v h' tk hv st' kk=>?_
  obtain ⟨t,rfl⟩:=hv
  have I1:Inv X pins σ H { s with heap:=h',toks:=tk }:=I.turned (fun b o hb e=>kk b o (by simpa using hb) e) f0 f1 f3 f4 f5
  refine ⟨_,rfl,Zhw (s:={ s with heap:=h',toks:=tk }) (n := "range_iterator") st' rfl rfl (by decide) ⟨.int (lo+i),H,I1,⟨t,?_⟩,⟨rfl,rfl⟩,st',fun b hb=>(hf b hb).1⟩⟩
  rw [Int.mul_one]
 done:=by
  intro X hP hw hK hc i pins s σ H E I hf st hg
  subst hP hw hK
  obtain ⟨f0,f1,f2,f3,f4,f5⟩:=hf it (by simp)
  exact wpAny_pyNext_range_end (I.ok.hd hc) st (by have:n<=i:=hg;lia) fun h' eb=>⟨rfl,I.turned (t':=s.toks) (fun b o hb e=>eb b o hb e) f0 f1 f3 f4 f5⟩
 self:=fun _ _ _ _ _ st h=>wpAny_pyIter_rangeiter st h
section
variable {X:Cx}{tg:Expr}
def Zgc (K:PySem.W.Frag) (tl:TE):TI:=fun σ H R=>tl σ H fun x H1=>∃a,x = .ref a/\(∃xs,Zr K H1 a xs)/\R (Itl K a) H1
def Zn6 (K:PySem.W.Frag) (tl:TE):TI:=fun σ H R=>tl σ H fun x H1=>∃a,x = .ref a/\(∃xs,YX K H1 a xs)/\R (Itt K a) H1
theorem ZlV {l:Expr}{tl:TE} (hl:PE X l tl):PI X tg l (Zgc X.K tl):=by
 intro pins s σ H R I h
 refine YG (hl pins s σ H _ I h) fun v s1 ⟨x,H1,I1,r1,q1⟩=>?_
 obtain ⟨a,e,⟨xs,hq⟩,q⟩:=q1
 subst e
 cases r1
 obtain ⟨its,rv,p,hz⟩:=I1.list hq
 refine wpAny_pyIter_list p.isList ?_
 refine ⟨s1.heap.objs.size,[s1.heap.objs.size],_,_,H1,rfl,I1.kept (t':=s1.toks) fun b o e=>km _ e,ZiK a _,⟨_,Ki _ rfl,rfl,rfl⟩,fun b hb=>?_,q⟩
 have e:b=s1.heap.objs.size:=by simpa using hb
 subst e
 exact I1.fpOk (ki _) (I1.hok.fresh (ki _))
theorem ZmR {l:Expr}{tl:TE} (hl:PE X l tl):PI X tg l (Zn6 X.K tl):=by
 intro pins s σ H R I h
 refine YG (hl pins s σ H _ I h) fun v s1 ⟨x,H1,I1,r1,q1⟩=>?_
 obtain ⟨a,e,⟨xs,hq⟩,q⟩:=q1
 subst e
 cases r1
 obtain ⟨its,rv,p,hz⟩:=I1.tuple hq
 refine wpAny_pyIter_tuple (show s1.heap.IsTuple a its.toArray from p) ?_
 refine ⟨s1.heap.objs.size,[s1.heap.objs.size],_,_,H1,rfl,I1.kept (t':=s1.toks) fun b o e=>km _ e,Zhl a _,⟨_,Ki _ rfl,rfl,rfl⟩,fun b hb=>?_,q⟩
 have e:b=s1.heap.objs.size:=by simpa using hb
 subst e
 exact I1.fpOk (ki _) (I1.hok.fresh (ki _))
theorem Zkc {pins:List (Addr×Obj)} {σ:St}{H:Hp}{s:Shared}{R:It->Hp->Prop}{E:Value->Shared->Prop}{lo hi:Int}{t u v:Tok}{tk:Nat} (I:Inv X pins σ H s) (h1 : -(2 ^ 62)<=lo) (h2:lo<2 ^ 62) (h3 : -(2 ^ 62)<=hi) (h4:hi<2 ^ 62)
  (q:R (Itr lo (hi-lo).toNat) H):wpAny (model X.prog X.w) X.A (pyIter (.ref s.heap.objs.size)) (PIE X pins σ tg R) E { s with heap:=s.heap.push { cls:=.type "range", data:=.fields #[.int lo t,.int hi u,.int 1 v] },toks:=tk }:=by
 refine wpAny_pyIter_range (IsRange.new ..) (small_one h1 h2 h3 h4) ?_
 have I1:Inv X pins σ H { s with heap:=s.heap.push { cls:=.type "range", data:=.fields #[.int lo t,.int hi u,.int 1 v] },toks:=tk }:=I.kept fun b o e=>km _ e
 refine ⟨(s.heap.push { cls:=.type "range", data:=.fields #[.int lo t,.int hi u,.int 1 v] }).objs.size,[(s.heap.push { cls:=.type "range", data:=.fields #[.int lo t,.int hi u,.int 1 v] }).objs.size],_,_,H,rfl,
  I1.kept (t':=tk) fun b o e=>km _ e,Zhh _ lo (hi-lo).toNat,?_,fun b hb=>?_,q⟩
 ·have e1:lo+((0:Nat):Int)*1=lo:=by simp
  have e2:(((hi-lo).toNat:Nat):Int)-((0:Nat):Int)=Builtin.Range.rangeSize lo hi 1:=by rw [rangeSize_one];split<;>lia
  show IsRangeIter _ _ (lo+((0:Nat):Int)*1) ((((hi-lo).toNat:Nat):Int)-((0:Nat):Int)) 1
  rw [e1,e2]
  exact Ki _ rfl
 ·have e:b=(s.heap.push { cls:=.type "range", data:=.fields #[.int lo t,.int hi u,.int 1 v] }).objs.size:=by simpa using hb
  subst e
  exact I1.fpOk (ki _) (I1.hok.fresh (ki _))
def Zon (ta:TA):TI:=fun σ H R=>ta σ H fun vs H1=>∃j:Int,vs = [.int j] /\ -(2 ^ 62)<=j/\j<2 ^ 62/\R (Itr 0 j.toNat) H1
theorem YI {a:Expr}{ta:TA}{p pos:Pos} (hg:Gl X "range") (hm:X.mg "range" = none) (ha:PA X [a] ta) (hs:starEach [a] X.env = [(false,eval a X.env)]:=by rfl):PI X tg (.Call (.Name "range" p) [a] [] pos) (Zon ta):=by
 intro pins s σ H R I h
 refine Call_ (Up I hg hm boot_range (KS (YG (ha pos pins s σ H _ I h) fun us s1 ⟨vs,H1,I1,r1,q1⟩=>?_) hs rfl))
 obtain ⟨j,e,q1,q2,q⟩:=q1
 subst e
 cases r1 with
 | cons r rr=>
  cases rr
  obtain ⟨t,rfl⟩:=r
  exact call_range_1 (Zkc I1 (by lia) (by lia) q1 q2 (by simpa using q))
def Zlr (wi:TI) (g:TG) (tb:TS):TS:=fun D σ H=>wi σ H fun J H1=>∃W:Nat->Nat->St->Hp->Prop,(∃m,W 0 m σ H1) /\ ∀i m σ H,W i m σ H ->
 (J.stop i H/\D.nx σ H)∨(J.go i H /\ ∃N:St->Hp->Prop,(∀ σ' H',N σ' H' -> ∃m',m'<m/\W (i+1) m' σ' H') /\ ∀x H',J.yld i H x H'->g x σ H' fun σ2 H2=>tb { D with nx:=N,ct:=N,bk:=D.nx } σ2 H2)
def Zc1 (fp:List Addr) (h:Heap):List (Addr×Obj):=fp.filterMap fun b=>(h.get? b).map fun o=>(b,o)
theorem Uv {fp:List Addr}{h:Heap}{b:Addr}{o:Obj} (hb:b∈fp) (e:h.get? b=some o):(b,o)∈Zc1 fp h:=K6.mpr ⟨b,hb,by rw [e];rfl⟩
theorem Zja {fp:List Addr}{h:Heap}{p:Addr×Obj} (hp:p∈Zc1 fp h):p.1∈fp/\h.get? p.1=some p.2:=by
 obtain ⟨b,hb,e⟩:=K6.mp hp
 cases q:h.get? b with
 | none=>rw [q] at e;cases e
 | some o=>
  rw [q] at e
  have e':(b,o)=p:=kX e
  subst e'
  exact ⟨hb,q⟩
theorem Inv.pinned {pins:List (Addr×Obj)} {σ:St}{H:Hp}{s:Shared}{fp:List Addr} (I:Inv X pins σ H s) (hf:∀b∈fp,Zcy X pins H b) (ho:∀b∈fp,∃o,s.heap.get? b=some o /\ ∀v,o.data ≠ .cell v):Inv X (pins++Zc1 fp s.heap) σ H s:=
 I.pins_of fun p hp=>(Ku.mp hp).elim (fun z=>I.pin p (KP _ z)) fun z=>by
  obtain ⟨hb,e⟩:=Zja z
  obtain ⟨f0,f1,f2,_⟩:=hf p.1 hb
  obtain ⟨o,e',d⟩:=ho p.1 hb
  rw [e] at e';cases e'
  exact ⟨e,f0,f1,f2,d⟩
theorem Inv.unpinned {pins pl:List (Addr×Obj)} {σ:St}{H:Hp}{s:Shared} (I:Inv X (pins++pl) σ H s):Inv X pins σ H s:=I.pins_of fun p hp=>I.pin p (KP _ (Xx _ hp))
theorem Yi {iter:Expr}{body:List Stmt}{wi:TI}{g:TG}{tb:TS}{pos:Pos} (hp:PassesOwn (model X.prog X.w) X.A X.env X.xe) (hc:X.calm=true) (hi:PI X tg iter wi) (hg:PG X tg g) (hb:PSs X body tb)
  (hs:∀x,foldedSetIterable iter X.env x=pure x:=by intro _;rfl):PS X (.For tg iter body [] pos) (Zlr wi g tb):=by
 intro pins s σ H D I h
 refine wpAny_For (YG (hi pins s σ H _ I h) fun v s1 h1=>YG h1 fun itv s2 h2=>?_) hs
 obtain ⟨it,fp,tn,J,H2,e,I2,T,st2,f2,W,⟨m0,w0⟩,turn⟩:=h2
 subst e
 have stat:∀{H':Hp},(∀b∈fp,H' b=none) -> ∀b∈fp,Zcy X pins H' b:=fun hn b hb=>⟨hn b hb,(f2 b hb).2⟩
 refine codeAny_forLoop_any (fun n s'=>∃i σ' H',Inv X pins σ' H' s'/\tn i s'.heap/\(∀b∈fp,H' b=none)/\W i n σ' H') ?_ m0 ⟨0,σ,H2,I2,st2,fun b hb=>(f2 b hb).1,w0⟩
 rintro n s3 ⟨i,σ3,H3,I3,st3,fr3,w3⟩
 rcases turn i n σ3 H3 w3 with ⟨stop,qn⟩ | ⟨go,N,hN,step⟩
 ·refine qR hp (YG (T.done X rfl rfl rfl hc i pins s3 σ3 H3 X.xe I3 (stat fr3) st3 stop) fun r s4 ⟨hr,I4⟩=>?_)
  subst hr
  exact Tt ⟨σ3,H3,I4,qn⟩
 ·refine qR hp (YG (T.item X rfl rfl rfl hc i pins s3 σ3 H3 X.xe I3 (stat fr3) st3 go) fun r s4 ⟨u,hr,h4⟩=>?_)
  subst hr
  refine qR hp (YG h4 fun _ s5 ⟨x,H5,I5,r5,y5,st5,fr5⟩=>?_)
  have I5':=I5.pinned (stat fr5) (T.obj _ _ st5)
  refine qR hp (YG (hg _ s5 σ3 H5 x u _ I5' r5 (step x H5 y5)) fun _ s6 ⟨σ6,H6,I6,q6⟩=>?_)
  refine qR hp (YG (hb _ s6 σ6 H6 _ I6 q6) fun f s7 q7=>?_)
  have again:∀{σ7:St}{H7:Hp},Inv X (pins++Zc1 fp s5.heap) σ7 H7 s7->N σ7 H7 -> ∃m,m<n /\ ∃i σ' H',Inv X pins σ' H' s7/\tn i s7.heap/\(∀b∈fp,H' b=none)/\W i m σ' H':=fun {σ7 H7} I7 n7=>by
   obtain ⟨m',hm,w7⟩:=hN σ7 H7 n7
   refine ⟨m',hm,i+1,σ7,H7,I7.unpinned,T.keep _ _ _ st5 fun b hb o e=>(I7.pin (b,o) (KP _ (KP _ (Uv hb e)))).1,fun b hb=>?_,w7⟩
   obtain ⟨o,e,d⟩:=T.obj _ _ st5 b hb
   exact (I7.pin (b,o) (KP _ (KP _ (Uv hb e)))).2.1
  cases f with
  | next=>obtain ⟨σ7,H7,I7,n7⟩:=q7;exact again I7 n7
  | cont=>obtain ⟨σ7,H7,I7,n7⟩:=q7;exact again I7 n7
  | brk=>obtain ⟨σ7,H7,I7,q7⟩:=q7;exact ⟨σ7,H7,I7.unpinned,q7⟩
  | ret v=>obtain ⟨x7,σ7,H7,I7,r7,q7⟩:=q7;exact ⟨x7,σ7,H7,I7.unpinned,r7,q7⟩
end
theorem JD {K:PySem.W.Frag}{a:Addr}{xs:List V}{g:TG}{tb:TS}{D:Ends} {σ:St}{H:Hp} (Pv:Nat->St->Hp->Prop) (h0:Pv 0 σ H) (hl:∀i σ H,i<=xs.length->Pv i σ H->Zr K H a xs)
  (hs:∀i x σ H,xs[i]? = some x->Pv i σ H->g x σ H fun σ2 H2=>tb { D with nx:=Pv (i+1),ct:=Pv (i+1),bk:=D.nx } σ2 H2) (hd:∀ σ H,Pv xs.length σ H->D.nx σ H):
  ∃W:Nat->Nat->St->Hp->Prop,(∃m,W 0 m σ H) /\ ∀i m σ H,W i m σ H ->
   ((Itl K a).stop i H/\D.nx σ H)∨((Itl K a).go i H /\ ∃N:St->Hp->Prop,(∀ σ' H',N σ' H' -> ∃m',m'<m/\W (i+1) m' σ' H') /\ ∀x H',(Itl K a).yld i H x H'->g x σ H' fun σ2 H2=>tb { D with nx:=N,ct:=N,bk:=D.nx } σ2 H2):=by
 refine ⟨fun i m σ H=>m=xs.length-i/\i<=xs.length/\Pv i σ H,⟨xs.length,by simp,Km _,h0⟩,?_⟩
 rintro i m σ H ⟨rfl,hi,p⟩
 have q:=hl i σ H hi p
 by_cases hlt:i<xs.length
 ·refine .inr ⟨⟨xs,xs[i],q,by simp [hlt]⟩,Pv (i+1),fun σ' H' p'=>⟨xs.length-(i+1),by lia,rfl,hlt,p'⟩,fun x H' y=>?_⟩
  obtain ⟨e,y⟩:=y
  subst e
  exact hs i x σ _ (y xs q) p
 ·have e:i=xs.length:=by lia
  subst e
  exact .inl ⟨⟨xs,q,ki _⟩,hd σ H p⟩
theorem Jt {lo:Int}{n:Nat}{g:TG}{tb:TS}{D:Ends} {σ:St}{H:Hp} (Pv:Nat->St->Hp->Prop) (h0:Pv 0 σ H)
  (hs:∀i σ H,i<n->Pv i σ H->g (.int (lo+i)) σ H fun σ2 H2=>tb { D with nx:=Pv (i+1),ct:=Pv (i+1),bk:=D.nx } σ2 H2) (hd:∀ σ H,Pv n σ H->D.nx σ H):
  ∃W:Nat->Nat->St->Hp->Prop,(∃m,W 0 m σ H) /\ ∀i m σ H,W i m σ H ->
   ((Itr lo n).stop i H/\D.nx σ H)∨((Itr lo n).go i H /\ ∃N:St->Hp->Prop,(∀ σ' H',N σ' H' -> ∃m',m'<m/\W (i+1) m' σ' H') /\ ∀x H',(Itr lo n).yld i H x H'->g x σ H' fun σ2 H2=>tb { D with nx:=N,ct:=N,bk:=D.nx } σ2 H2):=by
 refine ⟨fun i m σ H=>m=n-i/\i<=n/\Pv i σ H,⟨n,by simp,Km _,h0⟩,?_⟩
 rintro i m σ H ⟨rfl,hi,p⟩
 by_cases hlt:i<n
 ·refine .inr ⟨hlt,Pv (i+1),fun σ' H' p'=>⟨n-(i+1),by lia,rfl,hlt,p'⟩,fun x H' y=>?_⟩
  obtain ⟨e,y⟩:=y
  subst e y
  exact hs i σ _ hlt p
 ·have e:i=n:=by lia
  subst e
  exact .inl ⟨ki _,hd σ H p⟩
theorem ZkX {c:TT}{tb:TS}{D:Ends} {σ:St}{H:Hp} (Pv:St->Hp->Prop) (μ:St->Hp->Nat) (h0:Pv σ H)
  (hs:∀ σ H,Pv σ H->c σ H fun b H1=>if b=true then tb { D with nx:=fun σ' H'=>Pv σ' H' /\ μ σ' H' < μ σ H,ct:=fun σ' H'=>Pv σ' H' /\ μ σ' H' < μ σ H,bk:=D.nx } σ H1 else D.nx σ H1)
  (mono:∀ σ H Q Q',(∀b H1,Q b H1->Q' b H1)->c σ H Q->c σ H Q'):Zjy c tb D σ H:=by
 refine ⟨fun m σ H=>m = μ σ H/\Pv σ H,⟨_,rfl,h0⟩,?_⟩
 rintro m σ H ⟨rfl,p⟩
 refine mono σ H _ _ (fun b H1 q=>?_) (hs σ H p)
 cases b with
 | true=>exact ⟨_,fun σ' H' ⟨p',l⟩=>⟨_,l,rfl,p'⟩,q⟩
 | false=>exact q
abbrev R2:=V->V->Hp->VK->Prop
def UO (X:Cx) (f:Value->Value->Sem Value) (r:R2):Prop:=
 ∀(pins:List (Addr×Obj)) (s:Shared) (σ:St) (H:Hp) (x y:V) (v u:Value) (Q:VK),Inv X pins σ H s->RelV x v->RelV y u->r x y H Q ->
  wpAny (model X.prog X.w) X.A (f v u) (EP X pins σ Q) X.xe s
def UnR (X:Cx) (f:Value->Sem Value) (r:V->Hp->VK->Prop):Prop:=
 ∀(pins:List (Addr×Obj)) (s:Shared) (σ:St) (H:Hp) (x:V) (v:Value) (Q:VK),Inv X pins σ H s->RelV x v->r x H Q ->
  wpAny (model X.prog X.w) X.A (f v) (EP X pins σ Q) X.xe s
def YU (X:Cx) (f:Value) (r:List V->Hp->VK->Prop):Prop:=
 ∀(pins:List (Addr×Obj)) (s:Shared) (σ:St) (H:Hp) (xs:List V) (us:List Value) (Q:VK),Inv X pins σ H s->Vals xs us->r xs H Q ->
  wpAny (model X.prog X.w) X.A (call f us) (EP X pins σ Q) X.xe s
def Zo8 (X:Cx) (r:V->Hp->(Bool->Hp->Prop)->Prop):Prop:=
 ∀(pins:List (Addr×Obj)) (s:Shared) (σ:St) (H:Hp) (x:V) (v:Value) (Q:Bool->Hp->Prop),Inv X pins σ H s->RelV x v->r x H Q ->
  wpAny (model X.prog X.w) X.A (truthy v) (TP X pins σ Q) X.xe s
def tOp (r:R2) (ta tb:TE):TE:=fun σ H Q=>ta σ H fun x H1=>tb σ H1 fun y H2=>r x y H2 Q
def tUn (r:V->Hp->VK->Prop) (ta:TE):TE:=fun σ H Q=>ta σ H fun x H1=>r x H1 Q
def rI (C:Int->Int->Prop) (g:Int->Int->V):R2:=fun x y H Q=>∃i j,x = .int i/\y = .int j/\C i j/\Q (g i j) H
def rI0 (g:Int->Int->V):R2:=fun x y H Q=>∃i j,x = .int i/\y = .int j/\Q (g i j) H
def rU (g:Int->V):V->Hp->VK->Prop:=fun x H Q=>∃i,x = .int i/\Q (g i) H
section
variable {X:Cx}{a b c:Expr}{ta tb tc:TE}{pos:Pos}
theorem Zny (ha:PE X a ta) (hb:PE X b tb) {pins:List (Addr×Obj)}{s:Shared} {σ:St}{H:Hp}{R:V->V->Hp->Prop} (I:Inv X pins σ H s)
  (h:ta σ H fun x H1=>tb σ H1 fun y H2=>R x y H2) {Q:Value->Shared->Prop}{f:Value->Value->Sem Value}
  (hf:∀v u s2 x y H2,Inv X pins σ H2 s2->RelV x v->RelV y u->R x y H2->wpAny (model X.prog X.w) X.A (f v u) Q X.xe s2):
  wpAny (model X.prog X.w) X.A (eval a X.env) (fun v s₁=>wpAny (model X.prog X.w) X.A (eval b X.env) (fun u s₂=>wpAny (model X.prog X.w) X.A (f v u) Q X.xe s₂) X.xe s₁) X.xe s:=by
 refine YG (ha pins s σ H _ I h) fun v s1 ⟨x,H1,I1,r1,q1⟩=>?_
 refine YG (hb pins s1 σ H1 _ I1 q1) fun u s2 ⟨y,H2,I2,r2,q2⟩=>?_
 exact hf v u s2 x y H2 I2 r1 r2 q2
theorem Zl {op:Operator}{r:R2} (ho:UO X (binaryOp op) r) (ha:PE X a ta) (hb:PE X b tb):PE X (.BinOp a op b pos) (tOp r ta tb):=by
 intro pins s σ H Q I h
 exact wpAny_BinOp (Zny ha hb I h fun v u s2 x y H2 I2 rx ry q=>ho pins s2 σ H2 x y v u Q I2 rx ry q)
theorem Zcj {op:UnaryOp}{r:V->Hp->VK->Prop} (ho:UnR X (unaryOp op) r) (ha:PE X a ta):PE X (.UnaryOp op a pos) (tUn r ta):=by
 intro pins s σ H Q I h
 exact UnaryOp_ (YG (ha pins s σ H _ I h) fun v s1 ⟨x,H1,I1,r1,q1⟩=>ho pins s1 σ H1 x v Q I1 r1 q1)
theorem opI {f:Value->Value->Sem Value}{C:Int->Int->Prop}{g:Int->Int->Int}
  (rule:∀(i j:Int) (t u:Tok) (s:Shared) (Q:Value->Shared->Prop) (E:Value->Shared->Prop),C i j->Q (.int (g i j) s.toks) { s with toks:=s.toks+1 } -> wpAny (model X.prog X.w) X.A (f (.int i t) (.int j u)) Q E s):
  UO X f (rI C fun i j=>.int (g i j)):=by
 intro pins s σ H x y v u Q I rx ry h
 obtain ⟨i,j,rfl,rfl,hc,q⟩:=h
 obtain ⟨t,rfl⟩:=rx
 obtain ⟨t',rfl⟩:=ry
 exact rule i j t t' s _ _ hc ⟨.int (g i j),H,I.tok _,⟨_,rfl⟩,q⟩
theorem Zlh {f:Value->Value->Sem Value}{g:Int->Int->Int}
  (rule:∀(i j:Int) (t u:Tok) (s:Shared) (Q:Value->Shared->Prop) (E:Value->Shared->Prop),Q (.int (g i j) s.toks) { s with toks:=s.toks+1 } -> wpAny (model X.prog X.w) X.A (f (.int i t) (.int j u)) Q E s):
  UO X f (rI0 fun i j=>.int (g i j)):=by
 intro pins s σ H x y v u Q I rx ry h
 obtain ⟨i,j,rfl,rfl,q⟩:=h
 obtain ⟨t,rfl⟩:=rx
 obtain ⟨t',rfl⟩:=ry
 exact rule i j t t' s _ _ ⟨.int (g i j),H,I.tok _,⟨_,rfl⟩,q⟩
theorem ZmW {f:Value->Value->Sem Value}{g:Int->Int->Bool}
  (rule:∀(i j:Int) (t u:Tok) (s:Shared) (Q:Value->Shared->Prop) (E:Value->Shared->Prop),Q (.bool (g i j)) s->wpAny (model X.prog X.w) X.A (f (.int i t) (.int j u)) Q E s):
  UO X f (rI0 fun i j=>.bl (g i j)):=by
 intro pins s σ H x y v u Q I rx ry h
 obtain ⟨i,j,rfl,rfl,q⟩:=h
 obtain ⟨t,rfl⟩:=rx
 obtain ⟨t',rfl⟩:=ry
 exact rule i j t t' s _ _ ⟨.bl (g i j),H,I,rfl,q⟩
def Zo5 (i j:Int):Prop:=0<j/\j<1073741824
def Zpi (i j:Int):Prop:=0<=j/\j<=1000000/\i.natAbs<2 ^ 64
def ZnE (i j:Int):Prop:=(-(2 ^ 64)<i/\i<2 ^ 64)∨(-(2 ^ 64)<j/\j<2 ^ 64)
theorem ZnE.ok {i j:Int} (h:ZnE i j):IntMulOk i j:=by
 rcases h with ⟨h1,h2⟩ | ⟨h1,h2⟩
 ·exact .of_left (intBits_le_64 h1 h2)
 ·exact .of_right (intBits_le_64 h1 h2)
theorem ZA:UO X (binaryOp .Add) (rI0 fun i j=>.int (i+j)):=Zlh fun _ _ _ _ _ _ _ q=>add_int q
theorem YT:UO X (binaryOp .Sub) (rI0 fun i j=>.int (i-j)):=Zlh fun _ _ _ _ _ _ _ q=>sub_int q
theorem WD:UO X (binaryOp .Mult) (rI ZnE fun i j=>.int (i*j)):=opI fun _ _ _ _ _ _ _ hc q=>mul_int q hc.ok
theorem ZbC:UO X (binaryOp .FloorDiv) (rI Zo5 fun i j=>.int (i / j)):=opI fun i j _ _ _ _ _ hc q=>by
 have h1:(0:Int)<j:=hc.1
 have h2:j<1073741824:=hc.2
 exact floordiv_int (by lia) (by rw [Int.fdiv_eq_ediv_of_nonneg i (by lia)];exact q) (.inl (NF (by lia)))
theorem Gg:UO X (binaryOp .Mod) (rI (fun _ j=>0<j) fun i j=>.int (i % j)):=opI fun i j _ _ _ _ _ hc q=>by
 have h1:(0:Int)<j:=hc
 exact mod_int' (by lia) (by rw [Int.fmod_eq_emod_of_nonneg i (by lia)];exact q)
theorem ZgN:UO X (binaryOp .Pow) (rI Zpi fun i j=>.int (i ^ j.toNat)):=opI fun _ _ _ _ _ _ _ hc q=>pow_int_small hc.1 hc.2.1 hc.2.2 q
theorem ZmZ:UO X (binaryOp .BitAnd) (rI0 fun i j=>.int (Builtin.bitAnd i j)):=Zlh fun _ _ _ _ _ _ _ q=>and_int q
theorem Znc:UO X (binaryOp .BitXor) (rI0 fun i j=>.int (Builtin.bitXor i j)):=Zlh fun _ _ _ _ _ _ _ q=>xor_int q
theorem unI {f:Value->Sem Value}{g:Int->Int}
  (rule:∀(i:Int) (t:Tok) (s:Shared) (Q:Value->Shared->Prop) (E:Value->Shared->Prop),Q (.int (g i) s.toks) { s with toks:=s.toks+1 } -> wpAny (model X.prog X.w) X.A (f (.int i t)) Q E s):
  UnR X f (rU fun i=>.int (g i)):=by
 intro pins s σ H x v Q I rx h
 obtain ⟨i,rfl,q⟩:=h
 obtain ⟨t,rfl⟩:=rx
 exact rule i t s _ _ ⟨.int (g i),H,I.tok _,⟨_,rfl⟩,q⟩
theorem US:UnR X (unaryOp .USub) (rU fun i=>.int (-i)):=unI fun _ _ _ _ _ q=>neg_int q
end
def ZoD:V->V->Bool
 | .non,.non=>true | .non,.int _=>true | .int _,.non=>true | .non,.bl _=>true | .bl _,.non=>true | .non,.str _=>true | .str _,.non=>true
 | .int _,.int _=>true | .bl _,.bl _=>true | .str _,.str _=>true | .byt _,.byt _=>true
 | .int _,.str _=>true | .str _,.int _=>true | .bl _,.str _=>true | .str _,.bl _=>true
 | _,_=>false
def rEq:R2:=fun x y H Q=>ZoD x y=true/\Q (.bl (decide (x=y))) H
def rNe:R2:=fun x y H Q=>ZoD x y=true/\Q (.bl (!decide (x=y))) H
theorem Zhz {i j:Int}:decide (V.int i=V.int j)=(i==j):=by
 rw [qH]
 simp
theorem Zj5 {i j:Bool}:decide (V.bl i=V.bl j)=(i==j):=by
 rw [qH]
 simp
theorem Zic {i j:Str}:decide (V.str i=V.str j)=(i==j):=by
 rw [qH]
 simp
theorem Zid {i j:Array UInt8}:decide (V.byt i=V.byt j)=(i.toList==j.toList):=by
 rw [qH]
 cases i
 cases j
 simp
section
variable {X:Cx}{a b c:Expr}{ta tb tc:TE}{pos:Pos}
theorem Z8 {pins:List (Addr×Obj)} {σ:St}{H:Hp}{s:Shared}{Q:VK}{k k':Bool} (I:Inv X pins σ H s) (q:Q (.bl k) H) (e:k=k'):EP X pins σ Q (.bool k') s:=by
 subst e
 exact ⟨.bl k,H,I,rfl,q⟩
theorem Yp:UO X (compareOp .Eq) rEq:=by
 intro pins s σ H x y v u Q I rx ry h
 obtain ⟨hs,q⟩:=h
 cases x with
 | non=>
  cases rx
  cases y with
  | non=>cases ry;exact PySem.EqNone.eq_none_none (Z8 I q (by simp))
  | bl j=>cases ry;exact PySem.EqNone.eq_none_bool (Z8 I q (by simp))
  | int j=>obtain ⟨t',rfl⟩:=ry;exact PySem.EqNone.eq_none_int (Z8 I q (by simp))
  | str j=>obtain ⟨t',rfl⟩:=ry;exact PySem.EqNone.eq_none_str (Z8 I q (by simp))
  | _=>exact absurd (show false=true from hs) kO
 | bl i=>
  cases rx
  cases y with
  | non=>cases ry;exact PySem.EqNone.eq_bool_none (Z8 I q (by simp))
  | bl j=>cases ry;exact eq_bool (Z8 I q Zj5)
  | str j=>obtain ⟨t',rfl⟩:=ry;exact PySem.EqMixed.eq_bool_str (Z8 I q (by simp))
  | _=>exact absurd (show false=true from hs) kO
 | int i=>
  obtain ⟨t,rfl⟩:=rx
  cases y with
  | non=>cases ry;exact PySem.EqNone.eq_int_none (Z8 I q (by simp))
  | int j=>obtain ⟨t',rfl⟩:=ry;exact eq_int (Z8 I q Zhz)
  | str j=>obtain ⟨t',rfl⟩:=ry;exact PySem.EqMixed.eq_int_str (Z8 I q (by simp))
  | _=>exact absurd (show false=true from hs) kO
 | str i=>
  obtain ⟨t,rfl⟩:=rx
  cases y with
  | non=>cases ry;exact PySem.EqNone.eq_str_none (Z8 I q (by simp))
  | bl j=>cases ry;exact PySem.EqMixed.eq_str_bool (Z8 I q (by simp))
  | int j=>obtain ⟨t',rfl⟩:=ry;exact PySem.EqMixed.eq_str_int (Z8 I q (by simp))
  | str j=>obtain ⟨t',rfl⟩:=ry;exact eq_str (Z8 I q Zic)
  | _=>exact absurd (show false=true from hs) kO
 | byt i=>
  obtain ⟨t,rfl⟩:=rx
  cases y with
  | byt j=>obtain ⟨t',rfl⟩:=ry;exact PySem.W.eq_bytes (Z8 I q Zid)
  | _=>exact absurd (show false=true from hs) kO
 | _=>cases y<;>exact absurd (show false=true from hs) kO
theorem Zeo:UO X (compareOp .NotEq) rNe:=by
 intro pins s σ H x y v u Q I rx ry h
 obtain ⟨hs,q⟩:=h
 cases x with
 | non=>
  cases rx
  cases y with
  | non=>cases ry;exact PySem.EqNone.ne_none_none (Z8 I q (by simp))
  | bl j=>cases ry;exact PySem.EqNone.ne_none_bool (Z8 I q (by simp))
  | int j=>obtain ⟨t',rfl⟩:=ry;exact PySem.EqNone.ne_none_int (Z8 I q (by simp))
  | str j=>obtain ⟨t',rfl⟩:=ry;exact PySem.EqNone.ne_none_str (Z8 I q (by simp))
  | _=>exact absurd (show false=true from hs) kO
 | bl i=>
  cases rx
  cases y with
  | non=>cases ry;exact PySem.EqNone.ne_bool_none (Z8 I q (by simp))
  | bl j=>cases ry;exact ne_bool (Z8 I q (Ks not Zj5))
  | str j=>obtain ⟨t',rfl⟩:=ry;exact PySem.EqMixed.ne_bool_str (Z8 I q (by simp))
  | _=>exact absurd (show false=true from hs) kO
 | int i=>
  obtain ⟨t,rfl⟩:=rx
  cases y with
  | non=>cases ry;exact PySem.EqNone.ne_int_none (Z8 I q (by simp))
  | int j=>obtain ⟨t',rfl⟩:=ry;exact ne_int (Z8 I q (Ks not Zhz))
  | str j=>obtain ⟨t',rfl⟩:=ry;exact PySem.EqMixed.ne_int_str (Z8 I q (by simp))
  | _=>exact absurd (show false=true from hs) kO
 | str i=>
  obtain ⟨t,rfl⟩:=rx
  cases y with
  | non=>cases ry;exact PySem.EqNone.ne_str_none (Z8 I q (by simp))
  | bl j=>cases ry;exact PySem.EqMixed.ne_str_bool (Z8 I q (by simp))
  | int j=>obtain ⟨t',rfl⟩:=ry;exact PySem.EqMixed.ne_str_int (Z8 I q (by simp))
  | str j=>obtain ⟨t',rfl⟩:=ry;exact ne_str (Z8 I q (Ks not Zic))
  | _=>exact absurd (show false=true from hs) kO
 | byt i=>
  obtain ⟨t,rfl⟩:=rx
  cases y with
  | byt j=>obtain ⟨t',rfl⟩:=ry;exact PySem.W.ne_bytes (Z8 I q (Ks not Zid))
  | _=>exact absurd (show false=true from hs) kO
 | _=>cases y<;>exact absurd (show false=true from hs) kO
theorem Gm:UO X (compareOp .Lt) (rI0 fun i j=>.bl (decide (i<j))):=ZmW fun _ _ _ _ _ _ _ q=>lt_int q
theorem Zbj:UO X (compareOp .Gt) (rI0 fun i j=>.bl (decide (j<i))):=ZmW fun _ _ _ _ _ _ _ q=>gt_int q
theorem Zk1:UO X (compareOp .GtE) (rI0 fun i j=>.bl (decide (j<=i))):=ZmW fun _ _ _ _ _ _ _ q=>ge_int q
theorem ZnJ:UO X (compareOp .Is) (fun x y H Q=>y = .non/\Q (.bl (decide (x = .non))) H):=by
 intro pins s σ H x y v u Q I rx ry h
 obtain ⟨rfl,q⟩:=h
 cases ry
 refine is_none_gen (Z8 I q ?_)
 cases x<;>first
  | (cases rx;rfl)
  | (obtain ⟨t,rfl⟩:=rx;rfl)
theorem Zio:UO X (compareOp .IsNot) (fun x y H Q=>y = .non/\Q (.bl (!decide (x = .non))) H):=by
 intro pins s σ H x y v u Q I rx ry h
 obtain ⟨rfl,q⟩:=h
 cases ry
 refine isnot_none_gen (Z8 I q ?_)
 cases x<;>first
  | (cases rx;rfl)
  | (obtain ⟨t,rfl⟩:=rx;rfl)
theorem Zs (b:Expr) {op:CmpOp} (h:op ≠ .In:=by decide) (h2:op ≠ .NotIn:=by decide):behindInMarks op b=false:=by
 have e1:(op==CmpOp.In)=false:=by cases op<;>first | rfl | exact absurd rfl h
 have e2:(op==CmpOp.NotIn)=false:=by cases op<;>first | rfl | exact absurd rfl h2
 cases b<;>simp [behindInMarks,e1,e2]
theorem YQ {op:CmpOp}{r:R2} (ho:UO X (compareOp op) r) (ha:PE X a ta) (hb:PE X b tb) (hm:behindInMarks op b=false):PE X (.Compare a [op] [b] pos) (tOp r ta tb):=by
 intro pins s σ H Q I h
 exact wpAny_Compare1 (Zny ha hb I h fun v u s2 x y H2 I2 rx ry q=>ho pins s2 σ H2 x y v u Q I2 rx ry q) hm
def Zms (t:TE):TT:=fun σ H Q=>t σ H fun x H'=>∃k,x = .bl k/\Q k H'
theorem Zt {op:CmpOp}{r:R2} (ho:UO X (compareOp op) r) (ha:PE X a ta) (hb:PE X b tb) (hm:behindInMarks op b=false):PT X (.Compare a [op] [b] pos) (Zms (tOp r ta tb)):=by
 intro pins s σ H Q I h
 refine wpAny_isTrue_Compare1 (YG (ha pins s σ H _ I h) fun v s1 ⟨x,H1,I1,r1,q1⟩=>YG (hb pins s1 σ H1 _ I1 q1) fun u s2 ⟨y,H2,I2,r2,q2⟩=>
  YG (ho pins s2 σ H2 x y v u _ I2 r1 r2 q2) fun c s3 ⟨z,H3,I3,r3,k,e,q3⟩=>?_) hm
 subst e
 cases r3
 exact KC ⟨H3,I3,q3⟩
def Zjn (r r':R2) (ta tb tc:TE):TE:=fun σ H Q=>ta σ H fun x H1=>tb σ H1 fun y H2=>r x y H2 fun z H3=>∃k,z = .bl k /\
 (if k=true then tc σ H3 fun w' H4=>r' y w' H4 Q else Q (.bl false) H3)
theorem ZjL {op op':CmpOp}{r r':R2} (ho:UO X (compareOp op) r) (ho':UO X (compareOp op') r') (ha:PE X a ta) (hb:PE X b tb) (hc:PE X c tc)
  (hm:lastMarks [op,op'] [b,c]=false:=by with_unfolding_all rfl):PE X (.Compare a [op,op'] [b,c] pos) (Zjn r r' ta tb tc):=by
 intro pins s σ H Q I h
 refine Compare_chain (YG (ha pins s σ H _ I h) fun v s1 ⟨x,H1,I1,r1,q1⟩=>chain_link (YG (hb pins s1 σ H1 _ I1 q1) fun u s2 ⟨y,H2,I2,r2,q2⟩=>
  YG (ho pins s2 σ H2 x y v u _ I2 r1 r2 q2) fun d s3 ⟨z,H3,I3,r3,k,e,q3⟩=>?_)) hm
 subst e
 cases r3
 refine KC ?_
 cases k with
 | false=>exact ite_ff ⟨.bl false,H3,I3,rfl,q3⟩
 | true=>exact ite_tt (chain_last (YG (hc pins s3 σ H3 _ I3 q3) fun w' s4 ⟨z',H4,I4,r4,q4⟩=>ho' pins s4 σ H4 y z' u w' Q I4 r2 r4 q4))
theorem Zjr {op op':CmpOp}{r r':R2} (ho:UO X (compareOp op) r) (ho':UO X (compareOp op') r') (ha:PE X a ta) (hb:PE X b tb) (hc:PE X c tc)
  (hm:lastMarks [op,op'] [b,c]=false:=by with_unfolding_all rfl):PT X (.Compare a [op,op'] [b,c] pos) (Zms (Zjn r r' ta tb tc)):=by
 intro pins s σ H Q I h
 refine isTrue_chain (YG (ha pins s σ H _ I h) fun v s1 ⟨x,H1,I1,r1,q1⟩=>test_link (YG (hb pins s1 σ H1 _ I1 q1) fun u s2 ⟨y,H2,I2,r2,q2⟩=>
  YG (ho pins s2 σ H2 x y v u _ I2 r1 r2 q2) fun d s3 ⟨z,H3,I3,r3,k,e,q3⟩=>?_)) hm
 subst e
 cases r3
 refine KC ?_
 cases k with
 | false=>
  obtain ⟨k',e',q'⟩:=q3
  cases e'
  exact ite_ff ⟨H3,I3,q'⟩
 | true=>
  refine ite_tt (test_last (YG (hc pins s3 σ H3 _ I3 q3) fun w' s4 ⟨z',H4,I4,r4,q4⟩=>YG (ho' pins s4 σ H4 y z' u w' _ I4 r2 r4 q4) fun d' s5 ⟨z2,H5,I5,r5,k2,e2,q5⟩=>?_))
  subst e2
  cases r5
  exact KC ⟨H5,I5,q5⟩
def Zn1 (K:PySem.W.Frag) (x:V) (H:Hp) (k:Bool):Prop:=
 match x with
 | .non=>k=false
 | .bl b=>k=b
 | .int i=>k=(i != 0)
 | .str y=>y.length<=sizeLine/\k=((y.length:Int) != 0)
 | .byt y=>y.size<=sizeLine/\k=((y.size:Int) != 0)
 | .ref p=>(∃xs,Zr K H p xs/\k = !xs.isEmpty)∨(∃xs,YX K H p xs/\k = !xs.isEmpty) ∨ ∃kvs,H p=some (.dK kvs)/\k = !kvs.isEmpty
 | _=>False
theorem Zhv {κ:Type}{kvs:List (κ × V)}{vs:List (κ × Value)} (r:KV kvs vs):(!vs.isEmpty) = !kvs.isEmpty:=by
 cases r<;>rfl
theorem Zc3 {xs:List V}{its:List Value} (r:Vals xs its):(!its.toArray.isEmpty) = !xs.isEmpty:=by
 cases r<;>simp
theorem Zdn:(sizeLine:Nat)<2 ^ 63:=by rw [Kg];decide
theorem Znr:Zo8 X (fun x H Q=>∃k,Zn1 X.K x H k/\Q k H):=by
 intro pins s σ H x v Q I rx h
 obtain ⟨k,e,q⟩:=h
 have hl:=Zdn
 have hs:sizeLine=16777216:=Kg
 cases x with
 | non=>
  cases rx
  have e':k=false:=e
  subst e'
  exact truthy_none ⟨H,I,q⟩
 | bl b=>
  cases rx
  have e':k=b:=e
  subst e'
  exact KC ⟨H,I,q⟩
 | int i=>
  obtain ⟨t,rfl⟩:=rx
  have e':k=(i != 0):=e
  subst e'
  exact PySem.P.truthy_int ⟨H,I,q⟩
 | str y=>
  obtain ⟨t,rfl⟩:=rx
  obtain ⟨hy,e'⟩:y.length<=sizeLine/\k=((y.length:Int) != 0):=e
  subst e'
  exact PySem.P.truthy_str (by lia) ⟨H,I.tok _,q⟩
 | byt y=>
  obtain ⟨t,rfl⟩:=rx
  obtain ⟨hy,e'⟩:y.size<=sizeLine/\k=((y.size:Int) != 0):=e
  subst e'
  exact PySem.W.truthy_bytes (by lia) ⟨H,I.tok _,q⟩
 | ref p=>
  cases rx
  have e':(∃xs,Zr X.K H p xs/\k = !xs.isEmpty)∨(∃xs,YX X.K H p xs/\k = !xs.isEmpty) ∨ ∃kvs,H p=some (.dK kvs)/\k = !kvs.isEmpty:=e
  rcases e' with ⟨xs,hx,e'⟩ | ⟨xs,hx,e'⟩ | ⟨kvs,hx,e'⟩
  ·subst e'
   obtain ⟨its,r,pl,hz⟩:=I.list hx
   have hlen:=r.length
   exact wpAny_truthy_list pl.isList (by simp only [kr];lia) ⟨H,I.tok _,by rw [Zc3 r];exact q⟩
  ·subst e'
   obtain ⟨its,r,pl,hz⟩:=I.tuple hx
   have hlen:=r.length
   exact truthy_tuple pl (by simp only [kr];lia) ⟨H,I.tok _,by rw [Zc3 r];exact q⟩
  ·subst e'
   obtain ⟨hz,hS,vs,r,m⟩:kvs.length<=sizeLine/\(p==sysModules)=false /\ ∃vs,KV kvs vs/\s.heap.DictOf (ZT X.prog X.w) p vs:=I.hok p _ hx
   have hlen:kvs.length=vs.length:=qM r
   exact wpAny_truthy_dict hS m (by lia) ⟨H,I.tok _,by rw [Zhv r];exact q⟩
 | _=>exact (show False from e).elim
theorem ZkE (ha:PE X a ta) (he:∀whole,isTrue a X.env whole=(do let v <- whole;standAt a.pos;holding [v] (truthy v))):
  PT X a (fun σ H Q=>ta σ H fun x H'=>∃k,Zn1 X.K x H' k/\Q k H'):=by
 intro pins s σ H Q I h
 exact isTrue_plain (YG (ha pins s σ H _ I h) fun v s1 ⟨x,H1,I1,r1,q1⟩=>Znr pins s1 σ H1 x v Q I1 r1 q1) (he _)
theorem vals1 {x:V}{us:List Value} (r:Vals [x] us):∃u,us = [u]/\RelV x u:=by
 cases r with
 | cons r1 r2=>cases r2;exact ⟨_,rfl,r1⟩
theorem vals2 {x y:V}{us:List Value} (r:Vals [x,y] us):∃u w',us = [u,w']/\RelV x u/\RelV y w':=by
 cases r with
 | cons r1 r2=>
  cases r2 with
  | cons r3 r4=>cases r4;exact ⟨_,_,rfl,r1,r3⟩
theorem Zbk:YU X (.builtin "abs") (fun xs H Q=>∃i,xs = [.int i]/\Q (.int (if i<0 then -i else i)) H):=by
 intro pins s σ H xs us Q I r h
 obtain ⟨i,rfl,q⟩:=h
 obtain ⟨u,rfl,t,rfl⟩:=vals1 r
 exact call_abs_int fun u tk=>⟨.int (if i<0 then -i else i),H,I.tok _,⟨_,rfl⟩,q⟩
theorem W6 (hc:X.calm=true):YU X (.builtin "max") (fun xs H Q=>∃i j,xs = [.int i,.int j]/\Q (.int (if j>i then j else i)) H):=by
 intro pins s σ H xs us Q I r h
 obtain ⟨i,j,rfl,q⟩:=h
 obtain ⟨u,w',rfl,⟨t,rfl⟩,⟨t',rfl⟩⟩:=vals2 r
 refine max_two_ints (I.ok.hd hc) fun h' tk k=>⟨_,H,I.kept k,?_,q⟩
 by_cases hj:j>i
 ·rw [kh hj,kh hj];exact ⟨_,rfl⟩
 ·rw [kg hj,kg hj];exact ⟨_,rfl⟩
theorem Zaz (hc:X.calm=true):YU X (.builtin "min") (fun xs H Q=>∃i j,xs = [.int i,.int j]/\Q (.int (if j<i then j else i)) H):=by
 intro pins s σ H xs us Q I r h
 obtain ⟨i,j,rfl,q⟩:=h
 obtain ⟨u,w',rfl,⟨t,rfl⟩,⟨t',rfl⟩⟩:=vals2 r
 refine min_two_ints (I.ok.hd hc) fun h' tk k=>⟨_,H,I.kept k,?_,q⟩
 by_cases hj:j<i
 ·rw [kh hj,kh hj];exact ⟨_,rfl⟩
 ·rw [kg hj,kg hj];exact ⟨_,rfl⟩
theorem ZaA:YU X (.type "int") (fun xs H Q=>(∃i,xs = [.int i]/\Q (.int i) H) ∨ ∃k,xs = [.bl k]/\Q (.int (if k then 1 else 0)) H):=by
 intro pins s σ H xs us Q I r h
 rcases h with ⟨i,rfl,q⟩ | ⟨k,rfl,q⟩
 ·obtain ⟨u,rfl,t,rfl⟩:=vals1 r
  exact call_int_int ⟨.int i,H,I,⟨_,rfl⟩,q⟩
 ·obtain ⟨u,rfl,r1⟩:=vals1 r
  cases r1
  exact call_int_bool ⟨.int (if k then 1 else 0),H,I.tok _,⟨_,rfl⟩,q⟩
end
structure ZmP (h:Heap) (x dx C:Addr) (mA:Str->Option Value):Prop where
 obj:h.get? x=some (PySem.W.instObj C dx)
 ns:h.Ns1 dx mA
 ne:dx≠x
theorem ZiF {h:Heap}{dx:Addr}{mA:Str->Option Value} (n:h.Ns1 dx mA):∃od,h.get? dx=some od /\ ∀name,PySem.W.lookIn name od=some (mA name):=by
 obtain ⟨o,es,ep,ho,hd,hk,_,hm⟩:=n
 refine ⟨o,ho,fun name=>?_⟩
 have e:=hm name
 unfold nsFind findBy at e
 rw [<- Array.find?_toList] at e
 unfold PySem.W.lookIn
 rw [hd]
 dsimp only
 split
 ·rename_i y q
  rw [q] at e
  exact Ks some e
 ·rename_i q
  rw [q] at e
  have a:es.toList.any (·.refKey)=false:=by
   rw [List.any_eq_false]
   intro y hy
   obtain ⟨z,t,hkey⟩:=hk y (Array.mem_toList_iff.mp hy)
   simp [DictEntry.refKey,hkey]
  have a':¬es.toList.any (·.refKey)=true:=by rw [a];exact kO
  rw [kg a']
  exact Ks some e
theorem ZmP.look {h:Heap}{x dx C:Addr}{mA:Str->Option Value} (I:ZmP h x dx C mA):∃od,PySem.W.InstAt h x (PySem.W.instObj C dx) C (some od) /\ ∀name,PySem.W.lookIn name od=some (mA name):=
 let ⟨od,ho,hl⟩:=ZiF I.ns
 ⟨od,⟨I.obj,rfl,rfl,ho⟩,hl⟩
theorem ZbQ.some_of {v:V}{o:Option Value} (r:ZbQ (some v) o):∃u,o=some u/\RelV v u:=by
 cases o with
 | none=>exact (show False from r).elim
 | some u=>exact ⟨u,rfl,r⟩
section
variable {P:Program}{w:World}{H H':Hp}{h h':Heap}{a C dx:Addr}{fs fs':List (Str×V)}
theorem ZlR (hok:GB P w H h) (e:H a=some (.ins C dx fs)):∃mA,ZmP h a dx C mA/\(∀f,ZbQ (fs.lookup f) (mA f))/\PySem.Within mA (fs.map (·.1))/\fs.length<=1000/\H dx=some (.own a):=by
 obtain ⟨d,z,ne,ob,mA,n,r,q⟩:=(show Yc P w H h a (.ins C dx fs) from hok a _ e)
 exact ⟨mA,⟨ob,n,ne⟩,r,q,z,d⟩
end
structure Cls (K:PySem.W.Frag) (C:Addr):Prop where
 pg:PySem.W.plainGet K C Str.empty=true
 hd:PySem.W.hasDictIn K C=true
 po:PySem.W.plainOver K C=true
 sa:PySem.W.findIn K (.ref C) "__setattr__" = some (some (.builtin "object.__setattr__"))
theorem Cls.get {K:PySem.W.Frag}{C:Addr} (c:Cls K C) (f:Str):PySem.W.plainGet K C f=true:=c.pg
section
variable {X:Cx}{pins:List (Addr×Obj)} {σ:St}{H:Hp}{s:Shared}{A:Around}{E:Value->Shared->Prop}{Q:Value->Shared->Prop}{c:Value}{b:Bool}
inductive ZbG (K:PySem.W.Frag) (H:Hp):V->Value->Prop where
 | non:ZbG K H .non (.type "NoneType")
 | bl (x:Bool):ZbG K H (.bl x) (.type "bool")
 | int (i:Int):ZbG K H (.int i) (.type "int")
 | str (x:Str):ZbG K H (.str x) (.type "str")
 | flt (x:UInt64):ZbG K H (.flt x) (.type "float")
 | lst {a:Addr}{xs:List V} (e:H a=some (.lst xs)):ZbG K H (.ref a) (.type "list")
 | frz {a:Addr}{o:Obj}{xs:List V} (e:H a=some (.frz o (.lst xs))):ZbG K H (.ref a) (.type "list")
 | tup {a:Addr}{xs:List V} (e:H a=some (.tup xs)):ZbG K H (.ref a) (.type "tuple")
 | dK {a:Addr}{kvs:List (Key×V)} (e:H a=some (.dK kvs)):ZbG K H (.ref a) (.type "dict")
 | dT {a:Addr}{kvs:List (List Key×V)} (e:H a=some (.dT kvs)):ZbG K H (.ref a) (.type "dict")
 | ins {a C dx:Addr}{fs:List (Str×V)} (e:H a=some (.ins C dx fs)) (cl:Cls K C) (ha:PySem.W.findIn K (.ref C) "__class__" = some (some (.builtin "object.__class__")))
   (hn:PySem.W.specialIn K (.builtin "object.__class__") "__get__" = some (some (.builtin "getset_descriptor.__get__"))) (htk:PySem.W.takesIn K (.builtin "object.__class__")=some true)
   (hm:PySem.W.mroIn K C (.type "object")=some true):ZbG K H (.ref a) (.ref C)
theorem ZiP {x:V}{u t:Value} (I:Inv X pins σ H s) (rx:RelV x u) (ty:ZbG X.K H x t) (e:PySem.W.kitOne X.K t c=some b) (h:∀tk,Q (.bool b) { s with toks:=tk }):
  wpAny (model X.prog X.w) A (call (.builtin "isinstance") [u,c]) Q E s:=by
 cases ty with
 | non=>cases (show u=Value.none from rx);exact qg PySem.W.kitx_none I.kIn True.intro e (fun z=>nomatch z) h
 | bl y=>cases (show u=Value.bool y from rx);exact qg PySem.W.kitx_bool I.kIn True.intro e (fun z=>nomatch z) h
 | int i=>obtain ⟨t,q⟩:=(show ∃t,u=Value.int i t from rx);cases q;exact qg PySem.W.kitx_int I.kIn True.intro e (fun z=>nomatch z) h
 | str y=>obtain ⟨t,q⟩:=(show ∃t,u=Value.str y t from rx);cases q;exact qg PySem.W.kitx_str I.kIn True.intro e (fun z=>nomatch z) h
 | flt y=>obtain ⟨t,q⟩:=(show ∃t,u=Value.float y t from rx);cases q;exact qg PySem.W.kitx_float I.kIn True.intro e (fun z=>nomatch z) h
 | @lst a xs ea=>
  cases (show u=Value.ref a from rx)
  obtain ⟨_,_,n,_,h1⟩:=(show Yc X.prog X.w H s.heap a (.lst xs) from I.hok a _ ea)
  exact qg PySem.W.kitx_list I.kIn ⟨_,h1,rfl⟩ e (fun z=>nomatch z) h
 | @frz a ob xs ea=>
  cases (show u=Value.ref a from rx)
  obtain ⟨_,_,_,n,_,h1⟩:=(show Yc X.prog X.w H s.heap a (.frz ob (.lst xs)) from I.hok a _ ea)
  exact qg PySem.W.kitx_list I.kIn ⟨_,h1,rfl⟩ e (fun z=>nomatch z) h
 | @tup a xs ea=>
  cases (show u=Value.ref a from rx)
  obtain ⟨_,_,_,p⟩:=(show Yc X.prog X.w H s.heap a (.tup xs) from I.hok a _ ea)
  obtain ⟨o,h1,h2,_⟩:=p
  exact qg PySem.W.kitx_tuple I.kIn ⟨o,h1,h2⟩ e (fun z=>nomatch z) h
 | @dK a kvs ea=>
  cases (show u=Value.ref a from rx)
  obtain ⟨_,_,vs,_,p⟩:=(show Yc X.prog X.w H s.heap a (.dK kvs) from I.hok a _ ea)
  obtain ⟨o,es,ep,h1,h2,_⟩:=p
  exact qg PySem.W.kitx_dict I.kIn ⟨o,h1,h2.1⟩ e (fun z=>nomatch z) h
 | @dT a kvs ea=>
  cases (show u=Value.ref a from rx)
  obtain ⟨_,_,xs,_,o,es,ep,h1,h2,_⟩:=(show Yc X.prog X.w H s.heap a (.dT kvs) from I.hok a _ ea)
  exact qg PySem.W.kitx_dict I.kIn ⟨o,h1,h2.1⟩ e (fun z=>nomatch z) h
 | @ins a C dx fs ea cl ha hn htk hm=>
  cases (show u=Value.ref a from rx)
  obtain ⟨mA,O,_⟩:=ZlR I.hok ea
  obtain ⟨od,J,_⟩:=O.look
  exact qg (PySem.W.kitx_own (cl.get _) cl.hd ha hn htk hm) I.kIn J e (fun z=>nomatch z) h
end
structure GH (k:Nat) (A:Around):Prop where
 hd:A.handled=none
 dp:A.depth+3*k+5<recursionLimit
 un:A.units+16*k+200<cLine
theorem GH.mono {j k:Nat}{A:Around} (r:GH k A) (h:j<=k):GH j A:=⟨r.hd,by have:=r.dp;lia,by have:=r.un;lia⟩
theorem GH.deeper {k:Nat}{A:Around} (r:GH (k+1) A) (env:Env):GH k (A.deeper env):=
 ⟨r.hd,by have:=r.dp;show A.depth+1+3*k+5<_;lia,by have:=r.un;show A.units+3+16*k+200<_;lia⟩
theorem GH.depth {k:Nat}{A:Around} (r:GH k A):A.depth<recursionLimit:=by have:=r.dp;lia
theorem GH.units {k:Nat}{A:Around} (r:GH k A):A.units+64<cLine:=by have:=r.un;lia
def Zbm:TA:=fun _ H Q=>Q [] H
def U6 (ta:TE) (tr:TA):TA:=fun σ H Q=>ta σ H fun x H1=>tr σ H1 fun xs H2=>Q (x::xs) H2
section
variable {X:Cx}{e:Expr}{es:List Expr}{te:TE}{t:TA}{pos:Pos}
theorem Zb:PA X [] Zbm:=fun _ _ _ _ H Q I h=>XS ⟨[],H,I,.nil,h⟩
theorem Za (ha:PE X e te) (hr:PA X es t) (hs:starEach (e::es) X.env=(false,eval e X.env)::starEach es X.env:=by rfl):PA X (e::es) (U6 te t):=by
 intro pos pins s σ H Q I h
 rw [hs]
 show wpAny _ _ (spliced ((false,eval e X.env)::backTo pos (starEach es X.env))) _ _ s
 refine Xl (YG (ha pins s σ H _ I h) fun u s1 ⟨x,H1,I1,r1,q1⟩=>?_)
 exact YG (hr pos pins s1 σ H1 _ I1 q1) fun us s2 ⟨xs,H2,I2,r2,q2⟩=>⟨x::xs,H2,I2,.cons r1 r2,q2⟩
def ZkP (t:TA):TE:=fun σ H Q=>t σ H fun xs H1=>xs.length<=sizeLine /\ ∀p,H1 p=none->Q (.ref p) (upd H1 p (.tup xs))
def Zk2 (t:TA):TE:=fun σ H Q=>t σ H fun xs H1=>xs.length<=sizeLine /\ ∀p,H1 p=none->Q (.ref p) (upd H1 p (.lst xs))
theorem ZH {x1} (h:PA X es t):PE X (.Tuple es x1 pos) (ZkP t):=by
 intro pins s σ H Q I hq
 refine wpAny_Tuple_spliced (YG (h pos pins s σ H _ I hq) fun us s1 ⟨xs,H1,I1,r,z,q⟩=>⟨by rw [<- r.length];exact z,?_⟩)
 have hf:H1 s1.heap.objs.size=none:=I1.hok.fresh (ki _)
 refine ⟨.ref s1.heap.objs.size,upd H1 s1.heap.objs.size (.tup xs),I1.laid (t':=s1.toks) (fun b u e=>km _ e) (ki _) ?_,rfl,q _ hf⟩
 exact ⟨z,us,r,⟨_,Ki _ rfl,rfl,_,rfl⟩⟩
theorem ZD (h:PA X es t):PE X (.List es pos) (Zk2 t):=by
 intro pins s σ H Q I hq
 refine wpAny_List_spliced (YG (h pos pins s σ H _ I hq) fun us s1 ⟨xs,H1,I1,r,z,q⟩=>⟨by rw [<- r.length];exact z,?_⟩)
 have hf:H1 s1.heap.objs.size=none:=I1.hok.fresh (ki _)
 refine ⟨.ref s1.heap.objs.size,upd H1 s1.heap.objs.size (.lst xs),I1.laid (t':=s1.toks) (fun b u e=>km _ e) (ki _) ?_,rfl,q _ hf⟩
 exact ⟨z,us,0,r,Ki _ rfl⟩
end
abbrev Sp:=List V->Hp->VK->XK->Prop
abbrev CXT:=List Env->Hp->Shared->XK->Value->Shared->Prop
structure Zmd (P:Program) (w:World) (K:PySem.W.Frag) (mg:Str->Option Value) (base:Heap) (A:Around) (outer:List Env) (s:Shared) (H:Hp):Prop where
 frames:A.frames=some outer
 mod:Mod K mg base
 bs:∀b o,base.get? b=some o->s.heap.get? b=some o/\H b=none
 bsz:base.objs.size<=s.heap.objs.size
 funs:s.heap.FunFrames base outer
 frf:∀b∈frs outer,H b=none
 hok:GB P w H s.heap
 bare:AllBare s.gens
def CE (outer:List Env) (P:Program) (w:World) (H:Hp) (s:Shared) (Q:VK) (u:Value) (s':Shared):Prop:=
 ∃v H',s'.os=s.os/\AllBare s'.gens/\Un (frs outer) [] H H' s.heap s'.heap/\GB P w H' s'.heap/\RelV v u/\Q v H'
def CR (CX:CXT) (outer:List Env) (P:Program) (w:World) (H:Hp) (s:Shared) (Q:VK) (E:XK) (r:Result) (s':Shared):Prop:=
 match r with
 | .ok (.ret u)=>CE outer P w H s Q u s'
 | .ok _=>False
 | .error e=>CX outer H s E e s'
structure Yf (P:Program) (w:World) (K:PySem.W.Frag) (mg:Str->Option Value) (base:Heap) (CX:CXT) (k:Nat) (f:Addr) (fd:FuncData) (ps:List Str) (sp:Sp):Prop where
 len:∀vs H Q E,sp vs H Q E->vs.length=ps.length
 run:∀(A:Around) (outer:List Env) (s:Shared) (H:Hp) (args:Args) (us:List Value) (vs:List V) (Q:VK) (E:XK),GH k A->Zmd P w K mg base A outer s H->BindsTo s fd args (ps.zip us)->Vals vs us->sp vs H Q E ->
  codeAny (model P w) A (.call (.ref f) args) (CR CX outer P w H s Q E) s
section
variable {X:Cx}{pins:List (Addr×Obj)} {σ:St}{H:Hp}{s s':Shared}
theorem Inv.env0 (I:Inv X pins σ H s):Zmd X.prog X.w X.K X.mg X.base X.A X.stack s H:=
 ⟨I.ok.frames,I.ok.mod,I.bs,k9 I.ok.bsz I.sz,I.stack,I.stkFree,I.hok,I.bare⟩
theorem Inv.after {Q:VK}{u:Value} (I:Inv X pins σ H s) (h:CE X.stack X.prog X.w H s Q u s'):EP X pins σ Q u s':=by
 obtain ⟨v,H',os,bare,un,hok,r,q⟩:=h
 obtain ⟨hh,g,d,t,os'⟩:=s'
 obtain rfl:os'=s.os:=os
 exact ⟨v,H',I.call (h':=hh) (g':=g) (d':=d) (t':=t) (ch:=[]) un hok bare (fun b z=>absurd z (by simp)),r,q⟩
end
def ZfR (sp:Sp) (dvs:List V) (E:XK) (t:TA):TE:=fun σ H Q=>t σ H fun vs H1=>sp (vs++dvs) H1 Q E
def Binds (K:PySem.W.Frag) (fd:FuncData) (ps:List Str) (ds:List Value):Prop:=
 ∀(s:Shared) (us:List Value),K.In s.heap->(us++ds).length=ps.length->BindsTo s fd ⟨us,[]⟩ (ps.zip (us++ds))
theorem Binds.all {K:PySem.W.Frag}{fd:FuncData}{ps:List Str} (h:∀us:List Value,us.length=ps.length->bindArgs fd ⟨us,[]⟩=pure (ps.zip us)):Binds K fd ps []:=fun s us _ hl=>by
 rw [qh] at hl ⊢
 exact .of_eq (h us hl)
def Passes (CX:CXT) (X:Cx) (E:XK):Prop:=∀(pins:List (Addr×Obj)) (σ:St) (H:Hp) (s:Shared) (e:Value) (s':Shared),Inv X pins σ H s->CX X.stack H s E e s'->X.xe e s'
section
variable {X:Cx}{CX:CXT}{k:Nat}{f C:Addr}{fd:FuncData}{ps:List Str}{sp:Sp}{dvs:List V}{ds:List Value}{E:XK}{x m:Str}{p pos apos:Pos}{e o:Expr}{es:List Expr}{ta:TE}{t:TA}
theorem ZmM {pins:List (Addr×Obj)} {σ:St}{H:Hp}{s:Shared}{Q:VK}{us:List Value}{vs:List V} (F:Yf X.prog X.w X.K X.mg X.base CX k f fd ps sp) (hr:GH k X.A) (hb:Binds X.K fd ps ds) (hd:Vals dvs ds) (hx:Passes CX X E)
  (I:Inv X pins σ H s) (r:Vals vs us) (h:sp (vs++dvs) H Q E):wpAny (model X.prog X.w) X.A (call (.ref f) us) (EP X pins σ Q) X.xe s:=by
 have r2:Vals (vs++dvs) (us++ds):=r.append hd
 have hl:(us++ds).length=ps.length:=by rw [<- r2.length];exact F.len _ _ _ _ h
 refine wpAny_call (codeAny_mono (F.run X.A X.stack s H ⟨us,[]⟩ (us++ds) (vs++dvs) Q E hr I.env0 (hb s us I.kIn hl) r2 h) fun r s' hq=>?_)
 cases r with
 | error e=>exact hx pins σ H s e s' I hq
 | ok fl=>
  cases fl with
  | ret u=>exact I.after hq
  | next=>exact False.elim hq
  | brk=>exact False.elim hq
  | cont=>exact False.elim hq
theorem ZhH (F:Yf X.prog X.w X.K X.mg X.base CX k f fd ps sp) (hr:GH k X.A) (hg:Gl X x) (hm:X.mg x=some (.ref f)) (hk:PySem.W.keepIn X.K (.ref f)=true) (hb:Binds X.K fd ps ds) (hd:Vals dvs ds) (hx:Passes CX X E)
  (ha:PA X (e::es) t) (hdb:(x==("__debug__" : Str))=false:=by decide) (he:starEach (e::es) X.env=(false,eval e X.env)::starEach es X.env:=by rfl) (hpl:(backTo pos (starEach es X.env)).any (·.1)=false:=by rfl):
  PE X (.Call (.Name x p) (e::es) [] pos) (ZfR sp dvs E t):=by
 intro pins s σ H Q I h
 refine XH (ZhP I hg hm ?_ hdb)
 refine PySem.W.callWith_K (h₀:=X.base) I.ok.mod.kin hk (YG (ha pos pins s σ H _ I h) fun us s1 ⟨vs,H1,I1,r,q⟩=>⟨I1.kIn,?_⟩) he hpl
 exact ZmM F hr hb hd hx I1 r q
end
structure Zy (N P:List Str) (sc:Scope):Prop where
 kind:sc.kind = .function:=by rfl
 co:sc.isCoroutine=false:=by rfl
 gen:sc.isGenerator=false:=by rfl
 nd:N.Nodup:=by decide +kernel
 pre:N.take P.length=P:=by rfl
 par:∀x∈P,sc.names.lookup x=some .local∨sc.names.lookup x=some .cell:=by decide +kernel
 nofree:∀y∈sc.names,y.2 ≠ .free:=by decide +kernel
theorem ZeI {kindOf:Str->Option NameKind}{x:Str}:∀{binds:List (Str×Value)}{m:Str->Option Value},(∀v,(x,v)∉binds)->bindL kindOf binds m x=m x
 | [],_,_=>rfl
 | (n,v)::r,m,h=>by
  unfold bindL
  rw [ZeI fun w hw=>h w (kQ _ hw)]
  split
  ·have:x≠n:=by rintro rfl;exact h v kK
   simp [this]
  ·rfl
theorem Zey {kindOf:Str->Option NameKind}{x:Str}:∀{binds:List (Str×Value)}{m:Str->Option Value},(∀v,(x,v)∉binds)->bindC kindOf binds m x=m x
 | [],_,_=>rfl
 | (n,v)::r,m,h=>by
  unfold bindC
  rw [Zey fun w hw=>h w (kQ _ hw)]
  split
  ·rfl
  ·have:x≠n:=by rintro rfl;exact h v kK
   simp [this]
theorem Zen {kindOf:Str->Option NameKind}{x:Str}{v:Value}:∀{P:List Str}{vs:List Value}{i:Nat}{m:Str->Option Value},P.Nodup->P[i]? = some x->vs[i]? = some v->kindOf x=some .local ->
  bindL kindOf (P.zip vs) m x=some v
 | [],_,_,_,_,h,_,_=>by simp at h
 | _::_,[],_,_,_,_,h,_=>by simp at h
 | p::P,w::vs,0,m,nd,h1,h2,hk=>by
  simp at h1 h2;subst h1;subst h2
  show bindL kindOf ((p,w)::P.zip vs) m p=_
  unfold bindL
  rw [ZeI fun v hv=>(Kx.mp nd).1 (NV hv).1,kh hk]
  simp
 | p::P,w::vs,i+1,m,nd,h1,h2,hk=>by
  show bindL kindOf ((p,w)::P.zip vs) m x=_
  unfold bindL
  exact Zen (i:=i) (Kx.mp nd).2 (by simpa using h1) (by simpa using h2) hk
theorem ZeA {kindOf:Str->Option NameKind}{x:Str}{v:Value}:∀{P:List Str}{vs:List Value}{i:Nat}{m:Str->Option Value},P.Nodup->P[i]? = some x->vs[i]? = some v->kindOf x≠some .local ->
  bindC kindOf (P.zip vs) m x=some v
 | [],_,_,_,_,h,_,_=>by simp at h
 | _::_,[],_,_,_,_,h,_=>by simp at h
 | p::P,w::vs,0,m,nd,h1,h2,hk=>by
  simp at h1 h2;subst h1;subst h2
  show bindC kindOf ((p,w)::P.zip vs) m p=_
  unfold bindC
  rw [Zey fun v hv=>(Kx.mp nd).1 (NV hv).1,kg hk]
  simp
 | p::P,w::vs,i+1,m,nd,h1,h2,hk=>by
  show bindC kindOf ((p,w)::P.zip vs) m x=_
  unfold bindC
  exact ZeA (i:=i) (Kx.mp nd).2 (by simpa using h1) (by simpa using h2) hk
def start (N:List Str) (vs:List V):St:=vs.map some++List.replicate (N.length-vs.length) none
def WZ (CX:CXT) (P:Program) (w:World) (K:PySem.W.Frag) (mg:Str->Option Value) (base:Heap) (N:List Str) (qual:Str) (scope:Scope) (f:Addr) (cd:Value) (A:Around) (outer:List Env) (s:Shared) (H:Hp) (E:XK):Cx where
 prog:=P
 w:=w
 K:=K
 mg:=mg
 base:=base
 A:=A.deeper (envOfC qual scope s.heap.objs.size f cd)
 N:=N
 s₀:=s
 H₀:=H
 env:=envOfC qual scope s.heap.objs.size f cd
 outer:=outer
 stack:=envOfC qual scope s.heap.objs.size f cd::outer
 ex:=[]
 calm:=true
 fn:=fun _=>true
 pn:=[]
 xe:=fun e s'=>wpAny (model P w) (A.deeper (envOfC qual scope s.heap.objs.size f cd)) (leaving (envOfC qual scope s.heap.objs.size f cd) e) (fun _ s''=>CX outer H s E e s'') (fun e' s''=>CX outer H s E e' s'') s'
theorem Zf8 {sc:Scope}{n:Nat}{x:Str} (h:sc.names.lookup x=some .cell):∃c,(cellsFrom n sc.names []).lookup x=some c:=by
 have q:=NG sc.names n [] (.inl h)
 exact T9.mp q
theorem ZiU {CX:CXT}{P:Program}{w:World}{K:PySem.W.Frag}{mg:Str->Option Value}{base:Heap}{N ps:List Str}{qual:Str}{scope:Scope}{f:Addr}{cd:Value}{A:Around}{outer:List Env}{s s1:Shared}{H:Hp}{E:XK}{us:List Value}{vs:List V}
  (S:Zy N ps scope) (hd:A.handled=none) (e0:Zmd P w K mg base A outer s H) (hl:vs.length=ps.length) (r:Vals vs us)
  (x:InCallC s s.heap.objs.size (bindL (envOfC qual scope s.heap.objs.size f cd).kindOf (ps.zip us) fun _=>none) (cellsFrom (s.heap.objs.size+1) scope.names []) (bindC (envOfC qual scope s.heap.objs.size f cd).kindOf (ps.zip us) fun _=>none) s1):
  Inv (WZ CX P w K mg base N qual scope f cd A outer s H E) [] (start N vs) H s1:=by
 have hpl:ps.length<=N.length:=by have:=Ks List.length S.pre;rw [kM] at this;lia
 obtain ⟨h1,tk,rfl,hk⟩:=x.done
 have noA:∀b:Addr,b∉(WZ CX P w K mg base N qual scope f cd A outer s H E).ex:=fun b z=>absurd (show b∈([]:List Addr) from z) (by simp)
 refine ⟨⟨e0.mod,S.kind,rfl,rfl,ki _,fun y z c h1 h2=>?_,fun y hy=>?_,fun y c _ h=>?_,fun _=>hd,Around.frames_deeper e0.frames,.inr ⟨rfl,rfl⟩,fun b z=>absurd z (noA b),e0.bs,e0.bsz,fun b _ _=>noA b,fun b z=>absurd z (noA b),e0.funs,e0.frf⟩,
  rfl,e0.bare,Un.kept hk,⟨_,x.toInCall.ns,fun i y v h1 h2 h3=>?_⟩,fun y c h=>⟨_,x.cell y c h⟩,e0.hok.fresh (ki _),fun y c h=>?_,fun p hp=>absurd (show p∈([]:List (Addr×Obj)) from hp) (by simp),e0.hok.kept hk,?_⟩
 ·exact name_of_addr x.apart (qy h1) (qy h2)
 ·have hy:scope.names.lookup y=some .cell∨scope.names.lookup y=some .free:=hy
  rcases hy with hy | hy
  ·exact Zf8 hy
  ·exact absurd rfl (S.nofree _ (qy hy))
 ·exact Kt (x.above y c (qy h))
 ·have hi:i<vs.length:=by
   unfold start at h2
   by_cases hi:i<vs.length
   ·exact hi
   ·rw [KO (by simpa using hi)] at h2
    rw [Np] at h2
    split at h2<;>cases h2
  have ha:vs[i]? = some v:=by
   unfold start at h2
   rw [qj (by simpa using hi),kz] at h2
   cases e:vs[i]? with
   | none=>rw [e] at h2;cases h2
   | some a=>rw [e] at h2;cases h2;rfl
  obtain ⟨u,hu,rv⟩:=r.get ha
  have hp:ps[i]? = some y:=by
   rw [<- S.pre,List.getElem?_take_of_lt (by lia)];exact h1
  have ndP:ps.Nodup:=by rw [<- S.pre];exact S.nd.sublist (List.take_sublist _ _)
  refine ⟨u,rv,?_⟩
  rcases S.par y (kY hp) with k | k
  ·exact .inl ⟨k,Zen ndP hp hu k⟩
  ·obtain ⟨c,e⟩:=Zf8 (n:=s.heap.objs.size+1) k
   refine .inr ⟨.inl k,c,e,?_⟩
   have q:=x.cell y c e
   rw [ZeA ndP hp hu (by show scope.names.lookup y≠_;rw [k];decide)] at q
   exact q
 ·exact e0.hok.fresh (Kt (x.above y c (qy h)))
 ·unfold start
  show _=N.length
  rw [kj,ke,KA]
  lia
theorem Zmr {CX:CXT}{P:Program}{w:World}{K:PySem.W.Frag}{mg:Str->Option Value}{base:Heap}{k:Nat}{f:Addr}{name qual:Str}{params:Arguments}{body:List Stmt}{scope:Scope}{dV kV doc pm cdv ct oc:Value}{an od:Option Addr}
  {osl:Array (Option Value)}{N ps:List Str}{sp:Sp} (lk:K.lookup f=some ⟨oc,od,.func (PySem.W.fnOf name qual params body scope dV kV doc pm an cdv ct),osl⟩) (hcd:PySem.W.codeIn K cdv qual=true) (S:Zy N ps scope)
  (len:∀vs H Q E,sp vs H Q E->vs.length=ps.length)
  (hbody:∀(A:Around) (outer:List Env) (s:Shared) (H:Hp) (vs:List V) (Q:VK) (E:XK),GH k (A.deeper (envOfC qual scope s.heap.objs.size f cdv))->sp vs H Q E ->
   ∃t,PSs (WZ CX P w K mg base N qual scope f cdv A outer s H E) body t/\t { nx:=fun _ H'=>Q .non H',rt:=Q } (start N vs) H):
  Yf P w K mg base CX (k+1) f (PySem.W.fnOf name qual params body scope dV kV doc pm an cdv ct) ps sp:=by
 refine ⟨len,fun A outer s H args us vs Q E hr e0 hb r hsp=>?_⟩
 have hl:=len _ _ _ _ hsp
 have KX:K.In s.heap:=e0.mod.kin.keeps fun b o e=>(e0.bs b o e).1
 have lim:s.heap.NoLimit:=e0.mod.nolimit.keeps fun b o e=>(e0.bs b o e).1
 have hkind:∀y∈ps.zip us,scope.names.lookup y.1=some .local∨(scope.names.lookup y.1=some .cell/\((cellsFrom (s.heap.objs.size+1) scope.names []).lookup y.1).isSome=true):=fun ⟨n,v⟩ hy=>by
  rcases S.par n (NV hy).1 with q | q
  ·exact .inl q
  ·exact .inr ⟨q,NG _ _ _ (.inl q)⟩
 refine codeAny_call_function hr.depth (KX _ _ lk) rfl S.co S.gen rfl (PySem.W.codeRec_of KX hcd) (hb _ _ _ _ ?_)
 refine wpAny_newFunctionEnv_cells S.kind hkind fun env he s1 x=>?_
 subst he
 refine ⟨lim.keeps x.toInCall.keep,codeAny_func ?_⟩
 obtain ⟨t,ht,hq⟩:=hbody A outer s H vs Q E (hr.deeper _) hsp
 have I:Inv (WZ CX P w K mg base N qual scope f cdv A outer s H E) [] (start N vs) H s1:=ZiU S hr.hd e0 hl r x
 refine KH (ht [] s1 (start N vs) H _ I hq) (fun fl s' hs=>?_) fun e s' hs=>hs
 have fin:∀{σ':St}{H':Hp}{v:V}{u:Value},Inv (WZ CX P w K mg base N qual scope f cdv A outer s H E) [] σ' H' s'->RelV v u->Q v H'->CE outer P w H s Q u s':=
  fun {σ' H' v u} J rv q=>⟨v,H',J.os,J.bare,J.base,J.hok,rv,q⟩
 cases fl with
 | ret u=>
  obtain ⟨v,σ',H',J,rv,q⟩:=hs
  exact fin J rv q
 | next=>
  obtain ⟨σ',H',J,q⟩:=hs
  exact fin (v:=V.non) (u:=Value.none) J rfl q
 | brk=>
  obtain ⟨_,_,_,q⟩:=hs
  exact False.elim q
 | cont=>
  obtain ⟨_,_,_,q⟩:=hs
  exact False.elim q
section
variable {X:Cx}{x:Str}{p pos:Pos}{e:Expr}{es:List Expr}{t:TA}{id T:String}{r:List V->Hp->VK->Prop}
def tCB (r:List V->Hp->VK->Prop) (t:TA):TE:=fun σ H Q=>t σ H fun vs H1=>r vs H1 Q
theorem Zx (hc:YU X (.builtin id) r) (hg:Gl X x) (hm:X.mg x=none) (hv:bootBuiltins x=some (.builtin id)) (ha:PA X (e::es) t) (hn:x ≠ "__name__" := by decide) (hdb:(x==("__debug__" : Str))=false:=by decide)
  (he:starEach (e::es) X.env=(false,eval e X.env)::starEach es X.env:=by rfl) (hpl:(backTo pos (starEach es X.env)).any (·.1)=false:=by rfl):PE X (.Call (.Name x p) (e::es) [] pos) (tCB r t):=by
 intro pins s σ H Q I h
 refine XH (Up I hg hm hv ?_ hn hdb)
 exact PyProof.Rows.callWith_builtin1 (YG (ha pos pins s σ H _ I h) fun us s1 ⟨vs,H1,I1,r1,q1⟩=>hc pins s1 σ H1 vs us Q I1 r1 q1) he hpl
theorem Yr (hc:YU X (.type T) r) (hg:Gl X x) (hm:X.mg x=none) (hv:bootBuiltins x=some (.type T)) (ha:PA X (e::es) t) (hn:x ≠ "__name__" := by decide) (hdb:(x==("__debug__" : Str))=false:=by decide)
  (he:starEach (e::es) X.env=(false,eval e X.env)::starEach es X.env:=by rfl) (hpl:(backTo pos (starEach es X.env)).any (·.1)=false:=by rfl):PE X (.Call (.Name x p) (e::es) [] pos) (tCB r t):=by
 intro pins s σ H Q I h
 refine XH (Up I hg hm hv ?_ hn hdb)
 exact KS (YG (ha pos pins s σ H _ I h) fun us s1 ⟨vs,H1,I1,r1,q1⟩=>hc pins s1 σ H1 vs us Q I1 r1 q1) he hpl
end
end L2
namespace HT
open PySem PyProof.Rows
section
open PySem.SeqAt
open PySem.AutoSeq1 (wpAny_loadPart')
open PySem.MeetsSeq PySem.MeetsSeq2 PySem.MeetsSeq3
end
section
variable {prog:Program}{w:World}{A:Around}{E:Value->Shared->Prop}{s:Shared}
theorem Zls {t b:Addr}{vs ws:List Value}{Q:Value->Shared->Prop} (ht:IsTup s.heap t vs.toArray) (hb:IsTup s.heap b ws.toArray) (hv:vs ≠ [])
  (h1:ws = []->Q (.ref t) s) (h2:ws ≠ []->Q (.ref s.heap.objs.size) { s with heap:=s.heap.push { cls:=.type "tuple", data:=.seq (vs++ws).toArray } })
  (hsz:vs.length+ws.length<=sizeLine):wpAny (model prog w) A (binaryOp .Add (.ref t) (.ref b)) Q E s:=by
 obtain ⟨⟨cls,dd,data,sl⟩,ho,hc,n,hd⟩:=id ht
 obtain ⟨⟨cls2,dd2,data2,sl2⟩,ho2,hc2,n2,hd2⟩:=id hb
 simp only at hc hd hc2 hd2
 subst hc hd hc2 hd2
 have e:vs.toArray++ws.toArray=(vs++ws).toArray:=by simp
 by_cases hw:ws = []
 ·exact concat_meets ⟨_,ho,rfl⟩ ⟨_,ho2,rfl⟩ Nq Ms XT XN (XF _ _)
   (tuple_addW1 t b vs.toArray ws.toArray n n2 dd dd2 sl sl2 (by simpa using hv) (by simp [hw])) ⟨ho,ho2,h1 hw⟩
 ·refine concat_meets ⟨_,ho,rfl⟩ ⟨_,ho2,rfl⟩ Nq Ms XT XN (XF _ _)
   (tuple_addW2 t b vs.toArray ws.toArray n n2 dd dd2 sl sl2 (by simpa using hv) (by simpa using hw) (by rw [kr,kr];exact hsz)) ⟨ho,ho2,?_⟩
  rw [e]
  exact h2 hw
def Jq (n d:Nat):Option Int->Nat
 | none=>d
 | some v=>if v<0 then (v+(n:Int)).toNat else min v.toNat n
theorem Zbz (n d:Nat):Jq n d none=d:=rfl
theorem Zax (n d k:Nat):Jq n d (some (k:Int))=min k n:=by
 show (if (k:Int)<0 then ((k:Int)+(n:Int)).toNat else min (k:Int).toNat n)=min k n
 rw [kg (by lia),kI]
theorem ZnI (n d:Nat) (hd:d<=n) (o:Option Int):Jq n d o<=n:=by
 cases o with
 | none=>exact hd
 | some v=>
  show (if v<0 then (v+(n:Int)).toNat else min v.toNat n)<=n
  by_cases hv:v<0
  ·rw [kh hv];lia
  ·rw [kg hv];exact Nat.min_le_right _ _
theorem Zie (v:Int) (n d:Nat):(if v<0 then max (v+(n:Int)) 0 else min v (n:Int))=((Jq n d (some v):Nat):Int):=by
 show (if v<0 then max (v+(n:Int)) 0 else min v (n:Int))=(((if v<0 then (v+(n:Int)).toNat else min v.toNat n):Nat):Int)
 by_cases hv:v<0
 ·simp only [kh hv];lia
 ·simp only [kg hv];lia
theorem ZgH (lo hi:Option Int) (n:Nat):Builtin.Slice.sliceAdjust lo hi 1 (n:Int)=(((Jq n 0 lo:Nat):Int),((Jq n n hi:Nat):Int)):=by
 have h1:¬((1:Int)<0):=by lia
 unfold Builtin.Slice.sliceAdjust
 simp only [h1,Xp]
 refine Prod.ext ?_ ?_
 ·cases lo with
  | none=>rfl
  | some v=>exact Zie v n 0
 ·cases hi with
  | none=>rfl
  | some v=>exact Zie v n n
theorem Zhd (i j:Nat):Builtin.Slice.slicePlaces (i:Int) (j:Int) 1=j-i:=by
 unfold Builtin.Slice.slicePlaces
 have h1:(1:Int)>0:=by lia
 simp only [h1,XU,Int.ediv_one]
 split<;>lia
theorem Zc0 {v:Value}{o:Option Int}{Q:Option Int->Shared->Prop} (p:IsPart v o) (h:Q o s):wpAny (model prog w) A (Builtin.Slice.slicePartIndex v) Q E s:=by
 cases p with
 | none=>exact slicePart_none h
 | int i t=>exact slicePart_int h
theorem GQ {sl:Addr}{vl vu:Value}{lo hi:Option Int}{n:Nat}{Q:Int×Int×Nat->Shared->Prop} (hs:s.heap.IsSliceOf sl vl vu .none) (pl:IsPart vl lo) (pu:IsPart vu hi)
  (h:Q (((Jq n 0 lo:Nat):Int),1,Jq n n hi-Jq n 0 lo) s):wpAny (model prog w) A (Builtin.Slice.sliceApplied (.ref sl) (pure (n:Int))) Q E s:=by
 obtain ⟨os,hos,hcs,hds⟩:=id hs
 unfold Builtin.Slice.sliceApplied Builtin.Slice.sliceFields
 refine ka (ka (qd hos hds (x:=vl) rfl (ka (qd hos hds (x:=vu) rfl (ka (qd hos hds (x:=.none) rfl (ko ?_)))))))
 refine ka (slicePart_none ?_)
 show wpAny _ _ (if ((1:Int)==0)=true then _ else _) _ _ s
 rw [kg (by decide)]
 refine ka (Zc0 pl (ka (Zc0 pu (ka (ko ?_)))))
 show wpAny _ _ (match Builtin.Slice.sliceAdjust lo hi 1 (n:Int) with | (lo,hi)=>pure (lo,(1:Int),Builtin.Slice.slicePlaces lo hi 1)) _ _ s
 rw [ZgH lo hi n]
 show wpAny _ _ (pure (((Jq n 0 lo:Nat):Int),(1:Int),Builtin.Slice.slicePlaces ((Jq n 0 lo:Nat):Int) ((Jq n n hi:Nat):Int) 1)) _ _ s
 rw [Zhd]
 exact ko h
theorem Zjp (xs:Array Value) (i k:Nat):((List.range k).filterMap fun (m:Nat)=>xs[((i:Int)+(m:Int)*1).toNat]?).toArray=((xs.toList.drop i).take k).toArray:=by
 have e:(fun (m:Nat)=>xs[((i:Int)+(m:Int)*1).toNat]?)=fun m=>xs[i+m]?:=by
  funext m
  have:((i:Int)+(m:Int)*1).toNat=i+m:=by lia
  rw [this]
 rw [e]
 have:=pick_run xs i k
 rw [List.filterMap_map] at this
 have e2:((fun x=>xs[x]?) ∘ fun x=>i+x)=fun m=>xs[i+m]?:=rfl
 rw [e2] at this
 rw [this]
theorem ZbF {t sl:Addr}{items:Array Value}{vl vu:Value}{lo hi:Option Int}{Q:Value->Shared->Prop} (ht:IsTup s.heap t items) (hs:s.heap.IsSliceOf sl vl vu .none) (pl:IsPart vl lo) (pu:IsPart vu hi)
  (hw:¬(Jq items.size 0 lo=0/\Jq items.size items.size hi=items.size))
  (h:Q (.ref s.heap.objs.size) { s with heap:=s.heap.push { cls:=.type "tuple", data:=.seq ((items.toList.drop (Jq items.size 0 lo)).take (Jq items.size items.size hi-Jq items.size 0 lo)).toArray } })
  (hsz:items.size<=sizeLine):wpAny (model prog w) A (getItem (.ref t) (.ref sl)) Q E s:=by
 have htake:sizeOk (.seq ((items.toList.drop (Jq items.size 0 lo)).take (Jq items.size items.size hi-Jq items.size 0 lo)).toArray):=by
  show ((items.toList.drop (Jq items.size 0 lo)).take (Jq items.size items.size hi-Jq items.size 0 lo)).toArray.size<=sizeLine
  rw [kr,kM,KD,Kq]
  lia
 have hj:Jq items.size items.size hi<=items.size:=ZnI _ _ (ki _) hi
 obtain ⟨os,hos,hcs,hds⟩:=id hs
 have hTs:s.TypeIs (.ref sl) "slice" := ⟨os,hos,hcs⟩
 unfold getItem
 try with_reducible refine Kv ?_
 first | refine ka (ko ?_) | skip
 refine ka (T5 ht.typeIs (by decide) ?_)
 refine ka (qG (name:=Str.ofString "__getitem__") ht.typeIs KU
  (qb KU ht.typeIs entry_tuple_getitem ?_ (args_tuple_getitem _ _)))
 show wpAny _ _ (Builtin.Tuple.tupleItemsOf (.ref t) >>= _) _ _ s
 refine ka (tupleItemsOf_ ht ?_)
 refine ka (qr hTs ?_)
 rw [kh (by decide)]
 refine ka (GQ hs pl pu ?_)
 have hno:¬((((Jq items.size 0 lo:Nat):Int)==0&&(1:Int)==1&&(Jq items.size items.size hi-Jq items.size 0 lo)==items.size)=true):=by
  intro q
  rw [Kw,Kw] at q
  have q1:((Jq items.size 0 lo:Nat):Int)=0:=eq_of_beq q.1.1
  have q2:Jq items.size items.size hi-Jq items.size 0 lo=items.size:=eq_of_beq q.2
  exact hw ⟨by lia,by lia⟩
 show wpAny _ _ (if (((Jq items.size 0 lo:Nat):Int)==0&&(1:Int)==1&&(Jq items.size items.size hi-Jq items.size 0 lo)==items.size)=true then _ else _) _ _ s
 rw [kg hno,Zjp]
 first
  | exact ka (m:=Builtin.Tuple.tupleExact _) (qe (ko ⟨_,rfl,ko h⟩) htake)
  | exact ka (m:=Builtin.Tuple.tupleExact _) (qe (ka (ko (ko ⟨_,rfl,ko h⟩))) htake)
  | exact ka (ka (m:=Builtin.Tuple.tupleExact _) (qe (ko (ko ⟨_,rfl,ko h⟩)) htake))
  | exact ka (ka (m:=Builtin.Tuple.tupleExact _) (qe (ko ⟨_,rfl,ko h⟩) htake))
end
end HT
namespace L2
open PySem PySem.Spec PyProof.Rows
abbrev TO:=St->Hp->(Option Int->Hp->Prop)->Prop
def PO (X:Cx) (e:Option Expr) (t:TO):Prop:=
 ∀(pins:List (Addr×Obj)) (s:Shared) (σ:St) (H:Hp) (Q:Option Int->Hp->Prop),Inv X pins σ H s->t σ H Q ->
  wpAny (model X.prog X.w) X.A (evalPart e X.env) (fun u s'=>∃o H',Inv X pins σ H' s'/\IsPart u o/\Q o H') X.xe s
def Zao:TO:=fun _ H Q=>Q none H
def Zn5 (t:TE):TO:=fun σ H Q=>t σ H fun x H1=>∃i,x = .int i/\Q (some i) H1
section
variable {X:Cx}{e:Expr}{te:TE}{lo hi:Option Expr}{tl th:TO}{pos p2:Pos}
theorem Je:PO X none Zao:=by
 intro pins s σ H Q I h
 rw [Na]
 exact ko ⟨none,H,I,.none,h⟩
theorem Yb (h:PE X e te):PO X (some e) (Zn5 te):=by
 intro pins s σ H Q I hw
 rw [evalPart_some]
 refine YG (h pins s σ H _ I hw) fun u s1 ⟨x,H1,I1,r1,q1⟩=>?_
 obtain ⟨i,rfl,q⟩:=q1
 obtain ⟨t,rfl⟩:=r1
 exact ⟨some i,H1,I1,.int i t,q⟩
def SlR (X:Cx) (r:V->Option Int->Option Int->Hp->VK->Prop):Prop:=
 ∀(pins:List (Addr×Obj)) (s:Shared) (σ:St) (H:Hp) (x:V) (v vl vu:Value) (lo hi:Option Int) (sl:Addr) (Q:VK),Inv X pins σ H s->RelV x v->s.heap.IsSliceOf sl vl vu .none->IsPart vl lo->IsPart vu hi->r x lo hi H Q ->
  ∃T id,typeLookup (.type T) "__getitem__" = pure (some (.builtin id))/\s.TypeIs v T/\wpAny (model X.prog X.w) X.A (getItem v (.ref sl)) (EP X pins σ Q) X.xe s
def tSl (r:V->Option Int->Option Int->Hp->VK->Prop) (te:TE) (tl th:TO):TE:=fun σ H Q=>te σ H fun x H1=>tl σ H1 fun l H2=>th σ H2 fun u H3=>r x l u H3 Q
theorem Ym {r:V->Option Int->Option Int->Hp->VK->Prop} (hr:SlR X r) (he:PE X e te) (hl:PO X lo tl) (hu:PO X hi th):PE X (.Subscript e (.Slice lo hi none p2) pos) (tSl r te tl th):=by
 intro pins s σ H Q I h
 refine Subscript_ (YG (he pins s σ H _ I h) fun v s1 ⟨x,H1,I1,r1,q1⟩=>?_)
 refine wpAny_Slice (YG (hl pins s1 σ H1 _ I1 q1) fun vl s2 ⟨l,H2,I2,pl,q2⟩=>YG (hu pins s2 σ H2 _ I2 q2) fun vu s3 ⟨u,H3,I3,pu,q3⟩=>?_)
 rw [Na]
 refine ko ?_
 have I4:Inv X pins σ H3 { s3 with heap:=s3.heap.push { cls:=.type "slice", data:=.fields #[vl,vu,.none] } }:=I3.kept (t':=s3.toks) fun b ob q=>km _ q
 obtain ⟨T,id,hT,ht,hg⟩:=hr pins { s3 with heap:=s3.heap.push { cls:=.type "slice", data:=.fields #[vl,vu,.none] } } σ H3 x v vl vu l u s3.heap.objs.size Q I4 r1 (TK ..) pl pu q3
 show wpAny (model X.prog X.w) X.A (subscriptTail e (.Slice lo hi none p2) v (.ref s3.heap.objs.size)) (EP X pins σ Q) X.xe { s3 with heap:=s3.heap.push { cls:=.type "slice", data:=.fields #[vl,vu,.none] } }
 exact tail_any (ops:=[.ref s3.heap.objs.size,v]) ht hT hg (by with_unfolding_all rfl)
def WB (xs:List V) (lo hi:Option Int):List V:=(xs.drop (HT.Jq xs.length 0 lo)).take (HT.Jq xs.length xs.length hi-HT.Jq xs.length 0 lo)
theorem Zcn (xs:List V) (lo hi:Option Int):(WB xs lo hi).length<=xs.length:=by
 unfold WB
 rw [kM,KD]
 lia
def Zo2 (K:PySem.W.Frag):V->Option Int->Option Int->Hp->VK->Prop:=fun x lo hi H Q=>∃a xs,x = .ref a/\YX K H a xs /\
 ¬(HT.Jq xs.length 0 lo=0/\HT.Jq xs.length xs.length hi=xs.length) /\ ∀p,H p=none->Q (.ref p) (upd H p (.tup (WB xs lo hi)))
theorem Zna:SlR X (Zo2 X.K):=by
 intro pins s σ H x v vl vu lo hi sl Q I rx hs pl pu h
 obtain ⟨a,xs,rfl,hx,hw,q⟩:=h
 cases rx
 obtain ⟨its,r,ht,hz⟩:=I.tuple hx
 have hlen:its.toArray.size=xs.length:=by rw [kr];exact r.length.symm
 refine ⟨"tuple", _,KU.lookup,ht.typeIs,?_⟩
 refine HT.ZbF ht hs pl pu (by rw [hlen];exact hw) ?_ (by rw [hlen];exact hz)
 rw [hlen]
 refine ⟨.ref s.heap.objs.size,_,I.laid (t':=s.toks) (o:=.tup (WB xs lo hi)) (fun b ob q=>km _ q) (ki _) ?_,rfl,q _ (I.hok.fresh (ki _))⟩
 exact ⟨k9 (Zcn xs lo hi) hz,_,(r.drop (HT.Jq xs.length 0 lo)).take (HT.Jq xs.length xs.length hi-HT.Jq xs.length 0 lo),IsTup.new _ _⟩
end
def ixN (n:Nat) (i:Int):Option Nat:=if 0<=i then (if i<n then some i.toNat else none) else if -(n:Int)<=i then some (i+n).toNat else none
def atI {α:Type} (xs:List α) (i:Int):Option α:=(ixN xs.length i).bind fun j=>xs[j]?
theorem Zh1 {n:Nat}{i:Int}{j:Nat} (h:ixN n i=some j):seqIndex? i n=some j/\j<n /\ -(n:Int)<=i/\i<n:=by
 unfold ixN at h
 by_cases h0:0<=i
 ·rw [kh h0] at h
  by_cases h1:i<n
  ·rw [kh h1] at h
   have e:i.toNat=j:=kX h
   exact ⟨by rw [N8 h0 h1,e],by lia,by lia,h1⟩
  ·rw [kg h1] at h;cases h
 ·rw [kg h0] at h
  by_cases h1 : -(n:Int)<=i
  ·rw [kh h1] at h
   have e:(i+n).toNat=j:=kX h
   exact ⟨by rw [seqIndex_neg (by lia) h1,e],by lia,h1,by lia⟩
  ·rw [kg h1] at h;cases h
theorem Zig {α:Type}{xs:List α}{i:Int}{v:α} (h:atI xs i=some v):∃j,seqIndex? i xs.length=some j/\xs[j]? = some v/\j<xs.length /\ -(xs.length:Int)<=i/\i<xs.length:=by
 unfold atI at h
 cases e:ixN xs.length i with
 | none=>rw [e] at h;cases h
 | some j=>
  rw [e] at h
  obtain ⟨h1,h2,h3,h4⟩:=Zh1 e
  exact ⟨j,h1,h,h2,h3,h4⟩
theorem Zo {α:Type}{xs:List α}{j:Nat}{v:α} (h:xs[j]? = some v):atI xs (j:Int)=some v:=by
 have hj:j<xs.length:=(kC.mp h).1
 have e:ixN xs.length (j:Int)=some j:=by
  unfold ixN
  rw [kh (by lia),kh (by lia)];simp
 unfold atI;rw [e];exact h
theorem Zbx {α:Type} (xs:List α) (v:α):atI (xs ++ [v]) (-1)=some v:=by
 have hl:(xs ++ [v]).length=xs.length+1:=by simp
 have e:ixN (xs ++ [v]).length (-1)=some xs.length:=by
  unfold ixN
  rw [hl,kg (by decide),kh (by lia)]
  congr 1
  lia
 unfold atI
 rw [e]
 show (xs ++ [v])[xs.length]? = some v
 simp
def Zla (b:Expr):Prop:=∀o i,subscripted b false o i=operate [o,i] (getItem o i)
def IxR (X:Cx) (r:R2):Prop:=
 ∀(value slice:Expr) (pins:List (Addr×Obj)) (s:Shared) (σ:St) (H:Hp) (x y:V) (v u:Value) (Q:VK),Inv X pins σ H s->RelV x v->RelV y u->r x y H Q ->
  subscripted slice false v u=operate [v,u] (getItem v u)->wpAny (model X.prog X.w) X.A (subscriptTail value slice v u) (EP X pins σ Q) X.xe s
def MtR (X:Cx) (id:String) (r:V->List V->Hp->VK->Prop):Prop:=
 ∀(pins:List (Addr×Obj)) (s:Shared) (σ:St) (H:Hp) (x:V) (xs:List V) (v:Value) (us:List Value) (Q:VK),Inv X pins σ H s->RelV x v->Vals xs us->r x xs H Q ->
  wpAny (model X.prog X.w) X.A (call (.builtin id) (v::us)) (EP X pins σ Q) X.xe s
section
variable {X:Cx}{a b:Expr}{ta tb:TE}{pos:Pos}
theorem Zz {r:R2} (hr:IxR X r) (ha:PE X a ta) (hb:PE X b tb) (hs:Zla b):PE X (.Subscript a b pos) (tOp r ta tb):=by
 intro pins s σ H Q I h
 exact Subscript_ (Zny ha hb I h fun v u s2 x y H2 I2 rx ry q=>hr a b pins s2 σ H2 x y v u Q I2 rx ry q (hs _ _))
def Zoo (K:PySem.W.Frag):R2:=fun x y H Q=>∃p xs i v,x = .ref p/\y = .int i/\Zr K H p xs/\atI xs i=some v/\Q v H
def Zou (K:PySem.W.Frag):R2:=fun x y H Q=>∃p xs i v,x = .ref p/\y = .int i/\YX K H p xs/\atI xs i=some v/\Q v H
theorem Zlv:IxR X (Zoo X.K):=by
 intro value slice pins s σ H x y v u Q I rx ry h hs
 obtain ⟨p,xs,i,z,rfl,rfl,hq,he,q⟩:=h
 cases rx
 obtain ⟨t,rfl⟩:=ry
 obtain ⟨its,r,pl,hz⟩:=I.list hq
 obtain ⟨j,h1,h2,h3,h4,h5⟩:=Zig he
 obtain ⟨w,ew,rw'⟩:=r.get h2
 have hl:=r.length
 have hn:=Zdn
 have fin:EP X pins σ Q w s:=⟨z,H,I,rw',q⟩
 by_cases h0:0<=i
 ·have hj:i.toNat=j:=by
   rw [N8 h0 h5] at h1
   exact kX h1
  exact item_listR pl.isList h0 (by lia) (by rw [hj];simpa using ew) fin hs
 ·have hj:(i+(its.toArray.size:Int)).toNat=j:=by
   rw [seqIndex_neg (by lia) h4] at h1
   rw [kr,<- hl]
   exact kX h1
  exact subscriptTail_builtinR (x:=w) pl.isList.typeIs slot_list_getitem.lookup
   (wpAny_getItem_list_neg (Q:=fun r s'=>r=w/\EP X pins σ Q r s') pl.isList (by lia) (by rw [kr]<;>lia) (by lia) (by rw [hj];simpa using ew) ⟨rfl,fin⟩) hs
theorem Zm5:IxR X (Zou X.K):=by
 intro value slice pins s σ H x y v u Q I rx ry h hs
 obtain ⟨p,xs,i,z,rfl,rfl,hq,he,q⟩:=h
 cases rx
 obtain ⟨t,rfl⟩:=ry
 obtain ⟨its,r,pl,hz⟩:=I.tuple hq
 obtain ⟨j,h1,h2,h3,h4,h5⟩:=Zig he
 obtain ⟨w,ew,rw'⟩:=r.get h2
 have hl:=r.length
 have hn:=Zdn
 have fin:EP X pins σ Q w s:=⟨z,H,I,rw',q⟩
 exact subscriptTail_builtinR (x:=w) pl.typeIs slot_tuple_getitem.lookup
  (getItem_tuple (j:=j) (Q:=fun r s'=>r=w/\EP X pins σ Q r s') pl (by lia) (by lia) (by rw [kr,<- hl];exact h1) (by simpa using ew) ⟨rfl,fin⟩) hs
theorem ZgK (its:List Value) (n j:Nat) (u:Value):Obj.mapSeq (·.setIfInBounds j u) { cls:=.type "list", data:=.seq its.toArray n } = { cls:=.type "list", data:=.seq (its.set j u).toArray n }:=by
 simp [Obj.mapSeq]
theorem Inv.lst {pins:List (Addr×Obj)} {σ:St}{H:Hp}{s:Shared}{p:Addr}{xs:List V} (I:Inv X pins σ H s) (h:H p=some (.lst xs)):
  ∃(its:List Value) (n:Nat),Vals xs its/\s.heap.get? p=some { cls:=.type "list", data:=.seq its.toArray n } /\ xs.length<=sizeLine:=by
 obtain ⟨z,its,n,r,e⟩:=I.hok p _ h
 exact ⟨its,n,r,e,z⟩
theorem Inv.lstUpd {pins:List (Addr×Obj)} {σ:St}{H:Hp}{s:Shared}{p:Addr}{xs ys:List V}{its its':List Value}{n n':Nat}{f:Obj->Obj} (I:Inv X pins σ H s) (h:H p=some (.lst xs))
  (ho:s.heap.get? p=some { cls:=.type "list", data:=.seq its.toArray n }) (hf:f { cls:=.type "list", data:=.seq its.toArray n } = { cls:=.type "list", data:=.seq its'.toArray n' }) (r:Vals ys its') (hz:ys.length<=sizeLine) (t:Nat):
  Inv X pins σ (upd H p (.lst ys)) { s with heap:=s.heap.update p f,toks:=t }:=by
 have e:(s.heap.update p f).get? p=some { cls:=.type "list", data:=.seq its'.toArray n' }:=by
  rw [Tb f ho (by rw [hf]<;>rfl),hf]
 refine I.write (x:=p) (e:=p) (by rw [h];trivial) (.inl rfl) (fun b u hb q=>(qv _ _ (Ko hb)).trans q) ⟨_,e⟩ ?_
 exact ⟨hz,its',n',r,e⟩
def Zow:V->V->V->Hp->(Hp->Prop)->Prop:=fun o i v H Q=>∃p xs k j,o = .ref p/\i = .int k/\H p=some (.lst xs)/\ixN xs.length k=some j/\Q (upd H p (.lst (xs.set j v)))
theorem set_list:Zm3 X Zow:=by
 intro pins s σ H o i v ov iv u Q I ro ri rv h
 obtain ⟨p,xs,k,j,rfl,rfl,hp,hj,q⟩:=h
 cases ro
 obtain ⟨t,rfl⟩:=ri
 obtain ⟨its,n,r,ho,hz⟩:=I.lst hp
 obtain ⟨h1,h2,h3,h4⟩:=Zh1 hj
 have hl:=r.length
 have hn:=Zdn
 have I':Inv X pins σ (upd H p (.lst (xs.set j v))) { s with heap:=s.heap.update p (Obj.mapSeq (·.setIfInBounds j u)) }:=
  I.lstUpd hp ho (ZgK its n j u) (r.set rv j) (by rw [KG];exact hz) s.toks
 by_cases h0:0<=k
 ·have hk:k.toNat=j:=by
   rw [N8 h0 h4] at h1
   exact kX h1
  exact PySem.W.ki_setAt ho h0 (by lia) (by rw [kr,<- hl];exact h4) (by rw [hk];exact ⟨_,I',q⟩)
 ·have hk:(k+(its.toArray.size:Int)).toNat=j:=by
   rw [seqIndex_neg (by lia) h3] at h1
   rw [kr,<- hl]
   exact kX h1
  exact PySem.W.ki_setBack ho (by lia) (by rw [kr,<- hl];exact h3) (by lia) (by rw [hk];exact ⟨_,I',q⟩)
theorem Zfd (lo hi:Option Int) (n:Nat):(sliceBounds lo hi none n).1=((HT.Jq n 0 lo:Nat):Int)/\(sliceBounds lo hi none n).2.1=((HT.Jq n n hi:Nat):Int)/\(sliceBounds lo hi none n).2.2=1:=by
 refine ⟨?_,?_,rfl⟩
 ·cases lo with
  | none=>simp [sliceBounds,HT.Jq]
  | some i=>
   simp only [sliceBounds,HT.Jq,Nr,show (1:Int)>0 by decide,XU]
   by_cases h:i<0
   ·simp only [h,XU]<;>lia
   ·simp only [h,Xp]<;>lia
 ·cases hi with
  | none=>simp [sliceBounds,HT.Jq]
  | some i=>
   simp only [sliceBounds,HT.Jq,Nr,show (1:Int)>0 by decide,XU]
   by_cases h:i<0
   ·simp only [h,XU]<;>lia
   ·simp only [h,Xp]<;>lia
theorem ZdK (its:List Value) (lo hi:Option Int):slicePick its.toArray lo hi none=((its.drop (HT.Jq its.length 0 lo)).take (HT.Jq its.length its.length hi-HT.Jq its.length 0 lo)).toArray:=by
 obtain ⟨h1,h2,h3⟩:=Zfd lo hi its.toArray.size
 unfold slicePick
 rw [h1,h2,h3]
 simp only [sliceRange_one,pick_run,kr]<;>rfl
def Zn7 (K:PySem.W.Frag):V->Option Int->Option Int->Hp->VK->Prop:=fun x lo hi H Q=>∃a xs,x = .ref a/\Zr K H a xs /\ ∀p,H p=none->Q (.ref p) (upd H p (.lst (WB xs lo hi)))
theorem Zlw:SlR X (Zn7 X.K):=by
 intro pins s σ H x v vl vu lo hi sl Q I rx hs pl pu h
 obtain ⟨a,xs,rfl,hx,q⟩:=h
 cases rx
 obtain ⟨its,r,ht,hz⟩:=I.list hx
 have hlen:=r.length
 refine ⟨"list", _,slot_list_getitem.lookup,ht.isList.typeIs,?_⟩
 refine wpAny_getItem_list_slice ht.isList hs pl pu .none (by simp) ?_ (by rw [kr]<;>lia)
 rw [ZdK,<- hlen]
 refine ⟨.ref s.heap.objs.size,_,I.laid (t':=s.toks) (o:=.lst (WB xs lo hi)) (fun b ob q=>km _ q) (ki _) ?_,rfl,q _ (I.hok.fresh (ki _))⟩
 exact ⟨k9 (Zcn xs lo hi) hz,_,0,(r.drop (HT.Jq xs.length 0 lo)).take (HT.Jq xs.length xs.length hi-HT.Jq xs.length 0 lo),Ki _ rfl⟩
def WL:V->Bool
 | .non=>true
 | .bl _=>true
 | .int _=>true
 | .str _=>true
 | _=>false
def eqV:V->V->Bool
 | .non,.non=>true
 | .bl a,.bl b=>a==b
 | .bl a,.int b=>(if a then 1 else 0)==b
 | .int a,.bl b=>a==(if b then 1 else 0)
 | .int a,.int b=>a==b
 | .str a,.str b=>a==b
 | _,_=>false
theorem ZjS {A:Around}{s:Shared}{y x:V}{u v:Value} (ry:RelV y u) (rx:RelV x v) (fy:WL y=true) (fx:WL x=true):SeqAt.EqAt A s u v (eqV y x):=by
 cases y with
 | non=>
  cases ry
  cases x with
  | non=>cases rx;exact Tu _
  | bl b=>cases rx;exact SeqAt.EqAt.none_bool b
  | int b=>obtain ⟨t,rfl⟩:=rx;exact SeqAt.EqAt.none_int b t
  | str b=>obtain ⟨t,rfl⟩:=rx;exact SeqAt.EqAt.none_str b t
  | _=>exact absurd (show false=true from fx) kO
 | bl a=>
  cases ry
  cases x with
  | non=>cases rx;exact SeqAt.EqAt.bool_none a
  | bl b=>cases rx;exact SeqAt.EqAt.bool_bool a b
  | int b=>obtain ⟨t,rfl⟩:=rx;exact SeqAt.EqAt.bool_int a b t
  | str b=>obtain ⟨t,rfl⟩:=rx;exact SeqAt.EqAt.bool_str a b t
  | _=>exact absurd (show false=true from fx) kO
 | int a=>
  obtain ⟨t',rfl⟩:=ry
  cases x with
  | non=>cases rx;exact SeqAt.EqAt.int_none a t'
  | bl b=>cases rx;exact SeqAt.EqAt.int_bool a t' b
  | int b=>obtain ⟨t,rfl⟩:=rx;exact SeqAt.EqAt.int_int a t' b t
  | str b=>obtain ⟨t,rfl⟩:=rx;exact SeqAt.EqAt.int_str a t' b t
  | _=>exact absurd (show false=true from fx) kO
 | str a=>
  obtain ⟨t',rfl⟩:=ry
  cases x with
  | non=>cases rx;exact SeqAt.EqAt.str_none a t'
  | bl b=>cases rx;exact SeqAt.EqAt.str_bool a t' b
  | int b=>obtain ⟨t,rfl⟩:=rx;exact SeqAt.EqAt.str_int a t' b t
  | str b=>obtain ⟨t,rfl⟩:=rx;exact SeqAt.EqAt.str_str a t' b t
  | _=>exact absurd (show false=true from fx) kO
 | _=>exact absurd (show false=true from fy) kO
def eqU (x:V) (u:Value):Bool:=match u with
 | .none=>eqV .non x
 | .bool b=>eqV (.bl b) x
 | .int i _=>eqV (.int i) x
 | .str z _=>eqV (.str z) x
 | _=>false
theorem Zha {x y:V}{u:Value} (r:RelV y u) (f:WL y=true):eqU x u=eqV y x:=by
 cases y with
 | non=>cases r;rfl
 | bl b=>cases r;rfl
 | int i=>obtain ⟨t,rfl⟩:=r;rfl
 | str z=>obtain ⟨t,rfl⟩:=r;rfl
 | _=>exact absurd (show false=true from f) kO
theorem Zft {x:V}:∀{xs:List V}{us:List Value},Vals xs us->xs.all WL=true->us.any (eqU x)=xs.any fun y=>eqV y x
 | _,_,.nil,_=>rfl
 | y::xs,u::us,.cons r t,f=>by
  rw [Mt,Kw] at f
  rw [qW,qW,Zha r f.1,Zft t f.2]
theorem ZbE {A:Around}{s:Shared}{x:V}{v:Value} (rx:RelV x v) (fx:WL x=true):∀{xs:List V}{us:List Value},Vals xs us->xs.all WL=true -> ∀u∈us,SeqAt.EqAt A s u v (eqU x u)
 | _,_,.nil,_=>fun u hu=>by cases hu
 | y::xs,u::us,.cons r t,f=>fun u' hu=>by
  rw [Mt,Kw] at f
  rcases kL.mp hu with rfl | hu
  ·rw [Zha r f.1];exact ZjS r rx f.1 fx
  ·exact ZbE rx fx t f.2 u' hu
def inV (x:V) (xs:List V):Bool:=xs.any fun y=>eqV y x
def rIn (K:PySem.W.Frag) (neg:Bool):R2:=fun x y H Q=>∃p xs,y = .ref p/\(Zr K H p xs∨YX K H p xs)/\WL x=true/\xs.all WL=true/\Q (.bl (if neg then !inV x xs else inV x xs)) H
theorem ZeT:UO X (compareOp .NotIn) (rIn X.K true):=by
 intro pins s σ H x y v u Q I rx ry h
 obtain ⟨p,xs,rfl,hq,fx,fs,q⟩:=h
 cases ry
 rcases hq with hq | hq
 ·obtain ⟨its,r,pl,hz⟩:=I.list hq
  refine SeqAt.notIn_listAt (eqU x) pl.isList (fun w hw=>ZbE rx fx r fs w (by simpa using hw)) ⟨.bl _,H,I,rfl,?_⟩
  rw [show its.toArray.any (eqU x)=its.any (eqU x) by simp,Zft r fs]
  exact q
 ·obtain ⟨its,r,pl,hz⟩:=I.tuple hq
  refine SeqAt.notIn_tupleAt (eqU x) pl (fun w hw=>ZbE rx fx r fs w (by simpa using hw)) ⟨.bl _,H,I,rfl,?_⟩
  rw [show its.toArray.any (eqU x)=its.any (eqU x) by simp,Zft r fs]
  exact q
theorem Zfz:YU X (.builtin "len") (fun xs H Q=>∃p ys,xs = [.ref p]/\(Zr X.K H p ys∨YX X.K H p ys)/\Q (.int ys.length) H):=by
 intro pins s σ H xs us Q I r h
 obtain ⟨p,ys,rfl,hq,q⟩:=h
 obtain ⟨u,rfl,rx⟩:=vals1 r
 cases rx
 have hn:=Zdn
 rcases hq with hq | hq
 ·obtain ⟨its,r',pl,hz⟩:=I.list hq
  have hlen:=r'.length
  exact Calls.call_len_list pl.isList (by simp only [kr]<;>lia) ⟨.int ys.length,H,I.tok _,⟨s.toks+1,by rw [kr,hlen]⟩,q⟩
 ·obtain ⟨its,r',pl,hz⟩:=I.tuple hq
  have hlen:=r'.length
  exact len_tuple pl (by simp only [kr]<;>lia) ⟨.int ys.length,H,I.tok _,⟨s.toks+1,by rw [kr,hlen]⟩,q⟩
theorem Zfa:YU X (.type "list") (fun xs H Q=>∃p ys,xs = [.ref p]/\(Zr X.K H p ys∨YX X.K H p ys) /\ ∀l,H l=none->Q (.ref l) (upd H l (.lst ys))):=by
 intro pins s σ H xs us Q I r h
 obtain ⟨p,ys,rfl,hq,q⟩:=h
 obtain ⟨u,rfl,rx⟩:=vals1 r
 cases rx
 have fin:∀(its:List Value),Vals ys its->ys.length<=sizeLine -> ∀(h':Heap) (c':Nat),(∀b o',s.heap.get? b=some o'->h'.get? b=some o') ->
   h'.get? s.heap.objs.size=some { cls:=.type "list", dict:=none,data:=.seq its.toArray c',slots:=#[] } -> EP X pins σ Q (.ref s.heap.objs.size) { s with heap:=h' }:=fun its r' hz h' c' kp e=>
  ⟨.ref s.heap.objs.size,_,I.laid (t':=s.toks) kp (ki _) (show Yc X.prog X.w _ h' _ (.lst ys) from ⟨hz,its,c',r',e⟩),rfl,q _ (I.hok.fresh (ki _))⟩
 rcases hq with hq | hq
 ·obtain ⟨its,r',pl,hz⟩:=I.list hq
  have hlen:=r'.length
  obtain ⟨o,ho,hc,n,hd⟩:=pl.isList
  exact call_list_seq p (.inl rfl) ho hc hd (fun h' c' kp e=>fin its r' hz h' c' kp e) (by simp only [kr]<;>lia)
 ·obtain ⟨its,r',pl,hz⟩:=I.tuple hq
  have hlen:=r'.length
  obtain ⟨o,ho,hc,n,hd⟩:=pl
  exact call_list_seq p (.inr rfl) ho hc hd (fun h' c' kp e=>fin its r' hz h' c' kp e) (by simp only [kr]<;>lia)
theorem ZdL:YU X (.type "tuple") (fun xs H Q=>∃p ys,xs = [.ref p]/\((Zr X.K H p ys /\ ∀l,H l=none->Q (.ref l) (upd H l (.tup ys)))∨(YX X.K H p ys/\Q (.ref p) H))):=by
 intro pins s σ H xs us Q I r h
 obtain ⟨p,ys,rfl,h⟩:=h
 obtain ⟨u,rfl,rx⟩:=vals1 r
 cases rx
 rcases h with ⟨hq,q⟩ | ⟨hq,q⟩
 ·obtain ⟨its,r',pl,hz⟩:=I.list hq
  have hlen:=r'.length
  refine call_tuple_list pl.isList (fun h' kp=>?_) (by simp only [kr]<;>lia)
  have I1:Inv X pins σ H { s with heap:=h' }:=I.kept (t':=s.toks) kp
  have I2:Inv X pins σ (upd H h'.objs.size (.tup ys)) { s with heap:=h'.push { cls:=.type "tuple", data:=.seq its.toArray } }:=
   I1.laid (t':=s.toks) (fun b o e=>km _ e) (ki _) (show Yc X.prog X.w _ _ _ (.tup ys) from ⟨hz,its,r',IsTup.new _ _⟩)
  exact ⟨.ref h'.objs.size,_,I2,rfl,q _ (I1.hok.fresh (ki _))⟩
 ·obtain ⟨its,r',pl,hz⟩:=I.tuple hq
  exact call_tuple_same pl ⟨.ref p,H,I,rfl,q⟩
def tyV (K:PySem.W.Frag) (T:String) (x:V) (H:Hp):Prop:=match x with
 | .str _=>T = "str"
 | .int _=>T = "int"
 | .ref p=>(T = "list" /\ ∃xs,Zr K H p xs)∨(T = "tuple" /\ ∃o,K.lookup p=some o/\o.cls = .type "tuple" /\ o.dict=none) ∨
   (T = "dict" /\ ((∃kvs,H p=some (.dK kvs)) ∨ ∃kvs,H p=some (.dT kvs)))∨(T = "set" /\ ∃S n,H p=some (.set S n))
 | _=>False
theorem Zne {pins:List (Addr×Obj)} {σ:St}{H:Hp}{s:Shared}{T:String}{x:V}{v:Value} (I:Inv X pins σ H s) (r:RelV x v) (ty:tyV X.K T x H):
  s.TypeIs v T /\ ∀a,v = .ref a -> ∃ob,s.heap.get? a=some ob/\ob.dict=none:=by
 cases x with
 | str z=>
  obtain ⟨t,rfl⟩:=r
  cases (show T = "str" from ty)
  exact ⟨typeIs_str s z t,fun _ e=>nomatch e⟩
 | int i=>
  obtain ⟨t,rfl⟩:=r
  cases (show T = "int" from ty)
  exact ⟨MA s i t,fun _ e=>nomatch e⟩
 | ref p=>
  cases r
  rcases ty with ⟨rfl,xs,hq⟩ | ⟨rfl,o,hk,hc,hd⟩ | ⟨rfl,hk⟩ | ⟨rfl,S,n,hk⟩
  ·obtain ⟨its,_,pl,_⟩:=I.list hq
   refine ⟨pl.isList.typeIs,fun a e=>?_⟩
   cases e
   obtain ⟨o,n,e,c,hd,_⟩:=pl
   exact ⟨o,e,hd⟩
  ·refine ⟨⟨o,I.kIn p o hk,hc⟩,fun a e=>?_⟩
   cases e
   exact ⟨o,I.kIn _ o hk,hd⟩
  ·have z:∃o,s.heap.get? p=some o/\o.ExactDict:=by
    rcases hk with ⟨kvs,hk⟩ | ⟨kvs,hk⟩
    ·obtain ⟨_,_,_,_,o,_,_,e,ex,_⟩:=I.hok p _ hk
     exact ⟨o,e,ex⟩
    ·obtain ⟨_,_,_,_,o,_,_,e,ex,_⟩:=I.hok p _ hk
     exact ⟨o,e,ex⟩
   obtain ⟨o,e,ex⟩:=z
   refine ⟨⟨o,e,ex.1⟩,fun a e2=>?_⟩
   cases e2
   exact ⟨o,e,ex.2.1⟩
  ·obtain ⟨o,_,_,_,e,ex,_⟩:=I.hok p _ hk
   refine ⟨⟨o,e,ex.1⟩,fun a e2=>?_⟩
   cases e2
   exact ⟨o,e,ex.2.1⟩
 | _=>exact False.elim ty
def tBM (K:PySem.W.Frag) (T:String) (r:V->List V->Hp->VK->Prop) (to:TE) (t:TA):TE:=fun σ H Q=>to σ H fun x H1=>tyV K T x H1/\t σ H1 fun xs H2=>r x xs H2 Q
variable {o e:Expr}{es:List Expr}{to:TE}{t:TA}{name:Str}{apos cpos:Pos}{T id:String}{r:V->List V->Hp->VK->Prop}
theorem Yw (pa:PlainAttrs T) (slot:Slot T name id) (hty:typeOf (.builtin id)=pure (.type "method_descriptor")) (hm:MtR X id r) (ho:PE X o to) (ha:PA X (e::es) t)
  (hbase:attributeBase o name X.env (eval o X.env)=eval o X.env:=by rfl)
  (hfew:((backTo cpos (starEach (e::es) X.env)).all (fun x=>!x.1)&&(backToKw cpos (keywordEach [] X.env)).all (fun x=>x.1.isSome)
   && decide ((e::es).length+([]:List Keyword).length+(if ([]:List Keyword).isEmpty then 0 else 1)<30))=true:=by rfl)
  (hline:(apos.endLine==cpos.line)=true:=by rfl) (hs:starEach (e::es) X.env=(false,eval e X.env)::starEach es X.env:=by rfl) (hplain:(backTo cpos (starEach es X.env)).any (·.1)=false:=by rfl):
  PE X (.Call (.Attribute o name apos) (e::es) [] cpos) (tBM X.K T r to t):=by
 intro pins s σ H Q I h
 refine wpAny_Call_method_late hbase hfew hline rfl (YG (ho pins s σ H _ I h) fun v s1 ⟨x,H1,I1,r1,ty,q1⟩=>?_)
 obtain ⟨h1,h2⟩:=Zne I1 r1 ty
 refine ⟨T,id,pa,slot,hty,h1,h2,?_⟩
 have hA:=ha cpos pins s1 σ H1 _ I1 q1
 rw [hs] at hA ⊢
 refine Xm (by show (false||(backTo cpos (starEach es X.env)).any (·.1))=false;rw [hplain]<;>rfl) (Xy ?_)
 exact YG hA fun us s2 ⟨vs,H2,I2,r2,q2⟩=>hm pins s2 σ H2 x vs v us Q I2 r1 r2 q2
end
def MtM (X:Cx) (id:String) (r:V->List V->Hp->VK->Prop):Prop:=
 ∀(pins:List (Addr×Obj)) (s:Shared) (σ:St) (H:Hp) (x:V) (xs:List V) (v:Value) (us:List Value) (Q:VK),Inv X pins σ H s->RelV x v->Vals xs us->r x xs H Q ->
  wpAny (model X.prog X.w) X.A (call (.builtin id) (v::us)) (EP X pins σ Q) X.xe s
theorem Vals.one:∀{x:V}{us:List Value},Vals [x] us -> ∃u,us = [u]/\RelV x u
 | _,_,.cons r .nil=>⟨_,rfl,r⟩
theorem Vals.two:∀{x y:V}{us:List Value},Vals [x,y] us -> ∃u v,us = [u,v]/\RelV x u/\RelV y v
 | _,_,_,.cons r (.cons q .nil)=>⟨_,_,rfl,r,q⟩
theorem Vals.eraseIdx:∀{xs:List V}{us:List Value} (i:Nat),Vals xs us->Vals (xs.eraseIdx i) (us.eraseIdx i)
 | _,_,_,.nil=>.nil
 | _,_,0,.cons _ t=>t
 | _,_,i+1,.cons r t=>.cons r (Vals.eraseIdx i t)
theorem Vals.rep {xs:List V}{us:List Value} (h:Vals xs us):∀k:Nat,Vals (List.replicate k xs).flatten (List.replicate k us).flatten
 | 0=>.nil
 | k+1=>by
  rw [qZ,qZ,qT,qT]
  exact Vals.append h (Vals.rep h k)
theorem Zeb {α:Type}:∀(l:List α) (i:Nat),(l.eraseIdx i).length<=l.length
 | [],_=>ki _
 | _::_,0=>qz _
 | _::r,i+1=>Nat.succ_le_succ (Zeb r i)
theorem foldl_rep (its:List Value):∀(k:Nat) (acc:List Value),
  List.foldl (fun x1 x2=>x1++x2) acc.toArray (List.replicate k its.toArray)=(acc++(List.replicate k its).flatten).toArray
 | 0,acc=>by simp
 | k+1,acc=>by
  have e:acc.toArray++its.toArray=(acc++its).toArray:=by simp
  have e2:(acc++its)++(List.replicate k its).flatten=acc++(List.replicate (k+1) its).flatten:=by
   rw [qZ,qT,Kc]
  rw [<- e2,<- foldl_rep its k (acc++its),<- e,qZ,List.foldl_cons]
section
variable {X:Cx}{pins:List (Addr×Obj)} {σ:St}{H:Hp}{s:Shared}{l b:Addr}{xs ys zs:List V}
theorem Inv.lset {its its':List Value}{n:Nat}{f:Array Value->Array Value}{t':Nat} (I:Inv X pins σ H s) (hH:H l=some (.lst xs))
  (e:s.heap.get? l=some { cls:=.type "list", data:=.seq its.toArray n }) (hf:f its.toArray=its'.toArray) (hv:Vals ys its') (hz:ys.length<=sizeLine):
  Inv X pins σ (upd H l (.lst ys)) { s with heap:=s.heap.update l (Obj.mapSeq f),toks:=t' }:=by
 have q:=PySem.IsL.update e f
 rw [hf] at q
 refine I.write (x:=l) (e:=l) (by rw [hH];exact trivial) (.inl rfl) (fun b' u hb hu=>(qv s.heap (Obj.mapSeq f) (Ko hb)).trans hu) ⟨_,q⟩ ?_
 exact ⟨hz,its',_,hv,q⟩
theorem Inv.lnew {its:List Value}{t':Nat} (I:Inv X pins σ H s) (hv:Vals ys its) (hz:ys.length<=sizeLine):
  Inv X pins σ (upd H s.heap.objs.size (.lst ys)) { s with heap:=s.heap.push { cls:=.type "list", data:=.seq its.toArray },toks:=t' }:=
 I.laid (fun _ _ q=>km _ q) (ki _) ⟨hz,its,0,hv,Ki _ rfl⟩
theorem Inv.fresh (I:Inv X pins σ H s):H s.heap.objs.size=none:=I.hok.fresh (ki _)
theorem Inv.lstM (I:Inv X pins σ H s) (hH:H l=some (.lst xs)):xs.length<=sizeLine /\ ∃(its:List Value) (n:Nat),Vals xs its/\xs.length=its.length/\s.heap.get? l=some { cls:=.type "list", data:=.seq its.toArray n }:=by
 obtain ⟨z,its,n,r,e⟩:=I.hok l _ hH
 exact ⟨z,its,n,r,r.length,e⟩
theorem ZcX {n:Nat} (h:n<=sizeLine):Builtin.List.listTooLong n=false:=by
 unfold Builtin.List.listTooLong
 exact Kn (by lia)
end
section
variable {X:Cx}
def Zle:V->List V->Hp->VK->Prop:=fun x vs H Q=>∃l xs y,x = .ref l/\vs = [y]/\H l=some (.lst xs)/\xs.length<sizeLine/\Q .non (upd H l (.lst (xs ++ [y])))
theorem ZN:MtM X "list.append" Zle:=by
 intro pins s σ H x vs v us Q I rx rv h
 obtain ⟨l,xs,y,rfl,rfl,hH,hz,q⟩:=h
 cases rx
 obtain ⟨u,rfl,ru⟩:=rv.one
 obtain ⟨z,its,n,r,hl,e⟩:=I.lstM hH
 refine XI F.slot_list_append ⟨_,e,rfl⟩ F.entry_list_append (F.args_list_append_2 _ _) (PySem.list_append l its.toArray n u (by rw [kr];lia)) ⟨e,?_⟩
 refine ⟨.non,_,I.lset (its':=its ++ [u]) hH e (by simp) (r.append (.cons ru .nil)) ?_,rfl,q⟩
 rw [kj,Kj]
 lia
def Znq:V->List V->Hp->VK->Prop:=fun x vs H Q=>∃l xs i k y,x = .ref l/\vs = [.int i]/\H l=some (.lst xs) /\ -(2 ^ 63)<=i/\i<2 ^ 63/\seqIndex? i xs.length=some k/\xs[k]? = some y/\Q y (upd H l (.lst (xs.eraseIdx k)))
theorem Zds:MtM X "list.pop" Znq:=by
 intro pins s σ H x vs v us Q I rx rv h
 obtain ⟨l,xs,i,k,y,rfl,rfl,hH,h1,h2,hk,hy,q⟩:=h
 cases rx
 obtain ⟨u,rfl,ru⟩:=rv.one
 obtain ⟨t,rfl⟩:=ru
 obtain ⟨z,its,n,r,hl,e⟩:=I.lstM hH
 obtain ⟨w,hw,rw'⟩:=r.get hy
 refine XI F.slot_list_pop ⟨_,e,rfl⟩ F.entry_list_pop (F.args_list_pop_2 _ _)
  (MeetsSeq.list_pop_at l its.toArray n i t k w (fitsIndex_both h1 h2) (by rw [kr,<- hl];exact hk) (by rw [<- qA];exact hw) (by rw [kr];lia)) ⟨e,?_⟩
 refine ⟨y,_,I.lset (its':=its.eraseIdx k) hH e ?_ (r.eraseIdx k) ?_,rw',q⟩
 ·show its.toArray.eraseIdxIfInBounds k=(its.eraseIdx k).toArray
  rw [List.eraseIdxIfInBounds_toArray]
 ·have:=Zeb xs k
  lia
def Znx:R2:=fun x y H Q=>∃l b xs zs,x = .ref l/\y = .ref b/\H l=some (.lst xs)/\H b=some (.lst zs)/\xs.length+zs.length<=sizeLine /\ ∀p,H p=none->Q (.ref p) (upd H p (.lst (xs++zs)))
theorem WK:UO X (binaryOp .Add) Znx:=by
 intro pins s σ H x y v u Q I rx ry h
 obtain ⟨l,b,xs,zs,rfl,rfl,hH,hB,hz,q⟩:=h
 cases rx
 cases ry
 obtain ⟨z,its,n,r,hl,e⟩:=I.lstM hH
 obtain ⟨z2,its2,n2,r2,hl2,e2⟩:=I.lstM hB
 refine PySem.P.add_list e e2 ?_ (by rw [kr,kr];lia)
 have ea:its.toArray++its2.toArray=(its++its2).toArray:=by simp
 rw [ea]
 exact ⟨.ref _,_,I.lnew (t':=s.toks) (r.append r2) (by rw [kj];lia),rfl,q _ I.fresh⟩
def ZmE:R2:=fun x y H Q=>∃l k xs,x = .ref l/\y = .int k/\H l=some (.lst xs) /\ -(2 ^ 63)<=k/\k<2 ^ 63/\xs.length*k.toNat<=sizeLine /\
 ∀p,H p=none->Q (.ref p) (upd H p (.lst (List.replicate k.toNat xs).flatten))
theorem len_rep {α:Type} (xs:List α) (k:Nat):(List.replicate k xs).flatten.length=k*xs.length:=by
 induction k with
 | zero=>simp
 | succ k ih=>rw [qZ,qT,kj,ih,Nat.succ_mul,Nat.add_comm]
theorem ZaZ:UO X (binaryOp .Mult) ZmE:=by
 intro pins s σ H x y v u Q I rx ry h
 obtain ⟨l,k,xs,rfl,rfl,hH,h1,h2,hz,q⟩:=h
 cases rx
 obtain ⟨t,rfl⟩:=ry
 obtain ⟨z,its,n,r,hl,e⟩:=I.lstM hH
 have hlen:its.toArray.size*k.toNat<=sizeLine:=by rw [kr,<- hl];exact hz
 have hcap:¬its.toArray.size*k.toNat>(2 ^ 63-1) / 8:=by
  have:(sizeLine:Nat)<=(2 ^ 63-1) / 8:=by decide
  lia
 have hfit:¬(!Builtin.List.listFitsIndex k)=true:=by
  rw [fitsIndex_both h1 h2]
  exact kO
 have hlong:¬Builtin.List.listTooLong (its.toArray.size*k.toNat)=true:=by
  rw [ZcX hlen]
  exact kO
 have hnew:List.foldl (fun x1 x2=>x1++x2) #[] (List.replicate (if its.toArray.isEmpty=true then 0 else k.toNat) its.toArray)=(List.replicate k.toNat its).flatten.toArray:=by
  have f0:∀m:Nat,List.foldl (fun x1 x2=>x1++x2) #[] (List.replicate m its.toArray)=(List.replicate m its).flatten.toArray:=fun m=>by
   have:=foldl_rep its m []
   rw [Xq] at this
   exact this
  rw [f0]
  cases its with
  | nil=>simp
  | cons a r'=>rw [kg (by simp)]
 refine wpAny_binaryOp_repeat_ref (T := "list") (U := "int") (by decide) ⟨_,e,rfl⟩ (fun s'=>MA s' k t) noFill_list_mul F.fills_int_mul F.slot_int_rmul repeat_list F.slot_int_index.lookup
  (XI F.slot_int_rmul (MA s k t) F.entry_int_rmul (F.args_int_rmul_2 _ _) (int___rmul___int_list k t l its.toArray n)
   ⟨e,rfl,⟨_,e,rfl⟩,XI F.slot_list_mul ⟨_,e,rfl⟩ F.entry_list_mul (F.args_list_mul_2 _ _) (AutoListH.list___mul___list_int_3 l its.toArray n k t hfit hcap hlong) ⟨e,?_⟩⟩)
 rw [hnew]
 exact ⟨.ref _,_,I.lnew (t':=s.toks) (r.rep k.toNat) (by rw [len_rep,Nat.mul_comm];exact hz),rfl,q _ I.fresh⟩
end
section
variable {prog:Program}{w:World}{A:Around}{E:Value->Shared->Prop}{s:Shared}
theorem ZiO (its its2:List Value) (a c:Nat):its.toArray.extract 0 a++its2.toArray++its.toArray.extract c its.toArray.size=(its.take a++its2++its.drop c).toArray:=by
  apply Array.toList_inj.mp
  first
    | (simp
       exact kJ (by simp))
    | simp [kJ]
    | simp
theorem ZdH {a c n:Nat} (hac:a<=c) (hc:c<=n):sliceBounds (some (a:Int)) (some (c:Int)) none n=((a:Int),(c:Int),1):=by
 simp only [sliceBounds,Nr]
 have h1:¬((a:Int)<0):=by lia
 have h2:¬((c:Int)<0):=by lia
 simp only [h1,h2,Xp,show (1:Int)>0 by decide,XU]
 congr 1
 ·lia
 ·congr 1;lia
set_option maxRecDepth 100000 in
theorem ZdX {l b sl:Addr}{items new:Array Value}{n n2:Nat}{vl vu:Value}{a c:Nat}{Q:Unit->Shared->Prop}
    (e:s.heap.get? l=some { cls:=.type "list", data:=.seq items n }) (e2:s.heap.get? b=some { cls:=.type "list", data:=.seq new n2 }) (hne:l≠b)
    (hs:s.heap.IsSliceOf sl vl vu .none) (pl:IsPart vl (some (a:Int))) (pu:IsPart vu (some (c:Int))) (hac:a<=c) (hc:c<=items.size)
    (hsz:items.size+new.size<=sizeLine) (h:Q () { s with heap:=s.heap.update l (Obj.mapSeq fun xs=>xs.extract 0 a++new++xs.extract c xs.size) }):
    wpAny (model prog w) A (setItem (.ref l) (.ref sl) (.ref b)) Q E s:=by
  have hl:s.heap.IsList l items:=Nt e
  have hb:s.heap.IsList b new:=Nt e2
  obtain ⟨os,hos,hcs,hds⟩:=id hs
  have hTs:s.TypeIs (.ref sl) "slice" := ⟨os,hos,hcs⟩
  have hstep:¬((rawPart none==rawInt 0)=true):=kO
  have hsame:Builtin.List.listSameRef (.ref l) (.ref b)=false:=by
    unfold Builtin.List.listSameRef
    exact qI.mpr hne
  have hmax:(max (a:Int) (c:Int)).toNat=c:=by lia
  have hz':((fun xs:Array Value=>xs.extract 0 a++new++xs.extract c xs.size) items).size<=sizeLine+1:=by
    simp only [Array.size_append,Array.size_extract]
    lia
  unfold setItem
  try with_reducible refine Kv ?_
  first | refine ka (ko ?_) | skip
  refine ka (T5 hl.typeIs (by decide) ?_)
  refine ka (qG (name:=Str.ofString "__setitem__") hl.typeIs slot_list_setitem
    (qb slot_list_setitem hl.typeIs entry_list_setitem ?_ (args_list_setitem _ _ _)))
  show wpAny _ _ (Builtin.List.listSubscript? (.ref sl) >>= _) _ _ s
  refine ka ?_
  unfold Builtin.List.listSubscript?
  refine ka (wpAny_specialOf hTs slice_no_index ?_)
  simp only [MB,XU]
  refine ko ?_
  show wpAny _ _ (typeOf (.ref sl) >>= _) _ _ s
  refine ka (qr hTs ?_)
  first
    | rw [kg (by decide)]
    | refine XJ (by decide) ?_
  rw [listSliceParts_eq]
  refine ka (ka (qd hos hds (x:=.none) rfl (ka (Xz .none ?_))))
  rw [kg hstep]
  refine ka (qd hos hds (x:=vl) rfl (ka (Xz pl ?_)))
  refine ka (qd hos hds (x:=vu) rfl (ka (Xz pu (ko ?_))))
  first
    | simp only [hsame,qt,Xp]
    | refine XJ hsame ?_
    | (dsimp only
       rw [kg (by rw [hsame];exact kO)])
  refine ka (m:=Builtin.List.listAllItems (.ref b) "must assign iterable to extended slice") ?_
  unfold Builtin.List.listAllItems
  refine ka (qr hb.typeIs ?_)
  first
    | refine PySem.W.KFB.if_so (by decide) ?_
    | rw [kh (by decide)]
    | simp only [beq_self_eq_true,MY,XU]
  unfold Builtin.List.listItems
  refine ka (XW e2 rfl (ko ?_))
  refine ka (ka (XW e rfl (ko ?_)))
  refine ka (N9 ((sliceIndices_raw (some (a:Int)) (some (c:Int)) none items.size (by simp)).trans (Ks (pure:Int×Int×Int->Sem (Int×Int×Int)) (ZdH hac hc))) ?_)
  show wpAny _ _ (if ((1:Int)==1)=true then _ else _) _ _ s
  rw [kh (by decide)]
  refine ka (qV ?_)
  first
    | simp only [ZcX hsz,qt,Xp]
    | refine XJ (ZcX hsz) ?_
  first | refine ka (ko ?_) | skip
  show wpAny _ _ (updateSeq l (fun xs=>xs.extract 0 ((a:Int)).toNat++new++xs.extract (max (a:Int) (c:Int)).toNat xs.size) >>= _) _ _ s
  rw [hmax,kI]
  refine ka (wpAny_updateSeq (hz:=k9 (Xb _ _) hsz) (_hz':=hz') e rfl ?_)
  refine ka (wpAny_letGo ?_)
  first
    | exact ka (ko (ko ⟨.none,rfl,ko h⟩))
    | exact ko ⟨.none,rfl,ko h⟩
end
section
variable {X:Cx}
theorem ZiH {pins:List (Addr×Obj)}{s:Shared} {σ:St}{H:Hp}{l b sl:Addr}{xs ys:List V}{a c:Int}{vl vu:Value}{Q:Unit->Shared->Prop} (I:Inv X pins σ H s)
  (hH:H l=some (.lst xs)) (hB:H b=some (.lst ys)) (hne:l≠b) (hs:s.heap.IsSliceOf sl vl vu .none) (ra:RelV (.int a) vl) (rc:RelV (.int c) vu) (h0:0<=a) (hac:a<=c) (hc:c<=xs.length)
  (hz:xs.length+ys.length<=sizeLine) (h:∀s',Inv X pins σ (upd H l (.lst (xs.take a.toNat++ys++xs.drop c.toNat))) s'->Q () s'):
  wpAny (model X.prog X.w) X.A (setItem (.ref l) (.ref sl) (.ref b)) Q X.xe s:=by
 obtain ⟨ta,rfl⟩:=ra
 obtain ⟨tc,rfl⟩:=rc
 obtain ⟨z,its,n,r,hl,e⟩:=I.lstM hH
 obtain ⟨z2,its2,n2,r2,hl2,e2⟩:=I.lstM hB
 obtain ⟨a',rfl⟩:=kF h0
 obtain ⟨c',rfl⟩:=kF (MZ h0 hac)
 simp only [kI] at h
 refine ZdX (a:=a') (c:=c') e e2 hne hs (.int _ _) (.int _ _) (by lia) (by rw [kr];lia) (by rw [kr,kr];lia) (h _ ?_)
 refine I.lset (its':=its.take a'++its2++its.drop c') (t':=s.toks) hH e ?_ (Vals.append (Vals.append (r.take _) r2) (r.drop _)) ?_
 ·exact ZiO its its2 a' c'
 ·rw [kj,kj,kM,KD]
  lia
end
end L2
namespace Att
open PySem PySem.W PySem.Calls PyProof.Rows
theorem Zcx {P:Params}{h:Heap}:∀(ns:List Int) (vs:List Value),WellAll P h vs (ns.map WData.int)->IntsAre vs ns:=by
 intro ns
 induction ns with
 | nil=>
  intro vs w
  rw [NI] at w
  cases w
  exact .nil
 | cons n ns ih=>
  intro vs w
  rw [k7] at w
  cases w with
  | cons a b=>
   cases a
   exact .cons _ _ (ih _ b)
theorem ZiN {l:OpenLaw}{n:Nat} (hn:l.most=some n) {P:Params}{h:Heap}{args:List WData}{vals:List Value}
  (hpre:l.row.toRowW.claim.pre args=true) (hwl:WellAll P h vals args):
  ∃a vs ns,vals = [Value.ref a]/\args = [WData.list (ns.map WData.int)]/\h.get? a=some { cls:=.type "list", data:=.seq vs.toArray } /\ IntsAre vs ns/\ns.length<=n:=by
 have hsh:WShape.hasAll [] args [.list .int]=true:=(pre_splitW hpre).1
 have hc:l.pre.holds [] { args:=args } = true:=(pre_splitW hpre).2
 obtain ⟨d,r,rfl,h1,h2⟩:=hasAllW_cons hsh
 obtain rfl:=hasAllW_nil h2
 obtain ⟨xs,rfl,h3⟩:=hasW_list h1
 obtain ⟨ns,rfl⟩:=items_int h3
 have hlen:ns.length<=n:=by
  unfold OpenLaw.pre at hc
  have h4:(WTm.not (.lt (.lit (.int (n:Int))) (.len (.arg 0)))).holds [] { args:=[.list (ns.map .int)] } = true:=by
   have h4:=(holds_andW hc).1
   rw [hn] at h4
   exact h4
  have h5:=condW_of h4 (w_not (w_lt w_lit (w_len_list (w_arg rfl))))
  rw [ke] at h5
  refine Nu fun q=>?_
  have q':(n:Int)<((ns.length:Nat):Int):=by lia
  first
   | (rw [kG q'] at h5;exact absurd h5 (by decide))
   | (simp at h5;lia)
 cases hwl with
 | cons w1 w2=>
  cases w2
  cases w1 with
  | list ho hall=>exact ⟨_,_,ns,rfl,rfl,ho,Zcx ns _ hall,hlen⟩
theorem Zix (l:OpenLaw) (args:List WData):l.row.toRowW.claim.post args (.bool true) args=true:=
 postW_of (r:=l.row.toRowW) (X:=(true==true))
  (show WShape.has [] (.bool true) .bool=true by first | rfl | decide | simp [WShape.has,WShape.arms,WShape.armsAll])
  (show (WTm.eq .res (.lit (.bool true))).value [] { args:=args,res:=some (.bool true),after:=args } = some (.bool (true==true)) from w_eq_bool (w_res rfl) w_lit) rfl
theorem Zgl {l:OpenLaw}{n:Nat}{q:Program}{loose:List Str}{XP:(Str->Option Value)->Heap->Prop}{YP:World->Heap->Prop}{d:DefRec}
  (hn:l.most=some n) (hdf:d.params.defaults = [])
  (call:∀(w:World) (s₀ s₁:Shared) (mg mb:Str->Option Value) (fa:Addr) (o:Obj) (pm cd doc:Value) (a:Addr) (vs:List Value) (ns:List Int),
   Ground q loose [] XP w s₀ mg mb s₁.heap->YP w s₁.heap ->
   s₁.heap.get? fa=some o->o.data = .func (docDef d.name d.params d.body d.scope pm cd doc)->s₁.heap.CodeRec cd d.name->mg d.name=some (.ref fa) ->
   s₁.heap.get? a=some { cls:=.type "list", data:=.seq vs.toArray } -> IntsAre vs ns->ns.length<=n->s₁.gens = #[] ->
   codeAny (model l.prog w) callerA (.call (.ref fa) ⟨[.ref a],[]⟩) (fun r s'=>r = .ok (.ret (.bool true))/\OldK s₁.heap s'.heap/\s'.os=s₁.os/\AllBare s'.gens) s₁):
  WalkO q loose XP YP l.row.toRowW d [] (fun f vs=>PySem.call f vs):=by
 intro w s₀ s₁ mg mb G Y fa o pm cd doc dV kV ho hd hcd hD hmg hg args vals as hpre hlay hrd hwl hlo
 obtain rfl:dV = .none:=Dflts.none hD hdf
 obtain rfl:kV = .none:=Dflts.noKw hD
 obtain ⟨a,vs,ns,rfl,rfl,hobj,hints,hlen⟩:=ZiN hn hpre hwl
 refine enter_call (codeAny_mono (call w s₀ s₁ mg mb fa o pm cd doc a vs ns G Y ho (fd_plain hd) hcd hmg hobj hints hlen hg) fun r s' hq=>?_)
 obtain ⟨rfl,h2,h3,h4⟩:=hq
 exact ⟨.inl ⟨.bool true,.bool true,[],rfl,fun _=>rfl,.bool true,Zix l _,fun _=>⟨List.Pairwise.nil,fun _ hm=>(nomatch hm)⟩⟩,h2,h3,h4⟩
end Att
namespace L2
open PySem PySem.Spec PyProof.Rows
theorem ZaD:∀{vs:List Value}{ns:List Int},IntsAre vs ns->Vals (ns.map V.int) vs
 | _,_,.nil=>.nil
 | _,_,.cons n t h=>.cons ⟨t,rfl⟩ (ZaD h)
def ZnA (H:Hp):Prop:=∀b,H b=none ∨ ∃o xs,H b=some (.frz o (.lst xs))
theorem ZjW {P:Program}{w:World}{K:PySem.W.Frag}{mg mb:Str->Option Value}{CX:CXT}{k:Nat}{fa a:Addr}{fd:FuncData}{x:Str}{sp:Sp}{s₁:Shared}{vs:List Value}{ns:List Int}
  (KX:K.In s₁.heap) (hns:s₁.heap.Ns mainGlobals mg) (hb:s₁.heap.Ns builtinsNs mb) (hbb:∀x:Str,x ≠ "__name__" -> mb x=bootBuiltins x) (hlim:s₁.heap.NoLimit) (hg:s₁.gens = #[])
  (ha:s₁.heap.get? a=some { cls:=.type "list", data:=.seq vs.toArray }) (hi:IntsAre vs ns) (hl:ns.length<=sizeLine) (hr:GH k callerA)
  (F:∀base:Heap,K.In base->base.Ns mainGlobals mg->Yf P w K mg base CX k fa fd [x] sp) (hbind:∀(s:Shared) (u:Value),BindsTo s fd ⟨[u],[]⟩ [(x,u)])
  (hsp:∀H:Hp,ZnA H->Zr K H a (ns.map V.int)->sp [.ref a] H (fun v _=>v = .bl true) fun _ _ _=>False)
  (hCX:∀H e s',CX [] H s₁ (fun _ _ _=>False) e s'->False):
  codeAny (model P w) callerA (.call (.ref fa) ⟨[.ref a],[]⟩) (fun r s'=>r = .ok (.ret (.bool true))/\OldK s₁.heap s'.heap/\s'.os=s₁.os/\AllBare s'.gens) s₁:=by
 have rv:=ZaD hi
 have lenV:=hi.length
 have core:∀H:Hp,ZnA H->Zr K H a (ns.map V.int)->GB P w H s₁.heap->(∀b,H b≠none->b=a)->(H a≠none->K.lookup a=none) ->
   codeAny (model P w) callerA (.call (.ref fa) ⟨[.ref a],[]⟩) (fun r s'=>r = .ok (.ret (.bool true))/\OldK s₁.heap s'.heap/\s'.os=s₁.os/\AllBare s'.gens) s₁:=by
  intro H hO hS hok hA hK
  have base_of:∀{b:Addr}{o:Obj},s₁.heap.get? b=some o->H b=none->(ZeY s₁.heap H).get? b=some o:=fun e n=>ZjQ e n
  have noA:∀{b:Addr}{o:Obj}{es:Array DictEntry}{ep:Nat},s₁.heap.get? b=some o->o.data = .dict es ep->H b=none:=fun {b o es ep} e d=>by
   cases q:H b with
   | none=>rfl
   | some u=>
    have e':b=a:=hA b (by rw [q];simp)
    subst e'
    rw [ha] at e;cases e
    have d':Data.seq vs.toArray _=Data.dict es ep:=d
    cases d'
  have nsK:∀{b:Addr}{m:Str->Option Value},s₁.heap.Ns b m->(ZeY s₁.heap H).Ns b m:=fun {b m} ⟨o,es,ep,e,d,r⟩=>⟨o,es,ep,base_of e (noA e d),d,r⟩
  have hKb:K.In (ZeY s₁.heap H):=fun b o e=>base_of (KX b o e) (by
   cases q:H b with
   | none=>rfl
   | some u=>
    have e':b=a:=hA b (by rw [q];simp)
    subst e'
    rw [hK (by rw [q];simp)] at e;cases e)
  have hM:Mod K mg (ZeY s₁.heap H):=⟨hKb,nsK hns,⟨mb,nsK hb,hbb⟩,let ⟨mc,h1,h2⟩:=hlim;⟨mc,nsK h1,h2⟩⟩
  have e0:Zmd P w K mg (ZeY s₁.heap H) callerA [] s₁ H:=⟨rfl,hM,fun b o e=>Zl5 e,Nat.le_of_eq (ZiE _ _),trivial,fun b hb=>absurd (show b∈([]:List Addr) from hb) (by simp),hok,.of_eq hg⟩
  refine codeAny_mono ((F _ hKb (nsK hns)).run callerA [] s₁ H ⟨[.ref a],[]⟩ [.ref a] [.ref a] _ _ hr e0 (hbind s₁ (.ref a)) (.cons rfl .nil) (hsp H hO hS)) fun r s' h=>?_
  cases r with
  | error e=>exact (hCX H e s' h).elim
  | ok fl=>
   cases fl with
   | next=>exact False.elim h
   | brk=>exact False.elim h
   | cont=>exact False.elim h
   | ret u=>
    obtain ⟨v,H',os,bare,un,hok',r',q⟩:=h
    have q':v = .bl true:=q
    subst q'
    obtain rfl:u=Value.bool true:=r'
    refine ⟨rfl,OldK.of_keep fun b o e=>?_,os,bare⟩
    cases q:H b with
    | none=>exact un.keep b o e q (by intro z;exact absurd (show b∈([]:List Addr) from z) (by simp)) (by simp)
    | some u=>
     rcases hO b with z | ⟨ob,xs,z⟩
     ·rw [q] at z;cases z
     ·have z2:=un.frzs b ob _ z
      obtain ⟨e1,_⟩:=hok b _ z
      obtain ⟨e2,_⟩:=hok' b _ z2
      rw [e] at e1;cases e1
      exact e2
 cases hk:K.lookup a with
 | some o=>
  have e:=KX a o hk
  rw [ha] at e
  cases e
  refine core (fun _=>none) (fun _=>.inl rfl) (.inr ⟨_,vs.toArray,_,hk,rfl,rfl,rfl,by rw [kr,lenV];exact hl,by simpa using rv⟩) (fun b u z=>by have z':(none:Option HO)=some u:=z;cases z') (fun b z=>absurd rfl z) fun z=>absurd rfl z
 | none=>
  refine core (fun b=>if b=a then some (.frz { cls:=.type "list", data:=.seq vs.toArray } (.lst (ns.map V.int))) else none) (fun b=>?_) (.inl (.inr ⟨{ cls:=.type "list", data:=.seq vs.toArray },kh rfl⟩)) (fun b u z=>?_) (fun b z=>?_) fun _=>hk
  ·by_cases hb:b=a
   ·exact .inr ⟨_,_,kh hb⟩
   ·exact .inl (kg hb)
  ·by_cases hb:b=a
   ·have z':=(kh hb).symm.trans z
    cases z'
    subst hb
    exact ⟨ha,by rw [ke];exact hl,vs,_,rv,ha⟩
   ·have z':=(kg hb).symm.trans z
    cases z'
  ·by_cases hb:b=a
   ·exact hb
   ·exact absurd (kg hb) z
theorem Zlx {l:PySem.W.OpenLaw}{n k:Nat}{q:Program}{loose:List Str}{XP:(Str->Option Value)->Heap->Prop}{YP:World->Heap->Prop}{d:DefRec}{K:Params->PySem.W.Frag}{CX:World->CXT}{sp:World->Sp}{x:Str}
  (hn:l.most=some n) (hn2:n<=sizeLine) (hdf:d.params.defaults = []) (hr:GH k callerA)
  (hY:∀(w:World) (h:Heap),YP w h->(K w.params).In h)
  (F:∀(w:World) (mg:Str->Option Value) (fa:Addr) (h:Heap),(K w.params).In h->h.Ns mainGlobals mg->mg d.name=some (.ref fa) ->
   ∃fd:FuncData,(∀(s:Shared) (u:Value),BindsTo s fd ⟨[u],[]⟩ [(x,u)]) /\
    ∀base:Heap,(K w.params).In base->base.Ns mainGlobals mg->Yf l.prog w (K w.params) mg base (CX w) k fa fd [x] (sp w))
  (hsp:∀(w:World) (H:Hp) (a:Addr) (ns:List Int),ns.length<=n->ZnA H->Zr (K w.params) H a (ns.map V.int)->sp w [.ref a] H (fun v _=>v = .bl true) fun _ _ _=>False)
  (hCX:∀(w:World) (H:Hp) (s:Shared) (e:Value) (s':Shared),CX w [] H s (fun _ _ _=>False) e s'->False):
  PySem.W.WalkO q loose XP YP l.row.toRowW d [] (fun f vs=>PySem.call f vs):=by
 refine Att.Zgl hn hdf fun w s₀ s₁ mg mb fa o pm cd doc a vs ns G Y ho hd hcd hmg hobj hints hlen hg=>?_
 have KX:=hY w _ Y
 obtain ⟨fd,hb,hF⟩:=F w mg fa _ KX G.T.g hmg
 exact ZjW KX G.T.g G.T.b G.T.builtins G.T.nolimit hg hobj hints (k9 hlen hn2) hr hF hb (fun H hO hS=>hsp w H a ns hlen hO hS) fun H e s'=>hCX w H s₁ e s'
def Zbo (s:Stmt):Arguments:=match s with
 | .FunctionDef _ a _ _ _ _ _ _ _ _=>a
 | _=>{ posonlyargs:=[],args:=[],vararg:=none,kwonlyargs:=[],kw_defaults:=[],kwarg:=none,defaults:=[] }
def Ug (s:Stmt):List Stmt:=match s with
 | .FunctionDef _ _ b _ _ _ _ _ _ _=>b
 | _=>[]
def Zj (s:Stmt):Scope:=match s with
 | .FunctionDef _ _ _ _ _ _ sc _ _ _=>sc
 | _=>{ kind:=.function,names:=[],isGenerator:=false,isCoroutine:=false }
abbrev Wy:CXT:=fun _ _ _ _ _ _=>False
abbrev E0:XK:=fun _ _ _=>False
theorem Zod {X:Cx}:Passes Wy X E0:=fun _ _ _ _ _ _ _ h=>h.elim
structure Yy (K:PySem.W.Frag) (x qual:Str) (st:Stmt) (f:Addr) (fd:FuncData):Prop where
 ex:∃(oc:Value) (od:Option Addr) (kV doc pm:Value) (an:Option Addr) (cdv ct:Value) (osl:Array (Option Value)),
  fd=PySem.W.fnOf x qual (Zbo st) (Ug st) (Zj st) .none kV doc pm an cdv ct/\K.lookup f=some ⟨oc,od,.func fd,osl⟩/\PySem.W.codeIn K cdv qual=true
 kp:PySem.W.keepIn K (.ref f)=true
section
variable {P:Program}{w:World}{K:PySem.W.Frag}{mg:Str->Option Value}{base:Heap}
theorem Yy.ok {x qual:Str}{st:Stmt}{f:Addr}{fd:FuncData}{N ps:List Str}{k:Nat}{sp:Sp} (F:Yy K x qual st f fd) (S:Zy N ps (Zj st)) (len:∀vs H Q E,sp vs H Q E->vs.length=ps.length)
  (hbody:∀(cdv:Value) (A:Around) (outer:List Env) (s:Shared) (H:Hp) (vs:List V) (Q:VK) (E:XK),GH k (A.deeper (envOfC qual (Zj st) s.heap.objs.size f cdv))->sp vs H Q E ->
   ∃t,PSs (WZ Wy P w K mg base N qual (Zj st) f cdv A outer s H E).nox (Ug st) t/\t { nx:=fun _ H'=>Q .non H',rt:=Q } (start N vs) H):Yf P w K mg base Wy (k+1) f fd ps sp:=by
 obtain ⟨oc,od,kV,doc,pm,an,cdv,ct,osl,rfl,lk,hcd⟩:=F.ex
 refine Zmr lk hcd S len fun A outer s H vs Q E hr hsp=>?_
 obtain ⟨t,h,q⟩:=hbody cdv A outer s H vs Q E hr hsp
 exact ⟨t,h.nox,q⟩
theorem Yy.binds {x qual:Str}{st:Stmt}{f:Addr}{fd:FuncData}{ps:List Str} (F:Yy K x qual st f fd)
  (h:∀(kV doc pm:Value) (an:Option Addr) (cdv ct:Value) (us:List Value),us.length=ps.length->bindArgs (PySem.W.fnOf x qual (Zbo st) (Ug st) (Zj st) .none kV doc pm an cdv ct) ⟨us,[]⟩=pure (ps.zip us)):Binds K fd ps []:=by
 obtain ⟨oc,od,kV,doc,pm,an,cdv,ct,osl,rfl,lk,hcd⟩:=F.ex
 exact .all (h kV doc pm an cdv ct)
theorem ZK {x qual:Str}{st:Stmt}{f:Addr}{oc:Value}{od an:Option Addr}{osl:Array (Option Value)}{kV doc pm cdv ct:Value} (l:K.lookup f=some ⟨oc,od,.func (PySem.W.fnOf x qual (Zbo st) (Ug st) (Zj st) .none kV doc pm an cdv ct),osl⟩)
  (c:PySem.W.codeIn K cdv qual=true) (k:PySem.W.keepIn K (.ref f)=true):Yy K x qual st f (PySem.W.fnOf x qual (Zbo st) (Ug st) (Zj st) .none kV doc pm an cdv ct):=⟨⟨oc,od,kV,doc,pm,an,cdv,ct,osl,rfl,l,c⟩,k⟩
end
theorem JF {A:Around}{k:Nat} (hr:GH k A):A.units+1<cLine:=TL (Nat.add_le_add_left (by decide:1<=64) _) hr.units
theorem Zv {n:Nat} (h:n<=1000):n<sizeLine:=TL h (by decide)
section
variable {X:Cx}
theorem pv (i:Nat) {x:Str}{pos:Pos} (hN:X.N[i]? = some x:=by rfl) (hv:Vis X.env.scope x:=by first | exact Or.inl rfl | exact Or.inr (Or.inl rfl) | exact Or.inr (Or.inr rfl)) (hd:(x==("__debug__" : Str))=false:=by decide)
  (hcd:(x==("__classdict__" : Str))=false:=by decide):PE X (.Name x pos) (JC i):=ZnF hN hv hd hcd
end
theorem WN {A B:Prop} (h:B):if false=true then A else B:=by
 rw [kg kO]
 exact h
theorem Zbt {A B:Prop} (h:A):if true=true then A else B:=by
 rw [kh rfl]
 exact h
theorem Z7 {c A B:Prop} [Decidable c] (h1:c->A) (h2:¬c->B):if c then A else B:=by
 by_cases h:c
 ·rw [kh h]
  exact h1 h
 ·rw [kg h]
  exact h2 h
theorem ZmB {c A B:Prop} [Decidable c] (hc:c) (h:B):if (!decide c)=true then A else B:=by
 rw [kG hc]
 exact WN h
def Zi (H H':Hp):Prop:=∀b o,H b=some o->H' b=some o
theorem Zi.refl (H:Hp):Zi H H:=fun _ _ h=>h
theorem Zi.trans {H H1 H2:Hp} (a:Zi H H1) (b:Zi H1 H2):Zi H H2:=fun c o h=>b c o (a c o h)
theorem Zi.free {H H':Hp} (e:Zi H H') {l:Addr} (h:H' l=Option.none):H l=Option.none:=by
 cases q:H l with
 | none=>rfl
 | some o=>
  rw [e l o q] at h
  cases h
theorem Zi.seq {K:PySem.W.Frag}{H H':Hp}{a:Addr}{xs:List V} (e:Zi H H') (h:Zr K H a xs):Zr K H' a xs:=by
 rcases h with (h | ⟨o,h⟩) | h
 ·exact .inl (.inl (e _ _ h))
 ·exact .inl (.inr ⟨o,e _ _ h⟩)
 ·exact .inr h
end L2
set_option maxHeartbeats 4000000
namespace L2
open PySem PySem.Spec PyProof.Rows
section
variable {prog:Program}{w:World}{A:Around}{R:Result->Shared->Prop}{s:Shared}
theorem Zi8 {elt target iter:Expr}{ifs:List Expr}{scope:Scope}{pos:Pos}{it acc:Value}{env:Env} (I:Nat->Shared->Prop)
  (turn:∀n s,I n s->wpAny (model prog w) A (pyNext it) (fun r s₁=>match r with
   | none=>R (.ok .next) s₁
   | some v=>wpAny (model prog w) A (letOwnedTupleGo target it v) (fun _ s₁'=>wpAny (model prog w) A (assign target env v) (fun _ s₂=>
     wpAny (model prog w) A (forIn ifs true fun c r=>if r=true then do let ok <- isTrue c env (eval c env);pure (ForInStep.yield ok) else pure (ForInStep.yield r)) (fun ok s₃=>
      if ok=true then wpAny (model prog w) A (eval elt env) (fun x s₄=>
       wpAny (model prog w) A (call (.builtin "list.append") [acc,x]) (fun _ s₅=>∃m,m<n/\I m s₅) (fun _ _=>False) s₄) (fun _ _=>False) s₃
      else ∃m,m<n/\I m s₃) (fun _ _=>False) s₂) (fun _ _=>False) s₁') (fun _ _=>False) s₁) (fun _ _=>False) s)
  (n:Nat) (h:I n s):codeAny (model prog w) A (.compLoop (.ListComp elt [⟨target,iter,ifs,0⟩] scope pos) 0 it acc env) R s:=by
 refine codeAny_loop rfl I (fun n s hI=>?_) n h
 show wpAny _ A ((compTurn (.ListComp elt [⟨target,iter,ifs,0⟩] scope pos) 0 it acc env).onRaise (fun x=>do noteFrame x env;theTreesLotGoes x)) _ _ s
 refine wpAny_noted ?_
 rw [compTurn_list]
 refine ka (qU (ka (KH (turn n s hI) (fun r s₁ h₁=>?_) fun _ _ h'=>h'.elim)))
 cases r with
 | none=>exact ko h₁
 | some v=>
  refine ka (KH h₁ (fun _ s₁' h₁'=>?_) fun _ _ h'=>h'.elim)
  refine ka (KH h₁' (fun _ s₂ h₂=>ka (KH h₂ (fun ok s₃ h₃=>?_) fun _ _ h'=>h'.elim)) fun _ _ h'=>h'.elim)
  cases ok with
  | false=>exact ko ⟨rfl,h₃⟩
  | true=>
   exact ka (ka (KH h₃ (fun x s₄ h₄=>ka (KH h₄ (fun _ s₅ h₅=>ko (ko ⟨rfl,h₅⟩)) fun _ _ h'=>h'.elim)) fun _ _ h'=>h'.elim))
end
theorem Zfh (env:Env) (f:Str×NameKind->List (Str×Addr)->Sem (ForInStep (List (Str×Addr))))
  (hf:∀n k r,f (n,k) r=if (k==NameKind.free)=true then (do let a <- cellOf env n;pure (ForInStep.yield ((n,a)::r))) else pure (ForInStep.yield r)):
  ∀(ns:List (Str×NameKind)) (acc:List (Str×Addr)),(∀y∈ns,y.2 = .free -> ∃c,env.cells.lookup y.1=some c)->(∀x c,acc.lookup x=some c->env.cells.lookup x=some c) ->
   ∃cl,forIn ns acc f=pure cl/\(∀x c,cl.lookup x=some c->env.cells.lookup x=some c)/\(∀y∈ns,y.2 = .free -> ∃c,cl.lookup y.1=some c)/\(∀x c,acc.lookup x=some c -> ∃c',cl.lookup x=some c')
 | [],acc,_,ha=>⟨acc,by rw [Ma],ha,fun _ h=>(nomatch h),fun x c h=>⟨c,h⟩⟩
 | (n,k)::r,acc,hn,ha=>by
  rw [NW,hf]
  by_cases hk:k = .free
  ·subst hk
   obtain ⟨c,hc⟩:=hn (n,.free) kK rfl
   have hc':env.cells.lookup n=some c:=hc
   have e1:cellOf env n=pure c:=by unfold cellOf;rw [hc']
   obtain ⟨cl,h1,h2,h3,h4⟩:=Zfh env f hf r ((n,c)::acc) (fun y hy=>hn y (kQ _ hy)) (fun x c' hx=>by
    rw [KY] at hx
    cases e:x==n with
    | true=>
     rw [e] at hx
     have:x=n:=by simpa using e
     subst this
     rw [<- kX hx];exact hc'
    | false=>rw [e] at hx;exact ha x c' hx)
   refine ⟨cl,?_,h2,fun y hy hyf=>?_,fun x c' hx=>?_⟩
   ·rw [kh (by rfl),e1]
    exact h1
   ·rcases kL.mp hy with e | hy
    ·subst e
     exact h4 n c (by simp)
    ·exact h3 y hy hyf
   ·cases e:x==n with
    | true=>exact h4 x c (by rw [KY,e])
    | false=>exact h4 x c' (by rw [KY,e];exact hx)
  ·have hk':(k==NameKind.free)=false:=by simpa using hk
   obtain ⟨cl,h1,h2,h3,h4⟩:=Zfh env f hf r acc (fun y hy=>hn y (kQ _ hy)) ha
   refine ⟨cl,?_,h2,fun y hy hyf=>?_,h4⟩
   ·rw [hk',kg kO]
    exact h1
   ·rcases kL.mp hy with e | hy
    ·subst e
     exact absurd hyf hk
    ·exact h3 y hy hyf
theorem ZhA {scope:Scope}{env:Env} (h:∀y∈scope.names,y.2 = .free -> ∃c,env.cells.lookup y.1=some c):
  ∃cl,closureFor scope env=pure cl/\(∀x c,cl.lookup x=some c->env.cells.lookup x=some c)/\(∀y∈scope.names,y.2 = .free -> ∃c,cl.lookup y.1=some c):=by
 obtain ⟨cl,h1,h2,h3,_⟩:=Zfh env (fun x r=>match x with
  | (n,k)=>if (k==NameKind.free)=true then (do let a <- cellOf env n;pure (ForInStep.yield ((n,a)::r))) else pure (ForInStep.yield r)) (fun _ _ _=>rfl) scope.names [] h (fun x c q=>by simp at q)
 refine ⟨cl,?_,h2,h3⟩
 unfold closureFor
 refine Eq.trans ?_ h1
 have e:∀(m:Sem (List (Str×Addr))),(m >>= fun r=>(pure r >>= fun r=>pure r))=m:=fun m=>by simp only [pure_bind,bind_pure]
 exact e _
def Zcv (n:Nat) (fi:List Nat) (σ:St):St:=List.replicate n none++fi.map fun i=>σ.getD i none
def Zd3:TT:=fun _ H Q=>Q true H
def PTs (X:Cx) (ifs:List Expr) (t:TT):Prop:=
 ∀(pins:List (Addr×Obj)) (s:Shared) (σ:St) (H:Hp) (Q:Bool->Hp->Prop),Inv X pins σ H s->t σ H Q ->
  wpAny (model X.prog X.w) X.A (forIn ifs true fun c r=>if r=true then do let ok <- isTrue c X.env (eval c X.env);pure (ForInStep.yield ok) else pure (ForInStep.yield r)) (TP X pins σ Q) X.xe s
theorem YN {X:Cx}:PTs X [] Zd3:=fun pins s σ H Q I h=>wpAny_tests_nil ⟨H,I,h⟩
theorem ZcP {X:Cx}{c:Expr}{t:TT} (h:PT X c t):PTs X [c] t:=fun pins s σ H Q I q=>wpAny_tests_one (h pins s σ H Q I q)
structure Z6 (N:List Str) (osc scope:Scope) (Ls Fs:List Str) (fi:List Nat):Prop where
 kind:scope.kind = .function
 cells:∀y∈scope.names,y.2 ≠ .cell
 names:∀y∈scope.names,y.2 = .local->scope.names.lookup y.1=some .local
 fre:∀x∈Fs,scope.names.lookup x=some .free
 all:∀y∈scope.names,y.2 = .free->osc.names.lookup y.1=some .cell∨osc.names.lookup y.1=some .free
 ix:fi.map (fun i=>N[i]?)=Fs.map some
def blk (X:Cx) (scope:Scope) (N:List Str) (cl:List (Str×Addr)) (C:Addr) (s3:Shared) (H3:Hp) (ex:List Addr):Cx:=
 { X with N:=N,s₀:=s3,H₀:=H3,env:=compEnvC scope cl C X.env,outer:=X.stack,stack:=X.stack,ex:=ex,fn:=fun _=>false,pn:=[],xe:=fun _ _=>False }
theorem Zbw {env:Env}:∀{names:List (Str×NameKind)}{x:Str},(∀y∈names,y.2 ≠ .cell) ->
    ((names.map fun (n,k)=>if (k==NameKind.free&&env.scope.kind == .function&&env.kindOf n==some .cell) then (n,NameKind.cell) else (n,k)).lookup x=some .cell ∨
     (names.map fun (n,k)=>if (k==NameKind.free&&env.scope.kind == .function&&env.kindOf n==some .cell) then (n,NameKind.cell) else (n,k)).lookup x=some .free) -> ∃y∈names,y.1=x/\y.2 = .free
  | [],_,_,h=>by simp at h
  | (n,k)::r,x,hc,h=>by
    have ih:=@Zbw env r x (fun y hy=>hc y (kQ _ hy))
    cases hx:x==n with
    | true=>
      have e:x=n:=by simpa using hx
      subst e
      by_cases hb:(k==NameKind.free&&env.scope.kind == .function&&env.kindOf x==some .cell)=true
      · have:k = .free:=by
          simp only [Kw,NJ] at hb
          exact hb.1.1
        exact ⟨(x,k),kK,rfl,this⟩
      · simp only [k7,kg hb,KY,hx] at h
        rcases h with h | h
        · exact absurd (kX h) (hc (x,k) kK)
        · exact ⟨(x,k),kK,rfl,kX h⟩
    | false=>
      have h':((r.map fun (n,k)=>if (k==NameKind.free&&env.scope.kind == .function&&env.kindOf n==some .cell) then (n,NameKind.cell) else (n,k)).lookup x=some .cell ∨
        (r.map fun (n,k)=>if (k==NameKind.free&&env.scope.kind == .function&&env.kindOf n==some .cell) then (n,NameKind.cell) else (n,k)).lookup x=some .free):=by
        by_cases hb:(k==NameKind.free&&env.scope.kind == .function&&env.kindOf n==some .cell)=true
        · simpa only [k7,kh hb,KY,hx] using h
        · simpa only [k7,kg hb,KY,hx] using h
      obtain ⟨y,hy,z⟩:=ih h'
      exact ⟨y,kQ _ hy,z⟩
theorem Zbc {env:Env}{x:Str}:∀{names:List (Str×NameKind)},names.lookup x=some .free ->
    ((names.map fun (n,k)=>if (k==NameKind.free&&env.scope.kind == .function&&env.kindOf n==some .cell) then (n,NameKind.cell) else (n,k)).lookup x=some .cell ∨
     (names.map fun (n,k)=>if (k==NameKind.free&&env.scope.kind == .function&&env.kindOf n==some .cell) then (n,NameKind.cell) else (n,k)).lookup x=some .free)
  | [],h=>by simp at h
  | (n,k)::r,h=>by
    cases hx:x==n with
    | true=>
      have e:x=n:=by simpa using hx
      subst e
      rw [KY,hx] at h
      have hk:k = .free:=kX h
      subst hk
      by_cases hb:(NameKind.free==NameKind.free&&env.scope.kind == .function&&env.kindOf x==some .cell)=true
      · left;simp only [k7,kh hb,KY,hx]
      · right;simp only [k7,kg hb,KY,hx]
    | false=>
      rw [KY,hx] at h
      have ih:=@Zbc env x r h
      by_cases hb:(k==NameKind.free&&env.scope.kind == .function&&env.kindOf n==some .cell)=true
      · simpa only [k7,kh hb,KY,hx] using ih
      · simpa only [k7,kg hb,KY,hx] using ih
theorem aLt {h:Heap}{b:Addr}{o:Obj} (e:h.get? b=some o):@LT.lt Nat _ b h.objs.size:=k6 e
def LcW (J:It) (σ:St) (g:TG) (tc:TT) (te:TE) (H:Hp) (Q:VK):Prop:=
 ∃W:Nat->Nat->List V->Hp->Prop,(∃m,W 0 m [] H) /\ ∀i m ys H,W i m ys H ->
  (J.stop i H/\ys.length<=sizeLine /\ ∀D,H D=none->Q (.ref D) (upd H D (.lst ys))) ∨
  (J.go i H/\ys.length<=sizeLine /\ ∃N:List V->Hp->Prop,(∀ys' H',N ys' H' -> ∃m',m'<m/\W (i+1) m' ys' H') /\ ∀x H',J.yld i H x H'->g x σ H' fun σ2 H2=>
   tc σ2 H2 fun b H3=>if b=true then te σ2 H3 fun y H4=>N (ys ++ [y]) H4 else N ys H3)
def tLc (n:Nat) (fi:List Nat) (wi:TI) (g:TG) (tc:TT) (te:TE):TE:=fun σ H Q=>wi σ H fun J H1=>LcW J (Zcv n fi σ) g tc te H1 Q
section
variable {X:Cx}{pins:List (Addr×Obj)} {σ:St}{tg elt iter:Expr}{ifs:List Expr}{scope:Scope}{pos:Pos}{Ls Fs:List Str}{fi:List Nat}{g:TG}{tc:TT}{te:TE}
structure Zmu (X:Cx) (tg:Expr) (J:It) (fp:List Addr) (it:Addr) (tn:Nat->Heap->Prop):Prop where
 obj:∀i h,tn i h -> ∀b∈fp,∃o,h.get? b=some o /\ ∀v,o.data ≠ .cell v
 keep:∀i h h',tn i h->(∀b∈fp,∀o,h.get? b=some o->h'.get? b=some o)->tn i h'
 item:∀(i:Nat) (pins:List (Addr×Obj)) (s:Shared) (σ:St) (H:Hp) (E:Value->Shared->Prop),Inv X pins σ H s->(∀b∈fp,Zcy X pins H b)->tn i s.heap->J.go i H ->
  wpAny (model X.prog X.w) X.A (pyNext (.ref it)) (fun r s1=>∃u,r=some u /\
   wpAny (model X.prog X.w) X.A (letOwnedTupleGo tg (.ref it) u) (fun _ s2=>∃x H',Inv X pins σ H' s2/\RelV x u/\J.yld i H x H'/\tn (i+1) s2.heap /\ ∀b∈fp,H' b=none) E s1) E s
 done:∀(i:Nat) (pins:List (Addr×Obj)) (s:Shared) (σ:St) (H:Hp) (E:Value->Shared->Prop),Inv X pins σ H s->(∀b∈fp,Zcy X pins H b)->tn i s.heap->J.stop i H ->
  wpAny (model X.prog X.w) X.A (pyNext (.ref it)) (fun r s1=>r=none/\Inv X pins σ H s1) E s
 self:∀(A:Around) (i:Nat) (s:Shared) (Q:Value->Shared->Prop) (E:Value->Shared->Prop),tn i s.heap->Q (.ref it) s->wpAny (model X.prog X.w) A (pyIter (.ref it)) Q E s
theorem Turn.at {X:Cx}{tg:Expr}{J:It}{fp:List Addr}{it:Addr}{tn:Nat->Heap->Prop} (T:Turn X.prog X.w X.K tg J fp it tn) (hc:X.calm=true):Zmu X tg J fp it tn:=⟨T.obj,T.keep,T.item X rfl rfl rfl hc,T.done X rfl rfl rfl hc,T.self⟩
theorem Zgi {H2:Hp}{s2:Shared}{it:Addr}{fp:List Addr}{tn:Nat->Heap->Prop}{J:It}{cl:List (Str×Addr)}{Q:VK}{E:Value->Shared->Prop}{RR:Value->Addr->Result->Shared->Prop}
  (S:Z6 X.N X.env.scope scope Ls Fs fi)
  (hb:∀C s3 H3 ex,PG (blk X scope (Ls++Fs) cl C s3 H3 ex) tg g/\PTs (blk X scope (Ls++Fs) cl C s3 H3 ex) ifs tc/\PE (blk X scope (Ls++Fs) cl C s3 H3 ex) elt te)
  (hcl1:∀x c,cl.lookup x=some c->X.env.cells.lookup x=some c) (hcl2:∀y∈scope.names,y.2 = .free -> ∃c,cl.lookup y.1=some c)
  (I2:Inv X pins σ H2 s2) (TX:∀C s3 H3 ex,Zmu (blk X scope (Ls++Fs) cl C s3 H3 ex) tg J fp it tn) (st2:tn 0 s2.heap) (f2:∀b∈fp,Zcy X pins H2 b)
  (hW:∃W:Nat->Nat->List V->Hp->Prop,(∃m,W 0 m [] H2) /\ ∀i m ys H,W i m ys H ->
   (J.stop i H/\ys.length<=sizeLine /\ ∀D,H D=none->Q (.ref D) (upd H D (.lst ys))) ∨
   (J.go i H/\ys.length<=sizeLine /\ ∃N:List V->Hp->Prop,(∀ys' H',N ys' H' -> ∃m',m'<m/\W (i+1) m' ys' H') /\ ∀x H',J.yld i H x H'->g x (Zcv Ls.length fi σ) H' fun σ2 H2=>
    tc σ2 H2 fun b H3=>if b=true then te σ2 H3 fun y H4=>N (ys ++ [y]) H4 else N ys H3))
  (fin:∀D C H' s' m,Inv X pins σ H' s'->Q (.ref D) H'->s'.heap.Ns C m->Zcy X pins H' C->RR (.ref D) C (.ok .next) s'):
  wpAny (model X.prog X.w) X.A (newList []) (fun acc s₃=>wpAny (model X.prog X.w) X.A (newFunctionEnv scope X.env.globals cl [] X.env.qual none .none (some X.env)) (fun cenv s₄=>
   codeAny (model X.prog X.w) X.A (.compStart (.ListComp elt [⟨tg,iter,ifs,0⟩] scope pos) 0 (.ref it) acc { cenv with scope:=relabel scope X.env }) (RR acc cenv.locals) s₄) E s₃) E s2:=by
 refine qe (wpAny_newFunctionEnv S.cells (by intro y hy;simp at hy) (fun h₁ hns₁ hsb₁=>?_) S.kind)
 dsimp only at hns₁ hsb₁ ⊢
 generalize hH3:s2.heap.push { cls:=.type "list", dict:=none,data:=.seq ([]:List Value).toArray } = h3 at hns₁ hsb₁ ⊢
 generalize hC:h3.objs.size=C at hns₁ hsb₁ ⊢
 generalize hD:s2.heap.objs.size=D
 have hCD:C=D+1:=by rw [<- hC,<- hH3,Mb,hD]
 have k23:∀b o,s2.heap.get? b=some o->h3.get? b=some o:=fun b o e=>by rw [<- hH3];exact km _ e
 have k34:∀b o,h3.get? b=some o->h₁.get? b=some o:=fun b o e=>hsb₁.extBut b o (Kb (by have:=aLt e;lia)) (km _ e)
 have hDo:h3.get? D=some { cls:=.type "list", data:=.seq ([]:List Value).toArray }:=by rw [<- hH3,<- hD];exact Ki _ rfl
 obtain ⟨W,⟨m0,w0⟩,turn⟩:=hW
 have T:=TX C { s2 with heap:=h3 } H2 (D::fp)
 have I3:Inv X pins σ H2 { s2 with heap:=h3 }:=I2.kept (t':=s2.toks) k23
 have frD:H2 D=none:=by rw [<- hD];exact I2.fresh
 have frC:H2 C=none:=I2.hok.fresh (by lia)
 have DL:D≠X.env.locals:=qS (by have:@LT.lt Nat _ X.env.locals s2.heap.objs.size:=I2.lt;lia)
 have CL:C≠X.env.locals:=qS (by have:@LT.lt Nat _ X.env.locals s2.heap.objs.size:=I2.lt;lia)
 have cellLt:∀x c,X.env.cells.lookup x=some c -> @LT.lt Nat _ c D:=fun x c e=>by
  obtain ⟨v,q⟩:=I2.cell x c e
  have:@LT.lt Nat _ c s2.heap.objs.size:=q.lt
  lia
 have fpLt:∀b∈fp,@LT.lt Nat _ b D:=fun b hb=>by
  obtain ⟨o,e,_⟩:=T.obj _ _ st2 b hb
  have:=aLt e
  lia
 have exLoc:∀b∈D::fp,b≠C/\(∀x c,X.env.cells.lookup x=some c->c≠b):=fun b hb=>by
  rcases kL.mp hb with e | hb
  ·subst e
   exact ⟨Kb (by lia),fun x c e=>Kb (cellLt x c e)⟩
  ·exact ⟨Kb (by have:=fpLt b hb;lia),(f2 b hb).2.2.2.2.1⟩
 have ok':(blk X scope (Ls++Fs) cl C { s2 with heap:=h3 } H2 (D::fp)).Ok:=by
  refine ⟨I2.ok.mod,S.kind,I2.ok.glob,I2.ok.blt,?_,fun x y c e1 e2=>I2.ok.inj x y c (hcl1 x c e1) (hcl1 y c e2),fun x hx=>?_,fun x c hx=>absurd hx kO,I2.ok.hd,I2.ok.frames,.inl rfl,
   fun b hb=>⟨(exLoc b hb).1,fun x c e=>(exLoc b hb).2 x c (hcl1 x c e)⟩,I3.bs,k9 I2.ok.bsz I3.sz,fun b o e hb=>?_,fun b hb=>?_,I3.stack,I3.stkFree⟩
  ·show h3.objs.size<=C
   lia
  ·obtain ⟨y,hy,e1,e2⟩:=Zbw S.cells hx
   obtain ⟨c,q⟩:=hcl2 y hy e2
   exact ⟨c,e1 ▸ q⟩
  ·rcases kL.mp hb with z | hb
   ·exact absurd z (Kb (by have:=aLt (I2.bk b o e);lia))
   ·rcases (f2 b hb).2.2.2.1 with z | z
    ·exact I2.ok.noex b o e z
    ·have h1:@LT.lt Nat _ b X.base.objs.size:=aLt e
     have h2:@LE.le Nat _ X.base.objs.size X.s₀.heap.objs.size:=I2.ok.bsz
     have h3:@LE.le Nat _ X.s₀.heap.objs.size b:=z
     lia
  ·intro hz
   have hz':=I2.stkSub b hz
   rcases kL.mp hb with e | hb
   ·subst e
    rcases kL.mp hz' with z | z
    ·exact DL z
    ·exact I2.nofs (by lia) z
   ·rcases kL.mp hz' with z | z
    ·exact (f2 b hb).2.1 z
    ·exact (f2 b hb).2.2.1 z
 obtain ⟨m2,hn2,hl2⟩:=id I2.loc
 have cap:∀(i:Nat) (x:Str) (v:V),(Ls++Fs)[i]? = some x->(Zcv Ls.length fi σ)[i]? = some (some v) -> ∃u c,RelV v u/\((relabel scope X.env).names.lookup x=some .cell∨(relabel scope X.env).names.lookup x=some .free) /\
   cl.lookup x=some c/\X.env.cells.lookup x=some c/\s2.heap.IsCell c (some u):=by
  intro i x v e1 e2
  unfold Zcv at e2
  by_cases hi:i<Ls.length
  ·rw [qj (by simpa using hi),Np,kh hi] at e2
   cases e2
  ·have hi':Ls.length<=i:=Nu hi
   rw [KO hi'] at e1
   rw [KO (by simpa using hi'),KA,kz] at e2
   cases e3:fi[i-Ls.length]? with
   | none=>rw [e3] at e2;cases e2
   | some j=>
    rw [e3] at e2
    have e4:σ.getD j none=some v:=kX e2
    have e5:X.N[j]? = some x:=by
     have q:=Ks (fun l=>l[i-Ls.length]?) S.ix
     simp only [kz,e3,e1,qq] at q
     exact kX q
    have e6:σ[j]? = some (some v):=by
     rw [Ke] at e4
     cases e7:σ[j]? with
     | none=>rw [e7] at e4;cases e4
     | some z=>rw [e7] at e4;exact Ks some e4
    have fx:=S.fre x (kY e1)
    have al:=S.all (x,.free) (qy fx) rfl
    have vis:Vis X.env.scope x:=by
     rcases al with z | z
     ·exact .inr (.inl z)
     ·exact .inr (.inr z)
    obtain ⟨u,ru,lk⟩:=hl2 j x v e5 e6 vis
    rcases lk with ⟨k,_⟩ | ⟨k,c,ec,hcell⟩
    ·have k':X.env.scope.names.lookup x=some .local:=k
     rcases al with z | z
     ·rw [show X.env.scope.names.lookup x=some .cell from z] at k';cases k'
     ·rw [show X.env.scope.names.lookup x=some .free from z] at k';cases k'
    ·obtain ⟨c',ec'⟩:=hcl2 (x,.free) (qy fx) rfl
     have:c'=c:=kX ((hcl1 x c' ec').symm.trans ec)
     subst this
     exact ⟨u,c',ru,Zbc fx,ec',ec,hcell⟩
 have capLen:(Zcv Ls.length fi σ).length=(Ls++Fs).length:=by
  unfold Zcv
  have q:=Ks List.length S.ix
  simp only [ke] at q
  rw [kj,KA,ke,kj,q]
 have re:∀{ps:List (Addr×Obj)} {σ':St}{H':Hp}{s':Shared},Inv (blk X scope (Ls++Fs) cl C { s2 with heap:=h3 } H2 (D::fp)) ps σ' H' s'->Inv (blk X scope (Ls++Fs) cl C { s2 with heap:=h3 } H2 (D::fp)) ps (Zcv Ls.length fi σ) H' s':=by
  intro ps σ' H' s' J'
  refine ⟨J'.ok,J'.os,J'.bare,J'.base,?_,J'.cell,J'.free,J'.freeC,J'.pin,J'.hok,capLen⟩
  obtain ⟨m,hn,_⟩:=J'.loc
  refine ⟨m,hn,fun i x v e1 e2 _=>?_⟩
  obtain ⟨u,c,ru,kk,ec,ec2,o,ho,hd⟩:=cap i x v e1 e2
  obtain ⟨sl,q⟩:=J'.base.any (k23 c o ho) (I2.freeC x c ec2) fun z=>(exLoc c z).2 x c ec2 rfl
  exact ⟨u,ru,.inr ⟨kk,c,ec,_,q,hd⟩⟩
 have I4:Inv (blk X scope (Ls++Fs) cl C { s2 with heap:=h3 } H2 (D::fp)) [(D,{ cls:=.type "list", data:=.seq ([]:List Value).toArray })] (Zcv Ls.length fi σ) H2 { s2 with heap:=h₁,toks:=s2.toks+([]:List (Str×Value)).length }:=by
  refine ⟨ok',rfl,I2.bare,Un.kept k34,⟨_,hns₁,fun i x v e1 e2 _=>?_⟩,fun x c e=>?_,frC,fun x c e=>I2.freeC x c (hcl1 x c e),fun p hp=>?_,I2.hok.kept fun b o e=>k34 b o (k23 b o e),capLen⟩
  ·obtain ⟨u,c,ru,kk,ec,ec2,o,ho,hd⟩:=cap i x v e1 e2
   exact ⟨u,ru,.inr ⟨kk,c,ec,o,k34 c o (k23 c o ho),hd⟩⟩
  ·obtain ⟨v,o,ho,hd⟩:=I2.cell x c (hcl1 x c e)
   exact ⟨v,o,k34 c o (k23 c o ho),hd⟩
  ·have hp':p=(D,{ cls:=.type "list", data:=.seq ([]:List Value).toArray }):=by
    have:p∈([]:List (Addr×Obj)) ++ [(D,{ cls:=.type "list", data:=.seq ([]:List Value).toArray })]:=hp
    simpa using this
   subst hp'
   refine ⟨k34 D _ hDo,frD,Kb (show @LT.lt Nat _ D C by lia),fun z=>?_,fun v z=>by cases z⟩
   rcases kL.mp (I2.stkSub D z) with z | z
   ·exact DL z
   ·exact I2.nofs (by lia) z
 obtain ⟨hg,ht,he⟩:=hb C { s2 with heap:=h3 } H2 (D::fp)
 have back:∀{ps:List (Addr×Obj)} {σ':St}{H':Hp}{s':Shared}{ys:List V}{its:List Value}{n:Nat},Inv (blk X scope (Ls++Fs) cl C { s2 with heap:=h3 } H2 (D::fp)) ps σ' H' s'->s'.heap.get? D=some { cls:=.type "list", data:=.seq its.toArray n } ->
   H' D=none->Vals ys its->ys.length<=sizeLine->Inv X pins σ (upd H' D (.lst ys)) s'/\Zcy X pins (upd H' D (.lst ys)) C:=by
  intro ps σ' H' s' ys its n J' hDs hDn rv hz
  have neD:∀b o,s2.heap.get? b=some o->b≠D:=fun b o e=>Kb (by have:=aLt e;lia)
  have nex:∀b,b∉fp->b≠D->b∉D::fp:=fun b h1 h2 z=>(kL.mp z).elim h2 h1
  have U:Un (frs X.stack) fp H2 (upd H' D (.lst ys)) s2.heap s'.heap:=by
   refine ⟨fun b o e n hb hx=>J'.base.keep b o (k23 b o e) n hb (nex b hx (neD b o e)),fun b o e n hb hx=>J'.base.slot b o (k23 b o e) n hb (nex b hx (neD b o e)),fun b o e n hx=>?_,fun b o e hx=>J'.base.there b o (k23 b o e) (nex b hx (neD b o e)),fun b xs e=>?_,fun b o u e=>?_,fun b ps e=>?_⟩
   ·rw [Zh (neD b o e)]
    exact J'.base.free b o (k23 b o e) n (nex b hx (neD b o e))
   ·rw [Zh (Zf e frD)]
    exact J'.base.tups b xs e
   ·rw [Zh (Zf e frD)]
    exact J'.base.frzs b o u e
   ·obtain ⟨more,q⟩:=J'.base.tbls b ps e
    exact ⟨more,by rw [Zh (Zf e frD)];exact q⟩
  have hok':GB X.prog X.w (upd H' D (.lst ys)) s'.heap:=fun b u q=>by
   by_cases hbD:b=D
   ·subst hbD
    rw [Zc] at q
    cases q
    exact ⟨hz,its,n,rv,hDs⟩
   ·rw [Zh hbD] at q
    exact (J'.hok b u q).stay (fun c v _ r=>r) (fun c r=>by rw [Zh (Zf r hDn)];exact r) fun c xs r=>by rw [Zh (Zf r hDn)];exact r
  refine ⟨I2.call' J'.os U hok' J'.bare fun b hb=>⟨(f2 b hb).2.2.2.1,(f2 b hb).2.1,(f2 b hb).2.2.2.2.1,(f2 b hb).2.2.2.2.2⟩,?_⟩
  refine ⟨by rw [Zh (qS (by lia))];exact J'.free,CL,I2.nofs (by lia),.inr (by have:=I2.sz;lia),fun x c e=>Kb (by have:=cellLt x c e;lia),fun p hp=>?_⟩
  have:=aLt (I2.pin p hp).1
  exact Kb (by lia)
 have loop:codeAny (model X.prog X.w) X.A (.compLoop (.ListComp elt [⟨tg,iter,ifs,0⟩] scope pos) 0 (.ref it) (.ref D) (compEnvC scope cl C X.env)) (RR (.ref D) C) { s2 with heap:=h₁,toks:=s2.toks+([]:List (Str×Value)).length }:=by
  refine Zi8 (fun n s'=>∃(i:Nat) (ys:List V) (H':Hp) (its:List Value) (k:Nat),Inv (blk X scope (Ls++Fs) cl C { s2 with heap:=h3 } H2 (D::fp)) [(D,{ cls:=.type "list", data:=.seq its.toArray k })] (Zcv Ls.length fi σ) H' s' /\
   Vals ys its/\tn i s'.heap/\(∀b∈fp,H' b=none)/\W i n ys H') ?_ m0 ⟨0,[],H2,[],0,I4,.nil,T.keep _ _ _ st2 fun b _ o e=>k34 b o (k23 b o e),fun b hb=>(f2 b hb).1,w0⟩
  rintro n s5 ⟨i,ys,H5,its,k,I5,rv,st5,fr5,w5⟩
  have stat:∀{H':Hp}{its':List Value}{k':Nat},(∀b∈fp,H' b=none) -> ∀b∈fp,Zcy (blk X scope (Ls++Fs) cl C { s2 with heap:=h3 } H2 (D::fp)) [(D,{ cls:=.type "list", data:=.seq its'.toArray k' })] H' b:=fun hn b hb=>by
   refine ⟨hn b hb,(exLoc b (kQ _ hb)).1,fun z=>ok'.exfs b (kQ _ hb) z,.inl (kQ _ hb),fun x c e=>(exLoc b (kQ _ hb)).2 x c (hcl1 x c e),fun p hp=>?_⟩
   have hp':p=_:=kZ.mp hp
   rw [hp']
   have:=fpLt b hb
   show D≠b
   exact qS this
  have pinD:=I5.pin (D,{ cls:=.type "list", data:=.seq its.toArray k }) (kZ.mpr rfl)
  rcases turn i n ys H5 w5 with ⟨stop,hz,qn⟩ | ⟨go,hz,N,hN,step⟩
  ·refine KH (T.done i _ s5 _ H5 _ I5 (stat fr5) st5 stop) (fun r s6 ⟨hr,I6⟩=>?_) fun _ _ h=>h
   subst hr
   have pin6:=I6.pin (D,{ cls:=.type "list", data:=.seq its.toArray k }) (kZ.mpr rfl)
   obtain ⟨b1,b2⟩:=back I6 pin6.1 pin6.2.1 rv hz
   obtain ⟨m,hn,_⟩:=I6.loc
   exact fin D C _ s6 m b1 (qn D pin6.2.1) hn b2
  ·refine KH (T.item i _ s5 _ H5 _ I5 (stat fr5) st5 go) (fun r s6 ⟨u,hr,h6⟩=>?_) fun _ _ h=>h
   subst hr
   refine KH h6 (fun _ s7 ⟨x,H7,I7,r7,y7,st7,fr7⟩=>?_) fun _ _ h=>h
   have I7':=I7.pinned (stat fr7) (T.obj _ _ st7)
   refine KH (hg _ s7 _ H7 x u _ I7' r7 (step x H7 y7)) (fun _ s8 ⟨σ8,H8,I8,q8⟩=>?_) fun _ _ h=>h
   refine KH (ht _ s8 σ8 H8 _ I8 q8) (fun ok s9 ⟨H9,I9,q9⟩=>?_) fun _ _ h=>h
   have keepT:∀{σ':St}{H':Hp}{s':Shared},Inv (blk X scope (Ls++Fs) cl C { s2 with heap:=h3 } H2 (D::fp)) ([(D,{ cls:=.type "list", data:=.seq its.toArray k })]++Zc1 fp s7.heap) σ' H' s'->tn (i+1) s'.heap /\ ∀b∈fp,H' b=none:=by
    intro σ' H' s' J'
    refine ⟨T.keep _ _ _ st7 fun b hb o e=>(J'.pin (b,o) (KP _ (KP _ (Uv hb e)))).1,fun b hb=>?_⟩
    obtain ⟨o,e,d⟩:=T.obj _ _ st7 b hb
    exact (J'.pin (b,o) (KP _ (KP _ (Uv hb e)))).2.1
   cases ok with
   | false=>
    rw [kg kO] at q9 ⊢
    obtain ⟨m',hm,w'⟩:=hN _ _ q9
    exact ⟨m',hm,i+1,ys,H9,its,k,re I9.unpinned,rv,(keepT I9).1,(keepT I9).2,w'⟩
   | true=>
    rw [kh rfl] at q9 ⊢
    refine KH (he _ s9 σ8 H9 _ I9 q9) (fun v s10 ⟨y,H10,I10,r10,q10⟩=>?_) fun _ _ h=>h
    obtain ⟨m',hm,w'⟩:=hN _ _ q10
    obtain ⟨k10,f10⟩:=keepT I10
    have I11:Inv (blk X scope (Ls++Fs) cl C { s2 with heap:=h3 } H2 (D::fp)) [(D,{ cls:=.type "list", data:=.seq its.toArray k })] (Zcv Ls.length fi σ) H10 s10:=re I10.unpinned
    have pin11:=I11.pin (D,{ cls:=.type "list", data:=.seq its.toArray k }) (kZ.mpr rfl)
    refine wpAny_list_append_plain ⟨k,pin11.1⟩ (fun h' hp' sb=>?_) (by rw [kr,<- rv.length];exact hz)
    obtain ⟨k',hk'⟩:=hp'
    have e1:its.toArray.push v=(its ++ [v]).toArray:=by simp
    rw [e1] at hk'
    have I12:Inv (blk X scope (Ls++Fs) cl C { s2 with heap:=h3 } H2 (D::fp)) [] (Zcv Ls.length fi σ) H10 { s10 with heap:=h',toks:=s10.toks }:=
     (I11.pins_of (pins':=[]) fun p hp=>(nomatch hp)).turned (it:=D) (fun b o hb e=>(sb.2 b hb).trans e) pin11.2.1 pin11.2.2.1 (.inl kK) (fun x c e=>(exLoc D kK).2 x c (hcl1 x c e)) fun p hp=>(nomatch hp)
    have I13:Inv (blk X scope (Ls++Fs) cl C { s2 with heap:=h3 } H2 (D::fp)) [(D,{ cls:=.type "list", data:=.seq (its ++ [v]).toArray k' })] (Zcv Ls.length fi σ) H10 { s10 with heap:=h',toks:=s10.toks }:=I12.pins_of fun p hp=>by
     have hp':p=_:=kZ.mp hp
     subst hp'
     exact ⟨hk',pin11.2.1,pin11.2.2.1,pin11.2.2.2.1,fun v z=>by cases z⟩
    refine ⟨m',hm,i+1,ys ++ [y],H10,its ++ [v],k',I13,rv.append (.cons r10 .nil),?_,f10,w'⟩
    exact T.keep _ _ _ k10 fun b hb o e=>(sb.2 b (Kb (fpLt b hb))).trans e
 exact codeAny_compStart_list loop (T.self _ 0 _ _ _ (T.keep _ _ _ st2 fun b _ o e=>k34 b o (k23 b o e)) loop)
theorem Gi {wi:TI} (S:Z6 X.N X.env.scope scope Ls Fs fi) (hc:X.calm=true) (hi:PI X tg iter wi)
  (hb:∀cl C s3 H3 ex,PG (blk X scope (Ls++Fs) cl C s3 H3 ex) tg g/\PTs (blk X scope (Ls++Fs) cl C s3 H3 ex) ifs tc/\PE (blk X scope (Ls++Fs) cl C s3 H3 ex) elt te)
  (hs:∀x,foldedSetIterable iter X.env x=pure x:=by intro _;rfl):PE X (.ListComp elt [⟨tg,iter,ifs,0⟩] scope pos) (tLc Ls.length fi wi g tc te):=by
 intro pins s σ H Q I h
 rw [eval_ListComp]
 obtain ⟨cl,hcl,hcl1,hcl2⟩:=ZhA (scope:=scope) (env:=X.env) fun y hy hf=>I.ok.has y.1 (S.all y hy hf)
 refine Nb (use:=none) rfl hs hcl S.kind S.names (KH (hi pins s σ H _ I h) (fun v s1 h1=>KH h1 (fun itv s2 h2=>?_) fun _ _ e=>e) fun _ _ e=>e)
 obtain ⟨it,fp,tn,J,H2,e,I2,T,st2,f2,hW⟩:=h2
 subst e
 refine Zgi (RR:=fun acc C=>compPost (model X.prog X.w) X.A X.xe none (EP X pins σ Q) acc C) S (hb cl) hcl1 hcl2 I2 (fun C s3 H3 ex=>Turn.at (X:=blk X scope (Ls++Fs) cl C s3 H3 ex) T hc) st2 f2 hW fun D C H' s' m I' q hn f=>?_
 obtain ⟨f0,f1,f2,f3,f4,f5⟩:=f
 exact ⟨m,hn,fun h' hs'=>⟨.ref D,H',I'.turned (it:=C) (t':=s'.toks) (fun b o hb e=>(hs'.2 b hb).trans e) f0 f1 f3 f4 f5,rfl,q⟩⟩
theorem Zea {wi:TI}{i:Nat}{x:Str}{pos' spos:Pos} (hN:X.N.Nodup) (hi':X.N[i]? = some x) (hx:Loc X.env.scope x) (S:Z6 X.N X.env.scope scope Ls Fs fi) (hc:X.calm=true) (hi:PI X tg iter wi)
  (hb:∀cl C s3 H3 ex,PG (blk X scope (Ls++Fs) cl C s3 H3 ex) tg g/\PTs (blk X scope (Ls++Fs) cl C s3 H3 ex) ifs tc/\PE (blk X scope (Ls++Fs) cl C s3 H3 ex) elt te)
  (hsw:swapsWith (.ListComp elt [⟨tg,iter,ifs,0⟩] scope pos) (some (.Name x pos')) spos.line X.env=pure true:=by rfl)
  (hs:∀x,foldedSetIterable iter X.env x=pure x:=by intro _;rfl) (hf:X.fn x=true∨X.env.scope.names.lookup x=some .local:=by first | exact .inl rfl | exact .inr rfl | assumption):
  PS X (.Assign [.Name x pos'] (.ListComp elt [⟨tg,iter,ifs,0⟩] scope pos) spos) (Zcz (tLc Ls.length fi wi g tc te) (JX i)):=by
 intro pins s σ H D' I h
 rw [exec_Assign_Name_used _ _ _ _ hsw]
 obtain ⟨cl,hcl,hcl1,hcl2⟩:=ZhA (scope:=scope) (env:=X.env) fun y hy hf=>I.ok.has y.1 (S.all y hy hf)
 refine ka (qU (ka ?_))
 show wpAny _ X.A (do let _ <- comprehension (.ListComp elt [⟨tg,iter,ifs,0⟩] scope pos) scope X.env _ (newList []) false (eval iter X.env) (some (assign (.Name x pos') X.env))) _ _ s
 refine ka (KH (Nb (use:=some (assign (.Name x pos') X.env)) (Q:=fun _ s'=>SP X pins D' .next s') rfl hs hcl S.kind S.names
  (KH (hi pins s σ H _ I h) (fun v s1 h1=>KH h1 (fun itv s2 h2=>?_) fun _ _ e=>e) fun _ _ e=>e)) (fun _ s' hq=>ko (ko hq)) fun _ _ e=>e)
 obtain ⟨it,fp,tn,J,H2,e,I2,T,st2,f2,hW⟩:=h2
 subst e
 refine Zgi (RR:=fun acc C=>compPost (model X.prog X.w) X.A X.xe (some (assign (.Name x pos') X.env)) (fun _ s'=>SP X pins D' .next s') acc C) (Q:=fun x H1=>JX i x σ H1 D'.nx) S (hb cl) hcl1 hcl2 I2 (fun C s3 H3 ex=>Turn.at (X:=blk X scope (Ls++Fs) cl C s3 H3 ex) T hc) st2 f2 hW fun D C H' s' m I' q hn f=>?_
 obtain ⟨f0,f1,f2,f3,f4,f5⟩:=f
 show wpAny _ X.A (assign (.Name x pos') X.env (.ref D)) _ _ _
 refine wpAny_assign_Name (Zd6 I' hN hi' hx (v:=.ref D) rfl (fun s'' I'' hch=>?_) hf)
 obtain ⟨a,sb,ha⟩:=hch
 have hCa:C≠a:=by
  rcases ha with z | z
  ·rw [z];exact f1
  ·exact (f4 x a z).symm
 exact ⟨m,hn.sameBut sb hCa,fun h' hs'=>⟨_,H',I''.turned (it:=C) (t':=s''.toks) (fun b o hb e=>(hs'.2 b hb).trans e) f0 f1 f3 f4 f5,q⟩⟩
end
end L2
namespace L2
open PySem PySem.Spec PyProof.Rows PyProof.V
def Ite (K:PySem.W.Frag) (a:Addr):It:=
 ⟨fun i H=>∃xs x,Zr K H a xs/\xs[i]? = some x,fun i H v H'=>∃p x,v = .ref p/\H p=none/\H'=upd H p (.tup [.int i,x]) /\ ∀xs,Zr K H a xs->xs[i]? = some x,fun i H=>∃xs,Zr K H a xs/\xs.length<=i⟩
theorem Ziy {P:Program}{w:World}{K:PySem.W.Frag}{es:List Expr}{k:Nat}{pos:Pos} (a e it:Addr) (hei:e≠it):
  Turn P w K (.Tuple es k pos) (Ite K a) [e,it] e (fun i h=>(∃old,IsEnum h e it i old)/\h.IsListIter it a i) where
 mem:=by simp
 obj:=fun i h st b hb=>by
  obtain ⟨⟨old,he⟩,o,ho,c,d⟩:=st
  rcases kL.mp hb with z | z
  ·subst z
   exact ⟨_,he,fun v z=>by
    have z':Data.fields _=Data.cell v:=z
    cases z'⟩
  ·have z':b=it:=by simpa using z
   subst z'
   exact ⟨o,ho,fun v z=>by rw [d] at z;cases z⟩
 keep:=fun i h h' st k=>by
  obtain ⟨⟨old,he⟩,hi⟩:=st
  exact ⟨⟨old,k e (by simp) _ he⟩,hi.at fun o x=>k it (by simp) o x⟩
 item:=by
  intro X hP hw hK hc i pins s σ H E I hf st hg
  subst hP hw hK
  obtain ⟨xs,x,hq,hx⟩:=hg
  obtain ⟨its,rv,p,hz⟩:=I.list hq
  obtain ⟨u,hu,ru⟩:=rv.get hx
  obtain ⟨⟨old,he⟩,hi⟩:=st
  obtain ⟨e0,e1,e2,e3,e4,e5⟩:=hf e (by simp)
  obtain ⟨f0,f1,f2,f3,f4,f5⟩:=hf it (by simp)
  refine wpAny_pyNext_enum_item he hi p.isList (x:=u) (by simpa using hu) hei fun h' ho hit ht hsz kk=>⟨_,rfl,?_⟩
  refine wpAny_letOwnedTupleGo_enum (s:={ s with heap:=h',toks:=s.toks+1 }) ho fun h'' he'' hs''=>?_
  have Tn:@LT.lt Nat _ e s.heap.objs.size:=aLt he
  have kk2:∀b o,b≠e->b≠it->s.heap.get? b=some o->h''.get? b=some o:=fun b o h1 h2 q=>(hs''.2 b h1).trans (kk b o h1 h2 q)
  have nne:∀b u,H b=some u->b≠e/\b≠it:=fun b u q=>⟨fun z=>by (rw [z,e0] at q;cases q),fun z=>by (rw [z,f0] at q;cases q)⟩
  have fr:H s.heap.objs.size=none:=I.hok.fresh (ki _)
  have hT:h''.get? s.heap.objs.size=some { cls:=.type "tuple", data:=.seq #[.int i s.toks,u] }:=(hs''.2 _ (qS Tn)).trans ht
  have nT:∀b o,s.heap.get? b=some o->b≠s.heap.objs.size:=fun b o q=>Kb (aLt q)
  have ok':GB X.prog X.w (upd H s.heap.objs.size (.tup [.int i,x])) h'':=fun b o q=>by
   by_cases hb:b=s.heap.objs.size
   ·subst hb
    rw [Zc] at q
    cases q
    exact ⟨show 2<=sizeLine by decide,[.int i s.toks,u],.cons ⟨_,rfl⟩ (.cons ru .nil),⟨_,hT,rfl,_,rfl⟩⟩
   ·rw [Zh hb] at q
    refine (I.hok b o q).stay (fun c v hc r=>?_) (fun c r=>by rw [Zh (Zf r fr)];exact r) fun c xs r=>by rw [Zh (Zf r fr)];exact r
    rcases hc with z | z
    ·subst z
     exact kk2 c v (nne c o q).1 (nne c o q).2 r
    ·exact kk2 c v (nne c _ z).1 (nne c _ z).2 r
  have I1:Inv X pins σ (upd H s.heap.objs.size (.tup [.int i,x])) { s with heap:=h'',gens:=s.gens,drawn:=s.drawn,toks:=s.toks+1 }:=by
   refine I.step (ch:=[e,it]) (fun b hb=>?_) (fun b o _ _ hc q _=>kk2 b o (fun z=>hc (by simp [z])) (fun z=>hc (by simp [z])) q) (fun b o _ _ hc q _=>⟨o.slots,kk2 b o (fun z=>hc (by simp [z])) (fun z=>hc (by simp [z])) q⟩)
    (fun b o _ q n=>by rw [Zh (nT b o q)];exact n) (fun b o hc q=>⟨o,kk2 b o (fun z=>hc (by simp [z])) (fun z=>hc (by simp [z])) q⟩) (fun b xs q=>by rw [Zh (Zf q fr)];exact q) (fun b o u q=>by rw [Zh (Zf q fr)];exact q)
    (fun b ps q=>⟨#[],by rw [Zh (Zf q fr),q];simp⟩) (fun m hm=>?_) ok' I.bare
   ·rcases kL.mp hb with z | z
    ·subst z;exact ⟨e3,e1,e4,e5⟩
    ·have z':b=it:=by simpa using z
     subst z';exact ⟨f3,f1,f4,f5⟩
   ·obtain ⟨o,es,ep,ho,r⟩:=hm
    exact ⟨o,es,ep,kk2 _ o (Ko e1) (Ko f1) ho,r⟩
  refine ⟨.ref s.heap.objs.size,_,I1,rfl,⟨s.heap.objs.size,x,rfl,fr,rfl,fun ys hy=>by rw [I.list_inj hy hq];exact hx⟩,⟨⟨_,by simpa using he''⟩,hit.at fun o q=>(hs''.2 it (Ko hei)).trans q⟩,fun b hb=>?_⟩
  have hbo:∃o,s.heap.get? b=some o:=by
   rcases kL.mp hb with z | z
   ·subst z;exact ⟨_,he⟩
   ·have z':b=it:=by simpa using z
    subst z'
    obtain ⟨o,ho,_⟩:=hi
    exact ⟨o,ho⟩
  obtain ⟨o,hbo⟩:=hbo
  rw [Zh (nT b o hbo)]
  exact (hf b hb).1
 done:=by
  intro X hP hw hK hc i pins s σ H E I hf st hg
  subst hP hw hK
  obtain ⟨xs,hq,hx⟩:=hg
  obtain ⟨its,rv,p,hz⟩:=I.list hq
  obtain ⟨⟨old,he⟩,hi⟩:=st
  obtain ⟨f0,f1,f2,f3,f4,f5⟩:=hf it (by simp)
  have hl:=rv.length
  exact wpAny_pyNext_enum_end (I.ok.hd hc) he hi p.isList (by simp;lia) fun h' eb=>⟨rfl,I.turned (t':=s.toks) (fun b o hb e=>eb b o hb e) f0 f1 f3 f4 f5⟩
 self:=fun _ _ _ _ _ st h=>by
  obtain ⟨⟨old,he⟩,_⟩:=st
  exact wpAny_pyIter_enum he h
section
variable {X:Cx}
def ZkT (K:PySem.W.Frag) (ta:TA):TI:=fun σ H R=>ta σ H fun vs H1=>∃a,vs = [.ref a]/\(∃xs,Zr K H1 a xs)/\R (Ite K a) H1
theorem ZlZ {a:Expr}{ta:TA}{p pos tpos:Pos}{es:List Expr}{k:Nat} (hg:Gl X "enumerate") (hm:X.mg "enumerate" = none) (ha:PA X [a] ta) (hs:starEach [a] X.env = [(false,eval a X.env)]:=by rfl):
  PI X (.Tuple es k tpos) (.Call (.Name "enumerate" p) [a] [] pos) (ZkT X.K ta):=by
 intro pins s σ H R I h
 refine Call_ (Up I hg hm boot_enumerate (KS (YG (ha pos pins s σ H _ I h) fun us s1 ⟨vs,H1,I1,r1,q1⟩=>?_) hs rfl))
 obtain ⟨l,e,⟨xs,hq⟩,q⟩:=q1
 subst e
 cases r1 with
 | cons r rr=>
  cases rr
  cases r
  obtain ⟨its,rv,pl,hz⟩:=I1.list hq
  refine call_enumerate_list pl.isList fun h' he hi hsz kk=>?_
  have I2:Inv X pins σ H1 { s1 with heap:=h' }:=I1.kept (t':=s1.toks) kk
  refine wpAny_pyIter_enum (s:={ s1 with heap:=h' }) he ?_
  refine ⟨_,[s1.heap.objs.size+1,s1.heap.objs.size],_,_,H1,rfl,I2,Ziy l _ _ (Nat.succ_ne_self _),⟨⟨_,he⟩,hi⟩,fun b hb=>?_,q⟩
  have hb':s1.heap.objs.size<=b:=by
   rcases kL.mp hb with z | z
   ·subst z;exact qz _
   ·have z':b=s1.heap.objs.size:=by simpa using z
    subst z';exact ki _
  exact I1.fpOk hb' (I1.hok.fresh hb')
end
section
variable {X:Cx}
theorem ZfL:YU X (.builtin "isinstance") (fun xs H Q=>∃x T t b,xs = [x,.ty T]/\ZbG X.K H x t/\PySem.W.kitOne X.K t (.type T)=some b/\Q (.bl b) H):=by
 intro pins s σ H xs us Q I r h
 obtain ⟨x,T,t,b,rfl,ty,e,q⟩:=h
 obtain ⟨u,v,rfl,ru,rv⟩:=r.two
 cases rv
 exact ZiP I ru ty e fun tk=>⟨.bl b,H,I.tok _,rfl,q⟩
theorem range_all (bs:List Bool):(List.range bs.length).all (fun i=>bs.getD i false)=bs.all id:=by
 rw [qH,qO,qO]
 constructor
 ·intro h b hb
  obtain ⟨i,hi,rfl⟩:=Mc.mp hb
  have:=h i (K9.mpr hi)
  simpa [hi] using this
 ·intro h i hi
  have hi':i<bs.length:=K9.mp hi
  have:=h bs[i] (Nv hi')
  simpa [hi'] using this
theorem Zky (hc:X.calm=true):YU X (.builtin "all") (fun xs H Q=>∃(p:Addr) (bs:List Bool),xs = [.ref p]/\Zr X.K H p (bs.map V.bl)/\Q (.bl (bs.all id)) H):=by
 intro pins s σ H xs us Q I r h
 obtain ⟨p,bs,rfl,hq,q⟩:=h
 obtain ⟨u,rfl,ru⟩:=r.one
 cases ru
 obtain ⟨its,rv,pl,hz⟩:=I.list hq
 have hlen:bs.length=its.length:=by simpa using rv.length
 have hh:X.A.in1.handled=none:=I.ok.hd hc
 have hp:p<s.heap.objs.size:=by
  obtain ⟨o,ho,_⟩:=pl.isList
  exact k6 ho
 refine call_all_walk (wpAny_pyIter_list pl.isList ?_)
 refine ⟨s.heap.objs.size,_,_,_,_,_,fun i=>bs.getD i false,rfl,Walks.list hh s.heap.objs.size p (Kb hp) its.toArray,⟨⟨_,Ki _ rfl,rfl,rfl⟩,?_⟩,fun i v s2 Q2 E2 hv hq2=>?_,fun h' tk kk=>?_⟩
 ·obtain ⟨o,ho,r⟩:=pl.isList
  exact ⟨o,km _ ho,r⟩
 ·have hv':its[i]? = some v:=by simpa using hv
  have hi:i<bs.length:=by rw [hlen];exact (kC.mp hv').1
  obtain ⟨w,hw,rw'⟩:=rv.get (i:=i) (x:=.bl bs[i]) (by simp [hi])
  rw [hv'] at hw
  cases hw
  cases rw'
  refine KC ?_
  have e:bs.getD i false=bs[i]:=by simp [hi]
  rw [<- e]
  exact hq2
 ·have hk:∀b o,s.heap.get? b=some o->h'.get? b=some o:=fun b o e=>kk b o (fun z=>by
   have z':b=s.heap.objs.size:=by simpa using z
   exact qN _ (z' ▸ k6 e)) (km _ e)
  refine ⟨.bl (bs.all id),H,I.kept (t':=tk) hk,?_,q⟩
  have e:its.toArray.size=bs.length:=by rw [kr,hlen]
  rw [e,range_all]
  rfl
theorem J0:∀{ns:List Int}{vs:List Value},Vals (ns.map V.int) vs->IntsAre vs ns
 | [],_,r=>by cases r;exact .nil
 | n::ns,_,r=>by
  cases r with
  | cons r rr=>
   obtain ⟨t,rfl⟩:=r
   exact .cons n t (J0 rr)
theorem Zf5:YU X (.builtin "sorted") (fun xs H Q=>∃(p:Addr) (ns:List Int),xs = [.ref p]/\Zr X.K H p (ns.map V.int)/\ns.length<64 /\ ∀(l:Addr) (ns':List Int),H l=none->ns'.Perm ns->ns'.Pairwise (· <= ·)->Q (.ref l) (upd H l (.lst (ns'.map V.int)))):=by
 intro pins s σ H xs us Q I r h
 obtain ⟨p,ns,rfl,hq,h64,q⟩:=h
 obtain ⟨u,rfl,ru⟩:=r.one
 cases ru
 obtain ⟨its,rv,pl,hz⟩:=I.list hq
 have hlen:ns.length=its.length:=by simpa using rv.length
 refine sorted_ints pl.isList (J0 rv) (by lia) fun out ns' a1 a2 a3=>?_
 obtain ⟨e,he⟩:=NK s.heap its out
 have fr:H (s.heap.objs.size+1)=none:=I.hok.fresh (qz _)
 have hl':ns'.length=ns.length:=a2.length_eq
 refine ⟨.ref (s.heap.objs.size+1),_,I.laid (a:=s.heap.objs.size+1) (o:=.lst (ns'.map V.int)) (t':=s.toks) (fun b o q=>Nc q) (qz _) ⟨?_,out.toList,e,ZaD a1,?_⟩,rfl,q _ _ fr a2 a3⟩
 ·rw [ke]
  have:(ns.map V.int).length<=sizeLine:=hz
  rw [ke] at this
  lia
 ·simpa [seqObj] using he
def Zj0 (K:PySem.W.Frag):V->List V->Hp->VK->Prop:=fun x vs H Q=>∃(l:Addr) (xs:List V) (y:V),x = .ref l/\vs = [y]/\Zr K H l xs/\WL y=true/\xs.all WL=true/\Q (.int (xs.countP fun z=>eqV z y)) H
theorem Zdp {x:V}:∀{xs:List V}{us:List Value},Vals xs us->xs.all WL=true->us.countP (eqU x)=xs.countP fun y=>eqV y x
 | _,_,.nil,_=>rfl
 | _,_,.cons r rr,h=>by
  rw [Mt,Kw] at h
  rw [XC,XC,Zdp rr h.2,Zha r h.1]
theorem ZjE:MtM X "list.count" (Zj0 X.K):=by
 intro pins s σ H x vs v us Q I rx rv h
 obtain ⟨l,xs,y,rfl,rfl,hq,fy,fx,q⟩:=h
 cases rx
 obtain ⟨u,rfl,ru⟩:=rv.one
 obtain ⟨its,r,pl,hz⟩:=I.list hq
 obtain ⟨⟨c,dd,dt,sl⟩,ho,hc,n,hd⟩:=pl.isList
 simp only at hc hd
 subst hc hd
 refine XI F.slot_list_count ⟨_,ho,rfl⟩ F.entry_list_count (F.args_list_count_2 _ _) (SeqAt.list_countAt l its.toArray n dd sl u (eqU y)) ⟨ho,fun w hw=>ZbE ru fy r fx w (by simpa using hw),?_⟩
 refine ⟨.int _,H,I.tok _,⟨_,rfl⟩,?_⟩
 rw [show its.toArray.toList=its by simp,Zdp r fx]
 exact q
end
inductive Eqv (K:PySem.W.Frag) (H:Hp):Nat->V->V->Prop
 | flat {n:Nat}{x:V}:WL x=true->Eqv K H n x x
 | same {n:Nat}{a:Addr}:Eqv K H n (.ref a) (.ref a)
 | lst {n:Nat}{a b:Addr}{xs ys:List V}:Zr K H a xs->Zr K H b ys->xs.length=ys.length->(∀(i:Nat) (x y:V),xs[i]? = some x->ys[i]? = some y->Eqv K H n x y)->Eqv K H (n+1) (.ref a) (.ref b)
 | tup {n:Nat}{a b:Addr}{xs ys:List V}:YX K H a xs->YX K H b ys->xs.length=ys.length->(∀(i:Nat) (x y:V),xs[i]? = some x->ys[i]? = some y->Eqv K H n x y)->Eqv K H (n+1) (.ref a) (.ref b)
theorem all_true (n:Nat):((List.range n).all fun _=>true)=true:=by rw [qO];intro _ _;rfl
theorem ZkQ {x:V} (h:WL x=true):eqV x x=true:=by
 cases x<;>simp_all [eqV,WL]
theorem Eqv.at {X:Cx}{pins:List (Addr×Obj)} {σ:St}{H:Hp}{s:Shared} (I:Inv X pins σ H s):∀{n:Nat}{x y:V}{u v:Value}{A:Around},Eqv X.K H n x y->RelV x u->RelV y v->A.units+n<cLine->SeqAt.EqAt A s u v true:=by
 intro n x y u v A h
 induction h generalizing u v A with
 | flat f=>
  intro ru rv _
  have:=ZjS (A:=A) (s:=s) ru rv f f
  rw [ZkQ f] at this
  exact this
 | same=>
  intro ru rv _
  cases ru
  cases rv
  exact Tu _
 | @lst n a b xs ys ha hb hl _ ih=>
  intro ru rv hu
  cases ru
  cases rv
  by_cases e:a=b
  ·subst e;exact Tu _
  ·obtain ⟨its,r1,p1,_⟩:=I.list ha
   obtain ⟨its2,r2,p2,_⟩:=I.list hb
   have l1:=r1.length
   have l2:=r2.length
   refine SeqAt.EqAt.of_refs e ?_
   have q:=SeqAt.RcAt.lists (A:=A) (e:=fun _=>true) p1.isList p2.isList (by simp only [kr];lia) (by lia) fun j h1 h2=>by
    simp only [kr] at h1 h2
    obtain ⟨u1,e1,s1⟩:=r1.get (i:=j) (x:=xs[j]'(by lia)) (by simp)
    obtain ⟨u2,e2,s2⟩:=r2.get (i:=j) (x:=ys[j]'(by lia)) (by simp)
    have z1:its.toArray[j]=u1:=by
     have:its[j]? = some its[j]:=by simp [h1]
     rw [this] at e1
     simpa using kX e1
    have z2:its2.toArray[j]=u2:=by
     have:its2[j]? = some its2[j]:=by simp [h2]
     rw [this] at e2
     simpa using kX e2
    rw [z1,z2]
    exact ih j _ _ (by simp) (by simp) s1 s2 (by show A.units+1+n<cLine;lia)
   rw [all_true] at q
   exact q
 | @tup n a b xs ys ha hb hl _ ih=>
  intro ru rv hu
  cases ru
  cases rv
  by_cases e:a=b
  ·subst e;exact Tu _
  ·obtain ⟨its,r1,p1,_⟩:=I.tuple ha
   obtain ⟨its2,r2,p2,_⟩:=I.tuple hb
   have l1:=r1.length
   have l2:=r2.length
   refine SeqAt.EqAt.of_refs e ?_
   have q:=SeqAt.RcAt.tuples (A:=A) (s:=s) (l:=a) (b:=b) (items:=its.toArray) (items2:=its2.toArray) (e:=fun _=>true) p1 p2 (by lia) fun j h1 h2=>by
    simp only [kr] at h1 h2
    obtain ⟨u1,e1,s1⟩:=r1.get (i:=j) (x:=xs[j]'(by lia)) (by simp)
    obtain ⟨u2,e2,s2⟩:=r2.get (i:=j) (x:=ys[j]'(by lia)) (by simp)
    have z1:its.toArray[j]=u1:=by
     have:its[j]? = some its[j]:=by simp [h1]
     rw [this] at e1
     simpa using kX e1
    have z2:its2.toArray[j]=u2:=by
     have:its2[j]? = some its2[j]:=by simp [h2]
     rw [this] at e2
     simpa using kX e2
    rw [z1,z2]
    exact ih j _ _ (by simp) (by simp) s1 s2 (by show A.units+1+n<cLine;lia)
   have e3:(its.toArray.size==its2.toArray.size)=true:=by
    rw [NJ];simp only [kr];lia
   rw [e3,all_true] at q
   exact q
section
variable {X:Cx}
def ZoH (K:PySem.W.Frag) (b:Bool):R2:=fun x y H Q=>∃(p q:Addr) (xs ys:List V),x = .ref p/\y = .ref q/\Zr K H p xs/\Zr K H q ys/\xs.length=ys.length/\(∀(i:Nat) (x y:V),xs[i]? = some x->ys[i]? = some y->Eqv K H 60 x y)/\Q (.bl b) H
theorem Ziw {pins:List (Addr×Obj)} {σ:St}{H:Hp}{s:Shared}{xs ys:List V}{its its2:List Value}{A:Around} (I:Inv X pins σ H s) (r1:Vals xs its) (r2:Vals ys its2) (hl:xs.length=ys.length) (h:∀(i:Nat) (x y:V),xs[i]? = some x->ys[i]? = some y->Eqv X.K H 60 x y) (hu:A.units+62<cLine):
  ∀j (h1:j<its.toArray.size) (h2:j<its2.toArray.size),SeqAt.EqAt A.in1 s its.toArray[j] its2.toArray[j] ((fun _=>true) j):=fun j h1 h2=>by
 have l1:=r1.length
 have l2:=r2.length
 simp only [kr] at h1 h2
 obtain ⟨u1,e1,s1⟩:=r1.get (i:=j) (x:=xs[j]'(by lia)) (by simp)
 obtain ⟨u2,e2,s2⟩:=r2.get (i:=j) (x:=ys[j]'(by lia)) (by simp)
 have z1:its.toArray[j]=u1:=by
  have:its[j]? = some its[j]:=by simp [h1]
  rw [this] at e1
  simpa using kX e1
 have z2:its2.toArray[j]=u2:=by
  have:its2[j]? = some its2[j]:=by simp [h2]
  rw [this] at e2
  simpa using kX e2
 rw [z1,z2]
 exact Eqv.at I (h j _ _ (by simp) (by simp)) s1 s2 (by show A.units+1+60<cLine;lia)
theorem Znn (hu:X.A.units+64<cLine):UO X (compareOp .NotEq) (ZoH X.K false):=by
 intro pins s σ H x y v u Q I rx ry h
 obtain ⟨p,q,xs,ys,rfl,rfl,hp,hq,hl,he,hQ⟩:=h
 cases rx
 cases ry
 obtain ⟨its,r1,p1,_⟩:=I.list hp
 obtain ⟨its2,r2,p2,_⟩:=I.list hq
 have l1:=r1.length
 have l2:=r2.length
 refine SeqAt.RcNeAt.lists (e:=fun _=>true) p1.isList p2.isList (by simp only [kr];lia) (by lia) (Ziw I r1 r2 hl he (by lia)) X.prog X.w _ _ ⟨.bl false,H,I,?_,hQ⟩
 show Value.bool _=Value.bool false
 simp
theorem Zp {K:PySem.W.Frag} (h:X.K=K):IxR X (Zoo K):=h ▸ Zlv
theorem Yl {K:PySem.W.Frag} (h:X.K=K):IxR X (Zou K):=h ▸ Zm5
theorem YV {K:PySem.W.Frag} (h:X.K=K):SlR X (Zn7 K):=h ▸ Zlw
theorem Zaq {K:PySem.W.Frag} (h:X.K=K):MtM X "list.count" (Zj0 K):=h ▸ ZjE
theorem Zfx {K:PySem.W.Frag} (h:X.K=K) (hu:X.A.units+64<cLine):UO X (compareOp .NotEq) (ZoH K false):=h ▸ Znn hu
theorem YA {K:PySem.W.Frag} (h:X.K=K):YU X (.builtin "len") (fun xs H Q=>∃p ys,xs = [.ref p]/\(Zr K H p ys∨YX K H p ys)/\Q (.int ys.length) H):=h ▸ Zfz
theorem WQ {K:PySem.W.Frag} (h:X.K=K):YU X (.builtin "isinstance") (fun xs H Q=>∃x T t b,xs = [x,.ty T]/\ZbG K H x t/\PySem.W.kitOne K t (.type T)=some b/\Q (.bl b) H):=h ▸ ZfL
theorem Zd4 {K:PySem.W.Frag} (h:X.K=K) (hc:X.calm=true):YU X (.builtin "all") (fun xs H Q=>∃(p:Addr) (bs:List Bool),xs = [.ref p]/\Zr K H p (bs.map V.bl)/\Q (.bl (bs.all id)) H):=h ▸ Zky hc
theorem Zbi {K:PySem.W.Frag} (h:X.K=K):YU X (.builtin "sorted") (fun xs H Q=>∃(p:Addr) (ns:List Int),xs = [.ref p]/\Zr K H p (ns.map V.int)/\ns.length<64 /\ ∀(l:Addr) (ns':List Int),H l=none->ns'.Perm ns->ns'.Pairwise (· <= ·)->Q (.ref l) (upd H l (.lst (ns'.map V.int)))):=h ▸ Zf5
theorem JJ {K:PySem.W.Frag} (h:X.K=K):YU X (.type "list") (fun xs H Q=>∃p ys,xs = [.ref p]/\(Zr K H p ys∨YX K H p ys) /\ ∀l,H l=none->Q (.ref l) (upd H l (.lst ys))):=h ▸ Zfa
theorem ZY {K:PySem.W.Frag}{es:List Expr}{k:Nat}{t:TGs}{n:Nat}{pos:Pos} (hk:X.K=K) (hc:X.calm=true) (h:PGs X es t) (hn:(assignEach es X.env).length=n:=by rfl) (hst:(assignEach es X.env).findIdx? (·.1)=none:=by rfl):PG X (.Tuple es k pos) (ZkI K n t):=hk ▸ Znw hc h hn hst
theorem Z9 {K:PySem.W.Frag}{T:String}{name:Str}{r:V->List V->Hp->VK->Prop}{o e:Expr}{es:List Expr}{to:TE}{t:TA}{apos pos:Pos} (hk:X.K=K) (h:PE X (.Call (.Attribute o name apos) (e::es) [] pos) (tBM X.K T r to t)):PE X (.Call (.Attribute o name apos) (e::es) [] pos) (tBM K T r to t):=hk ▸ h
theorem ZV {K:PySem.W.Frag}{l tg:Expr}{tl:TE} (hk:X.K=K) (hl:PE X l tl):PI X tg l (Zgc K tl):=hk ▸ ZlV hl
theorem Wg {K:PySem.W.Frag}{a:Expr}{ta:TA}{p pos tpos:Pos}{es:List Expr}{k:Nat} (hk:X.K=K) (hg:Gl X "enumerate") (hm:X.mg "enumerate" = none) (ha:PA X [a] ta) (hs:starEach [a] X.env = [(false,eval a X.env)]:=by rfl):
  PI X (.Tuple es k tpos) (.Call (.Name "enumerate" p) [a] [] pos) (ZkT K ta):=hk ▸ ZlZ hg hm ha hs
end
section
variable {g:TG}{tc:TT}{te:TE} {σ:St}{H:Hp}{Q:VK}{K:PySem.W.Frag}{a:Addr}{xs:List V}
theorem Zfw {J:It}{n:Nat} (hn:n<=sizeLine) (Pv:Nat->List V->Hp->Prop) (h0:Pv 0 [] H) (hlen:∀i ys H,Pv i ys H->ys.length<=i) (go:∀i ys H,i<n->Pv i ys H->J.go i H) (stop:∀ys H,Pv n ys H->J.stop n H)
  (hs:∀i ys H,i<n->Pv i ys H -> ∀x H',J.yld i H x H'->g x σ H' fun σ2 H2=>tc σ2 H2 fun b H3=>if b=true then te σ2 H3 fun y H4=>Pv (i+1) (ys ++ [y]) H4 else Pv (i+1) ys H3)
  (hd:∀ys H,Pv n ys H -> ∀D,H D=none->Q (.ref D) (upd H D (.lst ys))):LcW J σ g tc te H Q:=by
 unfold LcW
 refine ⟨fun i m ys H=>m=n-i/\i<=n/\Pv i ys H,⟨n,by simp,Km _,h0⟩,?_⟩
 rintro i m ys H ⟨rfl,hi,p⟩
 have hy:=hlen i ys H p
 by_cases hlt:i<n
 ·exact .inr ⟨go i ys H hlt p,by lia,Pv (i+1),fun ys' H' h2=>⟨n-(i+1),by lia,rfl,hlt,h2⟩,fun x H' y=>hs i ys H hlt p x H' y⟩
 ·have e:i=n:=by lia
  subst e
  exact .inl ⟨stop ys H p,by lia,hd ys H p⟩
theorem Jg (hn:xs.length<=sizeLine) (Pv:Nat->List V->Hp->Prop) (h0:Pv 0 [] H) (hlen:∀i ys H,Pv i ys H->ys.length<=i) (hS:∀i ys H,Pv i ys H->Zr K H a xs)
  (hs:∀i x ys H,xs[i]? = some x->Pv i ys H->g x σ H fun σ2 H2=>tc σ2 H2 fun b H3=>if b=true then te σ2 H3 fun y H4=>Pv (i+1) (ys ++ [y]) H4 else Pv (i+1) ys H3)
  (hd:∀ys H,Pv xs.length ys H -> ∀D,H D=none->Q (.ref D) (upd H D (.lst ys))):LcW (Itl K a) σ g tc te H Q:=
 Zfw hn Pv h0 hlen (fun i ys H hi p=>⟨xs,xs[i],hS i ys H p,by simp [hi]⟩) (fun ys H p=>⟨xs,hS _ ys H p,ki _⟩) (fun i ys H hi p x H' y=>by
  obtain ⟨e,y⟩:=y
  subst e
  exact hs i x ys _ (y xs (hS i ys _ p)) p) hd
theorem Zhe {lo:Int}{n:Nat} (hn:n<=sizeLine) (Pv:Nat->List V->Hp->Prop) (h0:Pv 0 [] H) (hlen:∀i ys H,Pv i ys H->ys.length<=i)
  (hs:∀i ys H,i<n->Pv i ys H->g (.int (lo+i)) σ H fun σ2 H2=>tc σ2 H2 fun b H3=>if b=true then te σ2 H3 fun y H4=>Pv (i+1) (ys ++ [y]) H4 else Pv (i+1) ys H3)
  (hd:∀ys H,Pv n ys H -> ∀D,H D=none->Q (.ref D) (upd H D (.lst ys))):LcW (Itr lo n) σ g tc te H Q:=
 Zfw hn Pv h0 hlen (fun i ys H hi p=>hi) (fun ys H p=>ki _) (fun i ys H hi p x H' y=>by
  obtain ⟨e,y⟩:=y
  subst e y
  exact hs i ys _ hi p) hd
theorem Zki (hn:xs.length<=sizeLine) (Pv:Nat->List V->Hp->Prop) (h0:Pv 0 [] H) (hlen:∀i ys H,Pv i ys H->ys.length<=i) (hS:∀i ys H,Pv i ys H->Zr K H a xs)
  (hs:∀i x p ys H,xs[i]? = some x->Pv i ys H->H p=none->g (.ref p) σ (upd H p (.tup [.int i,x])) fun σ2 H2=>tc σ2 H2 fun b H3=>if b=true then te σ2 H3 fun y H4=>Pv (i+1) (ys ++ [y]) H4 else Pv (i+1) ys H3)
  (hd:∀ys H,Pv xs.length ys H -> ∀D,H D=none->Q (.ref D) (upd H D (.lst ys))):LcW (Ite K a) σ g tc te H Q:=
 Zfw hn Pv h0 hlen (fun i ys H hi p=>⟨xs,xs[i],hS i ys H p,by simp [hi]⟩) (fun ys H p=>⟨xs,hS _ ys H p,ki _⟩) (fun i ys H hi p x H' y=>by
  obtain ⟨q,z,e1,e2,e3,y⟩:=y
  subst e1 e3
  exact hs i z q ys _ (y xs (hS i ys _ p)) p e2) hd
end
def YE (N:List Str) (osc scope:Scope) (Fs:List Str) (fi:List Nat):Bool:=
 (scope.kind == .function)&&scope.names.all (fun y=>y.2 != .cell)&&scope.names.all (fun y=>y.2 != .local||scope.names.lookup y.1==some .local)&&Fs.all (fun x=>scope.names.lookup x==some .free) &&
  scope.names.all (fun y=>y.2 != .free||osc.names.lookup y.1==some .cell||osc.names.lookup y.1==some .free)&&(fi.map (fun i=>N[i]?)==Fs.map some)
theorem Z6.of {N:List Str}{osc scope:Scope}{Ls Fs:List Str}{fi:List Nat} (h:YE N osc scope Fs fi=true):Z6 N osc scope Ls Fs fi:=by
 simp only [YE,Kw,qO,Xr,NL,NJ] at h
 obtain ⟨⟨⟨⟨⟨h1,h2⟩,h3⟩,h4⟩,h5⟩,h6⟩:=h
 refine ⟨h1,h2,fun y hy hl=>(h3 y hy).elim (fun z=>absurd hl z) id,h4,fun y hy hf=>?_,h6⟩
 rcases h5 y hy with (z | z) | z
 ·exact absurd hf z
 ·exact .inl z
 ·exact .inr z
def Ys (P:Program) (w:World) (K:PySem.W.Frag) (mg:Str->Option Value) (base:Heap) (k:Nat) (x:Str) (ps:List Str) (sp:Sp):Prop:=
 ∃(f:Addr) (fd:FuncData),Yf P w K mg base Wy k f fd ps sp/\mg x=some (.ref f)/\PySem.W.keepIn K (.ref f)=true/\Binds K fd ps []
theorem Zq {X:Cx}{j k:Nat}{x:Str}{ps:List Str}{sp:Sp}{p pos:Pos}{e:Expr}{es:List Expr}{t:TA} (h:Ys X.prog X.w X.K X.mg X.base j x ps sp) (hr:GH k X.A) (ha:PA X (e::es) t) (hj:j<=k:=by decide) (hg:Gl X x:=by rfl) (hdb:(x==("__debug__" : Str))=false:=by decide)
  (he:starEach (e::es) X.env=(false,eval e X.env)::starEach es X.env:=by rfl) (hpl:(backTo pos (starEach es X.env)).any (·.1)=false:=by rfl):PE X (.Call (.Name x p) (e::es) [] pos) (ZfR sp [] E0 t):=by
 obtain ⟨f,fd,G,hm,hk,hb⟩:=h
 exact ZhH G (hr.mono hj) hg hm hk hb .nil Zod ha hdb he hpl
def Jh (b:Addr) (H H':Hp):Prop:=∀c o,H c=some o->c≠b->H' c=some o
theorem Jh.refl (b:Addr) (H:Hp):Jh b H H:=fun _ _ h _=>h
theorem Jh.trans {b:Addr}{H H1 H2:Hp} (x:Jh b H H1) (y:Jh b H1 H2):Jh b H H2:=fun c o h n=>y c o (x c o h n) n
theorem Zi.frm {b:Addr}{H H':Hp} (x:Zi H H'):Jh b H H':=fun c o h _=>x c o h
theorem Zi.laid {H:Hp}{p:Addr}{o:HO} (h:H p=none):Zi H (upd H p o):=fun c u e=>by rw [Zh (Zf e h)];exact e
theorem Zi.step {H H':Hp}{p:Addr}{o:HO} (s:Zi H H') (h:H' p=none):Zi H (upd H' p o):=s.trans (.laid h)
theorem Jh.upd {b:Addr}{H:Hp}{o:HO}:Jh b H (upd H b o):=fun c u e n=>by rw [Zh n];exact e
theorem Jh.new {b p:Addr}{H H':Hp}{o:HO} (s:Jh b H H') (h:H' p=none):Jh b H (L2.upd H' p o):=s.trans (Zi.laid h).frm
theorem Zi.put {H H':Hp}{p:Addr}{o:HO} (s:Zi H H') (h:H p=none):Zi H (upd H' p o):=fun c u e=>by rw [Zh (Zf e h)];exact s c u e
def Bag (H:Hp) (b:Addr):Prop:=∃g r:Int,0<=g/\H b=some (.lst [.int g,.int r])
theorem Jh.free {b:Addr}{H H':Hp} (f:Jh b H H') (hb:Bag H' b) {p:Addr} (h:H' p=none):H p=none:=by
 cases q:H p with
 | none=>rfl
 | some o=>
  by_cases e:p=b
  ·subst e
   obtain ⟨g,r,_,z⟩:=hb
   rw [h] at z;cases z
  ·rw [f p o q e] at h;cases h
def ZE (H:Hp) (xs:List V) (ls:List (Str×Int)):Prop:=Paired (fun x (p:Str×Int)=>∃t,x=V.ref t/\H t=some (.tup [.str p.1,.int p.2])) xs ls
theorem ZE.mono {H H':Hp} (h:∀t p,H t=some (.tup p)->H' t=some (.tup p)):∀{xs:List V}{ls:List (Str×Int)},ZE H xs ls->ZE H' xs ls
 | _,_,.nil=>.nil
 | _,_,.cons ⟨t,e,q⟩ r=>.cons ⟨t,e,h t _ q⟩ (ZE.mono h r)
theorem ZE.same {H H':Hp} (s:Zi H H') {xs:List V}{ls:List (Str×Int)} (h:ZE H xs ls):ZE H' xs ls:=h.mono fun t p e=>s t _ e
theorem ZE.frm {b:Addr}{H H':Hp} (s:Jh b H H') (hb:Bag H b) {xs:List V}{ls:List (Str×Int)} (h:ZE H xs ls):ZE H' xs ls:=h.mono fun t p e=>s t _ e (fun z=>by
 obtain ⟨g,r,_,q⟩:=hb
 rw [z,q] at e;cases e)
theorem ZE.len {H:Hp}{xs:List V}{ls:List (Str×Int)} (h:ZE H xs ls):xs.length=ls.length:=qM h
theorem ZE.get {H:Hp}:∀{xs:List V}{ls:List (Str×Int)}{i:Nat}{x:V},ZE H xs ls->xs[i]? = some x -> ∃p t,ls[i]? = some p/\x = .ref t/\H t=some (.tup [.str p.1,.int p.2])
 | _,_,_,_,.nil,e=>by simp at e
 | _,_,0,_,.cons ⟨t,e1,q⟩ _,e=>by simp at e;subst e;exact ⟨_,t,rfl,e1,q⟩
 | _,_,i+1,x,.cons _ r,e=>by
  obtain ⟨p,t,h1,h2⟩:=ZE.get (i:=i) (x:=x) r (by simpa using e)
  exact ⟨p,t,by simpa using h1,h2⟩
theorem ZE.snoc {H:Hp}{xs:List V}{ls:List (Str×Int)}{t:Addr}{x:Str}{k:Int} (h:ZE H xs ls) (e:H t=some (.tup [.str x,.int k])):ZE H (xs ++ [.ref t]) (ls ++ [(x,k)]):=Tj h ⟨t,rfl,e⟩
theorem ZE.append {H:Hp}:∀{xs ys:List V}{ls ms:List (Str×Int)},ZE H xs ls->ZE H ys ms->ZE H (xs++ys) (ls++ms)
 | _,_,_,_,.nil,s=>s
 | _,_,_,_,.cons r t,s=>.cons r (ZE.append t s)
inductive Wk:List (Str×Int)->Int->Prop
 | nil:Wk [] 0
 | born {ls:List (Str×Int)}{n k:Int}:Wk ls n->0<=k->k<=n->Wk (ls ++ [((("born" : Str),k):Str×Int)]) (n+2)
 | cross {ls:List (Str×Int)}{n k:Int}:Wk ls n->0<=k->k+1<n->Wk (ls ++ [((("cross" : Str),k):Str×Int)]) n
 | fin {ls:List (Str×Int)}{n k:Int}:Wk ls n->0<=k->k+1<n->Wk (ls ++ [((("end" : Str),k):Str×Int)]) (n-2)
def Kd (x:Str):Prop:=x = "born" ∨ x = "cross" ∨ x = "end"
theorem Wk.kd {ls:List (Str×Int)}{n:Int} (h:Wk ls n):∀p∈ls,Kd p.1:=by
 induction h with
 | nil=>intro p hp;cases hp
 | born _ _ _ ih=>intro p hp;rcases Ku.mp hp with z | z;exact ih p z;rw [kZ.mp z];exact .inl rfl
 | cross _ _ _ ih=>intro p hp;rcases Ku.mp hp with z | z;exact ih p z;rw [kZ.mp z];exact .inr (.inl rfl)
 | fin _ _ _ ih=>intro p hp;rcases Ku.mp hp with z | z;exact ih p z;rw [kZ.mp z];exact .inr (.inr rfl)
def Drw (H:Hp) (l:Addr) (ls:List (Str×Int)):Prop:=∃xs,H l=some (.lst xs)/\ZE H xs ls/\Wk ls 0/\ls.length<=60
def Ev (t:TT) (σ:St) (H:Hp) (β:Bool):Prop:=∀Q:Bool->Hp->Prop,Q β H->t σ H Q
theorem Zfj {t u:TT} {σ:St}{H:Hp} {β γ:Bool} (h1:Ev t σ H β) (h2:β = true->Ev u σ H γ):Ev (Zoe t u) σ H (β && γ):=fun Q q=>h1 _ (by
 cases β with
 | true=>rw [kh rfl];exact h2 rfl _ q
 | false=>rw [kg kO];exact q)
theorem ZnZ {t u:TT} {σ:St}{H:Hp} {β γ:Bool} (h1:Ev t σ H β) (h2:β = false->Ev u σ H γ):Ev (tOr t u) σ H (β || γ):=fun Q q=>h1 _ (by
 cases β with
 | true=>rw [kh rfl];exact q
 | false=>rw [kg kO];exact h2 rfl _ q)
theorem Zos {t:TT} {σ:St}{H:Hp} {β:Bool}{T U:Hp->Prop} (h:Ev t σ H β) (h1:β = true->T H) (h2:β = false->U H):t σ H fun b H1=>if b=true then T H1 else U H1:=h _ (by
 cases β with
 | true=>rw [kh rfl];exact h1 rfl
 | false=>rw [kg kO];exact h2 rfl)
theorem Zg8 {tc:TT}{t u:TS}{D:Ends} {σ:St}{H:Hp} {β:Bool} (h:Ev tc σ H β) (h1:β = true->t D σ H) (h2:β = false->u D σ H):Zi6 tc t u D σ H:=Zos h h1 h2
theorem lcT {σ:St}{H:Hp}{A B:Hp->Prop} (h:A H):Zd3 σ H fun b H3=>if b=true then A H3 else B H3:=by
 show if true=true then A H else B H
 exact Zbt h
theorem Wm {H H1 H2:Hp}{b l t:Addr}{xs:List V}{ls:List (Str×Int)} (x:Str) (k:Int) (f0:Jh b H H1) (hb1:Bag H1 b) (hl:H1 l=some (.lst xs)) (hL:ZE H1 xs ls) (hlb:l≠b) (hlf:H l=none) (f2:Jh b H1 H2) (bag2:Bag H2 b) (ht:H2 t=none):
  (upd H2 t (.tup [.str x,.int k])) l=some (.lst xs)/\Bag (upd (upd H2 t (.tup [.str x,.int k])) l (.lst (xs ++ [.ref t]))) b/\Jh b H (upd (upd H2 t (.tup [.str x,.int k])) l (.lst (xs ++ [.ref t]))) /\
   (upd (upd H2 t (.tup [.str x,.int k])) l (.lst (xs ++ [.ref t]))) l=some (.lst (xs ++ [.ref t]))/\ZE (upd (upd H2 t (.tup [.str x,.int k])) l (.lst (xs ++ [.ref t]))) (xs ++ [.ref t]) (ls ++ [(x,k)]):=by
 have hl2:H2 l=some (.lst xs):=f2 l _ hl hlb
 have hlt:l≠t:=Zf hl2 ht
 have hbt:b≠t:=by
  obtain ⟨g,r,_,e⟩:=bag2
  exact Zf e ht
 refine ⟨by rw [Zh hlt];exact hl2,?_,fun c o e n=>?_,Zc,?_⟩
 ·obtain ⟨g,r,h0,e⟩:=bag2
  exact ⟨g,r,h0,by rw [Zh (Ko hlb),Zh hbt];exact e⟩
 ·have e2:=f2 c o (f0 c o e n) n
  rw [Zh (Zf e hlf),Zh (Zf e2 ht)]
  exact e2
 ·refine ZE.snoc ?_ (by rw [Zh (Ko hlt)];exact Zc)
  refine (hL.frm f2 hb1).mono fun t' p e=>?_
  rw [Zh (Wr e hl2 (by intro z;cases z)),Zh (Zf e ht)]
  exact e
theorem Wk.nil0:Wk [] (2*((0:Nat):Int)):=Wk.nil
theorem ZcC {ls:List (Str×Int)}:∀(n:Nat),Wk ls (2*(n:Int)) -> ∀m,m<=n->Wk (ls++List.replicate m ((("end" : Str),0):Str×Int)) (2*((n-m:Nat):Int))
 | n,h,0,_=>by simpa using h
 | n,h,m+1,hm=>by
  have ih:=ZcC n h m (by lia)
  rw [qC,<- Kc]
  have e:(2*((n-(m+1):Nat):Int))=2*((n-m:Nat):Int)-2:=by lia
  rw [e]
  exact Wk.fin ih (by decide) (by lia)
theorem Zev:∀(n:Nat),Wk ((List.range n).map fun (k:Nat)=>((("born" : Str),2*(k:Int)):Str×Int)) (2*(n:Int))
 | 0=>by simpa using Wk.nil
 | n+1=>by
  rw [KN,kP]
  have e:(2*((n+1:Nat):Int))=2*(n:Int)+2:=by lia
  rw [e]
  exact Wk.born (Zev n) (by lia) (by lia)
theorem lcG {i:Nat}{v:V} {σ:St}{H:Hp}{A B:St->Hp->Prop} (h:A (σ.set i (some v)) H):JX i v σ H fun σ2 H2=>Zd3 σ2 H2 fun b H3=>if b=true then A σ2 H3 else B σ2 H3:=by
 show if true=true then A (σ.set i (some v)) H else B (σ.set i (some v)) H
 exact Zbt h
def isK (ls:List (Str×Int)) (pr:Str->Bool) (i:Nat):Bool:=((ls[i]?).map fun q=>pr q.1)==some true
def Yd (ls:List (Str×Int)) (pr:Str->Bool) (n:Nat):List Int:=(List.range n).filterMap fun i=>if isK ls pr i=true then some (i:Int) else none
theorem W3 (ls:List (Str×Int)) (pr:Str->Bool) (n:Nat):Yd ls pr (n+1)=Yd ls pr n++(if isK ls pr n=true then [(n:Int)] else []):=by
 unfold Yd
 rw [KN,List.filterMap_append]
 by_cases h:isK ls pr n=true<;>simp [h]
theorem ZfT {ls:List (Str×Int)}{pr:Str->Bool}{n:Nat}{q:Str×Int} (h:ls[n]? = some q) (hp:pr q.1=true):(Yd ls pr n).map V.int ++ [V.int n]=(Yd ls pr (n+1)).map V.int:=by
 have:isK ls pr n=true:=by unfold isK;rw [h];simp [hp]
 rw [W3,this]
 simp
theorem Zhx {ls:List (Str×Int)}{pr:Str->Bool}{n:Nat}{q:Str×Int} (h:ls[n]? = some q) (hp:pr q.1=false):(Yd ls pr n).map V.int=(Yd ls pr (n+1)).map V.int:=by
 have:isK ls pr n=false:=by unfold isK;rw [h];simp [hp]
 rw [W3,this]
 simp
theorem Wq (ls:List (Str×Int)) (pr:Str->Bool) (n:Nat):(Yd ls pr n).length<=n:=by
 unfold Yd
 exact k9 (Nd _ _) (by simp)
theorem ZaT:∀{a b:List Int},a.Perm b->a.Pairwise (· <= ·)->b.Pairwise (· <= ·)->a=b
 | [],b,p,_,_=>(List.nil_perm.mp p).symm
 | x::a,[],p,_,_=>absurd p.length_eq (by simp)
 | x::a,y::b,p,ha,hb=>by
  have hx:x∈y::b:=p.mem_iff.mp kK
  have hy:y∈x::a:=p.mem_iff.mpr kK
  have h1:y<=x:=by
   rcases kL.mp hx with e | h
   ·lia
   ·exact (qu.mp hb).1 x h
  have h2:x<=y:=by
   rcases kL.mp hy with e | h
   ·lia
   ·exact (qu.mp ha).1 y h
  have e:x=y:=by lia
  subst e
  rw [ZaT (List.perm_cons x |>.mp p) (qu.mp ha).2 (qu.mp hb).2]
def Zi0 (x:Str):Int:=if x = "born" then 2 else if x = "end" then -2 else 0
def Zdk (ls:List (Str×Int)):Int:=(ls.map fun p=>Zi0 p.1).sum
theorem Zb7 (ls:List (Str×Int)) (p:Str×Int):Zdk (ls ++ [p])=Zdk ls+Zi0 p.1:=by
 unfold Zdk
 simp
theorem ZkL {xs:List V}{t:Nat} (h:t<=xs.length):WB xs none (some (t:Int))=xs.take t:=by
 have e1:HT.Jq xs.length 0 none=0:=by unfold HT.Jq;rfl
 have e2:HT.Jq xs.length xs.length (some (t:Int))=t:=by
  have h0:¬((t:Int)<0):=by lia
  unfold HT.Jq
  simp [h0]
  lia
 unfold WB
 rw [e1,e2]
 simp
theorem Zeh (ns:List Int):(ns.map V.int).all WL=true:=by
 rw [qO]
 intro x hx
 obtain ⟨n,_,rfl⟩:=K7.mp hx
 rfl
section
variable {X:Cx}
theorem ZfP {v:Value}{a:Int} (h:IsPart v (some a)):RelV (.int a) v:=by
 cases h with
 | int _ t=>exact ⟨t,rfl⟩
def Zo7 (to:TE) (tl th:TO):TG:=fun v σ H Q=>to σ H fun x H1=>tl σ H1 fun lo H2=>th σ H2 fun hi H3=>∃(l b:Addr) (xs ys:List V) (a c:Int),x = .ref l/\v = .ref b/\lo=some a/\hi=some c/\H3 l=some (.lst xs)/\H3 b=some (.lst ys)/\l≠b /\
 0<=a/\a<=c/\c<=xs.length/\xs.length+ys.length<=sizeLine/\Q σ (upd H3 l (.lst (xs.take a.toNat++ys++xs.drop c.toNat)))
theorem ZnK {o:Expr}{lo hi:Option Expr}{to:TE}{tl th:TO}{p2 pos:Pos} (ho:PE X o to) (hl:PO X lo tl) (hu:PO X hi th):PG X (.Subscript o (.Slice lo hi none p2) pos) (Zo7 to tl th):=by
 intro pins s σ H v u Q I r h
 show wpAny _ _ (do
   let ov <- holding [u] (eval o X.env)
   let iv <- holding [u,ov] (eval (.Slice lo hi none p2) X.env)
   standAt pos
   holding [u,ov,iv] (setItem ov iv u)
   release [iv,u,ov] []) _ _ s
 refine ka (Kv (YG (ho pins s σ H _ I h) fun ov s1 ⟨x,H1,I1,r1,q1⟩=>?_))
 refine ka (Kv (wpAny_Slice (YG (hl pins s1 σ H1 _ I1 q1) fun vl s2 ⟨l',H2,I2,pl,q2⟩=>YG (hu pins s2 σ H2 _ I2 q2) fun vu s3 ⟨u',H3,I3,pu,q3⟩=>?_)))
 rw [Na]
 refine ko ?_
 have I4:Inv X pins σ H3 { s3 with heap:=s3.heap.push { cls:=.type "slice", data:=.fields #[vl,vu,.none] } }:=I3.kept (t':=s3.toks) fun b ob q=>km _ q
 obtain ⟨l,b,xs,ys,a,c,rfl,rfl,rfl,rfl,hx,hy,hne,h0,hac,hc,hz,q⟩:=q3
 cases r1
 cases r
 refine ka (qU (ka (Kv (ZiH I4 hx hy hne (TK ..) (ZfP pl) (ZfP pu) h0 hac hc hz fun s5 I5=>?_))))
 exact Mr ⟨σ,_,I5,q⟩
def Zlp:V->List V->Hp->VK->Prop:=fun x vs H Q=>∃(l:Addr) (xs:List V) (i:Int) (y:V),x = .ref l/\vs = [.int i,y]/\H l=some (.lst xs)/\0<=i/\i<=xs.length/\xs.length<sizeLine/\xs.length<2 ^ 62/\Q .non (upd H l (.lst (xs.take i.toNat++y::xs.drop i.toNat)))
theorem ZeH:MtM X "list.insert" Zlp:=by
 intro pins s σ H x vs v us Q I rx rv h
 obtain ⟨l,xs,i,y,rfl,rfl,hH,h0,h1,hz,hb,q⟩:=h
 cases rx
 obtain ⟨u1,u,rfl,ri,ru⟩:=rv.two
 obtain ⟨t,rfl⟩:=ri
 obtain ⟨z,its,n,r,hl,e⟩:=I.lstM hH
 have hfit:¬(!Builtin.List.listFitsIndex i)=true:=by
  unfold Builtin.List.listFitsIndex
  simp
  lia
 refine XI F.slot_list_insert ⟨_,e,rfl⟩ F.entry_list_insert (F.args_list_insert_3 _ _ _) (AutoSeq1.list_insert_list_int_val_1 l its.toArray n i t u hfit (by rw [kr];lia)) ⟨e,?_⟩
 refine ⟨.non,_,I.lset (its':=its.take i.toNat++u::its.drop i.toNat) hH e ?_ (Vals.append (r.take _) (.cons ru (r.drop _))) ?_,rfl,q⟩
 ·have hi:¬i<0:=by lia
  have hm:min i.toNat its.toArray.size=i.toNat:=by rw [kr];lia
  simp only [kg hi,hm]
  simp
  rw [kJ (by simp)]
 ·rw [kj,KJ,kM,KD]
  lia
end
theorem Ziq (a c:Nat) (hac:a<=c):∀(its:List Value) (i:Nat),((its.zipIdx i).filterMap fun (p:Value×Nat)=>if (a<=p.2/\p.2<c) then none else some p.1)=its.take (a-i)++its.drop (c-i)
 | [],i=>by simp
 | x::r,i=>by
  have ih:=Ziq a c hac r (i+1)
  rw [List.zipIdx_cons,qJ]
  by_cases h1:i<a
  ·have e1:a-i=(a-(i+1))+1:=by lia
   have e2:c-i=(c-(i+1))+1:=by lia
   rw [kg (show ¬(a<=(x,i).2/\(x,i).2<c) by show ¬(a<=i/\i<c);lia)]
   simp only [ih]
   rw [e1,e2]
   simp
  ·by_cases h2:i<c
   ·have e1:a-i=0:=by lia
    have e1':a-(i+1)=0:=by lia
    have e2:c-i=(c-(i+1))+1:=by lia
    rw [kh (show (a<=(x,i).2/\(x,i).2<c) by show (a<=i/\i<c);lia)]
    simp only [ih]
    rw [e1,e1',e2]
    simp
   ·have e1:a-i=0:=by lia
    have e1':a-(i+1)=0:=by lia
    have e2:c-i=0:=by lia
    have e2':c-(i+1)=0:=by lia
    rw [kg (show ¬(a<=(x,i).2/\(x,i).2<c) by show ¬(a<=i/\i<c);lia)]
    simp only [ih]
    rw [e1,e1',e2,e2']
    simp
section
variable {prog:Program}{w:World}{A:Around}{E:Value->Shared->Prop}{s:Shared}
theorem ZdQ {l sl:Addr}{its:List Value}{n:Nat}{vl vu:Value}{a c:Nat}{Q:Unit->Shared->Prop}
  (e:s.heap.get? l=some { cls:=.type "list", data:=.seq its.toArray n }) (hs:s.heap.IsSliceOf sl vl vu .none) (pl:IsPart vl (some (a:Int))) (pu:IsPart vu (some (c:Int))) (hac:a<=c) (hc:c<=its.length)
  (hsz:its.length<=sizeLine) (h:∀f:Array Value->Array Value,f its.toArray=(its.take a++its.drop c).toArray->Q () { s with heap:=s.heap.update l (Obj.mapSeq f) }):
  wpAny (model prog w) A (delItem (.ref l) (.ref sl)) Q E s:=by
 have hl:s.heap.IsList l its.toArray:=Nt e
 obtain ⟨os,hos,hcs,hds⟩:=id hs
 have hTs:s.TypeIs (.ref sl) "slice" := ⟨os,hos,hcs⟩
 have hstep:¬((rawPart none==rawInt 0)=true):=kO
 refine wpAny_delItem_slot hl.typeIs (by decide) F.slot_list_delitem (qb F.slot_list_delitem hl.typeIs F.entry_list_delitem ?_ (F.args_list_delitem_2 _ _))
 show wpAny _ _ (Builtin.List.listSubscript? (.ref sl) >>= _) _ _ s
 refine ka ?_
 unfold Builtin.List.listSubscript?
 refine ka (wpAny_specialOf hTs slice_no_index ?_)
 simp only [MB,XU]
 refine ko ?_
 show wpAny _ _ (typeOf (.ref sl) >>= _) _ _ s
 refine ka (qr hTs ?_)
 first
  | rw [kg (by decide)]
  | refine XJ (by decide) ?_
 rw [listSliceParts_eq]
 refine ka (ka (qd hos hds (x:=.none) rfl (ka (Xz .none ?_))))
 rw [kg hstep]
 refine ka (qd hos hds (x:=vl) rfl (ka (Xz pl ?_)))
 refine ka (qd hos hds (x:=vu) rfl (ka (Xz pu (ko ?_))))
 unfold Builtin.List.listItems
 refine ka (ka (XW e rfl (ko ?_)))
 refine ka (N9 ((sliceIndices_raw (some (a:Int)) (some (c:Int)) none its.toArray.size (by simp)).trans (Ks (pure:Int×Int×Int->Sem (Int×Int×Int)) (ZdH hac (by rw [kr];exact hc)))) ?_)
 refine ka (qV ?_)
 have key:∀(F:Array Value->Array Value),F its.toArray=(its.take a++its.drop c).toArray -> ∀(g:Sem Fin),(∀s',Q () s'->wpAny (model prog w) A.in1 g (fun fin s'=>∃v,fin = .done (.ret v)/\Q () s') E s') ->
   wpAny (model prog w) A.in1 (Builtin.List.listUpdate (.ref l) F >>= fun _=>g) (fun fin s'=>∃v,fin = .done (.ret v)/\Q () s') E s:=fun F hF g hg=>by
  show wpAny (model prog w) A.in1 (updateSeq l F >>= fun _=>g) _ E s
  refine ka (wpAny_updateSeq (hz:=by rw [kr];exact hsz) (_hz':=?_) e rfl (hg _ (h F hF)))
  rw [hF,kr,kj,kM,KD]
  lia
 refine key _ ?_ _ ?_
 ·refine Ks List.toArray ((Ks (fun f=>List.filterMap f its.zipIdx) (funext fun p=>?_)).trans (Ziq a c hac its 0))
  obtain ⟨x,k⟩:=p
  show (if (if (1:Int)>0 then decide ((a:Int)<=(k:Int))&&decide ((k:Int)<(c:Int))&&(((k:Int)-(a:Int)) % 1==0) else _)=true then none else some x)=if (a<=k/\k<c) then none else some x
  rw [kh (show (1:Int)>0 by decide)]
  have e0:((k:Int)-(a:Int)) % 1=0:=Int.emod_one _
  by_cases h1:a<=k/\k<c
  ·rw [kh h1,kh (by rw [e0];simp;lia)]
  ·rw [kg h1,kg (by rw [e0];simp;lia)]
 ·intro s' hq
  exact ka (wpAny_letGo (ko ⟨.none,rfl,hq⟩))
end
section
variable {X:Cx}
def Zns (to:TE) (tl th:TO):TS:=fun D σ H=>to σ H fun x H1=>tl σ H1 fun lo H2=>th σ H2 fun hi H3=>∃(l:Addr) (xs:List V) (a c:Int),x = .ref l/\lo=some a/\hi=some c/\H3 l=some (.lst xs)/\0<=a/\a<=c/\c<=xs.length/\D.nx σ (upd H3 l (.lst (xs.take a.toNat++xs.drop c.toNat)))
theorem Zkn {o:Expr}{lo hi:Option Expr}{to:TE}{tl th:TO}{p2 p3 pos:Pos} (ho:PE X o to) (hl:PO X lo tl) (hu:PO X hi th):PS X (.Delete [.Subscript o (.Slice lo hi none p2) p3] pos) (Zns to tl th):=by
 intro pins s σ H D I h
 refine wpAny_Delete (wpAny_deleteEach_cons ?_)
 rw [arm_delete_Subscript]
 refine ka (YG (ho pins s σ H _ I h) fun ov s1 ⟨x,H1,I1,r1,q1⟩=>?_)
 refine ka (Kv (wpAny_Slice (YG (hl pins s1 σ H1 _ I1 q1) fun vl s2 ⟨l',H2,I2,pl,q2⟩=>YG (hu pins s2 σ H2 _ I2 q2) fun vu s3 ⟨u',H3,I3,pu,q3⟩=>?_)))
 rw [Na]
 refine ko ?_
 have I4:Inv X pins σ H3 { s3 with heap:=s3.heap.push { cls:=.type "slice", data:=.fields #[vl,vu,.none] } }:=I3.kept (t':=s3.toks) fun b ob q=>km _ q
 obtain ⟨l,xs,a,c,rfl,rfl,rfl,hx,h0,hac,hc,q⟩:=q3
 cases r1
 obtain ⟨z,its,n,r,hlen,e⟩:=I4.lstM hx
 obtain ⟨a',rfl⟩:=kF h0
 obtain ⟨c',rfl⟩:=kF (MZ h0 hac)
 simp only [kI] at q
 refine ka (qU (ka (Kv (ZdQ (a:=a') (c:=c') e (TK ..) pl pu (by lia) (by lia) (by lia) fun f hf=>?_))))
 refine Mr (wpAny_deleteEach_nil ?_)
 refine ⟨σ,_,I4.lset (its':=its.take a'++its.drop c') (t':=s3.toks) hx e hf (Vals.append (r.take _) (r.drop _)) ?_,q⟩
 rw [kj,kM,KD]
 lia
end
theorem Zaw {K:PySem.W.Frag}{a:Addr}{xs:List V}{g:TG}{tb:TS}{D:Ends} {σ:St}{H:Hp} (Pv:Nat->St->Hp->Prop) (h0:Pv 0 σ H) (hl:∀i σ H,i<=xs.length->Pv i σ H->Zr K H a xs)
  (hs:∀i x p σ H,xs[i]? = some x->Pv i σ H->H p=none->g (.ref p) σ (upd H p (.tup [.int i,x])) fun σ2 H2=>tb { D with nx:=Pv (i+1),ct:=Pv (i+1),bk:=D.nx } σ2 H2) (hd:∀ σ H,Pv xs.length σ H->D.nx σ H):
  ∃W:Nat->Nat->St->Hp->Prop,(∃m,W 0 m σ H) /\ ∀i m σ H,W i m σ H ->
   ((Ite K a).stop i H/\D.nx σ H)∨((Ite K a).go i H /\ ∃N:St->Hp->Prop,(∀ σ' H',N σ' H' -> ∃m',m'<m/\W (i+1) m' σ' H') /\ ∀x H',(Ite K a).yld i H x H'->g x σ H' fun σ2 H2=>tb { D with nx:=N,ct:=N,bk:=D.nx } σ2 H2):=by
 refine ⟨fun i m σ H=>m=xs.length-i/\i<=xs.length/\Pv i σ H,⟨xs.length,by simp,Km _,h0⟩,?_⟩
 rintro i m σ H ⟨rfl,hi,p⟩
 have q:=hl i σ H hi p
 by_cases hlt:i<xs.length
 ·refine .inr ⟨⟨xs,xs[i],q,by simp [hlt]⟩,Pv (i+1),fun σ' H' p'=>⟨xs.length-(i+1),by lia,rfl,hlt,p'⟩,fun x H' y=>?_⟩
  obtain ⟨r,z,e1,e2,e3,y⟩:=y
  subst e1 e3
  exact hs i z r σ _ (y xs q) p e2
 ·have e:i=xs.length:=by lia
  subst e
  exact .inl ⟨⟨xs,q,ki _⟩,hd σ H p⟩
def Gr (r:List Int) (k:Nat):List Int:=(r.set k (r.getD (k+1) 0)).set (k+1) (r.getD k 0)
def stp (s:List Int×Int) (p:Str×Int):List Int×Int:=
 if p.1 = "born" then (s.1.take p.2.toNat ++ [s.2,s.2+1]++s.1.drop p.2.toNat,s.2+2) else if p.1 = "cross" then (Gr s.1 p.2.toNat,s.2) else (s.1.take p.2.toNat++s.1.drop (p.2.toNat+2),s.2)
def rb (ls:List (Str×Int)):List Int×Int:=ls.foldl stp ([],0)
theorem YF (ls:List (Str×Int)) (p:Str×Int):rb (ls ++ [p])=stp (rb ls) p:=by
 unfold rb
 rw [List.foldl_append]
 rfl
theorem Wi {s:List Int×Int}{k:Int}:stp s ("born", k)=(s.1.take k.toNat ++ [s.2,s.2+1]++s.1.drop k.toNat,s.2+2):=kh rfl
theorem nb1:¬(("cross" : Str) = "born"):=by decide +kernel
theorem nb2:¬(("end" : Str) = "born"):=by decide +kernel
theorem nb3:¬(("end" : Str) = "cross"):=by decide +kernel
theorem JL {s:List Int×Int}{k:Int}:stp s ("cross", k)=(Gr s.1 k.toNat,s.2):=(kg nb1).trans (kh rfl)
theorem Gz {s:List Int×Int}{k:Int}:stp s ("end", k)=(s.1.take k.toNat++s.1.drop (k.toNat+2),s.2):=(kg nb2).trans (kg nb3)
theorem U5 {ls:List (Str×Int)}{n:Int} (h:Wk ls n):((rb ls).1.length:Int)=n:=by
 induction h with
 | nil=>rfl
 | born h h0 h1 ih=>
  rw [YF,Wi]
  simp only [kj,kM,KD,KJ,Xs]
  lia
 | cross h h0 h1 ih=>
  rw [YF,JL]
  simp only [Gr,KG]
  exact ih
 | fin h h0 h1 ih=>
  rw [YF,Gz]
  simp only [kj,kM,KD]
  lia
theorem GO {α:Type}{a b:List α}{x y:α} (h:a ++ [x]=b ++ [y]):a=b/\x=y:=by
 have h1:=List.append_inj' h rfl
 exact ⟨h1.1,by simpa using h1.2⟩
theorem Znd {l:List (Str×Int)}{p:Str×Int}{m:Int} (h:Wk (l ++ [p]) m):∃n,Wk l n/\((p.1 = "born" /\ 0<=p.2/\p.2<=n)∨(p.1 = "cross" /\ 0<=p.2/\p.2+1<n)∨(p.1 = "end" /\ 0<=p.2/\p.2+1<n)):=by
 generalize hq:l ++ [p]=q at h
 cases h with
 | nil=>exact absurd hq (by simp)
 | born h h0 h1=>obtain ⟨rfl,rfl⟩:=GO hq;exact ⟨_,h,.inl ⟨rfl,h0,h1⟩⟩
 | cross h h0 h1=>obtain ⟨rfl,rfl⟩:=GO hq;exact ⟨_,h,.inr (.inl ⟨rfl,h0,h1⟩)⟩
 | fin h h0 h1=>obtain ⟨rfl,rfl⟩:=GO hq;exact ⟨_,h,.inr (.inr ⟨rfl,h0,h1⟩)⟩
theorem W0 {ls:List (Str×Int)}{n:Int} (h:Wk ls n):∀i,∃m,Wk (ls.take i) m:=by
 induction h with
 | nil=>intro i;exact ⟨0,by simpa using Wk.nil⟩
 | @born l n k h h0 h1 ih=>
  intro i
  by_cases hi:i<=l.length
  ·rw [qD hi];exact ih i
  ·rw [kJ (by rw [kj,Kj];lia)];exact ⟨_,Wk.born h h0 h1⟩
 | @cross l n k h h0 h1 ih=>
  intro i
  by_cases hi:i<=l.length
  ·rw [qD hi];exact ih i
  ·rw [kJ (by rw [kj,Kj];lia)];exact ⟨_,Wk.cross h h0 h1⟩
 | @fin l n k h h0 h1 ih=>
  intro i
  by_cases hi:i<=l.length
  ·rw [qD hi];exact ih i
  ·rw [kJ (by rw [kj,Kj];lia)];exact ⟨_,Wk.fin h h0 h1⟩
theorem Zd9 {ls:List (Str×Int)}{n:Int} (h:Wk ls n) {i:Nat}{p:Str×Int} (hp:ls[i]? = some p):
  ls.take (i+1)=ls.take i ++ [p]/\((p.1 = "born" /\ 0<=p.2/\p.2<=((rb (ls.take i)).1.length:Int))∨(p.1 = "cross" /\ 0<=p.2/\p.2+1<((rb (ls.take i)).1.length:Int))∨(p.1 = "end" /\ 0<=p.2/\p.2+1<((rb (ls.take i)).1.length:Int))):=by
 have e:ls.take (i+1)=ls.take i ++ [p]:=by rw [Kh,hp];rfl
 refine ⟨e,?_⟩
 obtain ⟨m,hm⟩:=W0 h (i+1)
 rw [e] at hm
 obtain ⟨n',hn,c⟩:=Znd hm
 rw [U5 hn]
 exact c
def YR (H:Hp) (xs:List V) (rs:List (List Int)):Prop:=Paired (fun x (r:List Int)=>∃t,x=V.ref t/\H t=some (.lst (r.map V.int))) xs rs
theorem YR.mono {H H':Hp} (h:∀t o,V.ref t∈xs->H t=some o->H' t=some o) {rs:List (List Int)} (r:YR H xs rs):YR H' xs rs:=by
 unfold YR at *
 induction r with
 | nil=>exact .nil
 | cons a t ih=>
  obtain ⟨q,e,hq⟩:=a
  subst e
  exact .cons ⟨q,rfl,h q _ kK hq⟩ (ih fun t o ht=>h t o (kQ _ ht))
def rowsOf (ls:List (Str×Int)) (i:Nat):List (List Int):=(List.range i).map fun j=>(rb (ls.take j)).1
theorem Zac (ls:List (Str×Int)) (i:Nat):rowsOf ls (i+1)=rowsOf ls i ++ [(rb (ls.take i)).1]:=by
 unfold rowsOf
 rw [KN,kP]
 rfl
theorem YR.mem {H:Hp}{xs:List V}{rs:List (List Int)} (r:YR H xs rs) {t:Addr} (h:V.ref t∈xs):∃q:List Int,H t=some (.lst (q.map V.int)):=by
 unfold YR at r
 induction r with
 | nil=>cases h
 | cons a _ ih=>
  obtain ⟨q,e,hq⟩:=a
  rcases kL.mp h with z | z
  ·rw [e] at z
   have:t=q:=V.ref.inj z
   subst this
   exact ⟨_,hq⟩
  ·exact ih z
theorem YR.last {H:Hp}{rs:List (List Int)}{r:List Int}:∀{xs:List V} , YR H xs (rs ++ [r]) -> ∃ys t,xs=ys ++ [V.ref t]/\H t=some (.lst (r.map V.int)):=by
 induction rs with
 | nil=>
  intro xs h
  cases h with
  | cons a b=>
   cases b
   obtain ⟨t,e,q⟩:=a
   exact ⟨[],t,by rw [e];rfl,q⟩
 | cons q rs ih=>
  intro xs h
  cases h with
  | @cons x _ l _ a b=>
   obtain ⟨ys,t,e,q⟩:=ih b
   exact ⟨x::ys,t,by rw [e];rfl,q⟩
theorem YR.snoc {H:Hp}{xs:List V}{rs:List (List Int)}{t:Addr}{r:List Int} (h:YR H xs rs) (e:H t=some (.lst (r.map V.int))):YR H (xs ++ [.ref t]) (rs ++ [r]):=Tj h ⟨t,rfl,e⟩
theorem YR.len {H:Hp}{xs:List V}{rs:List (List Int)} (h:YR H xs rs):xs.length=rs.length:=qM h
theorem W4 {H H' G:Hp}{R w:Addr}{ys:List V}{ls:List (Str×Int)}{i:Nat} (hR:H R=none) (sm:Zi H H') (rv:YR H' ys (rowsOf ls (i+1))) (ap:∀t,V.ref t∈ys->H t=none/\t≠R) (nd:ys.Nodup) (hw:H' w=none) (hwR:w≠R)
  (k:∀c o,H' c=some o->c≠R->G c=some o) (gw:G w=some (.lst ((rb (ls.take (i+1))).1.map V.int))):
  Zi H G/\YR G (ys ++ [.ref w]) (rowsOf ls (i+2))/\(∀t,V.ref t∈ys ++ [V.ref w]->H t=none/\t≠R)/\(ys ++ [V.ref w]).Nodup:=by
 refine ⟨fun c o e=>k c o (sm c o e) (Zf e hR),?_,fun t ht=>?_,?_⟩
 ·rw [Zac]
  exact YR.snoc (rv.mono fun t o ht e=>k t o e (ap t ht).2) gw
 ·rcases Ku.mp ht with z | z
  ·exact ap t z
  ·have:t=w:=V.ref.inj (kZ.mp z)
   subst this
   exact ⟨sm.free hw,hwR⟩
 ·rw [qm]
  refine ⟨nd,by simp,fun a ha b hb=>?_⟩
  rw [kZ.mp hb]
  intro z
  subst z
  obtain ⟨q,e⟩:=rv.mem ha
  rw [hw] at e
  cases e
theorem Zbr {ls:List (Str×Int)}{n:Int} (h:Wk ls n):n<=2*(ls.length:Int):=by
 induction h with
 | nil=>decide
 | born _ _ _ ih=>rw [kj,Kj];lia
 | cross _ _ _ ih=>rw [kj,Kj];lia
 | fin _ _ _ ih=>rw [kj,Kj];lia
theorem Y5 {n j:Nat} (h:j<n):ixN n (j:Int)=some j:=by
 unfold ixN
 rw [kh (by lia),kh (by lia)]
 simp
theorem Zij (r:List Int) (k:Nat):((r.map V.int).set k (V.int (r.getD (k+1) 0))).set (k+1) (V.int (r.getD k 0))=(Gr r k).map V.int:=by
 unfold Gr
 rw [qL,qL]
theorem map_getD (r:List Int) {k:Nat} (h:k<r.length):(r.map V.int)[k]? = some (V.int (r.getD k 0)):=by
 rw [kz]
 simp [h]
def UY:Sp:=fun vs H Q _=>∃(l:Addr) (xs:List V) (ls:List (Str×Int)),vs = [.ref l]/\H l=some (.lst xs)/\ZE H xs ls/\ls.length<=60/\Wk ls 0 /\ ∀(p:Addr) (H':Hp) (ys:List V),H p=none->Zi H H'->H' p=some (.lst ys)->YR H' ys (rowsOf ls (ls.length+1))->(∀t,V.ref t∈ys->H t=none/\t≠p)->ys.Nodup->Q (.ref p) H'
theorem Zl8 {α:Type} (r:List α) (k:Nat) (x y:α) (h:k<=r.length):(r.take k++y::r.drop k).take k++x::(r.take k++y::r.drop k).drop k=r.take k ++ [x,y]++r.drop k:=by
 have hl:(r.take k).length=k:=by rw [kM];lia
 have e1:(r.take k++y::r.drop k).take k=r.take k:=by
  have:=List.take_left' (l₂:=y::r.drop k) hl
  exact this
 have e2:(r.take k++y::r.drop k).drop k=y::r.drop k:=List.drop_left' hl
 rw [e1,e2]
 simp
theorem ZlS {α:Type} (r:List α) (k:Nat):(r.eraseIdx k).eraseIdx k=r.take k++r.drop (k+2):=by
 induction r generalizing k with
 | nil=>simp
 | cons x r ih=>
  cases k with
  | zero=>cases r<;>simp
  | succ k=>
   rw [Nw,Nw,ih]
   simp
theorem Zd7 {n j:Nat} (h:j<n):seqIndex? (j:Int) n=some j:=by
 unfold seqIndex?
 have h0:¬((j:Int)<0):=by lia
 simp [h0,h]
section
variable {κ:Type} [DecidableEq κ]
def Jo (kvs:List (κ × V)) (k:κ):Option V:=(kvs.find? fun kv=>decide (kv.1=k)).map (·.2)
def putK (kvs:List (κ × V)) (k:κ) (v:V):List (κ × V):=
 if (kvs.any fun kv=>decide (kv.1=k))=true then kvs.map (fun kv=>if kv.1=k then (kv.1,v) else kv) else kvs ++ [(k,v)]
theorem YO {p:κ × V}{r:List (κ × V)}{k:κ} (e:p.1=k):Jo (p::r) k=some p.2:=by simp [Jo,Xt,e]
theorem YL {p:κ × V}{r:List (κ × V)}{k:κ} (e:¬p.1=k):Jo (p::r) k=Jo r k:=by simp [Jo,Xt,e]
theorem Zbp (k:κ):∀kvs:List (κ × V),(kvs.any fun kv=>decide (kv.1=k))=(Jo kvs k).isSome
 | []=>rfl
 | p::r=>by
  rw [qW]
  by_cases e:p.1=k
  ·simp only [YO e,kG e,MY,Option.isSome_some]
  ·rw [YL e,Kn e,Bool.false_or];exact Zbp k r
theorem ZfI (k j:κ) (y:V):∀kvs:List (κ × V),Jo (kvs.map fun kv=>if kv.1=k then (kv.1,y) else kv) j=(Jo kvs j).map fun x=>if j=k then y else x
 | []=>rfl
 | p::r=>by
  have ih:=ZfI k j y r
  rw [k7]
  by_cases h:p.1=k
  ·rw [kh h]
   by_cases e:p.1=j
   ·rw [YO (p:=(p.1,y)) e,YO e,qq,kh (e.symm.trans h)]
   ·rw [YL (p:=(p.1,y)) e,YL e,ih]
  ·rw [kg h]
   by_cases e:p.1=j
   ·rw [YO (p:=p) e,YO e,qq,kg (fun z=>h (e.trans z))]
   ·rw [YL (p:=p) e,YL e,ih]
theorem Zez (k j:κ) (y:V):∀kvs:List (κ × V),Jo kvs k=none->Jo (kvs ++ [(k,y)]) j=if j=k then some y else Jo kvs j
 | [],_=>by
  by_cases e:k=j
  ·rw [kh e.symm];exact YO (p:=(k,y)) e
  ·rw [kg (fun z=>e z.symm)];exact YL (p:=(k,y)) e
 | p::r,hn=>by
  rw [Nx]
  have hk:¬p.1=k:=fun z=>by rw [YO z] at hn;cases hn
  rw [YL hk] at hn
  have ih:=Zez k j y r hn
  by_cases e:p.1=j
  ·rw [YO e,YO e,kg (fun z=>hk (e.trans z))]
  ·rw [YL e,YL e,ih]
theorem Zdo (kvs:List (κ × V)) (k j:κ) (y:V):Jo (putK kvs k y) j=if j=k then some y else Jo kvs j:=by
 unfold putK
 by_cases a:(kvs.any fun kv=>decide (kv.1=k))=true
 ·rw [kh a,ZfI]
  rw [Zbp] at a
  by_cases e:j=k
  ·obtain ⟨x,hx⟩:=T9.mp a
   rw [kh e,e,hx,qq,kh rfl]
  ·rw [kg e]
   cases Jo kvs j with
   | none=>rfl
   | some x=>rw [qq,kg e]
 ·rw [kg a]
  refine Zez k j y kvs ?_
  rw [Zbp] at a
  cases q:Jo kvs k with
  | none=>rfl
  | some x=>rw [q] at a;exact (a rfl).elim
theorem Wh (kvs:List (κ × V)) (k:κ) (v:V):(putK kvs k v).length<=kvs.length+1:=by
 unfold putK
 split
 ·rw [ke];lia
 ·rw [kj,KJ,Xs];lia
theorem ZbQ.isSome_eq {o:Option V}{u:Option Value} (r:ZbQ o u):o.isSome=u.isSome:=by
 cases o with
 | none=>cases u with
  | none=>rfl
  | some _=>exact (show False from r).elim
 | some _=>cases u with
  | none=>exact (show False from r).elim
  | some _=>rfl
theorem ZbQ.getD {o:Option V}{u:Option Value}{d:V}{d':Value} (r:ZbQ o u) (rd:RelV d d'):RelV (o.getD d) (u.getD d'):=by
 cases o with
 | none=>cases u with
  | none=>exact rd
  | some _=>exact (show False from r).elim
 | some _=>cases u with
  | none=>exact (show False from r).elim
  | some _=>exact r
theorem KV.val {kvs:List (κ × V)}{vs:List (κ × Value)} (r:KV kvs vs) (k:κ):ZbQ (Jo kvs k) (valueAt vs k):=by
 unfold KV at r
 induction r with
 | nil=>exact True.intro
 | @cons p q ps qs h t ih=>
  obtain ⟨h1,h2⟩:=h
  by_cases e:p.1=k
  ·have e':q.1=k:=h1.symm.trans e
   have b:valueAt (q::qs) k=some q.2:=by simp [valueAt,Xt,e']
   rw [YO e,b];exact h2
  ·have e':¬q.1=k:=fun z=>e (h1.trans z)
   have b:valueAt (q::qs) k=valueAt qs k:=by simp [valueAt,Xt,e']
   rw [YL e,b];exact ih
theorem KV.any {kvs:List (κ × V)}{vs:List (κ × Value)} (r:KV kvs vs) (k:κ):(kvs.any fun kv=>decide (kv.1=k))=vs.any fun kv=>decide (kv.1=k):=by
 unfold KV at r
 induction r with
 | nil=>rfl
 | cons h t ih=>rw [qW,qW,ih,h.1]
theorem KV.repl {kvs:List (κ × V)}{vs:List (κ × Value)} (r:KV kvs vs) (k:κ) {y:V}{u:Value} (ry:RelV y u):
  KV (kvs.map fun kv=>if kv.1=k then (kv.1,y) else kv) (vs.map fun kv=>if kv.1=k then (kv.1,u) else kv):=by
 unfold KV at r ⊢
 induction r with
 | nil=>exact .nil
 | @cons p q ps qs h t ih=>
  rw [k7,k7]
  refine .cons ?_ ih
  obtain ⟨h1,h2⟩:=h
  by_cases e:p.1=k
  ·rw [kh e,kh (h1.symm.trans e)];exact ⟨h1,ry⟩
  ·rw [kg e,kg (fun z=>e (h1.trans z))];exact ⟨h1,h2⟩
theorem KV.put {kvs:List (κ × V)}{vs:List (κ × Value)} (r:KV kvs vs) (k:κ) {y:V}{u:Value} (ry:RelV y u):KV (putK kvs k y) (stored vs k u):=by
 unfold putK stored
 rw [r.any k]
 by_cases e:(vs.any fun kv=>decide (kv.1=k))=true
 ·rw [kh e,kh e];exact r.repl k ry
 ·rw [kg e,kg e];exact Tj r ⟨rfl,ry⟩
theorem KV.length {kvs:List (κ × V)}{vs:List (κ × Value)} (r:KV kvs vs):kvs.length=vs.length:=qM r
end
theorem ZdE {P:Program}{w:World}{k:Key}{u:Value} (r:RelV (kV k) u):(ZT P w).is k u=true:=by
 cases k with
 | inl i=>obtain ⟨t,e⟩:=(show ∃t,u=Value.int i t from r);subst e;exact ZfH P w i t
 | inr x=>obtain ⟨t,e⟩:=(show ∃t,u=Value.str x t from r);subst e;exact Zgn P w x t
theorem ZeE {P:Program}{w:World}:∀{ks:List Key}{us:List Value},Vals (ks.map kV) us->ItemsAre (ZT P w) ks us
 | [],_,r=>by rw [NI] at r;cases r;exact .nil
 | k::ks,_,r=>by
  rw [k7] at r
  cases r with
  | cons h t=>exact .cons (ZdE h) (ZeE t)
abbrev KT (H:Hp):List (List Key×V)->List (List Key×Addr×Value)->Prop:=Paired fun p q=>p.1=q.1/\H q.2.1=some (.tup (p.1.map kV))/\RelV p.2 q.2.2
theorem KT.val {H:Hp}{kvs:List (List Key×V)}{xs:List (List Key×Addr×Value)} (r:KT H kvs xs) (k:List Key):ZbQ (Jo kvs k) ((atKey xs k).map (·.2)):=by
 induction r with
 | nil=>exact True.intro
 | @cons p q ps qs h t ih=>
  obtain ⟨h1,_,h2⟩:=h
  by_cases e:p.1=k
  ·have e':q.1=k:=h1.symm.trans e
   have b:atKey (q::qs) k=some q.2:=by simp [atKey,Xt,e']
   rw [YO e,b];exact h2
  ·have e':¬q.1=k:=fun z=>e (h1.trans z)
   have b:atKey (q::qs) k=atKey qs k:=by simp [atKey,Xt,e']
   rw [YL e,b];exact ih
theorem KT.repl {H:Hp}{kvs:List (List Key×V)}{xs:List (List Key×Addr×Value)} (r:KT H kvs xs) (k:List Key) {y:V}{u:Value} (ry:RelV y u):
  KT H (kvs.map fun kv=>if kv.1=k then (kv.1,y) else kv) (xs.map (putAt k u)):=by
 induction r with
 | nil=>exact .nil
 | @cons p q ps qs h t ih=>
  rw [k7,k7]
  refine .cons ?_ ih
  obtain ⟨h1,h2,h3⟩:=h
  unfold putAt
  by_cases e:p.1=k
  ·rw [kh e,kh (h1.symm.trans e)];exact ⟨h1,h2,ry⟩
  ·rw [kg e,kg (fun z=>e (h1.trans z))];exact ⟨h1,h2,h3⟩
theorem KT.put {H:Hp}{kvs:List (List Key×V)}{xs:List (List Key×Addr×Value)} (r:KT H kvs xs) (k:List Key) {b:Addr}{y:V}{u:Value} (hb:H b=some (.tup (k.map kV))) (ry:RelV y u):
  KT H (putK kvs k y) (storedH xs k b u):=by
 have e:(kvs.any fun kv=>decide (kv.1=k))=(atKey xs k).isSome:=by
  rw [Zbp,(r.val k).isSome_eq,Option.isSome_map]
 unfold putK storedH
 rw [e]
 by_cases q:(atKey xs k).isSome=true
 ·rw [kh q,kh q];exact r.repl k ry
 ·rw [kg q,kg q];exact Tj r ⟨rfl,hb,ry⟩
theorem KT.keeps {H H':Hp}{kvs:List (List Key×V)}{xs:List (List Key×Addr×Value)} (r:KT H kvs xs) (ht:∀b ys,H b=some (.tup ys)->H' b=some (.tup ys)):KT H' kvs xs:=
 Paired.mapP r fun _ _ z=>⟨z.1,ht _ _ z.2.1,z.2.2⟩
section
variable {P:Program}{w:World}{H:Hp}{h:Heap}{a:Addr}
theorem Zmy {u:HO} (ok:GB P w H h) (e:Rd H a u):Yc P w H h a u:=e.ok ok
theorem Zc4 {kvs:List (Key×V)} (ok:GB P w H h) (e:Rd H a (.dK kvs)):kvs.length<=sizeLine/\(a==sysModules)=false /\ ∃vs,KV kvs vs/\h.DictOf (ZT P w) a vs:=
 show Yc P w H h a (.dK kvs) from Zmy ok e
theorem Zj2 {kvs:List (Key×V)} (ok:GB P w H h) (e:H a=some (.dK kvs)):kvs.length<=sizeLine/\(a==sysModules)=false /\ ∃vs,KV kvs vs/\h.DictOf (ZT P w) a vs:=Zc4 ok (.inl e)
theorem Za1 {ks:List Key} (ok:GB P w H h) (e:H a=some (.tup (ks.map kV))):(tupleKind (ZT P w)).is h ks a:=by
 obtain ⟨_,its,r,o,h1,h2,n,h3⟩:=(show Yc P w H h a (.tup (ks.map kV)) from ok a _ e)
 exact ⟨o,its.toArray,n,h1,h2,h3,by simpa using ZeE r⟩
theorem ZcZ {kvs:List (List Key×V)} (ok:GB P w H h) (e:Rd H a (.dT kvs)):kvs.length<=sizeLine/\(a==sysModules)=false /\
  ∃xs,KT H kvs xs/\h.DictOfH (tupleKind (ZT P w)) a xs:=by
 obtain ⟨z,y,xs,r,o,es,ep,h1,h2,h3,h4,h5⟩:=(show Yc P w H h a (.dT kvs) from Zmy ok e)
 refine ⟨z,y,xs,r,o,es,ep,h1,h2,h3,h4,fun x hx=>?_,h5⟩
 have all:∀{l:List (List Key×V)}{m:List (List Key×Addr×Value)},KT H l m -> ∀x∈m,(tupleKind (ZT P w)).is h x.1 x.2.1:=by
  intro l m q
  induction q with
  | nil=>intro x hx;exact nomatch hx
  | @cons p q ps qs hq t ih=>
   intro x hx
   rcases kL.mp hx with e | hx
   ·subst e
    exact Za1 ok (by rw [<- hq.1];exact hq.2.1)
   ·exact ih x hx
 exact all r x hx
theorem Zmx {kvs:List (List Key×V)} (ok:GB P w H h) (e:H a=some (.dT kvs)):kvs.length<=sizeLine/\(a==sysModules)=false /\
  ∃xs,KT H kvs xs/\h.DictOfH (tupleKind (ZT P w)) a xs:=ZcZ ok (.inl e)
end
def UN (H:Hp) (a:Addr) (y:V) (r:Option V):Prop:=
 (∃kvs k,Rd H a (.dK kvs)/\y=kV k/\r=Jo kvs k) ∨ ∃kvs k b,Rd H a (.dT kvs)/\y = .ref b/\H b=some (.tup (k.map kV))/\r=Jo kvs k
def Zge (H:Hp) (a:Addr) (y v:V) (H':Hp):Prop:=
 (∃kvs k,H a=some (.dK kvs)/\y=kV k/\kvs.length<sizeLine/\H'=upd H a (.dK (putK kvs k v))) ∨
 ∃kvs k b,H a=some (.dT kvs)/\y = .ref b/\H b=some (.tup (k.map kV))/\kvs.length<sizeLine/\H'=upd H a (.dT (putK kvs k v))
theorem UN.k {H:Hp}{a:Addr}{kvs:List (Key×V)}{k:Key} (e:H a=some (.dK kvs)):UN H a (kV k) (Jo kvs k):=.inl ⟨kvs,k,.inl e,rfl,rfl⟩
theorem Zge.k {H:Hp}{a:Addr}{kvs:List (Key×V)}{k:Key}{v:V} (e:H a=some (.dK kvs)) (hl:kvs.length<sizeLine):Zge H a (kV k) v (upd H a (.dK (putK kvs k v))):=.inl ⟨kvs,k,e,rfl,hl,rfl⟩
section
variable {X:Cx}{pins:List (Addr×Obj)} {σ:St}{H:Hp}{s:Shared}{a:Addr}{y v:V}{u r:Value}{o:Option V}{A:Around}{E:Value->Shared->Prop}
theorem Inv.big (I:Inv X pins σ H s):sysModules<s.heap.objs.size:=by
 have h:mainGlobals<s.heap.objs.size:=(I.mod.glob.keeps I.bk).lt
 exact Nat.lt_trans (by decide) h
theorem ZiW {Q:Value->Shared->Prop} (hu:A.units+1<cLine) (I:Inv X pins σ H s) (g:UN H a y (some v)) (ry:RelV y u) (h:∀w' s',Inv X pins σ H s'->RelV v w'->Q w' s'):
  wpAny (model X.prog X.w) A (getItem (.ref a) u) Q E s:=by
 rcases g with ⟨kvs,k,e,ey,l⟩ | ⟨kvs,k,b,e,ey,eb,l⟩
 ·subst ey
  obtain ⟨z,hd,vs,rel,dd⟩:=Zc4 I.hok e
  obtain ⟨w',hw,rw'⟩:=ZbQ.some_of (v:=v) (o:=valueAt vs k) (by rw [l];exact rel.val k)
  exact wpAny_getItem_of (ZdE ry) dd.mapOf hw (h w' _ (I.tok _) rw')
 ·subst ey
  cases (show u=Value.ref b from ry)
  obtain ⟨z,hd,xs,rel,dd⟩:=ZcZ I.hok e
  obtain ⟨w',hw,rw'⟩:=ZbQ.some_of (v:=v) (o:=(atKey xs k).map (·.2)) (by rw [l];exact rel.val k)
  obtain ⟨p,hp,hp2⟩:=Kf.mp hw
  refine wpAny_getItem_heap (Xn hu) (Za1 I.hok eb) dd hp ?_
  rw [hp2]
  exact h w' _ (I.tok _) rw'
theorem Zpd {Q:Value->Shared->Prop} (hu:A.units+1<cLine) (I:Inv X pins σ H s) (g:UN H a y o) (ry:RelV y u) (h:∀s',Inv X pins σ H s'->Q (.bool o.isSome) s'):
  wpAny (model X.prog X.w) A (compareOp .In u (.ref a)) Q E s:=by
 rcases g with ⟨kvs,k,e,ey,l⟩ | ⟨kvs,k,b,e,ey,eb,l⟩
 ·subst ey
  obtain ⟨z,hd,vs,rel,dd⟩:=Zc4 I.hok e
  refine wpAny_in_of (ZdE ry) hd dd.mapOf ?_
  rw [<- (rel.val k).isSome_eq,<- l]
  exact h _ (I.tok _)
 ·subst ey
  cases (show u=Value.ref b from ry)
  obtain ⟨z,hd,xs,rel,dd⟩:=ZcZ I.hok e
  refine wpAny_in_heap (Xn hu) (Za1 I.hok eb) hd dd ?_
  have q:=(rel.val k).isSome_eq
  rw [Option.isSome_map] at q
  rw [<- q,<- l]
  exact h _ (I.tok _)
theorem ZcJ {h':Heap}{t':Nat}{ob:HO} (I:Inv X pins σ H s) (mu:Mut (H a)) (hs:Heap.SameBut a s.heap h') (he:∃q,h'.get? a=some q) (new:Yc X.prog X.w (upd H a ob) h' a ob):
  Inv X pins σ (upd H a ob) { s with heap:=h',toks:=t' }:=
 I.write (x:=a) (e:=a) mu (.inl rfl) (fun b q hb z=>(hs.2 b hb).trans z) he new
theorem Zg3 {P:Program}{w:World}{H':Hp}{h':Heap}{kvs:List (Key×V)}{vs:List (Key×Value)} (z:kvs.length<=sizeLine) (hd:(a==sysModules)=false) (rel:KV kvs vs) (dd:h'.DictOf (ZT P w) a vs):
  Yc P w H' h' a (.dK kvs):=⟨z,hd,vs,rel,dd⟩
theorem ZiX {H':Hp}{Q:Unit->Shared->Prop} (hu:A.units+1<cLine) (I:Inv X pins σ H s) (g:Zge H a y v H') (ry:RelV y u) (rv:RelV v r) (h:∀s',Inv X pins σ H' s'->Q () s'):
  wpAny (model X.prog X.w) A (setItem (.ref a) u r) Q E s:=by
 rcases g with ⟨kvs,k,e,ey,l,eH⟩ | ⟨kvs,k,b,e,ey,eb,l,eH⟩
 ·subst ey eH
  obtain ⟨z,hd,vs,rel,dd⟩:=Zj2 I.hok e
  have hz:vs.length<=sizeLine:=by rw [<- rel.length];exact z
  have hl:(putK kvs k v).length<=sizeLine:=by have:=Wh kvs k v;lia
  refine wpAny_setItem_pairs (hsz:=hz) (ZdE ry) dd fun h' dd' hs=>h _ ?_
  have he:∃q,h'.get? a=some q:=let ⟨q,_,_,hq,_⟩:=dd';⟨q,hq⟩
  exact ZcJ I (by rw [e];exact True.intro) hs he (Zg3 hl hd (rel.put k rv) dd')
 ·subst ey eH
  cases (show u=Value.ref b from ry)
  obtain ⟨z,hd,xs,rel,dd⟩:=Zmx I.hok e
  have hz:xs.length<=sizeLine:=by rw [<- qM rel];exact z
  have hl:(putK kvs k v).length<=sizeLine:=by have:=Wh kvs k v;lia
  refine wpAny_setItem_heap (hsz:=hz) (Xn hu) (Za1 I.hok eb) dd fun h' dd' hs=>h _ ?_
  obtain ⟨q,es,ep,hq,h2,h3,h4,_,h5⟩:=dd'
  refine ZcJ I (by rw [e];exact True.intro) hs ⟨q,hq⟩ ⟨hl,hd,_,(rel.put k eb rv).keeps fun c ys ec=>?_,q,es,ep,hq,h2,h3,h4,h5⟩
  rw [Zh (Wr ec e (fun z=>nomatch z))]
  exact ec
end
theorem ZfV {X:Cx}{pins:List (Addr×Obj)} {σ:St}{H:Hp}{s:Shared}{a:Addr}{y:V}{o:Option V} (I:Inv X pins σ H s) (g:UN H a y o):s.TypeIs (.ref a) "dict" := by
 rcases g with ⟨kvs,k,e,_,_⟩ | ⟨kvs,k,b,e,_,_,_⟩
 ·obtain ⟨_,_,vs,_,dd⟩:=Zc4 I.hok e
  exact dd.typeIs
 ·obtain ⟨_,_,xs,_,dd⟩:=ZcZ I.hok e
  exact dd.typeIs
def ZjG (ty td:TE):TE:=fun σ H Q=>ty σ H fun y H1=>td σ H1 fun x H2=>∃a o,x = .ref a/\UN H2 a y o/\Q (.bl o.isSome) H2
section
variable {X:Cx}{o i e value:Expr}{pos pos' tpos:Pos}{td ty tv:TE}
theorem ZeZ (hu:X.A.units+1<cLine) (hi:PE X i ty) (ho:PE X o td):PC X .In i o (ZjG ty td):=by
 intro pins s σ H Q I h
 refine YG (hi pins s σ H _ I h) fun iv s1 ⟨y,H1,I1,ry,q1⟩=>YG (ho pins s1 σ H1 _ I1 q1) fun u s2 ⟨x,H2,I2,rx,a,ov,ex,g,q2⟩=>?_
 subst ex
 obtain rfl:u=Value.ref a:=rx
 exact Zpd hu I2 g ry fun s3 I3=>⟨.bl ov.isSome,H2,I3,rfl,q2⟩
end
theorem ZfY {P:Program}{w:World}{H:Hp} (h:Heap) (hb:sysModules<h.objs.size):Yc P w H (h.push { cls:=.type "dict", data:=.dict #[] }) h.objs.size (.dK []):=
 ⟨Km _,qI.mpr (Ko (Kb hb)),[],.nil,Heap.DictOf.new h⟩
theorem ZfN {P:Program}{w:World}{H:Hp} (h:Heap) (hb:sysModules<h.objs.size):Yc P w H (h.push { cls:=.type "dict", data:=.dict #[] }) h.objs.size (.dT []):=
 ⟨Km _,qI.mpr (Ko (Kb hb)),[],.nil,_,#[],0,Ki _ rfl,⟨rfl,rfl,rfl⟩,rfl,rfl,List.nodup_nil⟩
def Zm0:TE:=fun _ H Q=>∀p,H p=none->Q (.ref p) (upd H p (.dK []))
def Zkh:TE:=fun _ H Q=>∀p,H p=none->Q (.ref p) (upd H p (.dT []))
section
variable {X:Cx}{pos:Pos}
theorem ZjJ:PE X (.Dict [] [] pos) Zm0:=fun pins s σ H Q I h=>
 wpAny_Dict_empty ⟨.ref s.heap.objs.size,_,I.laid (a:=s.heap.objs.size) (o:=.dK []) (t':=s.toks) (fun _ _ q=>km _ q) (ki _) (ZfY s.heap I.big),rfl,h _ (I.hok.fresh (ki _))⟩
theorem Zk5:PE X (.Dict [] [] pos) Zkh:=fun pins s σ H Q I h=>
 wpAny_Dict_empty ⟨.ref s.heap.objs.size,_,I.laid (a:=s.heap.objs.size) (o:=.dT []) (t':=s.toks) (fun _ _ q=>km _ q) (ki _) (ZfN s.heap I.big),rfl,h _ (I.hok.fresh (ki _))⟩
end
theorem Yc.there {P:Program}{w:World}{H:Hp}{h:Heap}{a:Addr}{o:HO} (x:Yc P w H h a o):∃ob,h.get? a=some ob:=by
 cases o with
 | lst xs=>obtain ⟨_,_,_,_,e⟩:=x;exact ⟨_,e⟩
 | tup xs=>obtain ⟨_,_,_,_,e,_⟩:=x;exact ⟨_,e⟩
 | dK kvs=>obtain ⟨_,_,_,_,o,_,_,e,_⟩:=x;exact ⟨_,e⟩
 | dT kvs=>obtain ⟨_,_,_,_,o,_,_,e,_⟩:=x;exact ⟨_,e⟩
 | set S n=>obtain ⟨o,_,_,_,e,_⟩:=x;exact ⟨_,e⟩
 | ins C dx fs=>obtain ⟨_,_,_,e,_⟩:=x;exact ⟨_,e⟩
 | own y=>obtain ⟨_,e⟩:=x;exact ⟨_,e⟩
 | xd fs=>obtain ⟨_,⟨_,_,_,e,_⟩,_⟩:=x;exact ⟨_,e⟩
 | rng lo hi=>obtain ⟨_,_,_,e⟩:=x;exact ⟨_,e⟩
 | frz ob u=>obtain ⟨e,_⟩:=x;exact ⟨_,e⟩
 | tbl ps=>exact ⟨_,x⟩
 | met f y=>exact ⟨_,x⟩
 | ext φ=>obtain ⟨_,⟨_,e⟩,_⟩:=x;exact ⟨_,e⟩
theorem Zj3 {h:Heap}{a:Addr}{m m':Str->Option Value} (x:h.Ns a m) (y:h.Ns a m'):m=m':=by
 obtain ⟨o,es,ep,ho,hd,_,hm⟩:=x
 obtain ⟨o',es',ep',ho',hd',_,hm'⟩:=y
 rw [ho] at ho'
 cases ho'
 rw [hd] at hd'
 cases hd'
 exact funext fun n=>(hm n).symm.trans (hm' n)
section
variable {X:Cx}{pins:List (Addr×Obj)} {σ:St}{H:Hp}{s:Shared}
theorem Inv.laidN {h':Heap}{D:Addr}{o:HO}{t':Nat}{m:Str->Option Value} (I:Inv X pins σ H s) (F:Fr X.base X.env.locals s.heap m) (F':Fr X.base X.env.locals h' m)
  (N':News X.base X.env.locals h' (Gw X.base s.heap X.env.locals)) (hD:s.heap.get? D=none) (hn:H D=none) (new:Yc X.prog X.w (upd H D o) h' D o):Inv X pins σ (upd H D o) { s with heap:=h',toks:=t' }:=by
 have kp:∀b u,b≠X.env.locals->s.heap.get? b=some u->h'.get? b=some u:=fun b u hb e=>by
  cases q:X.base.get? b with
  | some v=>
   have e1:=F'.keep b v q
   have e2:=F.keep b v q
   rw [e] at e2
   cases e2
   exact e1
  | none=>exact (N' (b,u) (UR hb q e)).1
 have neL:∀b u,H b=some u->b≠X.env.locals:=fun b u e z=>by rw [z,I.free] at e;cases e
 refine I.step (g':=s.gens) (d':=s.drawn) (ch:=[]) (fun _ z=>nomatch z) (fun b ob hb _ _ e _=>kp b ob hb e) (fun b ob hb _ _ e _=>⟨ob.slots,kp b ob hb e⟩) (fun b ob _ e n=>?_) (fun b ob _ e=>?_) (fun b xs e=>?_) (fun b ob u e=>?_) (fun b ps e=>⟨#[],?_⟩) (fun m' hm=>?_) (fun b u e=>?_) I.bare
 ·rw [Zh (fun z=>by subst z;rw [hD] at e;cases e)]
  exact n
 ·by_cases hb:b=X.env.locals
  ·subst hb
   obtain ⟨ob',_,_,z,_⟩:=F'.ns
   exact ⟨ob',z⟩
  ·exact ⟨ob,kp b ob hb e⟩
 ·rw [Zh (Zf e hn)];exact e
 ·rw [Zh (Zf e hn)];exact e
 ·rw [Zh (Zf e hn),e];simp
 ·rw [Zj3 hm F.ns];exact F'.ns
 ·by_cases hb:b=D
  ·subst hb;rw [Zc] at e;cases e;exact new
  ·rw [Zh hb] at e
   refine (I.hok b u e).stay (fun c v hc q=>kp c v ?_ q) (fun c q=>by rw [Zh (Zf q hn)];exact q) fun c xs q=>by rw [Zh (Zf q hn)];exact q
   rcases hc with z | z
   ·subst z;exact neL _ u e
   ·exact neL c _ z
end
section
variable {X:Cx}
theorem Zfv (hc:X.calm=true):YU X (.builtin "sorted") (fun xs H Q=>∃(p:Addr) (kvs:List (Key×V)) (ns:List Int),xs = [.ref p]/\H p=some (.dK kvs)/\kvs.map (·.1)=ns.map Sum.inl/\ns.length<64 /\
  ∀(l:Addr) (ns':List Int),H l=none->ns'.Perm ns->ns'.Pairwise (· <= ·)->Q (.ref l) (upd H l (.lst (ns'.map V.int)))):=by
 intro pins s σ H xs us Q I r h
 obtain ⟨p,kvs,ns,rfl,hp,hk,h64,q⟩:=h
 obtain ⟨u,rfl,ru⟩:=r.one
 cases ru
 obtain ⟨z,hsm,vs,rel,ob,es,ep,hd⟩:=Zj2 I.hok hp
 obtain ⟨m,fr⟩:=I.fr
 have lv:kvs.length=vs.length:=qM rel
 have ln:kvs.length=ns.length:=by simpa using Ks List.length hk
 refine W.kdu_sorted (W.kdl_dict (knd:=ZT X.prog X.w) (kvs:=vs) (ep:=ep) hsm) (I.ok.hd hc) fr (news:=Gw X.base s.heap X.env.locals) Zgt ⟨ob,es,hd⟩ (by lia) fun D h' tk ws fr' nw' lt' hlen hP=>?_
 have ia:IntsAre ws ns:=by
  have key:∀(ws:List Value) (ns:List Int),ws.length=ns.length->(∀(j:Nat) (v:Value) (n:Int),ws[j]? = some v->ns[j]? = some n -> ∃t,v = .int n t)->IntsAre ws ns:=by
   intro ws
   induction ws with
   | nil=>intro ns hl _;cases ns with
    | nil=>exact .nil
    | cons _ _=>cases hl
   | cons w ws ih=>
    intro ns hl h
    cases ns with
    | nil=>cases hl
    | cons n ns=>
     obtain ⟨t,rfl⟩:=h 0 w n rfl rfl
     exact .cons n t (ih ns (by simpa using hl) fun j v n' e1 e2=>h (j+1) v n' (by simpa using e1) (by simpa using e2))
  refine key ws ns (by lia) fun j v n e1 e2=>?_
  obtain ⟨k,x,e3,e4⟩:=hP j v e1
  have e5:(kvs.map (·.1))[j]? = some k:=by
   have hj:j<kvs.length:=by have:=(kC.mp e3).1;lia
   have key:∀(kvs:List (Key×V)) (vs:List (Key×Value)),KV kvs vs -> ∀j:Nat,(kvs.map (·.1))[j]? = (vs.map (·.1))[j]?:=by
    intro kvs vs rel
    unfold KV at rel
    induction rel with
    | nil=>intro j;rfl
    | cons a _ ih=>
     intro j
     cases j with
     | zero=>simp [a.1]
     | succ j=>simpa using ih j
   rw [key kvs vs rel j,kz,e3]
   rfl
  rw [hk,kz,e2] at e5
  cases e5
  rcases Yx (k:=Sum.inl n) (v:=v) e4 with ⟨i,t,z1,z2⟩ | ⟨x',t,z1,z2⟩
  ·cases z1;exact ⟨t,z2⟩
  ·cases z1
 refine W.ksk_lsort (vs:=ws) (its:=ws.toArray) (n:=0) fr' nw' (news':=fun o=>(D,o)::Gw X.base s.heap X.env.locals) (fun o=>.head fun q hq=>Kb (lt' q hq)) rfl ia h64 fun vs' ns' c h'' fr'' nw'' ia' hl' perm pw _=>?_
 have hD:s.heap.get? D=none:=by
  have nb:X.base.get? D=none:=(nw' (D,W.listOf ws.toArray 0) kK).2.2
  have nL:D≠X.env.locals:=(nw' (D,W.listOf ws.toArray 0) kK).2.1
  cases e:s.heap.get? D with
  | none=>rfl
  | some o=>exact absurd (lt' (D,o) (UR nL nb e)) (qN _)
 have fresh:H D=none:=by
  cases e:H D with
  | none=>rfl
  | some o=>
   obtain ⟨ob,e2⟩:=(I.hok D o e).there
   rw [hD] at e2
   cases e2
 have I2:=I.laidN (o:=.lst (ns'.map V.int)) (D:=D) (h':=h'') (t':=tk) fr fr'' (fun q hq=>nw'' q (kQ _ hq)) hD fresh ⟨by
  rw [ke,hl']
  lia,vs',c,ZaD ia',(nw'' _ kK).1⟩
 exact ⟨.ref D,_,I2,rfl,q D ns' fresh perm pw⟩
def Zng:R2:=fun x y H Q=>∃a v,x = .ref a/\UN H a y (some v)/\Q v H
theorem Zap (hu:X.A.units+1<cLine):IxR X Zng:=by
 intro value slice pins s σ H x y v u Q I rx ry h hs
 obtain ⟨a,w,rfl,g,q⟩:=h
 cases rx
 exact tail_any (ops:=[.ref a,u]) (ZfV I g) PySem.F.slot_dict_getitem.lookup (ZiW hu I g ry fun w' s3 I3 rw'=>⟨w,H,I3,rw',q⟩) hs
def Zgw:V->V->V->Hp->(Hp->Prop)->Prop:=fun o i v H Q=>∃a H',o = .ref a/\Zge H a i v H'/\Q H'
theorem set_dict (hu:X.A.units+1<cLine):Zm3 X Zgw:=by
 intro pins s σ H o i v ov iv u Q I ro ri rv h
 obtain ⟨a,H',rfl,g,q⟩:=h
 cases ro
 exact ZiX hu I g ri rv fun s' I'=>⟨H',I',q⟩
def Zot (K:PySem.W.Frag) (n:Nat) (t:TGs):TG:=fun v σ H Q=>∃a xs,v = .ref a/\Zr K H a xs/\xs.length=n/\t xs σ H Q
theorem ZmD {es:List Expr}{k:Nat}{t:TGs}{n:Nat}{pos:Pos} (hc:X.calm=true) (h:PGs X es t)
  (hn:(assignEach es X.env).length=n:=by rfl) (hst:(assignEach es X.env).findIdx? (·.1)=none:=by rfl):PG X (.Tuple es k pos) (Zot X.K n t):=by
 intro pins s σ H v u Q I r hw
 obtain ⟨a,xs,e1,hq,hl,hw⟩:=hw
 subst e1
 cases r
 obtain ⟨its,rv,p,hz⟩:=I.list hq
 rw [arm_assign_Tuple]
 refine ka (qU ?_)
 unfold unpack
 rw [hst]
 refine ka (Kv ?_)
 have e:(assignEach es X.env).length=its.toArray.size:=by rw [hn,<- hl,rv.length];simp
 rw [e]
 refine W.kun_itemsOf (I.ok.hd hc) p.isList fun h' hx=>?_
 have I1:Inv X pins σ H { s with heap:=h' }:=I.kept (t':=s.toks) fun b o e=>hx b o (Kb (k6 e)) e
 exact h pins _ σ H xs _ Q I1 (by simpa using rv) hw
theorem ZcB {K:PySem.W.Frag}{es:List Expr}{k:Nat}{t:TGs}{n:Nat}{pos:Pos} (hk:X.K=K) (hc:X.calm=true) (h:PGs X es t)
  (hn:(assignEach es X.env).length=n:=by rfl) (hst:(assignEach es X.env).findIdx? (·.1)=none:=by rfl):PG X (.Tuple es k pos) (Zot K n t):=hk ▸ ZmD hc h hn hst
end
def bw (x:Int):Int:=if x % 2=0 then x+1 else x-1
theorem Zcb (x:Int):bw (bw x)=x:=by unfold bw;split<;>split<;>lia
theorem Zoh (x:Int):bw x≠x:=by unfold bw;split<;>lia
structure JM (m:Int->Int) (N:Int):Prop where
 lo:∀x,0<=x->x<N->0<=m x
 hi:∀x,0<=x->x<N->m x<N
 inv:∀x,0<=x->x<N->m (m x)=x
 ne:∀x,0<=x->x<N->m x≠x
 ev:N % 2=0
theorem Zkw {N x:Int} (e:N % 2=0) (h0:0<=x) (h1:x<N):0<=bw x/\bw x<N:=by unfold bw;split<;>omega
def gt (m:Int->Int) (f:Int):Nat->Int
 | 0=>f
 | i+1=>bw (m (gt m f i))
def Wv (m:Int->Int) (f:Int):Nat->List Int
 | 0=>[]
 | i+1=>Wv m f i ++ [gt m f i,m (gt m f i)]
theorem We (m:Int->Int) (f:Int):∀i,(Wv m f i).length=2*i
 | 0=>rfl
 | i+1=>by
  simp only [Wv,kj,We m f i,KJ,Xs]
  lia
theorem Y0 {m:Int->Int}{f x:Int}:∀{i:Nat},x∈Wv m f i ↔ ∃j,j<i/\(x=gt m f j∨x=m (gt m f j))
 | 0=>by simp [Wv]
 | i+1=>by
  simp only [Wv,Ku,Y0 (i:=i),kL,Xc,Md]
  constructor
  ·rintro (⟨j,h,e⟩ | h)
   ·exact ⟨j,by lia,e⟩
   ·exact ⟨i,by lia,h⟩
  ·rintro ⟨j,h,e⟩
   by_cases hj:j=i
   ·subst hj;exact .inr e
   ·exact .inl ⟨j,by lia,e⟩
section
variable {m:Int->Int}{N f:Int}
theorem YH (M:JM m N) (h0:0<=f) (h1:f<N):∀i,0<=gt m f i/\gt m f i<N
 | 0=>⟨h0,h1⟩
 | i+1=>by
  obtain ⟨a,b⟩:=YH M h0 h1 i
  exact Zkw M.ev (M.lo _ a b) (M.hi _ a b)
theorem Zjw (M:JM m N) (h0:0<=f) (h1:f<N):∀d j,gt m f (j+d)≠m (gt m f j)
 | 0,j=>fun e=>M.ne _ (YH M h0 h1 j).1 (YH M h0 h1 j).2 e.symm
 | 1,j=>Zoh _
 | d+2,j=>fun e=>by
  refine Zjw M h0 h1 d (j+1) ?_
  have e1:bw (m (gt m f (j+d+1)))=m (gt m f j):=e
  have e2:m (gt m f (j+d+1))=bw (m (gt m f j)):=by rw [<- e1,Zcb]
  have e3:gt m f (j+1)=m (gt m f (j+d+1)):=e2.symm
  have dm:=YH M h0 h1 (j+d+1)
  rw [e3,M.inv _ dm.1 dm.2]
  congr 1
  lia
theorem Zil (M:JM m N) (h0:0<=f) (h1:f<N) (i j:Nat):gt m f i≠m (gt m f j):=by
 by_cases h:j<=i
 ·have:=Zjw M h0 h1 (i-j) j
  rwa [show j+(i-j)=i by lia] at this
 ·intro e
  refine Zjw M h0 h1 (j-i) i ?_
  rw [show i+(j-i)=j by lia,e]
  exact (M.inv _ (YH M h0 h1 j).1 (YH M h0 h1 j).2).symm
theorem Zmp (M:JM m N) {x y:Int} (hx:0<=x/\x<N) (hy:0<=y/\y<N) (e:m x=m y):x=y:=by
 rw [<- M.inv x hx.1 hx.2,e,M.inv y hy.1 hy.2]
theorem ZhK (M:JM m N) (h0:0<=f) (h1:f<N):∀j d,gt m f (j+d)=gt m f j->gt m f d=f
 | 0,d,e=>by simpa [gt] using e
 | j+1,d,e=>by
  refine ZhK M h0 h1 j d (Zmp M (YH M h0 h1 _) (YH M h0 h1 _) ?_)
  have e1:bw (m (gt m f (j+d)))=bw (m (gt m f j)):=by
   have:j+1+d=j+d+1:=by lia
   rw [this] at e
   exact e
  rw [<- Zcb (m (gt m f (j+d))),e1,Zcb]
theorem ZfB (M:JM m N) (h0:0<=f) (h1:f<N) {i j:Nat} (hj:j<i) (e:gt m f i=gt m f j):gt m f (i-j)=f:=by
 refine ZhK M h0 h1 j (i-j) ?_
 rw [show j+(i-j)=i by lia]
 exact e
theorem ZbT (M:JM m N) (h0:0<=f) (h1:f<N):∀i,(∀j,1<=j->j<i->gt m f j≠f)->(Wv m f i).Nodup
 | 0,_=>by simp [Wv]
 | i+1,h=>by
  have ih:=ZbT M h0 h1 i fun j a b=>h j a (by lia)
  show (Wv m f i ++ [gt m f i,m (gt m f i)]).Nodup
  rw [qm]
  refine ⟨ih,by simp [Zil M h0 h1 i i],fun a ha b hb=>?_⟩
  obtain ⟨j,hj,e⟩:=Y0.mp ha
  have hb:b=gt m f i∨b=m (gt m f i):=by simpa using hb
  intro z
  subst z
  rcases e with e | e<;>rcases hb with z | z
  ·exact h (i-j) (by lia) (by lia) (ZfB M h0 h1 hj (z.symm.trans e))
  ·exact Zil M h0 h1 j i (e.symm.trans z)
  ·exact Zil M h0 h1 i j (z.symm.trans e)
  ·exact h (i-j) (by lia) (by lia) (ZfB M h0 h1 hj (Zmp M (YH M h0 h1 _) (YH M h0 h1 _) (z.symm.trans e)))
theorem ZhM (M:JM m N) (h0:0<=f) (h1:f<N) {i:Nat}{x:Int} (hx:x∈Wv m f i):0<=x/\x<N:=by
 obtain ⟨j,_,e | e⟩:=Y0.mp hx
 ·rw [e];exact YH M h0 h1 j
 ·rw [e];exact ⟨M.lo _ (YH M h0 h1 j).1 (YH M h0 h1 j).2,M.hi _ (YH M h0 h1 j).1 (YH M h0 h1 j).2⟩
theorem Ws:∀(n:Nat) (l:List Int),l.Nodup->(∀x∈l,0<=x/\x<(n:Int))->l.length<=n
 | 0,l,_,h=>by
  cases l with
  | nil=>simp
  | cons x _=>have:=h x kK;lia
 | n+1,l,nd,h=>by
  by_cases hn:(n:Int)∈l
  ·have h1:=Ws n (l.erase (n:Int)) (nd.erase _) fun x hx=>by
    have h2:=(nd.mem_erase_iff).mp hx
    have:=h x h2.2
    have:=h2.1
    lia
   rw [Nf hn] at h1
   lia
  ·have h1:=Ws n l nd fun x hx=>by
    have:=h x hx
    have h3:x≠(n:Int):=fun z=>hn (z ▸ hx)
    lia
   lia
theorem GS (M:JM m N) (h0:0<=f) (h1:f<N) {i:Nat} (h:∀j,1<=j->j<i->gt m f j≠f):2*(i:Int)<=N:=by
 have:=Ws N.toNat (Wv m f i) (ZbT M h0 h1 i h) fun x hx=>by
  have:=ZhM M h0 h1 hx
  lia
 rw [We] at this
 lia
theorem Zjh (M:JM m N) (h0:0<=f) (h1:f<N) {i:Nat} (h:∀j,1<=j->j<i->gt m f j≠f):gt m f i∈Wv m f i ↔ (1<=i/\gt m f i=f):=by
 constructor
 ·intro hx
  obtain ⟨j,hj,e | e⟩:=Y0.mp hx
  ·have:=ZfB M h0 h1 hj e
   by_cases z:j=0
   ·subst z;exact ⟨by lia,this⟩
   ·exact absurd this (h (i-j) (by lia) (by lia))
  ·exact absurd e (Zil M h0 h1 i j)
 ·rintro ⟨a,e⟩
  exact Y0.mpr ⟨0,by lia,.inl e⟩
end
def Jd (m:Int->Int) (f:Int) (T:List Int):Prop:=∃L,1<=L/\gt m f L=f/\(∀j,1<=j->j<L->gt m f j≠f)/\T=Wv m f L
theorem Jd.uniq {m:Int->Int}{f:Int}{T T':List Int} (a:Jd m f T) (b:Jd m f T'):T=T':=by
 obtain ⟨L,h1,e1,n1,rfl⟩:=a
 obtain ⟨L',h2,e2,n2,rfl⟩:=b
 have:L=L':=by
  rcases Nat.lt_trichotomy L L' with z | z | z
  ·exact absurd e1 (n2 L h1 z)
  ·exact z
  ·exact absurd e2 (n1 L' h2 z)
 rw [this]
theorem Jd.self {m:Int->Int}{f:Int}{T:List Int} (a:Jd m f T):f∈T:=by
 obtain ⟨L,h1,e1,n1,rfl⟩:=a
 exact Y0.mpr ⟨0,by lia,.inl rfl⟩
theorem Jd.dom {m:Int->Int}{N f:Int}{T:List Int} (M:JM m N) (h0:0<=f) (h1:f<N) (a:Jd m f T):∀x∈T,0<=x/\x<N:=by
 obtain ⟨L,_,_,_,rfl⟩:=a
 exact fun x hx=>ZhM M h0 h1 hx
theorem Jd.nodup {m:Int->Int}{N f:Int}{T:List Int} (M:JM m N) (h0:0<=f) (h1:f<N) (a:Jd m f T):T.Nodup:=by
 obtain ⟨L,_,_,n,rfl⟩:=a
 exact ZbT M h0 h1 L n
theorem Jd.len {m:Int->Int}{N f:Int}{T:List Int} (M:JM m N) (h0:0<=f) (h1:f<N) (a:Jd m f T):(T.length:Int)<=N:=by
 obtain ⟨L,_,_,n,rfl⟩:=a
 have:=GS M h0 h1 n
 rw [We]
 lia
theorem Jd.closed {m:Int->Int}{N f:Int}{T:List Int} (M:JM m N) (h0:0<=f) (h1:f<N) (a:Jd m f T):∀x∈T,m x∈T/\bw x∈T:=by
 obtain ⟨L,hL,eL,n,rfl⟩:=a
 intro x hx
 obtain ⟨j,hj,e | e⟩:=Y0.mp hx
 ·subst e
  refine ⟨Y0.mpr ⟨j,hj,.inr rfl⟩,?_⟩
  cases j with
  | zero=>
   refine Y0.mpr ⟨L-1,by lia,.inr ?_⟩
   have:gt m f (L-1+1)=f:=by rw [show L-1+1=L by lia];exact eL
   have e2:bw (m (gt m f (L-1)))=f:=this
   show bw f=_
   rw [<- e2,Zcb,e2]
  | succ j=>exact Y0.mpr ⟨j,by lia,.inr (Zcb _)⟩
 ·subst e
  refine ⟨?_,?_⟩
  ·rw [M.inv _ (YH M h0 h1 j).1 (YH M h0 h1 j).2]
   exact Y0.mpr ⟨j,hj,.inl rfl⟩
  ·by_cases z:j+1=L
   ·refine Y0.mpr ⟨0,by lia,.inl ?_⟩
    show gt m f (j+1)=f
    rw [z,eL]
   ·exact Y0.mpr ⟨j+1,by lia,.inl rfl⟩
theorem ZbY {m:Int->Int}{N f:Int} (M:JM m N) (h0:0<=f) (h1:f<N) {S:List Int} (cl:∀x∈S,m x∈S/\bw x∈S) (hf:f∉S):∀i,gt m f i∉S/\m (gt m f i)∉S
 | 0=>⟨hf,fun h=>hf (by
  have:m (m f)∈S:=(cl _ h).1
  rwa [M.inv _ h0 h1] at this)⟩
 | i+1=>by
  have ih:=ZbY M h0 h1 cl hf i
  have a:gt m f (i+1)∉S:=fun h=>ih.2 (by
   have:=(cl _ h).2
   rwa [show bw (gt m f (i+1))=m (gt m f i) from Zcb _] at this)
  refine ⟨a,fun h=>a ?_⟩
  have:=(cl _ h).1
  rwa [M.inv _ (YH M h0 h1 (i+1)).1 (YH M h0 h1 (i+1)).2] at this
inductive GL (m:Int->Int):Nat->List (List Int)->Prop
 | nil:GL m 0 []
 | add {i:Nat}{ts:List (List Int)}{T:List Int}:GL m i ts->(i:Int)∉ts.flatten->Jd m (i:Int) T->GL m (i+1) (ts ++ [T])
 | skip {i:Nat}{ts:List (List Int)}:GL m i ts->(i:Int)∈ts.flatten->GL m (i+1) ts
theorem GL.uniq {m:Int->Int}{i:Nat}{ts:List (List Int)} (a:GL m i ts):∀{ts':List (List Int)},GL m i ts'->ts=ts':=by
 induction a with
 | nil=>intro ts' b;cases b;rfl
 | add a h t ih=>
  intro ts' b
  cases b with
  | add b h' t'=>rw [ih b,t.uniq t']
  | skip b h'=>rw [ih b] at h;exact absurd h' h
 | skip a h ih=>
  intro ts' b
  cases b with
  | add b h' t'=>rw [ih b] at h;exact absurd h h'
  | skip b h'=>exact ih b
theorem GL.mem {m:Int->Int}{i:Nat}{ts:List (List Int)} (a:GL m i ts):∀j:Nat,j<i->(j:Int)∈ts.flatten:=by
 induction a with
 | nil=>intro j hj;lia
 | @add i ts T a h t ih=>
  intro j hj
  rw [qK,Ku]
  by_cases e:j=i
  ·subst e;exact .inr (by simpa using t.self)
  ·exact .inl (ih j (by lia))
 | @skip i ts a h ih=>
  intro j hj
  by_cases e:j=i
  ·subst e;exact h
  ·exact ih j (by lia)
theorem GL.good {m:Int->Int}{N:Int} (M:JM m N) {i:Nat}{ts:List (List Int)} (a:GL m i ts) (hi:(i:Int)<=N):ts.flatten.Nodup/\(∀x∈ts.flatten,0<=x/\x<N)/\(∀x∈ts.flatten,m x∈ts.flatten/\bw x∈ts.flatten):=by
 induction a with
 | nil=>simp
 | @add i ts T a h t ih=>
  obtain ⟨n,d,c⟩:=ih (by lia)
  have h0:(0:Int)<=(i:Int):=by lia
  have h1:(i:Int)<N:=by lia
  rw [qK]
  have e:[T].flatten=T:=by simp
  rw [e]
  refine ⟨?_,fun x hx=>?_,fun x hx=>?_⟩
  ·rw [qm]
   refine ⟨n,t.nodup M h0 h1,fun a ha b hb z=>?_⟩
   subst z
   obtain ⟨L,_,_,_,rfl⟩:=t
   obtain ⟨j,_,e | e⟩:=Y0.mp hb
   ·exact (ZbY M h0 h1 c h j).1 (e ▸ ha)
   ·exact (ZbY M h0 h1 c h j).2 (e ▸ ha)
  ·rcases Ku.mp hx with z | z
   ·exact d x z
   ·exact t.dom M h0 h1 x z
  ·rw [Ku,Ku]
   rcases Ku.mp hx with z | z
   ·exact ⟨.inl (c x z).1,.inl (c x z).2⟩
   ·exact ⟨.inr (t.closed M h0 h1 x z).1,.inr (t.closed M h0 h1 x z).2⟩
 | skip a h ih=>exact ih (by lia)
theorem GL.jump {m:Int->Int}{ts:List (List Int)}{i:Nat} (a:GL m i ts):∀d:Nat,(∀j:Nat,i<=j->j<i+d->(j:Int)∈ts.flatten)->GL m (i+d) ts
 | 0,_=>a
 | d+1,h=>by
  have:=GL.jump a d fun j x y=>h j x (by lia)
  exact GL.skip this (h (i+d) (by lia) (by lia))
theorem GL.len {m:Int->Int}{N:Int} (M:JM m N) {i:Nat}{ts:List (List Int)} (a:GL m i ts) (hi:(i:Int)<=N):ts.length<=i:=by
 induction a with
 | nil=>simp
 | add a h t ih=>have:=ih (by lia);simp;lia
 | skip a h ih=>have:=ih (by lia);lia
def rowAt (ls:List (Str×Int)) (t:Nat):List Int:=(rb (ls.take t)).1
def YW (ls:List (Str×Int)) (t:Nat):Int×Int:=((rowAt ls t).getD ((ls.getD t ("", 0)).2.toNat) 0,(rowAt ls t).getD ((ls.getD t ("", 0)).2.toNat+1) 0)
def GW:Str->Bool:=fun x=>decide (x = "end")
def Jk (ls:List (Str×Int)) (i:Nat):List (Int×Int):=(Yd ls GW i).map fun t=>YW ls t.toNat
def ZI (ps:List (Int×Int)):List Int:=ps.flatMap fun p=>[p.1,p.2]
theorem YY (a b:List (Int×Int)):ZI (a++b)=ZI a++ZI b:=by simp [ZI]
theorem Ua (ps:List (Int×Int)):(ZI ps).length=2*ps.length:=by
 induction ps with
 | nil=>rfl
 | cons p r ih=>
  have:ZI (p::r) = [p.1,p.2]++ZI r:=by simp [ZI]
  rw [this,kj,ih]
  simp
  lia
theorem W5 (ls:List (Str×Int)) (i:Nat):Jk ls (i+1)=Jk ls i++(if isK ls GW i=true then [YW ls i] else []):=by
 unfold Jk
 rw [W3,kP]
 by_cases h:isK ls GW i=true<;>simp [h]
def UM (n:Nat):List Int:=(List.range n).map fun (x:Nat)=>(x:Int)
theorem Zji (n:Nat):UM (n+2)=UM n ++ [(n:Int),(n:Int)+1]:=by
 unfold UM
 rw [KN,KN]
 simp
theorem YM {n:Nat}{x:Int}:x∈UM n ↔ 0<=x/\x<(n:Int):=by
 unfold UM
 rw [K7]
 constructor
 ·rintro ⟨a,h,rfl⟩
  have:=K9.mp h
  lia
 ·rintro ⟨h0,h1⟩
  exact ⟨x.toNat,K9.mpr (by lia),by lia⟩
theorem Gj (n:Nat):(UM n).Nodup:=by
 unfold UM
 rw [TM,XX]
 exact (TM.mp List.nodup_range).imp fun h e=>h (by lia)
theorem Ub (n:Nat):(UM n).length=n:=by simp [UM]
theorem Zlz (r:List Int) (k:Nat) (h:k+1<r.length):r=r.take k ++ [r.getD k 0,r.getD (k+1) 0]++r.drop (k+2):=by
 have e1:r.drop k=r[k]::r.drop (k+1):=KQ (by lia)
 have e2:r.drop (k+1)=r[k+1]::r.drop (k+2):=KQ h
 have e:r.take k++r.drop k=r:=KW k r
 rw [e1,e2] at e
 have h1:r.getD k 0=r[k]:=by simp [show k<r.length by lia]
 have h2:r.getD (k+1) 0=r[k+1]:=by simp [h]
 rw [h1,h2]
 simpa using e.symm
theorem Zly (r:List Int) (k:Nat) (h:k+1<r.length):Gr r k=r.take k ++ [r.getD (k+1) 0,r.getD k 0]++r.drop (k+2):=by
 have hl:(r.take k).length=k:=by rw [kM];lia
 unfold Gr
 generalize ha:r.getD k 0=a
 generalize hb:r.getD (k+1) 0=b
 have e:=Zlz r k h
 rw [ha,hb] at e
 generalize r.take k=p at e hl ⊢
 generalize r.drop (k+2)=q at e ⊢
 subst e
 rw [Kc,N1 _ _ (by lia),hl,N1 _ _ (by lia),hl]
 simp
theorem Zbq {ls:List (Str×Int)} (hW:Wk ls 0):∀i,i<=ls.length->0<=(rb (ls.take i)).2/\(rb (ls.take i)).2 % 2=0/\(rowAt ls i++ZI (Jk ls i)).Perm (UM (rb (ls.take i)).2.toNat)
 | 0,_=>by
  refine ⟨qE _,rfl,?_⟩
  exact XY _
 | i+1,hi=>by
  obtain ⟨ih0,ih1,ih⟩:=Zbq hW i (by omega)
  have hq:ls[i]? = some ls[i]:=by simp [show i<ls.length by omega]
  obtain ⟨tk,c⟩:=Zd9 hW hq
  have gd:ls.getD i ("", 0)=ls[i]:=by simp [show i<ls.length by omega]
  unfold rowAt at ih ⊢
  generalize hp:ls[i]=p at *
  obtain ⟨px,pk⟩:=p
  rw [tk,YF,W5]
  have kk:∀pr:Str->Bool,isK ls pr i=pr px:=fun pr=>by
   unfold isK
   rw [hq]
   cases h:pr px<;>simp [h]
  rw [kk]
  rcases c with ⟨e,b0,b1⟩ | ⟨e,b0,b1⟩ | ⟨e,b0,b1⟩
  ·have e:px = "born" := e
   subst e
   rw [Wi]
   have hf:GW "born" = false:=by unfold GW;decide +kernel
   rw [hf]
   simp only [qt,Xp,qh]
   generalize hr:rb (ls.take i)=s at *
   obtain ⟨r,b⟩:=s
   refine ⟨by omega,by omega,?_⟩
   have e2:(b+2).toNat=b.toNat+2:=by omega
   rw [e2,Zji]
   have e3:((b.toNat:Nat):Int)=b:=by omega
   rw [e3]
   have p1:(r.take pk.toNat ++ [b,b+1]++r.drop pk.toNat).Perm (r ++ [b,b+1]):=by
    rw [Kc]
    refine (qp _ Xv).trans ?_
    rw [<- Kc,KW]
   refine (p1.append_right _).trans ?_
   rw [Kc]
   refine (qp _ Xv).trans ?_
   rw [<- Kc]
   exact ih.append_right _
  ·have e:px = "cross" := e
   subst e
   rw [JL]
   have hf:GW "cross" = false:=by unfold GW;decide +kernel
   rw [hf]
   simp only [qt,Xp,qh]
   refine ⟨ih0,ih1,?_⟩
   have hk:pk.toNat+1<(rb (ls.take i)).1.length:=by
    have b1:pk+1<_:=b1
    have b0:0<=pk:=b0
    omega
   refine List.Perm.trans ?_ ih
   refine XZ _ ?_
   rw [Zly _ _ hk]
   conv=>rhs;rw [Zlz _ _ hk]
   exact XZ _ (qp _ (List.Perm.swap _ _ _))
  ·have e:px = "end" := e
   subst e
   rw [Gz]
   have hf:GW "end" = true:=by unfold GW;simp
   rw [hf]
   simp only [XU]
   refine ⟨ih0,ih1,?_⟩
   have hk:pk.toNat+1<(rb (ls.take i)).1.length:=by
    have b1:pk+1<_:=b1
    have b0:0<=pk:=b0
    omega
   refine List.Perm.trans ?_ ih
   rw [YY]
   have pr:ZI [YW ls i] = [(rb (ls.take i)).1.getD pk.toNat 0,(rb (ls.take i)).1.getD (pk.toNat+1) 0]:=by
    unfold YW rowAt
    rw [gd]
    simp [ZI]
   rw [pr]
   conv=>rhs;rw [Zlz _ _ hk]
   generalize (rb (ls.take i)).1.take pk.toNat=A
   generalize (rb (ls.take i)).1.drop (pk.toNat+2)=B
   generalize [(rb (ls.take i)).1.getD pk.toNat 0,(rb (ls.take i)).1.getD (pk.toNat+1) 0]=C
   generalize ZI (Jk ls i)=F
   rw [Kc,Kc,Kc]
   refine qp _ ?_
   rw [<- Kc]
   exact Xv
def YZ (ls:List (Str×Int)):List (Int×Int):=Jk ls ls.length
def Jc (ls:List (Str×Int)):Nat:=2*(YZ ls).length
theorem Wu {ls:List (Str×Int)} (hW:Wk ls 0):(ZI (YZ ls)).Perm (UM (Jc ls)):=by
 obtain ⟨h0,h1,h2⟩:=Zbq hW ls.length (ki _)
 have e:rowAt ls ls.length = []:=by
  unfold rowAt
  rw [kJ (ki _)]
  have:=U5 hW
  exact qf.mp (by lia)
 rw [e,Xq] at h2
 have hl:=h2.length_eq
 rw [Ub,Ua] at hl
 show (ZI (Jk ls ls.length)).Perm (UM (2*(Jk ls ls.length).length))
 rw [hl]
 exact h2
def Jl:List (Int×Int)->Int->Int
 | [],_=>0
 | p::r,x=>if x=p.1 then p.2 else if x=p.2 then p.1 else Jl r x
theorem Zc7:∀{ps:List (Int×Int)}{u l:Int},(ZI ps).Nodup->(u,l)∈ps->Jl ps u=l/\Jl ps l=u
 | [],_,_,_,h=>by cases h
 | p::r,u,l,nd,h=>by
  have e:ZI (p::r)=p.1::p.2::ZI r:=by simp [ZI]
  rw [e] at nd
  obtain ⟨n1,nd2⟩:=Kx.mp nd
  obtain ⟨n2,nd3⟩:=Kx.mp nd2
  rcases kL.mp h with z | z
  ·subst z
   refine ⟨by simp [Jl],?_⟩
   have:l≠u:=fun z=>n1 (by simp [z])
   simp [Jl,this]
  ·have m1:u∈ZI r:=Kz.mpr ⟨(u,l),z,by simp⟩
   have m2:l∈ZI r:=Kz.mpr ⟨(u,l),z,by simp⟩
   have ih:=Zc7 nd3 z
   have a1:u≠p.1:=fun z=>n1 (kQ _ (z ▸ m1))
   have a2:u≠p.2:=fun z=>n2 (z ▸ m1)
   have a3:l≠p.1:=fun z=>n1 (kQ _ (z ▸ m2))
   have a4:l≠p.2:=fun z=>n2 (z ▸ m2)
   simp only [Jl,a1,a2,a3,a4,Xp]
   exact ih
theorem ZaQ {ps:List (Int×Int)} (nd:(ZI ps).Nodup) {u l:Int} (h:(u,l)∈ps):u≠l:=by
 induction ps with
 | nil=>cases h
 | cons p r ih=>
  have e:ZI (p::r)=p.1::p.2::ZI r:=by simp [ZI]
  rw [e] at nd
  obtain ⟨n1,nd2⟩:=Kx.mp nd
  obtain ⟨n2,nd3⟩:=Kx.mp nd2
  rcases kL.mp h with z | z
  ·subst z;intro z;exact n1 (by simp [z])
  ·exact ih nd3 z
theorem J5 {ls:List (Str×Int)} (hW:Wk ls 0):JM (Jl (YZ ls)) (Jc ls):=by
 have pm:=Wu hW
 have nd:(ZI (YZ ls)).Nodup:=pm.nodup_iff.mpr (Gj _)
 have get:∀x:Int,0<=x->x<(Jc ls:Int) -> ∃u l,(u,l)∈YZ ls/\(x=u∨x=l):=fun x h0 h1=>by
  have:x∈ZI (YZ ls):=pm.mem_iff.mpr (YM.mpr ⟨h0,h1⟩)
  obtain ⟨p,hp,hx⟩:=Kz.mp this
  exact ⟨p.1,p.2,hp,by simpa using hx⟩
 have dom:∀u l,(u,l)∈YZ ls->(0<=u/\u<(Jc ls:Int))/\(0<=l/\l<(Jc ls:Int)):=fun u l h=>
  ⟨YM.mp (pm.mem_iff.mp (Kz.mpr ⟨(u,l),h,by simp⟩)),YM.mp (pm.mem_iff.mp (Kz.mpr ⟨(u,l),h,by simp⟩))⟩
 refine ⟨fun x h0 h1=>?_,fun x h0 h1=>?_,fun x h0 h1=>?_,fun x h0 h1=>?_,by unfold Jc;lia⟩
 all_goals
  obtain ⟨u,l,hm,rfl | rfl⟩:=get x h0 h1
  all_goals
   obtain ⟨a,b⟩:=Zc7 nd hm
   obtain ⟨d1,d2⟩:=dom _ _ hm
   have ne:=ZaQ nd hm
   first
    | (rw [a];exact d2.1)
    | (rw [b];exact d1.1)
    | (rw [a];exact d2.2)
    | (rw [b];exact d1.2)
    | (rw [a,b])
    | (rw [b,a])
    | (rw [a];exact Ko ne)
    | (rw [b];exact ne)
theorem ZnM {x:Int} (h:0<=x):Builtin.bitXor x 1=bw x:=by
 obtain ⟨n,rfl⟩:=kF h
 unfold bw
 have ho:Builtin.bitOr (n:Int) 1=((n ||| 1:Nat):Int):=by
  have e1:decide (0<=Builtin.bitNot (n:Int))=false:=by unfold Builtin.bitNot;rw [XO];omega
  have e2:decide (0<=Builtin.bitNot (1:Int))=false:=by decide
  have e3:(Builtin.bitNot (Builtin.bitNot (n:Int))).toNat=n:=by unfold Builtin.bitNot;omega
  have e4:(Builtin.bitNot (Builtin.bitNot (1:Int))).toNat=1:=by decide
  unfold Builtin.bitOr Builtin.bitAnd
  rw [e1,e2]
  simp only [e3,e4]
  unfold Builtin.bitNot
  omega
 have ha:Builtin.bitAnd (n:Int) 1=((n &&& 1:Nat):Int):=by
  unfold Builtin.bitAnd
  simp
 unfold Builtin.bitXor
 rw [ho,ha]
 have h1:n &&& 1=n % 2:=ME n
 have h2:n ||| 1=n+1-n % 2:=by
  have d:(n ||| 1) / 2=n / 2:=by rw [Nat.or_div_two];simp
  have m:(n ||| 1) % 2=1:=Nat.or_mod_two_eq_one.mpr (.inr rfl)
  omega
 rw [h1,h2]
 split<;>omega
section
variable {X:Cx}
def Zkb (K:PySem.W.Frag):R2:=fun x y H Q=>∃(p q:Addr) (xs:List V),x = .ref p/\y = .ref q/\Zr K H p xs/\Zr K H q []/\Q (.bl (!xs.isEmpty)) H
theorem Zkr (hu:X.A.units+64<cLine):UO X (compareOp .NotEq) (Zkb X.K):=by
 intro pins s σ H x y v u Q I rx ry h
 obtain ⟨p,q,xs,rfl,rfl,hp,hq,hQ⟩:=h
 cases rx
 cases ry
 obtain ⟨its,r1,p1,_⟩:=I.list hp
 obtain ⟨its2,r2,p2,_⟩:=I.list hq
 have l1:=r1.length
 have l2:=r2.length
 cases xs with
 | nil=>
  refine SeqAt.RcNeAt.lists (e:=fun _=>true) p1.isList p2.isList (by simp only [kr];lia) (by lia) (fun j h1 h2=>?_) X.prog X.w _ _ ⟨.bl false,H,I,?_,hQ⟩
  ·rw [kr] at h1
   have:its.length=0:=by simpa using l1.symm
   lia
  ·show Value.bool _=Value.bool false
   simp
 | cons z zs=>
  refine SeqAt.RcNeAt.lists_lengths p1.isList p2.isList (by simp only [kr];rw [NL];simp at l1 l2;lia) (by lia) X.prog X.w _ _ ⟨.bl true,H,I,rfl,hQ⟩
theorem Zi4 {K:PySem.W.Frag} (h:X.K=K) (hu:X.A.units+64<cLine):UO X (compareOp .NotEq) (Zkb K):=h ▸ Zkr hu
theorem ZaG {K:PySem.W.Frag} (h:X.K=K):UO X (compareOp .NotIn) (rIn K true):=h ▸ ZeT
end
theorem ZfO {x:Int}{ns:List Int}:inV (.int x) (ns.map V.int)=decide (x∈ns):=by
 unfold inV
 induction ns with
 | nil=>simp
 | cons n ns ih=>
  rw [k7,qW,ih]
  have e:eqV (V.int n) (V.int x)=decide (n=x):=by
   unfold eqV
   by_cases h:n=x<;>simp [h]
  rw [e,<- Bool.decide_or]
  exact Xd.mpr (by rw [kL];exact ⟨fun h=>h.imp Eq.symm id,fun h=>h.imp Eq.symm id⟩)
def JA (H:Hp) (ys:List V) (ps:List (Int×Int)):Prop:=Paired (fun v (p:Int×Int)=>∃a,v=V.ref a/\H a=some (.tup [.int p.1,.int p.2])) ys ps
theorem JA.mono {H H':Hp} (h:∀t p,H t=some (.tup p)->H' t=some (.tup p)):∀{xs:List V}{ps:List (Int×Int)},JA H xs ps->JA H' xs ps
 | _,_,.nil=>.nil
 | _,_,.cons ⟨t,e,q⟩ r=>.cons ⟨t,e,h t _ q⟩ (JA.mono h r)
theorem JA.len {H:Hp}{xs:List V}{ps:List (Int×Int)} (h:JA H xs ps):xs.length=ps.length:=qM h
theorem JA.get {H:Hp}:∀{xs:List V}{ps:List (Int×Int)}{i:Nat}{x:V},JA H xs ps->xs[i]? = some x -> ∃p t,ps[i]? = some p/\x = .ref t/\H t=some (.tup [.int p.1,.int p.2])
 | _,_,_,_,.nil,e=>by simp at e
 | _,_,0,_,.cons ⟨t,e1,q⟩ _,e=>by simp at e;subst e;exact ⟨_,t,rfl,e1,q⟩
 | _,_,i+1,x,.cons _ r,e=>by
  obtain ⟨p,t,h1,h2⟩:=JA.get (i:=i) (x:=x) r (by simpa using e)
  exact ⟨p,t,by simpa using h1,h2⟩
theorem JA.snoc {H:Hp}{xs:List V}{ps:List (Int×Int)}{t:Addr}{p:Int×Int} (h:JA H xs ps) (e:H t=some (.tup [.int p.1,.int p.2])):JA H (xs ++ [.ref t]) (ps ++ [p]):=Tj h ⟨t,rfl,e⟩
theorem YR.at {H:Hp}:∀{xs:List V}{rs:List (List Int)}{i:Nat}{r:List Int},YR H xs rs->rs[i]? = some r -> ∃p,xs[i]? = some (.ref p)/\H p=some (.lst (r.map V.int))
 | _,_,_,_,.nil,e=>by simp at e
 | _,_,0,_,.cons ⟨t,e1,q⟩ _,e=>by simp at e;subst e;exact ⟨t,by simp [e1],q⟩
 | _,_,i+1,r,.cons _ rr,e=>by
  obtain ⟨p,h1,h2⟩:=YR.at (i:=i) (r:=r) rr (by simpa using e)
  exact ⟨p,by simpa using h1,h2⟩
theorem YR.atX {H:Hp}:∀{xs:List V}{rs:List (List Int)}{i:Nat}{x:V},YR H xs rs->xs[i]? = some x -> ∃(p:Addr) (r:List Int),rs[i]? = some r/\x = .ref p/\H p=some (.lst (r.map V.int))
 | _,_,_,_,.nil,e=>by simp at e
 | _,_,0,_,.cons ⟨t,e1,q⟩ _,e=>by simp at e;subst e;exact ⟨t,_,rfl,e1,q⟩
 | _,_,i+1,x,.cons _ r,e=>by
  obtain ⟨p,q,h1,h2⟩:=YR.atX (i:=i) (x:=x) r (by simpa using e)
  exact ⟨p,q,by simpa using h1,h2⟩
theorem Zay (ls:List (Str×Int)) {i n:Nat} (h:i<n):(rowsOf ls n)[i]? = some (rowAt ls i):=by
 unfold rowsOf rowAt
 rw [kz]
 simp [h]
theorem Zgf {ls:List (Str×Int)} (hW:Wk ls 0) {t:Nat}{q:Str×Int} (hq:ls[t]? = some q) (hb:q.1 ≠ "born"):0<=q.2/\q.2.toNat+1<(rowAt ls t).length/\YW ls t=((rowAt ls t).getD q.2.toNat 0,(rowAt ls t).getD (q.2.toNat+1) 0):=by
 obtain ⟨_,c⟩:=Zd9 hW hq
 have gd:ls.getD t ("", 0)=q:=by simp [hq]
 have e:YW ls t=((rowAt ls t).getD q.2.toNat 0,(rowAt ls t).getD (q.2.toNat+1) 0):=by unfold YW;rw [gd]
 rcases c with ⟨z,_⟩ | ⟨_,b0,b1⟩ | ⟨_,b0,b1⟩
 ·exact absurd z hb
 ·exact ⟨b0,by unfold rowAt;lia,e⟩
 ·exact ⟨b0,by unfold rowAt;lia,e⟩
theorem J9 {ns:List Int}{i:Nat}{x:V} (h:(ns.map V.int)[i]? = some x):∃t,ns[i]? = some t/\x=V.int t:=by
 rw [kz] at h
 cases e:ns[i]? with
 | none=>rw [e] at h;cases h
 | some z=>rw [e] at h;exact ⟨z,rfl,(kX h).symm⟩
theorem Y9 {α β:Type}{ns:List α}{i:Nat}{t:α} (f:α -> β) (h:ns[i]? = some t):(ns.take (i+1)).map f=(ns.take i).map f ++ [f t]:=by
 rw [Kh,h]
 simp
theorem Zgm {ls:List (Str×Int)}{pr:Str->Bool}{n:Nat}{x:Int} (h:x∈Yd ls pr n):0<=x/\x.toNat<n /\ ∃q,ls[x.toNat]? = some q/\pr q.1=true:=by
 unfold Yd at h
 obtain ⟨i,hi,e⟩:=K6.mp h
 have hi':=K9.mp hi
 by_cases hk:isK ls pr i=true
 ·rw [kh hk] at e
  have e:(i:Int)=x:=kX e
  subst e
  refine ⟨by lia,by simpa using hi',?_⟩
  unfold isK at hk
  cases hq:ls[i]? with
  | none=>rw [hq] at hk;cases hk
  | some q=>
   rw [hq] at hk
   refine ⟨q,by simpa using hq,by simpa using hk⟩
 ·rw [kg hk] at e;cases e
theorem J8 {ls:List (Str×Int)} (hl:ls.length<=60):Jc ls<=120:=by
 unfold Jc YZ Jk
 rw [ke]
 have:=Wq ls GW ls.length
 lia
section
variable {X:Cx}{pins:List (Addr×Obj)} {σ:St}{H:Hp}{s:Shared}
theorem Inv.keptN {h':Heap}{t':Nat}{m:Str->Option Value} (I:Inv X pins σ H s) (F:Fr X.base X.env.locals s.heap m) (F':Fr X.base X.env.locals h' m)
  (N':News X.base X.env.locals h' (Gw X.base s.heap X.env.locals)):Inv X pins σ H { s with heap:=h',toks:=t' }:=by
 have kp:∀b u,b≠X.env.locals->s.heap.get? b=some u->h'.get? b=some u:=fun b u hb e=>by
  cases q:X.base.get? b with
  | some v=>
   have e1:=F'.keep b v q
   have e2:=F.keep b v q
   rw [e] at e2
   cases e2
   exact e1
  | none=>exact (N' (b,u) (UR hb q e)).1
 have neL:∀b u,H b=some u->b≠X.env.locals:=fun b u e z=>by rw [z,I.free] at e;cases e
 refine I.step (g':=s.gens) (d':=s.drawn) (ch:=[]) (fun _ z=>nomatch z) (fun b ob hb _ _ e _=>kp b ob hb e) (fun b ob hb _ _ e _=>⟨ob.slots,kp b ob hb e⟩) (fun b ob _ e n=>n) (fun b ob _ e=>?_) (fun b xs e=>e) (fun b ob u e=>e) (fun b ps e=>⟨#[],by rw [e];simp⟩) (fun m' hm=>?_) (fun b u e=>?_) I.bare
 ·by_cases hb:b=X.env.locals
  ·subst hb
   obtain ⟨ob',_,_,z,_⟩:=F'.ns
   exact ⟨ob',z⟩
  ·exact ⟨ob,kp b ob hb e⟩
 ·rw [Zj3 hm F.ns];exact F'.ns
 ·refine (I.hok b u e).stay (fun c v hc q=>kp c v ?_ q) (fun c q=>q) fun c xs q=>q
  rcases hc with z | z
  ·subst z;exact neL _ u e
  ·exact neL c _ z
end
section
variable {X:Cx}
theorem ZkY (hc:X.calm=true):YU X (.builtin "sum") (fun xs H Q=>∃(p:Addr) (ns:List Int),xs = [.ref p]/\Zr X.K H p (ns.map V.int)/\Q (.int ns.sum) H):=by
 intro pins s σ H xs us Q I r h
 obtain ⟨p,ns,rfl,hq,q⟩:=h
 obtain ⟨u,rfl,ru⟩:=r.one
 cases ru
 obtain ⟨its,rv,pl,hz⟩:=I.list hq
 obtain ⟨m,fr⟩:=I.fr
 refine LSm.sum_ints fr (news:=Gw X.base s.heap X.env.locals) Zgt (I.ok.hd hc) pl.isList (J0 rv) fun h' tk t' fr' nw'=>?_
 exact ⟨.int ns.sum,H,I.keptN fr fr' nw',⟨t',rfl⟩,q⟩
theorem ZeF {K:PySem.W.Frag} (h:X.K=K) (hc:X.calm=true):YU X (.builtin "sum") (fun xs H Q=>∃(p:Addr) (ns:List Int),xs = [.ref p]/\Zr K H p (ns.map V.int)/\Q (.int ns.sum) H):=h ▸ ZkY hc
end
theorem ZlT {x:Int} (h:0<=x):Builtin.bitAnd x 1=x % 2:=by
 obtain ⟨n,rfl⟩:=kF h
 have ha:Builtin.bitAnd (n:Int) 1=((n &&& 1:Nat):Int):=by
  unfold Builtin.bitAnd
  simp
 rw [ha,ME]
 omega
end L2
namespace L2
open PySem PySem.Spec PyProof.Rows PyProof.V
def Itz (K:PySem.W.Frag) (a b:Addr):It:=
  ⟨fun i H=>∃xs ys x y,Zr K H a xs/\Zr K H b ys/\xs[i]? = some x/\ys[i]? = some y,
   fun i H v H'=>∃p x y,v = .ref p/\H p=none/\H'=upd H p (.tup [x,y])/\(∀xs,Zr K H a xs->xs[i]? = some x)/\(∀ys,Zr K H b ys->ys[i]? = some y),
   fun i H=>∃xs ys,Zr K H a xs/\Zr K H b ys/\(xs.length<=i∨ys.length<=i)⟩
theorem Zjq {P:Program}{w:World}{K:PySem.W.Frag}{es:List Expr}{k:Nat}{pos:Pos} (a b z TI TO i1 i2:Addr) (ap:ZipApart z TI TO i1 i2 a b):
  Turn P w K (.Tuple es k pos) (Itz K a b) [z,TI,TO,i1,i2] z (fun i h=>IsZip h z TI TO .none/\IsPair h TI (.ref i1) (.ref i2)/\(∃u v,IsPair h TO u v)/\h.IsListIter i1 a i/\h.IsListIter i2 b i) where
 mem:=by simp
 obj:=fun i h st c hc=>by
  obtain ⟨h1,h2,⟨u,v,h3⟩,⟨o1,ho1,c1,d1⟩,⟨o2,ho2,c2,d2⟩⟩:=st
  simp only [kL,Xc,Md] at hc
  rcases hc with e | e | e | e | e
  ·subst e;exact ⟨_,h1,fun v z=>by have z':Data.fields _=Data.cell v:=z;cases z'⟩
  ·subst e;exact ⟨_,h2,fun v z=>by have z':Data.seq _ _=Data.cell v:=z;cases z'⟩
  ·subst e;exact ⟨_,h3,fun v z=>by have z':Data.seq _ _=Data.cell v:=z;cases z'⟩
  ·subst e;exact ⟨o1,ho1,fun v z=>by rw [d1] at z;cases z⟩
  ·subst e;exact ⟨o2,ho2,fun v z=>by rw [d2] at z;cases z⟩
 keep:=fun i h h' st k=>by
  obtain ⟨h1,h2,⟨u,v,h3⟩,h4,h5⟩:=st
  exact ⟨k z (by simp) _ h1,k TI (by simp) _ h2,⟨u,v,k TO (by simp) _ h3⟩,h4.at fun o x=>k i1 (by simp) o x,h5.at fun o x=>k i2 (by simp) o x⟩
 item:=by
  intro X hP hw hK hc i pins s σ H E I hf st hg
  subst hP hw hK
  obtain ⟨xs,ys,x,y,hq1,hq2,hx,hy⟩:=hg
  obtain ⟨its1,rv1,p1,hz1⟩:=I.list hq1
  obtain ⟨its2,rv2,p2,hz2⟩:=I.list hq2
  obtain ⟨u,hu,ru⟩:=rv1.get hx
  obtain ⟨v,hv,rv⟩:=rv2.get hy
  obtain ⟨h1,h2,⟨oa,ob,h3⟩,h4,h5⟩:=st
  refine wpAny_pyNext_zip_item ap h1 h2 h3 h4 h5 p1.isList p2.isList (x:=u) (y:=v) (by simpa using hu) (by simpa using hv) fun h' g1 g2 g3 g4 g5 hsz kk=>⟨_,rfl,?_⟩
  refine wpAny_letOwnedTupleGo_zip (s:={ s with heap:=h' }) g1 fun h'' e1 hs''=>?_
  have lt:∀c ∈ [z,TI,TO,i1,i2],@LT.lt Nat _ c s.heap.objs.size:=fun c hc=>by
   simp only [kL,Xc,Md] at hc
   rcases hc with e | e | e | e | e
   ·subst e;exact aLt h1
   ·subst e;exact aLt h2
   ·subst e;exact aLt h3
   ·subst e;obtain ⟨o,ho,_⟩:=h4;exact aLt ho
   ·subst e;obtain ⟨o,ho,_⟩:=h5;exact aLt ho
  have kk2:∀c o,c≠z->c≠TO->c≠i1->c≠i2->s.heap.get? c=some o->h''.get? c=some o:=fun c o n1 n2 n3 n4 q=>(hs''.2 c n1).trans (kk c o n1 n2 n3 n4 q)
  have nne:∀c o,H c=some o->c≠z/\c≠TO/\c≠i1/\c≠i2:=fun c o q=>by
   refine ⟨fun e=>?_,fun e=>?_,fun e=>?_,fun e=>?_⟩
   ·rw [e,(hf z (by simp)).1] at q;cases q
   ·rw [e,(hf TO (by simp)).1] at q;cases q
   ·rw [e,(hf i1 (by simp)).1] at q;cases q
   ·rw [e,(hf i2 (by simp)).1] at q;cases q
  have fr:H s.heap.objs.size=none:=I.hok.fresh (ki _)
  have hT:h''.get? s.heap.objs.size=some { cls:=.type "tuple", data:=.seq #[u,v] }:=(hs''.2 _ (qS (lt z (by simp)))).trans g5
  have nT:∀c o,s.heap.get? c=some o->c≠s.heap.objs.size:=fun c o q=>Kb (aLt q)
  have ok':GB X.prog X.w (upd H s.heap.objs.size (.tup [x,y])) h'':=fun c o q=>by
   by_cases hb:c=s.heap.objs.size
   ·subst hb
    rw [Zc] at q
    cases q
    exact ⟨show 2<=sizeLine by decide,[u,v],.cons ru (.cons rv .nil),⟨_,hT,rfl,_,rfl⟩⟩
   ·rw [Zh hb] at q
    refine (I.hok c o q).stay (fun d v hd r=>?_) (fun d r=>by rw [Zh (Zf r fr)];exact r) fun d xs r=>by rw [Zh (Zf r fr)];exact r
    rcases hd with e | e
    ·subst e
     obtain ⟨n1,n2,n3,n4⟩:=nne d o q
     exact kk2 d v n1 n2 n3 n4 r
    ·obtain ⟨n1,n2,n3,n4⟩:=nne d _ e
     exact kk2 d v n1 n2 n3 n4 r
  have notin:∀c,c ∉ [z,TI,TO,i1,i2]->c≠z/\c≠TO/\c≠i1/\c≠i2:=fun c hc=>by
   simp only [kL,Xc,Md,not_or] at hc
   exact ⟨hc.1,hc.2.2.1,hc.2.2.2.1,hc.2.2.2.2⟩
  have I1:Inv X pins σ (upd H s.heap.objs.size (.tup [x,y])) { s with heap:=h'',gens:=s.gens,drawn:=s.drawn,toks:=s.toks }:=by
   refine I.step (ch:=[z,TI,TO,i1,i2]) (fun c hc=>?_) (fun c o _ _ hc q _=>?_) (fun c o _ _ hc q _=>⟨o.slots,?_⟩)
    (fun c o _ q n=>by rw [Zh (nT c o q)];exact n) (fun c o hc q=>⟨o,?_⟩) (fun c xs q=>by rw [Zh (Zf q fr)];exact q) (fun c o u q=>by rw [Zh (Zf q fr)];exact q)
    (fun c ps q=>⟨#[],by rw [Zh (Zf q fr),q];simp⟩) (fun m hm=>?_) ok' I.bare
   ·obtain ⟨f0,f1,f2,f3,f4,f5⟩:=hf c hc
    exact ⟨f3,f1,f4,f5⟩
   ·obtain ⟨n1,n2,n3,n4⟩:=notin c hc;exact kk2 c o n1 n2 n3 n4 q
   ·obtain ⟨n1,n2,n3,n4⟩:=notin c hc;exact kk2 c o n1 n2 n3 n4 q
   ·obtain ⟨n1,n2,n3,n4⟩:=notin c hc;exact kk2 c o n1 n2 n3 n4 q
   ·obtain ⟨o,es,ep,ho,r⟩:=hm
    exact ⟨o,es,ep,kk2 _ o (Ko (hf z (by simp)).2.1) (Ko (hf TO (by simp)).2.1) (Ko (hf i1 (by simp)).2.1) (Ko (hf i2 (by simp)).2.1) ho,r⟩
  refine ⟨.ref s.heap.objs.size,_,I1,rfl,⟨s.heap.objs.size,x,y,rfl,fr,rfl,fun zs hz=>by rw [I.list_inj hz hq1];exact hx,fun zs hz=>by rw [I.list_inj hz hq2];exact hy⟩,
   ⟨e1,kk2 TI _ ap.TIz ap.TITO ap.TIi1 ap.TIi2 h2,⟨u,v,(hs''.2 TO ap.TOz).trans g2⟩,g3.at fun o q=>(hs''.2 i1 ap.i1z).trans q,g4.at fun o q=>(hs''.2 i2 ap.i2z).trans q⟩,fun c hc=>?_⟩
  rw [Zh (Kb (lt c hc))]
  exact (hf c hc).1
 done:=by
  intro X hP hw hK hc i pins s σ H E I hf st hg
  subst hP hw hK
  obtain ⟨xs,ys,hq1,hq2,hx⟩:=hg
  obtain ⟨its1,rv1,p1,hz1⟩:=I.list hq1
  obtain ⟨its2,rv2,p2,hz2⟩:=I.list hq2
  obtain ⟨h1,h2,⟨oa,ob,h3⟩,h4,h5⟩:=st
  have l1:=rv1.length
  have l2:=rv2.length
  refine wpAny_pyNext_zip_end (I.ok.hd hc) ap h1 h2 h3 h4 h5 p1.isList p2.isList (by rcases hx with e | e;exact .inl (by simp;lia);exact .inr (by simp;lia)) fun h' kk=>⟨rfl,?_⟩
  have nne:∀c o,H c=some o->c≠z/\c≠TO/\c≠i1/\c≠i2:=fun c o q=>by
   refine ⟨fun e=>?_,fun e=>?_,fun e=>?_,fun e=>?_⟩
   ·rw [e,(hf z (by simp)).1] at q;cases q
   ·rw [e,(hf TO (by simp)).1] at q;cases q
   ·rw [e,(hf i1 (by simp)).1] at q;cases q
   ·rw [e,(hf i2 (by simp)).1] at q;cases q
  have notin:∀c,c ∉ [z,TI,TO,i1,i2]->c≠z/\c≠TO/\c≠i1/\c≠i2:=fun c hc=>by
   simp only [kL,Xc,Md,not_or] at hc
   exact ⟨hc.1,hc.2.2.1,hc.2.2.2.1,hc.2.2.2.2⟩
  have ok':GB X.prog X.w H h':=fun c o q=>by
   refine (I.hok c o q).stay (fun d v hd r=>?_) (fun d r=>r) fun d xs r=>r
   rcases hd with e | e
   ·subst e
    obtain ⟨n1,n2,n3,n4⟩:=nne d o q
    exact kk d v n1 n2 n3 n4 r
   ·obtain ⟨n1,n2,n3,n4⟩:=nne d _ e
    exact kk d v n1 n2 n3 n4 r
  refine I.step (g':=s.gens) (d':=s.drawn) (t':=s.toks) (ch:=[z,TI,TO,i1,i2]) (fun c hc=>?_) (fun c o _ _ hc q _=>?_) (fun c o _ _ hc q _=>⟨o.slots,?_⟩)
    (fun c o _ q n=>n) (fun c o hc q=>⟨o,?_⟩) (fun c xs q=>q) (fun c o u q=>q) (fun c ps q=>⟨#[],by rw [q];simp⟩) (fun m hm=>?_) ok' I.bare
  ·obtain ⟨f0,f1,f2,f3,f4,f5⟩:=hf c hc
   exact ⟨f3,f1,f4,f5⟩
  ·obtain ⟨n1,n2,n3,n4⟩:=notin c hc;exact kk c o n1 n2 n3 n4 q
  ·obtain ⟨n1,n2,n3,n4⟩:=notin c hc;exact kk c o n1 n2 n3 n4 q
  ·obtain ⟨n1,n2,n3,n4⟩:=notin c hc;exact kk c o n1 n2 n3 n4 q
  ·obtain ⟨o,es,ep,ho,r⟩:=hm
   exact ⟨o,es,ep,kk _ o (Ko (hf z (by simp)).2.1) (Ko (hf TO (by simp)).2.1) (Ko (hf i1 (by simp)).2.1) (Ko (hf i2 (by simp)).2.1) ho,r⟩
 self:=fun _ _ _ _ _ st h=>Ny st.1 h
section
variable {X:Cx}
def ZnY (K:PySem.W.Frag) (ta:TA):TI:=fun σ H R=>ta σ H fun vs H1=>∃a b,vs = [.ref a,.ref b]/\(∃xs,Zr K H1 a xs)/\(∃ys,Zr K H1 b ys)/\R (Itz K a b) H1
theorem ZmC {a b:Expr}{ta:TA}{p pos tpos:Pos}{es:List Expr}{k:Nat} (hg:Gl X "zip") (hm:X.mg "zip" = none) (ha:PA X [a,b] ta) (hs:starEach [a,b] X.env = [(false,eval a X.env),(false,eval b X.env)]:=by rfl) (hs2:starEach [b] X.env = [(false,eval b X.env)]:=by rfl):
  PI X (.Tuple es k tpos) (.Call (.Name "zip" p) [a,b] [] pos) (ZnY X.K ta):=by
 intro pins s σ H R I h
 refine Call_ (Up I hg hm boot_zip (KS (YG (ha pos pins s σ H _ I h) fun us s1 ⟨vs,H1,I1,r1,q1⟩=>?_) (by rw [hs,hs2]) (by rw [hs2];rfl)))
 obtain ⟨l1,l2,e,⟨xs,hq1⟩,⟨ys,hq2⟩,q⟩:=q1
 subst e
 obtain ⟨u,v,rfl,ru,rv⟩:=r1.two
 cases ru
 cases rv
 obtain ⟨its1,rv1,p1,hz1⟩:=I1.list hq1
 obtain ⟨its2,rv2,p2,hz2⟩:=I1.list hq2
 have L1:@LT.lt Nat _ l1 s1.heap.objs.size:=by obtain ⟨o,ho,_⟩:=p1.isList;exact aLt ho
 have L2:@LT.lt Nat _ l2 s1.heap.objs.size:=by obtain ⟨o,ho,_⟩:=p2.isList;exact aLt ho
 refine call_zip_2 p1.isList p2.isList fun h' g1 g2 g3 g4 g5 hsz kk=>?_
 have I2:Inv X pins σ H1 { s1 with heap:=h' }:=I1.kept (t':=s1.toks) kk
 refine Ny (s:={ s1 with heap:=h' }) g1 ?_
 have ap:ZipApart (s1.heap.objs.size+4) (s1.heap.objs.size+2) (s1.heap.objs.size+3) s1.heap.objs.size (s1.heap.objs.size+1) l1 l2:=by
  constructor<;>(intro e;have e':@Eq Nat _ _:=e;lia)
 refine ⟨_,[s1.heap.objs.size+4,s1.heap.objs.size+2,s1.heap.objs.size+3,s1.heap.objs.size,s1.heap.objs.size+1],_,_,H1,rfl,I2,Zjq l1 l2 _ _ _ _ _ ap,⟨g1,g2,⟨_,_,g3⟩,g4,g5⟩,fun c hc=>?_,q⟩
 have hb':@LE.le Nat _ s1.heap.objs.size c:=by
  simp only [kL,Xc,Md] at hc
  rcases hc with e | e | e | e | e<;>(subst e;first | exact ki _ | exact Xb _ _)
 exact I1.fpOk hb' (I1.hok.fresh hb')
theorem ZlY {K:PySem.W.Frag}{a b:Expr}{ta:TA}{p pos tpos:Pos}{es:List Expr}{k:Nat} (hk:X.K=K) (hg:Gl X "zip") (hm:X.mg "zip" = none) (ha:PA X [a,b] ta) (hs:starEach [a,b] X.env = [(false,eval a X.env),(false,eval b X.env)]:=by rfl) (hs2:starEach [b] X.env = [(false,eval b X.env)]:=by rfl):
  PI X (.Tuple es k tpos) (.Call (.Name "zip" p) [a,b] [] pos) (ZnY K ta):=hk ▸ ZmC hg hm ha hs hs2
end
end L2
namespace L2
open PySem PySem.Spec PyProof.Rows PyProof.V
section
variable {X:Cx}{st:Stmt}{rest:List Stmt}{t u:TS}
def Zpf (t u:TS):TS:=fun D σ H=>∃I:St->Hp->Prop,t { D with nx:=I } σ H /\ ∀ σ' H',I σ' H'->u D σ' H'
theorem ZlW (h1:PS X st t) (h2:PSs X rest u):PSs X (st::rest) (Zpf t u):=by
 intro pins s σ H D I h
 obtain ⟨W,a,b⟩:=h
 have c:PSs X (st::rest) (ZfK (fun D' σ' H'=>σ' = σ /\ H'=H/\D' = { D with nx:=u D } /\ t { D with nx:=W } σ H) u):=by
  refine Zd (fun pins s σ' H' D' I' q=>?_) h2
  obtain ⟨rfl,rfl,rfl,q⟩:=q
  refine YG (h1 pins s σ' H' _ I' q) fun f s' z=>?_
  cases f with
  | next=>obtain ⟨σ2,H2,I2,q2⟩:=z;exact ⟨σ2,H2,I2,b σ2 H2 q2⟩
  | _=>exact z
 exact c pins s σ H D I ⟨rfl,rfl,rfl,a⟩
end
def Exc (h:Heap) (a T:Addr) (C:Value):Prop:=
 ∃oe vs oT ts,h.get? a=some oe/\oe.cls=C/\oe.data = .fields vs/\vs[1]? = some (.ref T)/\h.get? T=some oT/\oT.data = .fields ts/\ts[3]? = some .none/\T≠a/\vs[2]? = some .none
section
variable {M:Model}{A:Around}{E:Value->Shared->Prop}{s:Shared}{env:Env}{outer:List Env}{L a T:Addr}{C:Value}{base h:Heap}{Q:Unit->Shared->Prop}
theorem ZmU {o:Obj}{vs:Array Value}{k:Nat}{x:Value} (ho:s.heap.get? a=some o) (hd:o.data = .fields vs) (hk:k<vs.size)
  (h:∀h',(∃o',h'.get? a=some o'/\o'.cls=o.cls/\o'.data = .fields (vs.setIfInBounds k x))->Heap.SameBut a s.heap h'->Q () { s with heap:=h' }):wpAny M A (setField (.ref a) k x) Q E s:=
 wpAny_setField ho hd hk (h _ ⟨_,Tb _ ho (Obj.isFreed_of_fields (Obj.data_mapFields hd _)),Obj.cls_mapFields ..,Obj.data_mapFields hd _⟩ (Heap.SameBut.update ..))
theorem Zii {oe:Obj}{vs:Array Value}{T:Option Addr} (hfr:A.frames=some (env::outer)) (hf:env.frame=some L) (hl:s.heap.FunFrames base (env::outer)) (ha:s.heap.get? a=some oe) (hv:oe.data = .fields vs) (h1:vs[1]? = some (T.elim .none .ref)) (h2:vs[2]? = some .none)
  (hT:∀t,T=some t->t≠a /\ ∃oT ts,s.heap.get? t=some oT/\oT.data = .fields ts/\ts[3]? = some .none)
  (hQ:∀h' T',(∀b o,s.heap.get? b=some o->b∉frs (env::outer)->b≠a->T≠some b->h'.get? b=some o)->(∀b o,s.heap.get? b=some o->b∈frs (env::outer) -> ∃sl,h'.get? b=some { o with slots:=sl }) ->
   Exc h' a T' oe.cls->s.heap.get? T'=none->Q () { s with heap:=h' }):wpAny M A (noteFrame (.ref a) env) (fun _ s₂=>wpAny M A (setFlight (.ref a) none) Q E s₂) E s:=by
 have nf:∀b o,s.heap.get? b=some o->(∃ws,o.data = .fields ws)->b∉frs (env::outer):=fun b o e ⟨ws,d⟩ hb=>by
  obtain ⟨_,o',e',n⟩:=hl.mem hb
  rw [e] at e';cases e'
  exact n ws d
 have sz:2<vs.size:=(TN.mp h2).1
 have entry:∀(head:Value) (nx:Bool) (h0:Heap),(∀b o,s.heap.get? b=some o->T≠some b->h0.get? b=some o)->(∀b o,s.heap.get? b=some o -> ∃o',h0.get? b=some o')->h0.FunFrames base (env::outer) ->
   wpAny M A (do let f <- frameOf env;let pl <- entryPlaceOf L nx;let b <- EntryCells.newEntry head f .none (rawInt L) .none pl;setField (.ref a) 1 b) (fun _ s₂=>wpAny M A (setFlight (.ref a) none) Q E s₂) E { s with heap:=h0 }:=by
  intro head nx h0 k0 n0 hl0
  have a0:h0.get? a=some oe:=k0 a oe ha fun z=>(hT a z).1 rfl
  refine ka (wpAny_frameOf_fun hfr hl0 hf fun h₁ so=>ka (wpAny_entryPlaceOf fun pl hpl=>?_))
  unfold EntryCells.newEntry newFields
  refine ka (qe ?_ (hpl.sizeOk5 _ _ _ _ _))
  generalize hob:([head,Value.ref L,.none,rawInt L,.none]++(if pl.isEmpty then List.replicate 6 Value.none else pl)).toArray=ts
  have t3:3<ts.size:=by rw [<- hob];simp only [kr,kj,KJ,Xs];lia
  have a1:h₁.get? a=some oe:=(so.2.1 a (nf a oe ha ⟨vs,hv⟩)).trans a0
  have ne:h₁.objs.size≠a:=qS (k6 a1)
  refine ZmU (km _ a1) hv (by lia) fun g2 ⟨o2,e2,c2,d2⟩ sb2=>?_
  have eT:g2.get? h₁.objs.size=some _:=(sb2.2 _ ne).trans (Ki h₁ rfl)
  unfold setFlight
  refine ka (qd (x:=.ref h₁.objs.size) e2 d2 (by simp [show 1<vs.size by lia]) ?_)
  rw [kh (by simp)]
  refine ZmU eT rfl t3 fun h3 ⟨o3,e3,c3,d3⟩ sb3=>?_
  have old:∀b o,h₁.get? b=some o->b≠a->h3.get? b=some o:=fun b o e z=>(sb3.2 b (Kb (k6 e))).trans ((sb2.2 b z).trans (km _ e))
  have fresh:s.heap.get? h₁.objs.size=none:=by
   cases q:s.heap.get? h₁.objs.size with
   | none=>rfl
   | some o=>
    exfalso
    obtain ⟨o',z⟩:=n0 _ o q
    obtain ⟨sl,y⟩:=so.2.2 _ _ z
    exact qN _ (k6 y)
  refine hQ h3 h₁.objs.size (fun b o e n na nt=>old b o ((so.2.1 b n).trans (k0 b o e nt)) na) (fun b o e hb=>?_) ⟨o2,_,o3,_,(sb3.2 a (Ko ne)).trans e2,c2,d2,by simp [show 1<vs.size by lia],e3,d3,by simp [t3],ne,by rw [Array.getElem?_setIfInBounds_ne (by decide)];exact h2⟩ fresh
  obtain ⟨_,o',e',n⟩:=hl.mem hb
  rw [e] at e';cases e'
  obtain ⟨sl,y⟩:=so.2.2 b o (k0 b o e fun z=>by obtain ⟨_,oT,ts,q,d,_⟩:=hT b z;rw [e] at q;cases q;exact n _ d)
  exact ⟨sl,old b _ y fun z=>by rw [z,ha] at e;cases e;exact n _ hv⟩
 unfold noteFrame
 simp only [hf]
 refine ka (qd ha hv h1 ?_)
 cases T with
 | none=>
  rw [kg (by decide)]
  exact entry _ _ s.heap (fun b o e _=>e) (fun b o e=>⟨o,e⟩) hl
 | some t=>
  obtain ⟨nt,oT,ts,eT,dT,f3⟩:=hT t rfl
  show wpAny M A (if (Value.ref t != Value.none)=true then _ else _) _ _ s
  rw [kh (by simp)]
  refine ka (qd eT dT f3 ?_)
  rw [kg (by simp [rawInt])]
  refine ka (ZmU eT dT (TN.mp f3).1 fun h' ⟨o1,g1,_⟩ sb=>?_)
  refine entry _ _ h' (fun b o e n=>(sb.2 b fun z=>n (by rw [z])).trans e) (fun b o e=>by
   by_cases z:b=t
   ·exact ⟨o1,by rw [z];exact g1⟩
   ·exact ⟨o,(sb.2 b z).trans e⟩) (hl.of_keeps fun b o e n=>⟨o,(sb.2 b fun z=>?_).trans e,rfl⟩)
  rw [z,eT] at e;cases e
  exact n _ dT
theorem ZgZ {args:List Value} (hfr:A.frames=some (env::outer)) (hf:env.frame=some L) (hl:h.FunFrames base (env::outer)) (hx:Heap.MadeExcOf h s.heap a C args)
  (hQ:∀h' T,(∀b o,h.get? b=some o->b∉frs (env::outer)->h'.get? b=some o)->(∀b o,h.get? b=some o->b∈frs (env::outer) -> ∃sl,h'.get? b=some { o with slots:=sl }) ->
   Exc h' a T C->h.get? a=none->h.get? T=none->Q () { s with heap:=h' }):wpAny M A (leaving env (.ref a)) Q E s:=by
 obtain ⟨t,ha,_⟩:=hx.there
 have was:∀b,s.heap.get? b=none->h.get? b=none:=fun b e=>by
  cases q:h.get? b with
  | none=>rfl
  | some o=>rw [hx.keeps b o q] at e;cases e
 exact ka (Zii (T:=none) hfr hf (hl.of_keeps fun b o e _=>⟨o,hx.keeps b o e,rfl⟩) ha rfl rfl rfl (fun _ z=>nomatch z) fun h' T' k1 k2 ex nT=>
  hQ h' T' (fun b o e n=>k1 b o (hx.keeps b o e) n (fun z=>by rw [z,hx.new] at e;cases e) (fun z=>nomatch z)) (fun b o e hb=>k2 b o (hx.keeps b o e) hb) ex hx.new (was _ nT))
theorem looked (hfr:A.frames=some (env::outer)) (hf:env.frame=some L) (hl:s.heap.FunFrames base (env::outer)) (hx:Exc s.heap a T C)
  (hQ:∀h' T',(∀b o,s.heap.get? b=some o->b∉frs (env::outer)->b≠a->b≠T->h'.get? b=some o)->(∀b o,s.heap.get? b=some o->b∈frs (env::outer) -> ∃sl,h'.get? b=some { o with slots:=sl }) ->
   Exc h' a T' C->(T'=T∨s.heap.get? T'=none)->Q () { s with heap:=h' }):wpAny M A (noteFrame (.ref a) env) (fun _ s₂=>wpAny M A (setFlight (.ref a) none) Q E s₂) E s:=by
 obtain ⟨oe,vs,oT,ts,p1,rfl,p3,p4,p5,p6,p7,p8,p9⟩:=hx
 exact Zii (T:=some T) hfr hf hl p1 p3 p4 p9 (fun t z=>by cases z;exact ⟨p8,oT,ts,p5,p6,p7⟩) fun h' T' k1 k2 ex nT=>hQ h' T' (fun b o e n na nt=>k1 b o e n na fun z=>nt (kX z).symm) k2 ex (.inr nT)
theorem ZkR (hfr:A.frames=some (env::outer)) (hf:env.frame=some L) (hl:s.heap.FunFrames base (env::outer)) (hx:Exc s.heap a T C)
  (hQ:∀h' T',(∀b o,s.heap.get? b=some o->b∉frs (env::outer)->b≠a->b≠T->h'.get? b=some o)->(∀b o,s.heap.get? b=some o->b∈frs (env::outer) -> ∃sl,h'.get? b=some { o with slots:=sl }) ->
   Exc h' a T' C->(T'=T∨s.heap.get? T'=none)->Q () { s with heap:=h' }):wpAny M A (leaving env (.ref a)) Q E s:=ka (looked hfr hf hl hx hQ)
end
def CX1 (P:Program) (w:World):CXT:=fun outer H s E e s'=>∃(a T C:Addr) (H':Hp),e = .ref a/\s'.os=s.os/\AllBare s'.gens/\Un (frs outer) [] H H' s.heap s'.heap/\GB P w H' s'.heap /\
 Exc s'.heap a T (.ref C)/\s.heap.get? a=none/\s.heap.get? T=none/\H' a=none/\H' T=none/\E (.ref C) none H'
section
variable {P:Program}{w:World}{K:PySem.W.Frag}{mg:Str->Option Value}{base:Heap}{N:List Str}{qual:Str}{scope:Scope}{f:Addr}{cd:Value}{A:Around}{outer:List Env}{s₀ s:Shared}{H₀ H:Hp}{E:XK}{CX:CXT}{pins:List (Addr×Obj)} {σ:L2.St}
theorem ZdY {h:Heap}{b:Addr}{o:HO} (ok:GB P w H h) (e:H b=some o):∃ob,h.get? b=some ob:=(ok b o e).there
theorem JS {h:Heap}{b:Addr} (ok:GB P w H h) (e:h.get? b=none):H b=none:=by
 cases q:H b with
 | none=>rfl
 | some o=>
  obtain ⟨ob,z⟩:=ZdY ok q
  rw [e] at z
  cases z
theorem Zeq {a T:Addr}{h':Heap} (I:Inv (WZ CX P w K mg base N qual scope f cd A outer s₀ H₀ E) pins σ H s)
  (na:H a=none/\s₀.heap.get? a=none) (nT:H T=none/\s₀.heap.get? T=none)
  (keep:∀b o,s.heap.get? b=some o->b∉frs (WZ CX P w K mg base N qual scope f cd A outer s₀ H₀ E).stack->b≠a->b≠T->h'.get? b=some o)
  (slot:∀b o,s.heap.get? b=some o->b∈frs (WZ CX P w K mg base N qual scope f cd A outer s₀ H₀ E).stack -> ∃sl,h'.get? b=some { o with slots:=sl }):
  Un (frs outer) [] H₀ H s₀.heap h'/\GB P w H h':=by
 have B:Un (frs outer) [] H₀ H s₀.heap s.heap:=I.base
 have neL:∀b o,s₀.heap.get? b=some o->b∉frs outer->b∉frs (WZ CX P w K mg base N qual scope f cd A outer s₀ H₀ E).stack:=fun b o e nb hb=>by
  rcases kL.mp (I.stkSub b hb) with z | z
  ·exact absurd (Ky (k6 e) I.ok.above) (by rw [z];exact qN _)
  ·exact nb z
 have nea:∀b o,s₀.heap.get? b=some o->b≠a/\b≠T:=fun b o e=>⟨(fun z=>by rw [z,na.2] at e;cases e),(fun z=>by rw [z,nT.2] at e;cases e)⟩
 have any:∀b o,s.heap.get? b=some o->b≠a->b≠T -> ∃o',h'.get? b=some o':=fun b o e z1 z2=>by
  by_cases hb:b∈frs (WZ CX P w K mg base N qual scope f cd A outer s₀ H₀ E).stack
  ·obtain ⟨sl,q⟩:=slot b o e hb
   exact ⟨_,q⟩
  ·exact ⟨o,keep b o e hb z1 z2⟩
 refine ⟨⟨fun b o e n hb hx=>keep b o (B.keep b o e n hb hx) (neL b o e hb) (nea b o e).1 (nea b o e).2,fun b o e n hb hx=>?_,B.free,fun b o e hx=>?_,B.tups,B.frzs,B.tbls⟩,fun b u e=>?_⟩
 ·obtain ⟨sl,q⟩:=B.slot b o e n hb hx
  obtain ⟨sl',q'⟩:=slot b _ q (by
   show b∈frs (envOfC qual scope s₀.heap.objs.size f cd::outer)
   unfold frs
   rw [qJ]
   exact kQ _ hb)
  exact ⟨sl',q'⟩
 ·obtain ⟨o',q⟩:=B.there b o e hx
  exact any b o' q (nea b o e).1 (nea b o e).2
 ·refine (I.hok b u e).stay (fun c v hc q=>?_) (fun _ q=>q) fun _ _ q=>q
  have hH:H c≠none:=by
   rcases hc with rfl | z
   ·rw [e];exact fun z=>nomatch z
   ·rw [z];exact fun z=>nomatch z
  exact keep c v q (fun z=>hH (I.stkFree c z)) (fun z=>hH (by rw [z];exact na.1)) (fun z=>hH (by rw [z];exact nT.1))
theorem JY {b:Addr} (I:Inv (WZ CX P w K mg base N qual scope f cd A outer s₀ H₀ E) pins σ H s) (e:s.heap.get? b=none):s₀.heap.get? b=none:=by
 cases q:s₀.heap.get? b with
 | none=>rfl
 | some o=>
  obtain ⟨o',z⟩:=I.base.there b o q (fun y=>nomatch y)
  rw [e] at z
  cases z
theorem ZlD {a C:Addr}{args:List Value}{h':Heap}{tk:Nat} (I:Inv (WZ (CX1 P w) P w K mg base N qual scope f cd A outer s₀ H₀ E) pins σ H s) (hx:Heap.MadeExcOf s.heap h' a (.ref C) args) (hE:E (.ref C) none H):
  (WZ (CX1 P w) P w K mg base N qual scope f cd A outer s₀ H₀ E).xe (.ref a) { s with heap:=h',toks:=tk }:=by
 refine ZgZ (L:=s₀.heap.objs.size) I.ok.frames rfl I.stack (s:={ s with heap:=h',toks:=tk }) hx fun h2 T keep slot ex na nT=>?_
 obtain ⟨u,ok⟩:=Zeq I ⟨JS I.hok na,JY I na⟩ ⟨JS I.hok nT,JY I nT⟩ (fun b o e n _ _=>keep b o e n) slot
 exact ⟨a,T,C,H,rfl,I.os,I.bare,u,ok,ex,JY I na,JY I nT,JS I.hok na,JS I.hok nT,hE⟩
theorem Zob:Passes (CX1 P w) (WZ (CX1 P w) P w K mg base N qual scope f cd A outer s₀ H₀ E) E:=by
 intro pins σ H s e s' I c
 obtain ⟨a,T,C,H',rfl,os,bare,un,ok,ex,na,nT,ha,hT,hE⟩:=c
 have I':Inv (WZ (CX1 P w) P w K mg base N qual scope f cd A outer s₀ H₀ E) pins σ H' s':=I.call' os un ok bare (fun b z=>nomatch z)
 refine ZkR (L:=s₀.heap.objs.size) I'.ok.frames rfl I'.stack ex fun h2 T' keep slot ex' oT=>?_
 obtain ⟨u,ok'⟩:=Zeq I' ⟨ha,JY I na⟩ ⟨hT,JY I nT⟩ keep slot
 refine ⟨a,T',C,H',rfl,I'.os,I'.bare,u,ok',ex',JY I na,?_,ha,?_,hE⟩
 ·rcases oT with z | z
  ·rw [z];exact JY I nT
  ·exact JY I' z
 ·rcases oT with z | z
  ·rw [z];exact hT
  ·exact JS I'.hok z
end
theorem Znj {K:PySem.W.Frag}{C:Addr}{bmB:List Value}{newId:String}{h:Heap} (KI:K.In h) (hq:PySem.W.excIn K C bmB newId=true):
  ∃bm N nm qn bs hd sn sub ab col dd k0 k1 k2 k3 k5 mN,h.get? C=some (excClassObj nm qn C N bs bm hd sn sub ab col dd k0 k1 k2 k3 k5 newId)/\h.Ns N mN/\mN "__init__" = none/\OwnTail h bmB bm:=by
 unfold PySem.W.excIn at hq
 split at hq
 ·rename_i dd dat slots hob
  split at hq
  ·rename_i C2 tail k0 k1 k2 k3 nid k5 hmro hsl
   simp only [Kw,Bool.not_eq_true',NJ] at hq
   obtain ⟨⟨⟨⟨⟨e1,e2⟩,e3⟩,e4⟩,e5⟩,e6⟩:=hq
   subst e1
   subst e2
   obtain ⟨nm,bs,mro,ns,qn,hd,sn,sub,ab,col,del⟩:=dat
   simp only at hmro e3 e5 e6
   subst hmro
   subst e3
   obtain ⟨sl⟩:=slots
   simp only at hsl
   subst hsl
   exact ⟨tail,ns,nm,qn,bs,hd,sn,sub,ab,col,dd,k0,k1,k2,k3,k5,_,KI _ _ hob,.of_isNs (PySem.W.isNs_of_in KI e5),PySem.W.nsMap_none_of_in KI e5 e6,PySem.W.tail_of_in KI e4⟩
  ·exact nomatch hq
 ·exact nomatch hq
def bmV:List Value:=[.type "ValueError", .type "Exception", .type "BaseException", .type "object"]
def Zm4 (C:Addr) (E:XK) (ta:TA):TS:=fun _ σ H=>ta σ H fun vs H1=>vs.length<=sizeLine/\E (.ref C) none H1
section
variable {P:Program}{w:World}{K:PySem.W.Frag}{mg:Str->Option Value}{base:Heap}{N:List Str}{qual:Str}{scope:Scope}{f:Addr}{cd:Value}{A:Around}{outer:List Env}{s₀:Shared}{H₀:Hp}{E:XK}
theorem ZjT {x:Str}{C:Addr}{e:Expr}{es:List Expr}{ta:TA}{np cpos pos:Pos} (hg:Gl (WZ (CX1 P w) P w K mg base N qual scope f cd A outer s₀ H₀ E) x) (hm:mg x=some (.ref C)) (hc:PySem.W.excIn K C bmV "ValueError.__new__" = true)
  (ha:PA (WZ (CX1 P w) P w K mg base N qual scope f cd A outer s₀ H₀ E) (e::es) ta)
  (he:starEach (e::es) (WZ (CX1 P w) P w K mg base N qual scope f cd A outer s₀ H₀ E).env=(false,eval e (WZ (CX1 P w) P w K mg base N qual scope f cd A outer s₀ H₀ E).env)::starEach es (WZ (CX1 P w) P w K mg base N qual scope f cd A outer s₀ H₀ E).env:=by rfl)
  (hp:(backTo cpos (starEach es (WZ (CX1 P w) P w K mg base N qual scope f cd A outer s₀ H₀ E).env)).any (·.1)=false:=by rfl) (hd:(x==("__debug__" : Str))=false:=by decide):
  PS (WZ (CX1 P w) P w K mg base N qual scope f cd A outer s₀ H₀ E) (.Raise (some (.Call (.Name x np) (e::es) [] cpos)) none pos) (Zm4 C E ta):=by
 intro pins s σ H D I h
 obtain ⟨bm,NN,nm,qn,bs,hdc,sn,sub,ab,col,dd,k0,k1,k2,k3,k5,mN,hC,hN,hni,T⟩:=Znj I.mod.kin hc
 have hb:bmV.contains (.type "BaseException")=true:=TQ.hasBase
 refine wpAny_Raise_call_subT (C:=C) (nm:=nm) (q:=qn) (N:=NN) (bs:=bs) (bm:=bm) (bmB:=bmV) (hdct:=hdc) (sn:=sn) (sub:=sub) (ab:=ab) (col:=col) (dd:=dd) (k0:=k0) (k1:=k1) (k2:=k2) (k3:=k3) (k5:=k5)
  (newId := "ValueError.__new__") TQ (mN:=mN) (T.hasType hb) (I.ok.hd rfl) (by rw [he];show (false||(backTo cpos (starEach es _)).any (·.1))=false;rw [hp];rfl) hni (ZhP I hg hm ⟨rfl,?_⟩ hd)
 have hz:=ha cpos pins s σ H _ I h
 rw [he] at hz ⊢
 refine Xy (KH hz (fun us s2 ⟨vs,H2,I2,rv,hl,hE⟩=>?_) fun _ _ y=>y)
 refine ⟨rfl,by rw [<- rv.length];exact hl,I2.bk _ _ hC,hN.keeps I2.bk,T.keeps I2.bk,fun h' a mk=>?_⟩
 exact ZlD (tk:=s2.toks) I2 mk hE
end
section
variable {P:Program}{w:World}{K:PySem.W.Frag}{mg:Str->Option Value}{base:Heap}
theorem Yy.okX {x qual:Str}{st:Stmt}{f:Addr}{fd:FuncData}{N ps:List Str}{k:Nat}{sp:Sp} (F:Yy K x qual st f fd) (S:Zy N ps (Zj st)) (len:∀vs H Q E,sp vs H Q E->vs.length=ps.length)
  (hbody:∀(cdv:Value) (A:Around) (outer:List Env) (s:Shared) (H:Hp) (vs:List V) (Q:VK) (E:XK),GH k (A.deeper (envOfC qual (Zj st) s.heap.objs.size f cdv))->sp vs H Q E ->
   ∃t,PSs (WZ (CX1 P w) P w K mg base N qual (Zj st) f cdv A outer s H E) (Ug st) t/\t { nx:=fun _ H'=>Q .non H',rt:=Q } (start N vs) H):Yf P w K mg base (CX1 P w) (k+1) f fd ps sp:=by
 obtain ⟨oc,od,kV,doc,pm,an,cdv,ct,osl,rfl,lk,hcd⟩:=F.ex
 exact Zmr lk hcd S len fun A outer s H vs Q E hr hsp=>hbody cdv A outer s H vs Q E hr hsp
def ZiR (P:Program) (w:World) (K:PySem.W.Frag) (mg:Str->Option Value) (base:Heap) (k:Nat) (x:Str) (ps:List Str) (sp:Sp):Prop:=
 ∃(f:Addr) (fd:FuncData),Yf P w K mg base (CX1 P w) k f fd ps sp/\mg x=some (.ref f)/\PySem.W.keepIn K (.ref f)=true/\Binds K fd ps []
theorem Zim {X:Cx}{k:Nat}{x:Str}{ps:List Str}{sp:Sp}{p pos:Pos}{e:Expr}{es:List Expr}{t:TA}{E:XK} (h:ZiR X.prog X.w X.K X.mg X.base k x ps sp) (hr:GH k X.A) (hx:Passes (CX1 X.prog X.w) X E) (ha:PA X (e::es) t) (hg:Gl X x:=by rfl) (hdb:(x==("__debug__" : Str))=false:=by decide)
  (he:starEach (e::es) X.env=(false,eval e X.env)::starEach es X.env:=by rfl) (hpl:(backTo pos (starEach es X.env)).any (·.1)=false:=by rfl):PE X (.Call (.Name x p) (e::es) [] pos) (ZfR sp [] E t):=by
 obtain ⟨f,fd,G,hm,hk,hb⟩:=h
 exact ZhH G hr hg hm hk hb .nil hx ha hdb he hpl
end
def ZgM:List (TE×TE)->St->Hp->(List (V×V)->Hp->Prop)->Prop
 | [],_,H,Q=>Q [] H
 | (tk,tv)::r,σ,H,Q=>tk σ H fun x H1=>tv σ H1 fun y H2=>ZgM r σ H2 fun ps H3=>Q ((x,y)::ps) H3
abbrev VV:List (V×V)->List (Value×Value)->Prop:=Paired fun p q=>RelV p.1 q.1/\RelV p.2 q.2
def PPs (X:Cx) (pos:Pos) (keys:List (Option Expr)) (values:List Expr) (trs:List (TE×TE)):Prop:=
 ∀(pins:List (Addr×Obj)) (s:Shared) (σ:St) (H:Hp) (Q:List (V×V)->Hp->Prop),Inv X pins σ H s->ZgM trs σ H Q ->
  wpAny (model X.prog X.w) X.A (evalPairs (pairTrees keys values X.env pos)) (fun vs s'=>∃ps H',Inv X pins σ H' s'/\VV ps vs/\Q ps H') X.xe s
theorem ZlC {X:Cx}{pos:Pos}:PPs X pos [] [] []:=fun pins s σ H Q I h=>pairTrees_nil_walk ⟨[],H,I,.nil,h⟩
theorem Zf1 {X:Cx}{pos:Pos}{k v:Expr}{ks:List (Option Expr)}{vs:List Expr}{tk tv:TE}{trs:List (TE×TE)} (hk:PE X k tk) (hv:PE X v tv) (hr:PPs X pos ks vs trs):
  PPs X pos (some k::ks) (v::vs) ((tk,tv)::trs):=fun pins s σ H Q I h=>
 pairTrees_cons_walk (YG (hk pins s σ H _ I h) fun u s1 ⟨x,H1,I1,rx,q1⟩=>YG (hv pins s1 σ H1 _ I1 q1) fun w2 s2 ⟨y,H2,I2,ry,q2⟩=>
  YG (hr pins s2 σ H2 _ I2 q2) fun ws s3 ⟨ps,H3,I3,rel,q3⟩=>⟨(x,y)::ps,H3,I3,.cons ⟨rx,ry⟩ rel,q3⟩)
def Zb1 (kvs more:List (Key×V)):List (Key×V):=more.foldl (fun acc kv=>putK acc kv.1 kv.2) kvs
theorem KV.merge:∀{more:List (Key×V)}{rs:List (Key×Value)}{kvs:List (Key×V)}{vs:List (Key×Value)},KV more rs->KV kvs vs->KV (Zb1 kvs more) (merged vs rs):=by
 intro more rs kvs vs r
 unfold KV at r
 induction r generalizing kvs vs with
 | nil=>intro q;exact q
 | @cons p q ps qs h t ih=>
  intro r0
  have e:KV (putK kvs p.1 p.2) (stored vs q.1 q.2):=by
   have:=r0.put p.1 h.2
   rw [<- h.1];exact this
  exact ih e
theorem ZaM:∀(more kvs:List (Key×V)),(Zb1 kvs more).length<=kvs.length+more.length
 | [],kvs=>by show kvs.length<=kvs.length+0;lia
 | p::r,kvs=>by
  have h1:=ZaM r (putK kvs p.1 p.2)
  have h2:=Wh kvs p.1 p.2
  show (Zb1 (putK kvs p.1 p.2) r).length<=_
  rw [KJ];lia
theorem ZcS {P:Program}{w:World}:∀{kvs:List (Key×V)}{ws:List (Value×Value)},VV (kvs.map fun kv=>(kV kv.1,kv.2)) ws -> ∃rs,Carries (ZT P w) ws rs/\KV kvs rs
 | [],_,r=>by rw [NI] at r;cases r;exact ⟨[],True.intro,.nil⟩
 | p::kvs,_,r=>by
  rw [k7] at r
  cases r with
  | @cons a b as bs h t=>
   obtain ⟨rs,c,q⟩:=ZcS (P:=P) (w:=w) t
   obtain ⟨b1,b2⟩:=b
   exact ⟨(p.1,b2)::rs,⟨ZdE h.1,rfl,c⟩,.cons ⟨rfl,h.2⟩ q⟩
def Zoi (trs:List (TE×TE)):TE:=fun σ H Q=>∀p,H p=none->ZgM trs σ (upd H p (.dK [])) fun ps H2=>H2 p=some (.dK []) /\ ∃kvs:List (Key×V),ps=kvs.map (fun kv=>(kV kv.1,kv.2))/\kvs.length<=15/\Q (.ref p) (upd H2 p (.dK (Zb1 [] kvs)))
theorem Zmf {X:Cx}{pos:Pos}{keys:List (Option Expr)}{values:List Expr}{trs:List (TE×TE)} (h:PPs X pos keys values trs) (hall:keys.all (·.isSome)=true) (hl:keys.length=values.length) (h0:keys ≠ [])
  (h15:keys.length<=15):PE X (.Dict keys values pos) (Zoi trs):=by
 intro pins s σ H Q I q
 have hn:=I.hok.fresh (ki s.heap.objs.size)
 have I1:=I.laid (a:=s.heap.objs.size) (o:=.dK []) (h':=s.heap.push { cls:=.type "dict", data:=.dict #[] }) (t':=s.toks) (fun _ _ q=>km _ q) (ki _) (ZfY s.heap I.big)
 refine wpAny_Dict_walk (knd:=ZT X.prog X.w) hall hl h0 h15 (YG (h pins _ σ _ _ I1 (q _ hn)) fun ws s2 ⟨ps,H2,I2,rel,e,kvs,ep,lk,q2⟩=>?_)
 subst ep
 obtain ⟨rs,c,rk⟩:=ZcS (P:=X.prog) (w:=X.w) rel
 obtain ⟨z,hd,vs0,r0,dd⟩:=Zj2 I2.hok e
 cases r0
 refine ⟨rs,c,dd,fun h' dd' hs=>⟨.ref s.heap.objs.size,_,?_,rfl,q2⟩⟩
 have hz:(Zb1 [] kvs).length<=sizeLine:=by
  have h1:=ZaM kvs []
  rw [Xs] at h1
  rw [Kg];lia
 have he:∃q,h'.get? s.heap.objs.size=some q:=let ⟨q,_,_,hq,_⟩:=dd';⟨q,hq⟩
 exact ZcJ I2 (by rw [e];exact True.intro) hs he (Zg3 hz hd (rk.merge .nil) dd')
def Zkq (lo:Int) (n:Nat):It:=⟨fun i _=>i<n,fun i H x H'=>H'=H/\x = .int (lo+i*2),fun i _=>n<=i⟩
theorem Zgs {P:Program}{w:World}{K:PySem.W.Frag}{tg:Expr} (it:Addr) (lo:Int) (n:Nat):Turn P w K tg (Zkq lo n) [it] it (fun i h=>IsRangeIter h it (lo+(i:Nat)*2) ((n:Int)-(i:Nat)) 2) where
 mem:=by simp
 obj:=fun i h st b hb=>by
  have e:b=it:=by simpa using hb
  subst e
  exact ⟨_,st,fun v z=>by
   have z':Data.fields _=Data.cell v:=z
   cases z'⟩
 keep:=fun i h h' st k=>k it (by simp) _ st
 item:=by
  intro X hP hw hK hc i pins s σ H E I hf st hg
  subst hP hw hK
  obtain ⟨f0,f1,f2,f3,f4,f5⟩:=hf it (by simp)
  have W:=Walks.range (prog:=X.prog) (w:=X.w) (I.ok.hd hc) it lo 2 n
  refine W.item i s _ _ hg st fun v h' tk hv st' kk=>?_
  obtain ⟨t,rfl⟩:=hv
  have I1:Inv X pins σ H { s with heap:=h',toks:=tk }:=I.turned (fun b o hb e=>kk b o (by simpa using hb) e) f0 f1 f3 f4 f5
  exact ⟨_,rfl,Zhw (s:={ s with heap:=h',toks:=tk }) (n := "range_iterator") st' rfl rfl (by decide) ⟨.int (lo+i*2),H,I1,⟨t,rfl⟩,⟨rfl,rfl⟩,st',fun b hb=>(hf b hb).1⟩⟩
 done:=by
  intro X hP hw hK hc i pins s σ H E I hf st hg
  subst hP hw hK
  obtain ⟨f0,f1,f2,f3,f4,f5⟩:=hf it (by simp)
  exact wpAny_pyNext_range_end (I.ok.hd hc) st (by have:n<=i:=hg;lia) fun h' eb=>⟨rfl,I.turned (t':=s.toks) (fun b o hb e=>eb b o hb e) f0 f1 f3 f4 f5⟩
 self:=fun _ _ _ _ _ st h=>wpAny_pyIter_rangeiter st h
section
variable {X:Cx}{tg:Expr}
def ZoC (ta:TA):TI:=fun σ H R=>ta σ H fun vs H1=>∃n:Nat,vs = [.int 0,.int (2*n),.int 2]/\n<100000/\R (Zkq 0 n) H1
theorem ZfS (n:Nat):Builtin.Range.rangeSize 0 (2*(n:Int)) 2=n:=by
 unfold Builtin.Range.rangeSize
 rw [kh (by decide)]
 split<;>lia
theorem Gf {i:Int} (h0 : -1<=i) (h1:i<1000000):Builtin.Range.rangeFitsLong i=true:=by
 unfold Builtin.Range.rangeFitsLong
 rw [Kw]
 exact ⟨kG (by lia),kG (by lia)⟩
theorem Zi2 {n:Nat} (h:n<100000):Builtin.Range.small 0 (2*(n:Int)) 2=true:=by
 unfold Builtin.Range.small
 rw [ZfS]
 rw [kh (by decide),Gf (i:=0) (by lia) (by lia),Gf (i:=2*(n:Int)) (by lia) (by lia),Gf (i:=2) (by lia) (by lia),Gf (i:=(n:Int)) (by lia) (by lia),Gf (i:=2*(n:Int)+(2-1)) (by lia) (by lia)]
 simp
theorem Zi7 {a b c:Expr}{ta:TA}{p pos:Pos} (hg:Gl X "range") (hm:X.mg "range" = none) (ha:PA X [a,b,c] ta) (hs:starEach [a,b,c] X.env = [(false,eval a X.env),(false,eval b X.env),(false,eval c X.env)]:=by rfl) (hs2:starEach [b,c] X.env = [(false,eval b X.env),(false,eval c X.env)]:=by rfl):
  PI X tg (.Call (.Name "range" p) [a,b,c] [] pos) (ZoC ta):=by
 intro pins s σ H R I h
 refine Call_ (Up I hg hm boot_range (KS (YG (ha pos pins s σ H _ I h) fun us s1 ⟨vs,H1,I1,r1,q1⟩=>?_) (by rw [hs,hs2]) (by rw [hs2];rfl)))
 obtain ⟨n,e,hn,q⟩:=q1
 subst e
 cases r1 with
 | cons r rr=>
  cases rr with
  | cons r' rr=>
   cases rr with
   | cons r2 rr=>
    cases rr
    obtain ⟨t,rfl⟩:=r
    obtain ⟨t',rfl⟩:=r'
    obtain ⟨t2,rfl⟩:=r2
    refine call_range_3 (by decide) ?_ (Or.inl (NF (by lia)))
    refine wpAny_pyIter_range (IsRange.new ..) (Zi2 hn) ?_
    have I2:Inv X pins σ H1 { s1 with heap:=s1.heap.push { cls:=.type "range", data:=.fields #[.int 0 t,.int (2*(n:Int)) t',.int 2 t2] } }:=I1.kept (t':=s1.toks) fun b o e=>km _ e
    refine ⟨(s1.heap.push { cls:=.type "range", data:=.fields #[.int 0 t,.int (2*(n:Int)) t',.int 2 t2] }).objs.size,[(s1.heap.push { cls:=.type "range", data:=.fields #[.int 0 t,.int (2*(n:Int)) t',.int 2 t2] }).objs.size],_,_,H1,rfl,
     I2.kept (t':=s1.toks) fun b o e=>km _ e,Zgs _ 0 n,?_,fun b hb=>?_,q⟩
    ·have e1:(0:Int)+((0:Nat):Int)*2=0:=by simp
     have e2:((n:Nat):Int)-((0:Nat):Int)=Builtin.Range.rangeSize 0 (2*(n:Int)) 2:=by rw [ZfS];simp
     show IsRangeIter _ _ ((0:Int)+((0:Nat):Int)*2) (((n:Nat):Int)-((0:Nat):Int)) 2
     rw [e1,e2]
     exact Ki _ rfl
    ·have e:b=(s1.heap.push { cls:=.type "range", data:=.fields #[.int 0 t,.int (2*(n:Int)) t',.int 2 t2] }).objs.size:=by simpa using hb
     subst e
     exact I2.fpOk (ki _) (I2.hok.fresh (ki _))
end
theorem Zhi {lo:Int}{n:Nat}{g:TG}{tb:TS}{D:Ends} {σ:L2.St}{H:Hp} (Pv:Nat->L2.St->Hp->Prop) (h0:Pv 0 σ H)
  (hs:∀i σ H,i<n->Pv i σ H->g (.int (lo+i*2)) σ H fun σ2 H2=>tb { D with nx:=Pv (i+1),ct:=Pv (i+1),bk:=D.nx } σ2 H2) (hd:∀ σ H,Pv n σ H->D.nx σ H):
  ∃W:Nat->Nat->L2.St->Hp->Prop,(∃m,W 0 m σ H) /\ ∀i m σ H,W i m σ H ->
   ((Zkq lo n).stop i H/\D.nx σ H)∨((Zkq lo n).go i H /\ ∃N:L2.St->Hp->Prop,(∀ σ' H',N σ' H' -> ∃m',m'<m/\W (i+1) m' σ' H') /\ ∀x H',(Zkq lo n).yld i H x H'->g x σ H' fun σ2 H2=>tb { D with nx:=N,ct:=N,bk:=D.nx } σ2 H2):=by
 refine ⟨fun i m σ H=>m=n-i/\i<=n/\Pv i σ H,⟨n,by simp,Km _,h0⟩,?_⟩
 rintro i m σ H ⟨rfl,hi,p⟩
 by_cases hlt:i<n
 ·refine .inr ⟨hlt,Pv (i+1),fun σ' H' p'=>⟨n-(i+1),by lia,rfl,hlt,p'⟩,fun x H' y=>?_⟩
  obtain ⟨rfl,rfl⟩:=y
  exact hs i σ _ hlt p
 ·exact .inl ⟨by show n<=i;lia,hd σ H ((show i=n by lia) ▸ p)⟩
theorem Zlq {K:PySem.W.Frag}{a b:Addr}{xs ys:List V}{g:TG}{tb:TS}{D:Ends} {σ:L2.St}{H:Hp} (hl:xs.length=ys.length) (Pv:Nat->L2.St->Hp->Prop) (h0:Pv 0 σ H) (hS:∀i σ H,Pv i σ H->Zr K H a xs/\Zr K H b ys)
  (hs:∀i x y p σ H,xs[i]? = some x->ys[i]? = some y->Pv i σ H->H p=none->g (.ref p) σ (upd H p (.tup [x,y])) fun σ2 H2=>tb { D with nx:=Pv (i+1),ct:=Pv (i+1),bk:=D.nx } σ2 H2) (hd:∀ σ H,Pv xs.length σ H->D.nx σ H):
  ∃W:Nat->Nat->L2.St->Hp->Prop,(∃m,W 0 m σ H) /\ ∀i m σ H,W i m σ H ->
   ((Itz K a b).stop i H/\D.nx σ H)∨((Itz K a b).go i H /\ ∃N:L2.St->Hp->Prop,(∀ σ' H',N σ' H' -> ∃m',m'<m/\W (i+1) m' σ' H') /\ ∀x H',(Itz K a b).yld i H x H'->g x σ H' fun σ2 H2=>tb { D with nx:=N,ct:=N,bk:=D.nx } σ2 H2):=by
 refine ⟨fun i m σ H=>m=xs.length-i/\i<=xs.length/\Pv i σ H,⟨xs.length,by simp,Km _,h0⟩,?_⟩
 rintro i m σ H ⟨rfl,hi,p⟩
 obtain ⟨s1,s2⟩:=hS i σ H p
 by_cases hlt:i<xs.length
 ·refine .inr ⟨⟨xs,ys,xs[i],ys[i]'(by lia),s1,s2,by simp [hlt],by simp [show i<ys.length by lia]⟩,Pv (i+1),fun σ' H' p'=>⟨xs.length-(i+1),by lia,rfl,hlt,p'⟩,fun x H' y=>?_⟩
  obtain ⟨q,u,v,e1,e2,e3,y1,y2⟩:=y
  subst e1 e3
  exact hs i u v q σ _ (y1 xs s1) (y2 ys s2) p e2
 ·exact .inl ⟨⟨xs,ys,s1,s2,.inl (by lia)⟩,hd σ H ((show i=xs.length by lia) ▸ p)⟩
end L2
namespace L2
open PySem PySem.Spec PyProof.Rows PyProof.V
section
variable {X:Cx}
def Zoq (K:PySem.W.Frag):R2:=fun x y H Q=>∃(p q:Addr) (ns ms:List Int),x = .ref p/\y = .ref q/\Zr K H p (ns.map V.int)/\Zr K H q (ms.map V.int)/\Q (.bl (decide (ns=ms))) H
theorem Zir {ns:List Int}{its:List Value} (r:Vals (ns.map V.int) its) {j:Nat} (h:j<its.toArray.size):∃t,its.toArray[j] = .int (ns.getD j 0) t:=by
 have l:=r.length
 rw [ke] at l
 have hj:j<ns.length:=by simp only [kr] at h;lia
 obtain ⟨u,e,ru⟩:=r.get (i:=j) (x:=V.int ns[j]) (by simp [hj])
 obtain ⟨t,q⟩:=(show ∃t,u=Value.int ns[j] t from ru)
 have hi:j<its.length:=by lia
 refine ⟨t,?_⟩
 have:its[j]? = some its[j]:=by simp [hi]
 rw [this] at e
 have e2:=kX e
 simp [hj]
 rw [e2,q]
theorem Znm (hu:X.A.units+64<cLine):UO X (compareOp .Eq) (Zoq X.K):=by
 intro pins s σ H x y v u Q I rx ry h
 obtain ⟨p,q,ns,ms,rfl,rfl,hp,hq,hQ⟩:=h
 cases rx
 cases ry
 obtain ⟨its,r1,p1,_⟩:=I.list hp
 obtain ⟨its2,r2,p2,_⟩:=I.list hq
 have l1:=r1.length
 have l2:=r2.length
 rw [ke] at l1 l2
 by_cases hl:ns.length=ms.length
 ·refine SeqAt.eq_listAt (e:=fun j=>ns.getD j 0==ms.getD j 0) p1.isList p2.isList (by simp only [kr];lia) (by lia) (fun j h1 h2=>?_) ⟨.bl (decide (ns=ms)),H,I,?_,hQ⟩
  ·obtain ⟨t1,e1⟩:=Zir r1 h1
   obtain ⟨t2,e2⟩:=Zir r2 h2
   rw [e1,e2]
   exact SeqAt.EqAt.int_int _ _ _ _
  ·show Value.bool _=Value.bool _
   congr 1
   rw [qH,qO,decide_eq_true_iff]
   constructor
   ·intro z
    refine List.ext_getElem hl fun i h1 h2=>?_
    have:=z i (K9.mpr (by simp only [kr];lia))
    simpa [h1,h2] using this
   ·intro z i _
    rw [z]
    simp
 ·refine SeqAt.eq_list_lengthsAt p1.isList p2.isList (by simp only [kr];rw [NL];lia) (by lia) ⟨.bl (decide (ns=ms)),H,I,?_,hQ⟩
  rw [Kn (fun z=>hl (by rw [z]))]
  rfl
theorem Zl4 {K:PySem.W.Frag} (h:X.K=K) (hu:X.A.units+64<cLine):UO X (compareOp .Eq) (Zoq K):=h ▸ Znm hu
end
structure Wo (lt:Keyed->Keyed->Bool):Prop where
 irr:∀p,lt p p=false
 asym:∀p q,lt p q=true->lt q p=false
 neg:∀p q r,lt p r=true->lt p q=true∨lt q r=true
theorem Wo.leT {lt : Keyed -> Keyed -> Bool} (C : Wo lt) {p q r : Keyed} (h1 : lt q p = false) (h2 : lt r q = false) : lt r p = false := by
  cases h : lt r p with
  | false => rfl
  | true => rcases C.neg r q p h with z | z
            · rw [z] at h2; cases h2
            · rw [z] at h1; cases h1
structure Cmp (prog:Program) (w:World) (A:Around) (E:Value->Shared->Prop) (s:Shared) (kd:SortKind) (D:Keyed->Prop) (lt:Keyed->Keyed->Bool):Prop where
 cmp:∀(p q:Keyed) (st:SortSt) (Q:Option Bool->SortSt->Prop),D p->D q->kindOf st=kd->Q (some (lt p q)) st->wpS (model prog w) A E s (lt' p q) Q st
 wo:Wo lt
section
variable {prog:Program}{w:World}{A:Around}{E:Value->Shared->Prop}{s:Shared}{kd:SortKind}{D:Keyed->Prop}{lt:Keyed->Keyed->Bool}
def Srt (lt:Keyed->Keyed->Bool) (l:List Keyed):Prop:=l.Pairwise fun p q=>lt q p=false
theorem Zih {arr:Array Keyed}{i:Nat}{x:Keyed}{st:SortSt}{Q:Keyed->SortSt->Prop}{M:Model} (e:arr[i]? = some x) (h:Q x st):wpS M A E s (elem' arr i) Q st:=by
 rw [elem'_eq,e];exact Kl h
end
section
variable {prog:Program}{w:World}{A:Around}{E:Value->Shared->Prop}{s:Shared}{kd:SortKind}{D:Keyed->Prop}{lt:Keyed->Keyed->Bool}
section
variable {β:Type}{st:SortSt}{Q:β -> SortSt->Prop}{M:Model}
theorem ZnH {c:Bool}{X Y:StateT SortSt Sem β} (h1:c=true->wpS M A E s X Q st) (h2:c=false->wpS M A E s Y Q st):wpS M A E s (if c=true then X else Y) Q st:=by
 cases c with
 | true=>exact h1 rfl
 | false=>exact h2 rfl
theorem ZcY {k n:Nat}{X Y:StateT SortSt Sem β} (h1:k>n->wpS M A E s X Q st) (h2:k<=n->wpS M A E s Y Q st):wpS M A E s (if k>n then X else Y) Q st:=by
 by_cases h:k>n
 ·rw [kh h];exact h1 h
 ·rw [kg h];exact h2 (by lia)
end
theorem Znh {m n:Nat} (h:(m==n)=false):m≠n:=fun e=>by rw [e] at h;simp at h
end
def Zek:Nat->Nat->StateT SortSt Sem (Option Nat):=sortPriv% PySem.Builtin.countRun
def Zf9:Nat->Nat->Nat->StateT SortSt Sem Bool:=sortPriv% PySem.Builtin.binarySort
def GY:StateT SortSt Sem Unit:=sortPriv% PySem.Builtin.sortRuns
section
variable {prog:Program}{w:World}{A:Around}{E:Value->Shared->Prop}{s:Shared}{kd:SortKind}{D:Keyed->Prop}{lt:Keyed->Keyed->Bool}
def Za9 (lt:Keyed->Keyed->Bool) (arr:Array Keyed) (lo m:Nat):Prop:=∀i j p q,i<=j->j<m->arr[lo+i]? = some p->arr[lo+j]? = some q->lt q p=false
def Zbh (lt:Keyed->Keyed->Bool) (arr:Array Keyed) (lo m:Nat):Prop:=∀i j p q,i<=j->j<m->arr[lo+i]? = some p->arr[lo+j]? = some q->lt p q=false
def EqS (lt:Keyed->Keyed->Bool) (arr:Array Keyed) (b e:Nat):Prop:=∀i j p q,b<=i->i<e->b<=j->j<e->arr[i]? = some p->arr[j]? = some q->lt p q=false
structure Kp (lo n:Nat) (st st':SortSt):Prop where
 kind:kindOf st'=kindOf st
 pend:pendingOf st'=pendingOf st
 fail:failedOf st'=failedOf st
 perm:(arrOf st').toList.Perm (arrOf st).toList
 out:∀i,i<lo∨lo+n<=i->(arrOf st')[i]? = (arrOf st)[i]?
theorem Kp.refl (lo n:Nat) (st:SortSt):Kp lo n st st:=⟨rfl,rfl,rfl,.refl _,fun _ _=>rfl⟩
theorem Kp.trans {lo n:Nat}{a b c:SortSt} (x:Kp lo n a b) (y:Kp lo n b c):Kp lo n a c:=⟨y.kind.trans x.kind,y.pend.trans x.pend,y.fail.trans x.fail,y.perm.trans x.perm,fun i h=>(y.out i h).trans (x.out i h)⟩
theorem Kp.size {lo n:Nat}{a b:SortSt} (x:Kp lo n a b):(arrOf b).size=(arrOf a).size:=by
 have:=x.perm.length_eq
 simpa using this
theorem Zga {arr:Array Keyed}{i:Nat} (h:i<arr.size):∃x,arr[i]? = some x:=⟨arr[i],getElem?_pos arr i h⟩
theorem JR (C:Cmp prog w A E s kd D lt) {st:SortSt}{i j:Nat}{Q:Option Bool->SortSt->Prop} (hi:i<(arrOf st).size) (hj:j<(arrOf st).size) (hD:∀x∈(arrOf st).toList,D x) (hk:kindOf st=kd)
  (h:∀p q,(arrOf st)[i]? = some p->(arrOf st)[j]? = some q->Q (some (lt p q)) st):wpS (model prog w) A E s (ltAt' i j) Q st:=by
 obtain ⟨p,hp⟩:=Zga hi
 obtain ⟨q,hq⟩:=Zga hj
 rw [ltAt'_eq]
 refine Ka (X0 ?_)
 show wpS _ _ _ _ (elem' (arrOf st) i >>= fun x=>elem' (arrOf st) j >>= fun y=>lt' x y) Q st
 refine Ka (Zih hp (Ka (Zih hq (C.cmp p q st Q (hD p ?_) (hD q ?_) hk (h p q hp hq)))))
 ·exact kY (by rw [qA];exact hp)
 ·exact kY (by rw [qA];exact hq)
theorem GF {M:Model}{i j:Nat}{st:SortSt}{Q:Unit->SortSt->Prop} (h:Q () (setArr st (mirror (arrOf st) i j ((j-i) / 2)))):wpS M A E s (reverseSlice' i j) Q st:=by
 rw [reverseSlice'_eq];exact TR h
theorem Js {lo n i j:Nat}{st:SortSt} (h1:lo<=i) (h2:j<=lo+n) (h3:lo+n<=(arrOf st).size):Kp lo n st (setArr st (mirror (arrOf st) i j ((j-i) / 2))):=by
 refine ⟨rfl,rfl,rfl,TU.mp (mirror_perm _ _ _ _),fun k hk=>?_⟩
 show (mirror (arrOf st) i j ((j-i) / 2))[k]? = _
 rw [TB (by lia),kg (by lia)]
theorem Gh {arr:Array Keyed}{lo m b e:Nat} (h:Zbh lt arr lo m) (he:EqS lt arr b e) (h1:lo<=b) (h2:e<=lo+m) (h3:lo+m<=arr.size):Zbh lt (mirror arr b e ((e-b) / 2)) lo m:=by
 intro i j p q hij hj hp hq
 rw [TB (by lia)] at hp hq
 by_cases ci:b<=lo+i/\lo+i<e<;>by_cases cj:b<=lo+j/\lo+j<e
 ·rw [kh ci] at hp
  rw [kh cj] at hq
  exact he _ _ p q (by lia) (by lia) (by lia) (by lia) hp hq
 ·rw [kh ci] at hp
  rw [kg cj] at hq
  exact h (b+e-1-(lo+i)-lo) j p q (by lia) hj (by rw [show lo+(b+e-1-(lo+i)-lo)=b+e-1-(lo+i) by lia];exact hp) hq
 ·rw [kg ci] at hp
  rw [kh cj] at hq
  exact h i (b+e-1-(lo+j)-lo) p q (by lia) (by lia) hp (by rw [show lo+(b+e-1-(lo+j)-lo)=b+e-1-(lo+j) by lia];exact hq)
 ·rw [kg ci] at hp
  rw [kg cj] at hq
  exact h i j p q hij hj hp hq
theorem Ux {arr:Array Keyed}{lo m:Nat} (h:Zbh lt arr lo m) (h3:lo+m<=arr.size):Za9 lt (mirror arr lo (lo+m) ((lo+m-lo) / 2)) lo m:=by
 intro i j p q hij hj hp hq
 rw [TB (by lia),kh (by lia)] at hp hq
 exact h (m-1-j) (m-1-i) q p (by lia) (by lia) (by rw [<- hq];congr 1;lia) (by rw [<- hp];congr 1;lia)
theorem GP (C:Wo lt) {arr:Array Keyed}{lo m:Nat} (h:Zbh lt arr lo m) (hm:0<m) {d e:Keyed} (hd:arr[lo+m-1]? = some d) (he:arr[lo+m]? = some e) (hde:lt d e=false):Zbh lt arr lo (m+1):=by
 intro i j p q hij hj hp hq
 by_cases c:j<m
 ·exact h i j p q hij c hp hq
 ·obtain rfl:j=m:=by lia
  rw [he] at hq
  cases hq
  by_cases c2:i=j
  ·subst c2
   rw [he] at hp
   cases hp
   exact C.irr _
  ·exact C.leT hde (h i (j-1) p d (by lia) (by lia) hp (by rw [show lo+(j-1)=lo+j-1 by lia];exact hd))
theorem ZiD (C:Wo lt) {arr:Array Keyed}{lo m:Nat} (h:Za9 lt arr lo m) (hm:0<m) {d e:Keyed} (hd:arr[lo+m-1]? = some d) (he:arr[lo+m]? = some e) (hde:lt e d=false):Za9 lt arr lo (m+1):=by
 intro i j p q hij hj hp hq
 by_cases c:j<m
 ·exact h i j p q hij c hp hq
 ·obtain rfl:j=m:=by lia
  rw [he] at hq
  cases hq
  by_cases c2:i=j
  ·subst c2
   rw [he] at hp
   cases hp
   exact C.irr _
  ·exact C.leT (h i (j-1) p d (by lia) (by lia) hp (by rw [show lo+(j-1)=lo+j-1 by lia];exact hd)) hde
theorem ZbL (C:Wo lt) {x lo:Nat} (arr:Array Keyed):EqS lt arr (lo+x-(0+1)) (lo+x):=fun i j p q i1 i2 j1 j2 hp hq=>by
 obtain rfl:i=j:=by lia
 rw [hp] at hq;cases hq;exact C.irr _
theorem Zhy (C:Wo lt) {arr:Array Keyed}{b e:Nat} (h:EqS lt arr b e) (hb:b<e) {d x:Keyed} (hd:arr[e-1]? = some d) (hx:arr[e]? = some x) (h1:lt x d=false) (h2:lt d x=false):EqS lt arr b (e+1):=fun i j p q i1 i2 j1 j2 hp hq=>by
 by_cases ci:i<e<;>by_cases cj:j<e
 ·exact h i j p q i1 ci j1 cj hp hq
 ·obtain rfl:j=e:=by lia
  rw [hx] at hq;cases hq
  exact C.leT h2 (h i (j-1) p d i1 ci (by lia) (by lia) hp hd)
 ·obtain rfl:i=e:=by lia
  rw [hx] at hp;cases hp
  exact C.leT (h (i-1) j d q (by lia) (by lia) j1 cj hd hq) h1
 ·obtain rfl:i=e:=by lia
  obtain rfl:j=i:=by lia
  rw [hp] at hq;cases hq;exact C.irr _
theorem UQ (C:Cmp prog w A E s kd D lt) {lo n a:Nat}{st:SortSt}{Q:Option (Option Nat)×Nat->SortSt->Prop}{body:Nat->Option (Option Nat)×Nat->StateT SortSt Sem (ForInStep (Option (Option Nat)×Nat))}
  (hb:∀x m (R:ForInStep (Option (Option Nat)×Nat)->SortSt->Prop),1<=m->m<n->(∀p q,(arrOf st)[lo+m]? = some p->(arrOf st)[lo+m-1]? = some q->R (if lt p q=true then .done (none,m) else .yield (none,m+1)) st)->wpS (model prog w) A E s (body x (none,m)) R st)
  (ha:1<=a) (han:a<=n) (hsz:lo+n<=(arrOf st).size) (hs:Za9 lt (arrOf st) lo a)
  (h:∀m,a<=m->m<=n->Za9 lt (arrOf st) lo m->(m<n -> ∀p q,(arrOf st)[lo+m]? = some p->(arrOf st)[lo+m-1]? = some q->lt p q=true)->Q (none,m) st):wpS (model prog w) A E s (forIn [a:n] (none,a) body) Q st:=by
 refine qw (I:=fun x c st'=>st'=st/\c=(none,x)/\Za9 lt (arrOf st) lo x) ?_ ?_ ⟨rfl,rfl,hs⟩
 ·rintro x c st' hax hxn ⟨rfl,rfl,g⟩
  refine hb x x _ (by lia) hxn fun p q hp hq=>?_
  cases e:lt p q with
  | true=>
   exact h x hax (by lia) g fun _ p' q' hp' hq'=>by
    rw [hp] at hp';rw [hq] at hq';cases hp';cases hq';exact e
  | false=>exact ⟨rfl,rfl,ZiD C.wo g (by lia) hq hp e⟩
 ·rintro c st' ⟨rfl,rfl,g⟩
  rw [show max a n=n by lia] at g ⊢
  exact h n han (ki _) g fun z=>by lia
theorem Zgq (C:Cmp prog w A E s kd D lt) {lo n:Nat}{st:SortSt}{Q:Option Nat->SortSt->Prop} (hn:0<n) (hsz:lo+n<=(arrOf st).size) (hD:∀x∈(arrOf st).toList,D x) (hk:kindOf st=kd)
  (h:∀m st',1<=m->m<=n->Kp lo n st st'->Za9 lt (arrOf st') lo m->Q (some m) st'):wpS (model prog w) A E s (Zek lo n) Q st:=by
 have s1:∀arr:Array Keyed,Za9 lt arr lo 1:=fun arr i j p q hij hj hp hq=>by
  obtain rfl:i=0:=by lia
  obtain rfl:j=0:=by lia
  rw [hp] at hq;cases hq;exact C.wo.irr _
 refine Ka (UQ C (lo:=lo) (n:=n) (a:=1) (st:=st) (fun x m R h1 h2 hR=>?_) (ki _) hn hsz (s1 _) fun m hm1 hm2 g nx=>?_)
 ·refine Ka (JR C (by lia) (by lia) hD hk fun p q hp hq=>?_)
  have:=hR p q hp hq
  cases e:lt p q with
  | true=>rw [e] at this;exact Kl this
  | false=>rw [e] at this;exact Kl this
 refine ZnH (c:=(m==n)) (fun c1=>Kl (h m st hm1 hm2 (Kp.refl _ _ _) g)) (fun c1=>?_)
 have c1':=Znh c1
 obtain ⟨pl,hpl⟩:=Zga (show lo+m<(arrOf st).size by lia)
 obtain ⟨ql,hql⟩:=Zga (show lo+m-1<(arrOf st).size by lia)
 have less:=nx (by lia) pl ql hpl hql
 refine ZcY (k:=m) (n:=1) (fun z=>?_) (fun z=>?_)
 ·refine Ka (JR C (i:=lo) (j:=lo+m-1) (by lia) (by lia) hD hk fun p q hp hq=>?_)
  cases e:lt p q with
  | true=>exact Kl (h m st hm1 hm2 (Kp.refl _ _ _) g)
  | false=>
   have eqs:EqS lt (arrOf st) lo (lo+m):=fun i j a b i1 i2 j1 j2 ha hb=>by
    have ha':(arrOf st)[lo+(i-lo)]? = some a:=by rw [show lo+(i-lo)=i by lia];exact ha
    have hb':(arrOf st)[lo+(j-lo)]? = some b:=by rw [show lo+(j-lo)=j by lia];exact hb
    have l1:=g (i-lo) (m-1) a q (by lia) (by lia) ha' (by rw [<- hq];congr 1;lia)
    have l2:=g 0 (j-lo) p b (by lia) (by lia) (by rw [XD];exact hp) hb'
    have l3:=g 0 (i-lo) p a (by lia) (by lia) (by rw [XD];exact hp) ha'
    have l4:=g (j-lo) (m-1) b q (by lia) (by lia) hb' (by rw [<- hq];congr 1;lia)
    exact C.wo.leT l4 (C.wo.leT e l3)
   refine Ka (GF (i:=lo) (j:=lo+m) ?_)
   have k1:=Js (lo:=lo) (n:=n) (i:=lo) (j:=lo+m) (st:=st) (ki _) (by lia) hsz
   have non0:Zbh lt (arrOf st) lo m:=fun i j a b hij hj ha hb=>eqs _ _ a b (by lia) (by lia) (by lia) (by lia) ha hb
   have non1:Zbh lt (arrOf (setArr st (mirror (arrOf st) lo (lo+m) ((lo+m-lo) / 2)))) lo (m+1):=Gh (GP C.wo non0 (by lia) hql hpl (C.wo.asym _ _ less)) eqs (ki _) (by lia) (by lia)
   generalize setArr st (mirror (arrOf st) lo (lo+m) ((lo+m-lo) / 2))=st1 at k1 non1 ⊢
   refine Ka (Mf (qV ⟨rfl,?_⟩))
   refine Ka (XG (qw (a:=m+1) (b:=n) (I:=fun x c st'=>∃neq,c=(none,x,neq)/\Kp lo n st st'/\Zbh lt (arrOf st') lo x/\neq+1<=x/\EqS lt (arrOf st') (lo+x-(neq+1)) (lo+x))
    (Q:=fun c st'=>∃x neq,c=(none,x,neq)/\m+1<=x/\x<=n/\Kp lo n st st'/\Zbh lt (arrOf st') lo x/\neq+1<=x/\EqS lt (arrOf st') (lo+x-(neq+1)) (lo+x)) ?_ ?_ ⟨0,rfl,k1,non1,by lia,ZbL C.wo _⟩) ?_)
   ·rintro x c st2 hx1 hx2 ⟨neq,rfl,k2,g2,e1,e2⟩
    have z2:=k2.size
    have hD2:∀y∈(arrOf st2).toList,D y:=fun y hy=>hD y (k2.perm.mem_iff.mp hy)
    have hk2:=k2.kind.trans hk
    refine Ka (JR C (i:=lo+x) (j:=lo+x-1) (by lia) (by lia) hD2 hk2 fun p q hp hq=>?_)
    cases e:lt p q with
    | true=>
     have gs:=GP C.wo g2 (by lia) hq hp (C.wo.asym _ _ e)
     refine ZcY (k:=neq) (n:=0) (fun z=>?_) (fun z=>?_)
     ·refine Ka (GF (i:=lo+x-(neq+1)) (j:=lo+x) ?_)
      exact Kl ⟨0,rfl,k2.trans (Js (by lia) (by lia) (by lia)),Gh gs e2 (by lia) (by lia) (by lia),by lia,ZbL C.wo _⟩
     ·exact Kl ⟨0,rfl,k2,gs,by lia,ZbL C.wo _⟩
    | false=>
     refine Ka (JR C (i:=lo+x-1) (j:=lo+x) (by lia) (by lia) hD2 hk2 fun q' p' hq' hp'=>?_)
     rw [hq] at hq'
     rw [hp] at hp'
     cases hq';cases hp'
     cases e':lt q p with
     | true=>exact Kl ⟨x,neq,rfl,hx1,by lia,k2,g2,e1,e2⟩
     | false=>
      refine Kl ⟨neq+1,rfl,k2,GP C.wo g2 (by lia) hq hp e',by lia,?_⟩
      have:=Zhy C.wo e2 (by lia) hq hp e e'
      rw [show lo+(x+1)-(neq+1+1)=lo+x-(neq+1) by lia]
      exact this
   ·rintro c st2 ⟨neq,rfl,k2,g2,e1,e2⟩
    rw [show max (m+1) n=n by lia] at g2 e1 e2 ⊢
    exact ⟨n,neq,rfl,by lia,ki _,k2,g2,e1,e2⟩
   ·rintro c st2 ⟨x,neq,rfl,x1,x2,k2,g2,e1,e2⟩
    have z2:=k2.size
    refine ZcY (k:=neq) (n:=0) (fun z=>?_) (fun z=>?_)
    ·refine Ka (GF (i:=lo+x-(neq+1)) (j:=lo+x) ?_)
     have k3:=k2.trans (Js (lo:=lo) (n:=n) (i:=lo+x-(neq+1)) (j:=lo+x) (st:=st2) (by lia) (by lia) (by lia))
     have g3:Zbh lt (arrOf (setArr st2 (mirror (arrOf st2) (lo+x-(neq+1)) (lo+x) ((lo+x-(lo+x-(neq+1))) / 2)))) lo x:=Gh g2 e2 (by lia) (by lia) (by lia)
     generalize setArr st2 (mirror (arrOf st2) (lo+x-(neq+1)) (lo+x) ((lo+x-(lo+x-(neq+1))) / 2))=st3 at k3 g3 ⊢
     refine Ka (GF (i:=lo) (j:=lo+x) ?_)
     have z3:=k3.size
     have k4:=k3.trans (Js (lo:=lo) (n:=n) (i:=lo) (j:=lo+x) (st:=st3) (ki _) (by lia) (by lia))
     have g4:=Ux g3 (by lia)
     refine Ka (UQ C (lo:=lo) (n:=n) (a:=x) (st:=setArr st3 (mirror (arrOf st3) lo (lo+x) ((lo+x-lo) / 2))) (fun y m' R h1 h2 hR=>?_) (by lia) x2 (by rw [k4.size];exact hsz) g4 fun m' a1 a2 g5 _=>Kl (h m' _ (by lia) a2 k4 g5))
     refine Ka (JR C (by rw [k4.size];lia) (by rw [k4.size];lia) (fun y hy=>hD y (k4.perm.mem_iff.mp hy)) (k4.kind.trans hk) fun p q hp hq=>?_)
     have:=hR p q hp hq
     cases e:lt p q with
     | true=>rw [e] at this;exact Kl this
     | false=>rw [e] at this;exact Kl this
    ·have k3:=k2
     have g3:=g2
     refine Ka (GF (i:=lo) (j:=lo+x) ?_)
     have z3:=k3.size
     have k4:=k3.trans (Js (lo:=lo) (n:=n) (i:=lo) (j:=lo+x) (st:=st2) (ki _) (by lia) (by lia))
     have g4:=Ux g3 (by lia)
     refine Ka (UQ C (lo:=lo) (n:=n) (a:=x) (st:=setArr st2 (mirror (arrOf st2) lo (lo+x) ((lo+x-lo) / 2))) (fun y m' R h1 h2 hR=>?_) (by lia) x2 (by rw [k4.size];exact hsz) g4 fun m' a1 a2 g5 _=>Kl (h m' _ (by lia) a2 k4 g5))
     refine Ka (JR C (by rw [k4.size];lia) (by rw [k4.size];lia) (fun y hy=>hD y (k4.perm.mem_iff.mp hy)) (k4.kind.trans hk) fun p q hp hq=>?_)
     have:=hR p q hp hq
     cases e:lt p q with
     | true=>rw [e] at this;exact Kl this
     | false=>rw [e] at this;exact Kl this
 ·obtain rfl:m=1:=by lia
  have k1:=Kp.refl lo n st
  have non1:Zbh lt (arrOf st) lo (1+1):=GP C.wo (fun i j a b hij hj ha hb=>by
   obtain rfl:i=0:=by lia
   obtain rfl:j=0:=by lia
   rw [ha] at hb;cases hb;exact C.wo.irr _) (by lia) hql hpl (C.wo.asym _ _ less)
  refine Ka (Mf (qV ⟨rfl,?_⟩))
  refine Ka (XG (qw (a:=1+1) (b:=n) (I:=fun x c st'=>∃neq,c=(none,x,neq)/\Kp lo n st st'/\Zbh lt (arrOf st') lo x/\neq+1<=x/\EqS lt (arrOf st') (lo+x-(neq+1)) (lo+x))
   (Q:=fun c st'=>∃x neq,c=(none,x,neq)/\1+1<=x/\x<=n/\Kp lo n st st'/\Zbh lt (arrOf st') lo x/\neq+1<=x/\EqS lt (arrOf st') (lo+x-(neq+1)) (lo+x)) ?_ ?_ ⟨0,rfl,k1,non1,by lia,ZbL C.wo _⟩) ?_)
  ·rintro x c st2 hx1 hx2 ⟨neq,rfl,k2,g2,e1,e2⟩
   have z2:=k2.size
   have hD2:∀y∈(arrOf st2).toList,D y:=fun y hy=>hD y (k2.perm.mem_iff.mp hy)
   have hk2:=k2.kind.trans hk
   refine Ka (JR C (i:=lo+x) (j:=lo+x-1) (by lia) (by lia) hD2 hk2 fun p q hp hq=>?_)
   cases e:lt p q with
   | true=>
    have gs:=GP C.wo g2 (by lia) hq hp (C.wo.asym _ _ e)
    refine ZcY (k:=neq) (n:=0) (fun z=>?_) (fun z=>?_)
    ·refine Ka (GF (i:=lo+x-(neq+1)) (j:=lo+x) ?_)
     exact Kl ⟨0,rfl,k2.trans (Js (by lia) (by lia) (by lia)),Gh gs e2 (by lia) (by lia) (by lia),by lia,ZbL C.wo _⟩
    ·exact Kl ⟨0,rfl,k2,gs,by lia,ZbL C.wo _⟩
   | false=>
    refine Ka (JR C (i:=lo+x-1) (j:=lo+x) (by lia) (by lia) hD2 hk2 fun q' p' hq' hp'=>?_)
    rw [hq] at hq'
    rw [hp] at hp'
    cases hq';cases hp'
    cases e':lt q p with
    | true=>exact Kl ⟨x,neq,rfl,hx1,by lia,k2,g2,e1,e2⟩
    | false=>
     refine Kl ⟨neq+1,rfl,k2,GP C.wo g2 (by lia) hq hp e',by lia,?_⟩
     have:=Zhy C.wo e2 (by lia) hq hp e e'
     rw [show lo+(x+1)-(neq+1+1)=lo+x-(neq+1) by lia]
     exact this
  ·rintro c st2 ⟨neq,rfl,k2,g2,e1,e2⟩
   rw [show max (1+1) n=n by lia] at g2 e1 e2 ⊢
   exact ⟨n,neq,rfl,by lia,ki _,k2,g2,e1,e2⟩
  ·rintro c st2 ⟨x,neq,rfl,x1,x2,k2,g2,e1,e2⟩
   have z2:=k2.size
   refine ZcY (k:=neq) (n:=0) (fun z=>?_) (fun z=>?_)
   ·refine Ka (GF (i:=lo+x-(neq+1)) (j:=lo+x) ?_)
    have k3:=k2.trans (Js (lo:=lo) (n:=n) (i:=lo+x-(neq+1)) (j:=lo+x) (st:=st2) (by lia) (by lia) (by lia))
    have g3:Zbh lt (arrOf (setArr st2 (mirror (arrOf st2) (lo+x-(neq+1)) (lo+x) ((lo+x-(lo+x-(neq+1))) / 2)))) lo x:=Gh g2 e2 (by lia) (by lia) (by lia)
    generalize setArr st2 (mirror (arrOf st2) (lo+x-(neq+1)) (lo+x) ((lo+x-(lo+x-(neq+1))) / 2))=st3 at k3 g3 ⊢
    refine Ka (GF (i:=lo) (j:=lo+x) ?_)
    have z3:=k3.size
    have k4:=k3.trans (Js (lo:=lo) (n:=n) (i:=lo) (j:=lo+x) (st:=st3) (ki _) (by lia) (by lia))
    have g4:=Ux g3 (by lia)
    refine Ka (UQ C (lo:=lo) (n:=n) (a:=x) (st:=setArr st3 (mirror (arrOf st3) lo (lo+x) ((lo+x-lo) / 2))) (fun y m' R h1 h2 hR=>?_) (by lia) x2 (by rw [k4.size];exact hsz) g4 fun m' a1 a2 g5 _=>Kl (h m' _ (by lia) a2 k4 g5))
    refine Ka (JR C (by rw [k4.size];lia) (by rw [k4.size];lia) (fun y hy=>hD y (k4.perm.mem_iff.mp hy)) (k4.kind.trans hk) fun p q hp hq=>?_)
    have:=hR p q hp hq
    cases e:lt p q with
    | true=>rw [e] at this;exact Kl this
    | false=>rw [e] at this;exact Kl this
   ·have k3:=k2
    have g3:=g2
    refine Ka (GF (i:=lo) (j:=lo+x) ?_)
    have z3:=k3.size
    have k4:=k3.trans (Js (lo:=lo) (n:=n) (i:=lo) (j:=lo+x) (st:=st2) (ki _) (by lia) (by lia))
    have g4:=Ux g3 (by lia)
    refine Ka (UQ C (lo:=lo) (n:=n) (a:=x) (st:=setArr st2 (mirror (arrOf st2) lo (lo+x) ((lo+x-lo) / 2))) (fun y m' R h1 h2 hR=>?_) (by lia) x2 (by rw [k4.size];exact hsz) g4 fun m' a1 a2 g5 _=>Kl (h m' _ (by lia) a2 k4 g5))
    refine Ka (JR C (by rw [k4.size];lia) (by rw [k4.size];lia) (fun y hy=>hD y (k4.perm.mem_iff.mp hy)) (k4.kind.trans hk) fun p q hp hq=>?_)
    have:=hR p q hp hq
    cases e:lt p q with
    | true=>rw [e] at this;exact Kl this
    | false=>rw [e] at this;exact Kl this
end
section
variable {prog:Program}{w:World}{A:Around}{E:Value->Shared->Prop}{s:Shared}{kd:SortKind}{D:Keyed->Prop}{lt:Keyed->Keyed->Bool}
theorem Zlo {M:Model}{i j:Nat}{st:SortSt}{Q:Unit->SortSt->Prop} (h:Q () (setArr st (bubble (arrOf st) i (i-j)))):wpS M A E s (moveDown' i j) Q st:=by
 rw [moveDown'_eq];exact TR h
theorem ZdO (C:Cmp prog w A E s kd D lt) {lo n ok:Nat}{st:SortSt}{Q:Bool->SortSt->Prop} (h1:1<=ok) (hok:ok<=n) (hsz:lo+n<=(arrOf st).size) (hD:∀x∈(arrOf st).toList,D x) (hk:kindOf st=kd) (hs:Za9 lt (arrOf st) lo ok)
  (h:∀st',Kp lo n st st'->Za9 lt (arrOf st') lo n->Q true st'):wpS (model prog w) A E s (Zf9 lo n ok) Q st:=by
 refine Ka (XG (qw (a:=max ok 1) (b:=n) (I:=fun k c st'=>c=(none,())/\Kp lo n st st'/\Za9 lt (arrOf st') lo k) (Q:=fun c st'=>c=(none,())/\Kp lo n st st'/\Za9 lt (arrOf st') lo n) ?_ ?_ ⟨rfl,Kp.refl _ _ _,by rw [show max ok 1=ok by lia];exact hs⟩) ?_)
 ·rintro k c st1 hk1 hk2 ⟨rfl,kp,g⟩
  have z1:=kp.size
  obtain ⟨e,he⟩:=Zga (show lo+k<(arrOf st1).size by lia)
  refine Ka (XG (qw (a:=0) (b:=k) (I:=fun x c st'=>st'=st1 /\ ∃l r,c=(none,l,r)/\l<=r/\r<=k/\r-l<=k-x/\(∀i p,i<l->(arrOf st1)[lo+i]? = some p->lt e p=false) /\ ∀i p,r<=i->i<k->(arrOf st1)[lo+i]? = some p->lt e p=true)
   (Q:=fun c st'=>st'=st1 /\ ∃l r,c=(none,l,r)/\l<=k/\(∀i p,i<l->(arrOf st1)[lo+i]? = some p->lt e p=false) /\ ∀i p,l<=i->i<k->(arrOf st1)[lo+i]? = some p->lt e p=true) ?_ ?_ ⟨rfl,0,k,rfl,by lia,by lia,by lia,fun i p hi=>by lia,fun i p h1 h2=>by lia⟩) ?_)
  ·rintro x c st' _ hx ⟨rfl,l,r,rfl,g1,g2,g3,g4,g5⟩
   dsimp only
   by_cases hge:l>=r
   ·rw [kh hge]
    obtain rfl:l=r:=by lia
    exact Kl ⟨rfl,l,l,rfl,g2,g4,g5⟩
   ·rw [kg hge]
    refine Ka (JR C (i:=lo+k) (j:=lo+(l+r) / 2) (by lia) (by lia) (fun y hy=>hD y (kp.perm.mem_iff.mp hy)) (kp.kind.trans hk) fun p q hp hq=>?_)
    rw [he] at hp
    cases hp
    cases c:lt e q with
    | true=>
     refine Kl ⟨rfl,l,(l+r) / 2,rfl,by lia,by lia,by lia,g4,fun i p i1 i2 hp=>?_⟩
     rcases C.wo.neg e p q c with z | z
     ·exact z
     ·rw [g ((l+r) / 2) i q p i1 i2 hq hp] at z;cases z
    | false=>
     refine Kl ⟨rfl,(l+r) / 2+1,r,rfl,by lia,by lia,by lia,fun i p i1 hp=>?_,g5⟩
     exact C.wo.leT (g i ((l+r) / 2) p q (by lia) (by lia) hp hq) c
  ·rintro c st' ⟨rfl,l,r,rfl,g1,g2,g3,g4,g5⟩
   obtain rfl:l=r:=by lia
   exact ⟨rfl,l,l,rfl,g2,g4,g5⟩
  ·rintro c st' ⟨rfl,l,r,rfl,g2,g4,g5⟩
   refine Ka (Zlo (i:=lo+k) (j:=lo+l) ?_)
   have sz:lo+k<(arrOf st').size:=by lia
   refine Kl ⟨rfl,kp.trans ⟨rfl,rfl,rfl,TU.mp (bubble_perm _ _ _),fun i hi=>?_⟩,fun i j p q hij hj hp hq=>?_⟩
   ·show (bubble (arrOf st') (lo+k) (lo+k-(lo+l)))[i]? = _
    rw [getElem?_bubble sz _ (by lia),kg (by lia),kg (by lia)]
   ·rw [show arrOf (setArr st' (bubble (arrOf st') (lo+k) (lo+k-(lo+l))))=bubble (arrOf st') (lo+k) (lo+k-(lo+l)) from rfl,getElem?_bubble sz _ (by lia)] at hp hq
    rw [show lo+k-(lo+k-(lo+l))=lo+l by lia] at hp hq
    by_cases ci:i=l<;>by_cases cj:j=l
    ·subst ci;subst cj
     rw [kh rfl] at hp hq
     rw [hp] at hq;cases hq;exact C.wo.irr _
    ·subst ci
     rw [kh rfl,he] at hp
     cases hp
     rw [kg (by lia),kh (by lia)] at hq
     exact C.wo.asym _ _ (g5 (j-1) q (by lia) (by lia) (by rw [<- hq];congr 1;lia))
    ·subst cj
     rw [kg (by lia),kg (by lia)] at hp
     rw [kh rfl,he] at hq
     cases hq
     exact g4 i p (by lia) hp
    ·rw [kg (by lia)] at hp hq
     by_cases di:i<l<;>by_cases dj:j<l
     ·rw [kg (by lia)] at hp hq
      exact g i j p q hij (by lia) hp hq
     ·rw [kg (by lia)] at hp
      rw [kh (by lia)] at hq
      exact g i (j-1) p q (by lia) (by lia) hp (by rw [<- hq];congr 1;lia)
     ·lia
     ·rw [kh (by lia)] at hp hq
      exact g (i-1) (j-1) p q (by lia) (by lia) (by rw [<- hp];congr 1;lia) (by rw [<- hq];congr 1;lia)
 ·rintro c st1 ⟨rfl,kp,g⟩
  rw [show max (max ok 1) n=n by lia] at g
  exact ⟨rfl,kp,g⟩
 ·rintro c st1 ⟨rfl,kp,g⟩
  exact Kl (h st1 kp g)
end
section
variable {prog:Program}{w:World}{A:Around}{E:Value->Shared->Prop}{s:Shared}{kd:SortKind}{D:Keyed->Prop}{lt:Keyed->Keyed->Bool}
theorem ZgD {β:Type}{M:Model}{st:SortSt}{Q:β -> SortSt->Prop}{k n:Nat}{X Y:StateT SortSt Sem β} (h1:k<n->wpS M A E s X Q st) (h2:n<=k->wpS M A E s Y Q st):wpS M A E s (if k<n then X else Y) Q st:=by
 by_cases h:k<n
 ·rw [kh h];exact h1 h
 ·rw [kg h];exact h2 (by lia)
end
def lexLt:List Int->List Int->Bool
 | [],[]=>false
 | [],_::_=>true
 | _::_,[]=>false
 | a::as,b::bs=>if a=b then lexLt as bs else decide (a<b)
theorem Zi9:∀{xs ys:List Int}{i:Nat},(xs.length<=i∨ys.length<=i)->lexLt (xs.drop i) (ys.drop i)=decide (xs.length-i<ys.length-i):=fun {xs ys i} h=>by
 rcases Nat.lt_or_ge i xs.length with h1 | h1
 ·rw [KQ h1,show ys.drop i = [] from K8 (by lia)]
  simp [lexLt];lia
 ·rw [K8 h1]
  rcases Nat.lt_or_ge i ys.length with h2 | h2
  ·rw [KQ h2]
   simp [lexLt];lia
  ·rw [K8 h2]
   simp [lexLt];lia
theorem ZjK {xs ys:List Int}{i:Nat} (h1:i<xs.length) (h2:i<ys.length):lexLt (xs.drop i) (ys.drop i)=if xs[i]=ys[i] then lexLt (xs.drop (i+1)) (ys.drop (i+1)) else decide (xs[i]<ys[i]):=by
 conv=>lhs;rw [KQ h1,KQ h2]
 rfl
theorem ints_get:∀{vs:List Value}{ns:List Int},IntsAre vs ns -> ∀(i:Nat) (h:i<vs.length) (h':i<ns.length),∃t,vs[i] = .int ns[i] t
 | _,_,.cons n t hr,0,_,_=>⟨t,rfl⟩
 | _,_,.cons n t hr,i+1,h,h'=>by
  obtain ⟨t',e⟩:=ints_get hr i (by simpa using h) (by simpa using h')
  exact ⟨t',by simpa using e⟩
open PySem.SeqAt AutoSeq1 in
theorem Zdb (l b:Addr) (items items2:Array Value) (n n2:Nat) (dd dd2:Option Addr) (sl sl2:Array (Option Value)) (xs ys:List Int) (hx:IntsAre items.toList xs) (hy:IntsAre items2.toList ys):
  Meets (Builtin.«tuple.__lt__» ⟨[.ref l,.ref b],[]⟩) (fun A R s=>s.heap.get? l=some { cls:=.type "tuple", dict:=dd,data:=.seq items n,slots:=sl } /\ s.heap.get? b=some { cls:=.type "tuple", dict:=dd2,data:=.seq items2 n2,slots:=sl2 } /\ R (.ok (.ret (.bool (lexLt xs ys)))) s):=
 .of_wp fun prog w A R s h=>by
  obtain ⟨hp,g,d,tk,os⟩:=s;obtain ⟨hl,hb,h⟩:=h
  have:=AutoSeq1.sub_tuple_tuple
  have lx:items.size=xs.length:=by rw [<- Kq];exact XA hx
  have ly:items2.size=ys.length:=by rw [<- Kq];exact XA hy
  wp_walk using wpAny_loadPart' hl,wpAny_loadPart' hb,wpAny_forIn_list _ (fun rest r s'=>r.1=none/\s' = ⟨hp,g,d,tk,os⟩ /\ ∃us vs ps qs,rest=us.zip vs/\IntsAre us ps/\IntsAre vs qs/\lexLt xs ys=lexLt ps qs/\(xs.length<ys.length ↔ ps.length<qs.length)) _
  case turn=>
   rintro _ rest r s' ⟨_,rfl,us,vs,ps,qs,e,hu,hv,le,ln⟩
   cases hu with
   | nil=>cases e
   | cons p t hu=>
    cases hv with
    | nil=>cases e
    | cons q u hv=>
     cases e
     rw [lexLt] at le
     refine ka (Tf ?_)
     by_cases z:p=q
     ·rw [kg (by simp [z])]
      exact ko ⟨rfl,rfl,_,_,_,_,rfl,hu,hv,by rw [le,kh z],by simpa using ln⟩
     ·rw [kh (by simp [z])]
      rw [le,kg z] at h
      refine ka (qV (ka (wpAny_lt_int ?_)))
      wp_walk
      exact ⟨_,rfl,h⟩
  case fin=>
   rintro ⟨_,_⟩ s' ⟨hr,rfl,us,vs,ps,qs,e,hu,hv,le,ln⟩
   cases hr
   have:lexLt ps qs=decide (items.size<items2.size):=by
    rw [lx,ly,show decide (xs.length<ys.length)=decide (ps.length<qs.length) from Xd.mpr ln]
    cases hu with
    | nil=>cases hv<;>simp [lexLt]
    | cons=>cases hv with
     | nil=>simp [lexLt]
     | cons=>cases e
   rw [le,this] at h
   wp_walk
   exact ⟨_,rfl,h⟩
  case h=>exact ⟨rfl,rfl,_,_,_,_,rfl,hx,hy,rfl,Iff.rfl⟩
theorem Za4:∀xs:List Int,lexLt xs xs=false
 | []=>rfl
 | a::as=>by rw [lexLt,kh rfl];exact Za4 as
theorem Ze6:∀(xs ys zs:List Int),lexLt xs zs=true->lexLt xs ys=true∨lexLt ys zs=true
 | [],[],[],h=>by simp [lexLt] at h
 | [],[],_::_,h=>.inr rfl
 | [],_::_,_,h=>.inl rfl
 | _::_,_,[],h=>by simp [lexLt] at h
 | _::_,[],_::_,h=>.inr rfl
 | a::as,b::bs,c::cs,h=>by
  simp only [lexLt] at h ⊢
  by_cases e1:a=c
  ·subst e1
   rw [kh rfl] at h
   by_cases e2:a=b
   ·subst e2
    rw [kh rfl,kh rfl]
    exact Ze6 as bs cs h
   ·rw [kg e2,kg (Ko e2),Kk,Kk]
    lia
  ·rw [kg e1,Kk] at h
   by_cases e2:a=b
   ·subst e2
    rw [kg e1]
    exact .inr (kG h)
   ·rw [kg e2]
    by_cases e3:b=c
    ·subst e3
     exact .inl (kG h)
    ·rw [kg e3,Kk,Kk]
     lia
theorem Zdv:∀(xs ys:List Int),lexLt xs ys=true->lexLt ys xs=false
 | [],[],h=>by simp [lexLt] at h
 | [],_::_,_=>rfl
 | _::_,[],h=>by simp [lexLt] at h
 | a::as,b::bs,h=>by
  simp only [lexLt] at h ⊢
  by_cases e:a=b
  ·subst e
   rw [kh rfl] at h ⊢
   exact Zdv as bs h
  ·rw [kg e,Kk] at h
   rw [kg (Ko e)]
   exact Kn (by lia)
theorem Zd8:∀{xs ys:List Int},lexLt xs ys=false->lexLt ys xs=false->xs=ys
 | [],[],_,_=>rfl
 | [],_::_,h,_=>by simp [lexLt] at h
 | _::_,[],_,h=>by simp [lexLt] at h
 | a::as,b::bs,h1,h2=>by
  simp only [lexLt] at h1 h2
  by_cases e:a=b
  ·subst e
   rw [kh rfl] at h1 h2
   rw [Zd8 h1 h2]
  ·rw [kg e,XO] at h1
   rw [kg (Ko e),XO] at h2
   lia
section
variable {prog:Program}{w:World}{A:Around}{E:Value->Shared->Prop}{s:Shared}{a b:Addr}{xs ys:List Int}
def JP (T:String) (h:Heap) (a:Addr) (ks:List Int):Prop:=∃(vs:Array Value) (dd:Option Addr) (n:Nat) (sl:Array (Option Value)),h.get? a=some { cls:=.type T,dict:=dd,data:=.seq vs n,slots:=sl } /\ IntsAre vs.toList ks
abbrev Zcs:=JP "tuple"
theorem Zkk {Q:Value->Shared->Prop} (ha:Zcs s.heap a xs) (hb:Zcs s.heap b ys) (hu:A.units<cLine) (h:Q (.bool (lexLt xs ys)) s):wpAny (model prog w) A (richCompare .Lt (.ref a) (.ref b)) Q E s:=by
 obtain ⟨vs,dd,n,sl,e,i⟩:=ha
 obtain ⟨vs2,dd2,n2,sl2,e2,i2⟩:=hb
 exact richCompare_meets_room (op:=.Lt) ⟨_,e,rfl⟩ ⟨_,e2,rfl⟩ NX F.entry_tuple_lt (F.args_tuple_lt_2 _ _) (Zdb a b vs vs2 n n2 dd dd2 sl sl2 xs ys i i2) ⟨e,e2,show Value.bool (lexLt xs ys)≠Value.notImplemented/\Q _ s from ⟨(fun x=>nomatch x),h⟩⟩ hu
theorem Zlu {Q:Bool->Shared->Prop} (ha:Zcs s.heap a xs) (hb:Zcs s.heap b ys) (hu:A.units<cLine) (h:Q (lexLt xs ys) s):wpAny (model prog w) A (oneLt' false (.ref a) (.ref b)) Q E s:=by
 rw [oneLt'_eq]
 simp only [qt,Xp]
 exact ka (Zkk ha hb hu (KC h))
end
section
variable {prog:Program}{w:World}{A:Around}{E:Value->Shared->Prop}{s:Shared}{a b:Addr}{xs ys:List Int}
def ZdR (h:Heap):Value->List Int
 | .ref a=>match h.get? a with
  | some o=>match o.data with
   | .seq vs _=>vs.toList.map numOf
   | _=>[]
  | none=>[]
 | _=>[]
theorem JP.key {T:String}{h:Heap} (x:JP T h a xs):ZdR h (.ref a)=xs:=by
 obtain ⟨vs,dd,n,sl,e,i⟩:=x
 show (match h.get? a with | some o=>_ | none=>_)=_
 rw [e]
 exact i.nums
theorem JP.kept {T:String}{h h':Heap} (x:JP T h a xs) (k:∀o,h.get? a=some o->h'.get? a=some o):JP T h' a xs:=
 let ⟨vs,dd,n,sl,e,i⟩:=x;⟨vs,dd,n,sl,k _ e,i⟩
theorem Zma {Q:Bool->Shared->Prop} (ha:Zcs s.heap a xs) (hb:Zcs s.heap b ys) (hu:A.units<cLine) (h:Q (lexLt xs ys) s):wpAny (model prog w) A (oneLt' true (.ref a) (.ref b)) Q E s:=by
 rw [oneLt'_eq]
 simp only [XU]
 refine ka (wpAny_cRoomFor hu ?_)
 obtain ⟨vs,dd,n,sl,e,i⟩:=ha
 obtain ⟨vs2,dd2,n2,sl2,e2,i2⟩:=hb
 refine ka (Th (T := "tuple") ⟨_,e,rfl⟩ NX ?_)
 refine XI NX ⟨_,e,rfl⟩ F.entry_tuple_lt (F.args_tuple_lt_2 _ _) (Zdb a b vs vs2 n n2 dd dd2 sl sl2 xs ys i i2) ⟨e,e2,?_⟩
 exact ka (KC (ko h))
theorem Zh4 {c:Bool}{Q:Bool->Shared->Prop}:∀{us vs:List Value}{xs ys:List Int},IntsAre us xs->IntsAre vs ys -> ∀(i:Nat) (fin:Bool),(xs.length<ys.length ↔ fin=true)->Q (lexLt xs ys) s->W.KatLex prog w A c fin Q (us.zip vs) i s
 | _,_,_,_,.nil,.nil,i,fin,hf,h=>by
  have:fin=false:=by cases fin with | false=>rfl | true=>exact absurd (hf.mpr rfl) (by simp)
  subst this;exact h
 | _,_,_,_,.nil,.cons n t hr,i,fin,hf,h=>by
  have:fin=true:=hf.mp (by simp)
  subst this;exact h
 | _,_,_,_,.cons n t hr,.nil,i,fin,hf,h=>by
  have:fin=false:=by cases fin with | false=>rfl | true=>exact absurd (hf.mpr rfl) (by simp)
  subst this;exact h
 | _,_,_,_,.cons n t hr,.cons m u hs,i,fin,hf,h=>by
  refine W.kat_cons (Tf ?_)
  rw [lexLt] at h
  by_cases e:n=m
  ·rw [kh e] at h
   rw [show (n==m)=true by simp [e]]
   exact W.kat_yes (Zh4 hr hs (i+1) fin (by simpa using hf) h)
  ·rw [kg e] at h
   rw [show (n==m)=false by simp [e]]
   refine W.kat_no ?_
   cases hc:(c&&i==0) with
   | true=>exact oneLt_int h
   | false=>exact W.kat_one _ _ (wpAny_lt_int h)
theorem ZmF {c:Bool}{Q:Bool->Shared->Prop} (ha:Zcs s.heap a xs) (hb:Zcs s.heap b ys) (h:Q (lexLt xs ys) s):wpAny (model prog w) A (keyLt' (tuples' c) (.ref a) (.ref b)) Q E s:=by
 obtain ⟨vs,dd,n,sl,e,i⟩:=ha
 obtain ⟨vs2,dd2,n2,sl2,e2,i2⟩:=hb
 refine W.kat_lt e rfl e2 rfl (Zh4 i i2 0 _ ?_ h)
 have l1:=XA i
 have l2:=XA i2
 rw [Kq] at l1 l2
 rw [Kk]
 lia
def Kd3 (kd:SortKind):Prop:=(∃c,kd=tuples' c)∨kd=general'∨kd=oneType'
def DS (T:String) (s:Shared) (p:Keyed):Prop:=∃a ks,p.1 = .ref a/\JP T s.heap a ks
def ltW (s:Shared) (p q:Keyed):Bool:=lexLt (ZdR s.heap p.1) (ZdR s.heap q.1)
theorem ZiG {kd:SortKind} (hkd:Kd3 kd) (hu:A.units<cLine):Cmp prog w A E s kd (DS "tuple" s) (ltW s) where
 wo:=⟨fun p=>Za4 _,fun p q h=>Zdv _ _ h,fun p q r h=>Ze6 _ _ _ h⟩
 cmp:=fun p q st Q ⟨a,ks,e1,h1⟩ ⟨b,js,e2,h2⟩ hk h=>by
  unfold ltW at h
  rw [e1,e2,h1.key,h2.key] at h
  rw [lt'_eq]
  refine Ka (X0 ?_)
  rw [hk,e1,e2]
  refine Ka (Mf (Ng ?_))
  rcases hkd with ⟨c,rfl⟩ | rfl | rfl
  ·exact ZmF h1 h2 ⟨rfl,Kl h⟩
  ·exact Zlu h1 h2 hu ⟨rfl,Kl h⟩
  ·exact Zma h1 h2 hu ⟨rfl,Kl h⟩
theorem Zdl {M:Model}:∀(vs:List Value) {Q:List (Option Value)->Shared->Prop},(∀v∈vs,∃a ks,v = .ref a/\Zcs s.heap a ks)->(∀fs:List (Option Value),(∀f∈fs,f=none ∨ ∃n t,f=some (.int n t))->Q fs s)->wpAny M A (vs.mapM firstOfTuple') Q E s
 | [],Q,_,h=>by rw [List.mapM_nil];exact ko (h [] fun f hf=>by cases hf)
 | v::vs,Q,hv,h=>by
  obtain ⟨a,ks,rfl,ws,dd,n,sl,e,i⟩:=hv v kK
  rw [List.mapM_cons]
  refine ka ?_
  rw [W.kas_first_eq]
  refine ka (qr (T := "tuple") ⟨_,e,rfl⟩ ?_)
  rw [kg (by first | decide | simp)]
  refine ka (listItems_at e rfl (ko ?_))
  refine ka (Zdl vs (fun v hv'=>hv v (kQ _ hv')) fun fs hfs=>ko (h _ fun f hf=>?_))
  rcases kL.mp hf with rfl | hf
  ·cases e0:ws[0]? with
   | none=>exact .inl rfl
   | some x=>
    obtain ⟨t,et⟩:=IntsAre.int_at i 0 x (by rw [qA];exact e0)
    exact .inr ⟨_,t,by rw [et]⟩
  ·exact hfs f hf
theorem ZgL {M:Model}{vs:List Value}{Q:SortKind->Shared->Prop} (hv:∀v∈vs,∃a ks,v = .ref a/\Zcs s.heap a ks) (h:∀kd,Kd3 kd->Q kd s):wpAny M A (keyKind' vs.toArray) Q E s:=by
 rw [kat_kind_eq,Xw,XE]
 refine ka (ka (Zdl vs hv fun fs hfs=>ko ?_))
 refine Tv (fun _=>?_) (fun _=>Tv (fun _=>ko (h _ (.inr (.inl rfl)))) fun _=>?_)
 ·refine ka (qV ?_)
  have hfm:(fs.toArray.filterMap id)=(fs.filterMap id).toArray:=by simp
  rw [hfm,oneTypeOnly'_eq,Xw,XE]
  refine ka (ka (ka (W.kas_mapM (r:=.type "int") _ (fun v hv' Q' hq=>?_) (ko ?_))))
  ·obtain ⟨f,hf,ef⟩:=K6.mp hv'
   rcases hfs f hf with rfl | ⟨n,t,rfl⟩
   ·cases ef
   ·cases ef
    exact qr (MA s n t) hq
  ·split
   ·exact ko (ko (h _ (.inl ⟨_,rfl⟩)))
   ·exact ko (ko (h _ (.inl ⟨_,rfl⟩)))
 ·rw [oneTypeOnly'_eq,Xw,XE]
  refine ka (ka (ka (W.kas_mapM (r:=.type "tuple") _ (fun v hv' Q' hq=>?_) (ko ?_))))
  ·obtain ⟨a,ks,rfl,ws,dd,n,sl,e,i⟩:=hv v hv'
   exact qr (T := "tuple") ⟨_,e,rfl⟩ hq
  ·split
   ·refine ko (ko (h _ ?_))
    split
    ·exact .inr (.inr rfl)
    ·exact .inr (.inl rfl)
   ·exact ko (ko (h _ (.inr (.inl rfl))))
def Zgp (h:Heap) (l:List Value):Prop:=l.Pairwise fun u v=>lexLt (ZdR h v) (ZdR h u)=false
theorem Zed {M:Model} {α β:Type}{c:Prop} [Decidable c] {m n:Sem α}{f:α -> Sem β}{Q:β -> Shared->Prop} (R:α -> Prop) (h1:c -> ∀Q':α -> Shared->Prop,(∀x,R x->Q' x s)->wpAny M A m Q' E s) (h2:¬c -> ∀Q':α -> Shared->Prop,(∀x,R x->Q' x s)->wpAny M A n Q' E s)
  (h:∀x,R x->wpAny M A (f x) Q E s):wpAny M A (if c then m >>= f else n >>= f) Q E s:=by
 split
 ·exact ka (h1 (by assumption) _ h)
 ·exact ka (h2 (by assumption) _ h)
end
def DAt (h:Heap) (d:Addr) (es:Array DictEntry) (ep:Nat):Prop:=∃o,h.get? d=some o/\o.ExactDict/\o.data = .dict es ep
section
variable {prog:Program}{w:World}{A:Around}{E:Value->Shared->Prop}{s:Shared}{d it:Addr}{es:Array DictEntry}{ep i:Nat}
theorem ZgV {α:Type}{Q:α -> Shared->Prop} (hh:A.handled=none) (h:∀h' a,(∀b o,s.heap.get? b=some o->h'.get? b=some o)->Shared.TypeIs { s with heap:=h' } (.ref a) "StopIteration" -> E (.ref a) { s with heap:=h' }):
  wpAny (model prog w) A ((newExc (.type "StopIteration") [] >>= raiseNew:Sem α)) Q E s:=by
 wp_walk using qe,wpAny_raiseNew_none hh
 ·exact h _ _ (fun b o e=>km _ (km _ e)) ⟨_,Ki _ rfl,rfl⟩
 all_goals size_fits
end
def Jn (H:Hp) (v:V) (ks:List Int):Prop:=∃a,v = .ref a/\H a=some (.tup (ks.map V.int))
abbrev Words (H:Hp) (xs:List V) (ws:List (List Int)):Prop:=Paired (Jn H) xs ws
theorem Paired.ZhL {α β:Type}{F:α -> β -> Prop}{l:List α}{m m':List β} (p:m.Perm m'):Paired F l m -> ∃l',l.Perm l'/\Paired F l' m':=by
 induction p generalizing l with
 | nil=>intro r;cases r;exact ⟨[],.nil,.nil⟩
 | cons x _ ih=>intro r;cases r with | cons h t=>obtain ⟨l',a,b⟩:=ih t;exact ⟨_::l',a.cons _,.cons h b⟩
 | swap x y t=>intro r;cases r with | cons h t=>cases t with | cons h2 t=>exact ⟨_,.swap _ _ _,.cons h2 (.cons h t)⟩
 | trans _ _ i1 i2=>intro r;obtain ⟨l1,a,b⟩:=i1 r;obtain ⟨l2,c,d⟩:=i2 b;exact ⟨l2,a.trans c,d⟩
theorem Paired.flip {α β:Type}{F:α -> β -> Prop}:∀{l:List α}{m:List β},Paired F l m->Paired (fun b a=>F a b) m l
 | _,_,.nil=>.nil
 | _,_,.cons h t=>.cons h (Paired.flip t)
theorem Paired.mem1 {α β:Type}{F:α -> β -> Prop}:∀{l:List α}{m:List β},Paired F l m -> ∀a∈l,∃b∈m,F a b
 | _,_,.nil,a,h=>by cases h
 | _,_,.cons r t,a,h=>by
  rcases kL.mp h with rfl | h
  ·exact ⟨_,kK,r⟩
  ·obtain ⟨b,hb,f⟩:=Paired.mem1 t a h
   exact ⟨b,kQ _ hb,f⟩
def ZdU (ws:List (List Int)):Prop:=ws.Pairwise fun u v=>lexLt v u=false
section
variable {X:Cx}{pins:List (Addr×Obj)} {σ:St}{H:Hp}{s:Shared}
theorem Zml {P:Program}{w:World}{h:Heap}{a:Addr}{ks:List Int} (ok:GB P w H h) (e:H a=some (.tup (ks.map V.int))):Zcs h a ks:=by
 obtain ⟨_,its,r,o,h1,h2,n,h3⟩:=(show Yc P w H h a (.tup (ks.map V.int)) from ok a _ e)
 obtain ⟨cls,dd,data,sl⟩:=o
 dsimp only at h2 h3
 subst h2 h3
 exact ⟨its.toArray,dd,n,sl,h1,by simpa using J0 r⟩
theorem Zgk {P:Program}{w:World}{h:Heap}{v:V}{u:Value}{ks:List Int} (ok:GB P w H h) (x:Jn H v ks) (r:RelV v u):∃a,u = .ref a/\H a=some (.tup (ks.map V.int))/\Zcs h a ks:=by
 obtain ⟨a,rfl,e⟩:=x
 exact ⟨a,r,e,Zml ok e⟩
theorem Zdr {T:String}{F:V->List Int->Prop}{h h1:Heap} (hF:∀{v u ks},F v ks->RelV v u -> ∃a,u = .ref a/\JP T h a ks) {xs:List V}{us out:List Value}{ws:List (List Int)} (r:Vals xs us) (x:Paired F xs ws) (hp:out.Perm us)
  (hk:∀a ks,JP T h a ks->JP T h1 a ks) (hr:Zgp h1 out):∃ys vs,Vals ys out/\Paired F ys vs/\ys.Perm xs/\vs.Perm ws/\ZdU vs:=by
 obtain ⟨ys,p1,r1⟩:=Paired.ZhL hp.symm r
 obtain ⟨vs,p2,r2⟩:=Paired.ZhL p1 (Paired.flip x)
 have x2:Paired F ys vs:=Paired.flip r2
 refine ⟨ys,vs,r1,x2,p1.symm,p2.symm,?_⟩
 have key:∀{ys:List V}{out:List Value}{vs:List (List Int)},Vals ys out->Paired F ys vs->out.map (ZdR h1)=vs:=by
  intro ys out vs a b
  induction a generalizing vs with
  | nil=>cases b;rfl
  | cons r _ ih=>
   cases b with
   | cons f t=>
    obtain ⟨q,e1,e3⟩:=hF f r
    rw [k7,ih t,e1,(hk _ _ e3).key]
 rw [<- key r1 x2]
 unfold ZdU
 rw [XX]
 exact hr
end
def kW (ks:List Int):List Key:=ks.map Sum.inl
theorem Zox (ks:List Int):(kW ks).map kV=ks.map V.int:=by unfold kW;rw [NO];rfl
theorem Zg0 {a b:List Int} (h:kW a=kW b):a=b:=(List.map_inj_right (fun x y h=>by injection h)).mp h
section
variable {X:Cx}
def Zkg:R2:=fun x y H Q=>∃a b:List Int,Jn H x a/\Jn H y b/\a.length+b.length<=sizeLine /\
 (a = []->Q y H)/\(b = []->Q x H)/\(∀p,H p=none->Q (.ref p) (upd H p (.tup ((a++b).map V.int))))
theorem ZcQ:UO X (binaryOp .Add) Zkg:=by
 intro pins s σ H x y v u Q I rx ry h
 obtain ⟨a,b,⟨p,rfl,hp⟩,⟨r,rfl,hr⟩,hz,q1,q2,q3⟩:=h
 cases rx
 cases ry
 obtain ⟨_,its,r1,p1⟩:=(show Yc X.prog X.w H s.heap p (.tup (a.map V.int)) from I.hok p _ hp)
 obtain ⟨_,its2,r2,p2⟩:=(show Yc X.prog X.w H s.heap r (.tup (b.map V.int)) from I.hok r _ hr)
 have l1:a.length=its.length:=by simpa using r1.length
 have l2:b.length=its2.length:=by simpa using r2.length
 by_cases e:its = []
 ·obtain ⟨⟨cls,dd,data,sl⟩,ho,hc,n,hd⟩:=id p1
  obtain ⟨⟨cls2,dd2,data2,sl2⟩,ho2,hc2,n2,hd2⟩:=id p2
  simp only at hc hd hc2 hd2
  subst hc hd hc2 hd2
  have ea:a = []:=by rw [e] at l1;exact qf.mp l1
  exact concat_meets ⟨_,ho,rfl⟩ ⟨_,ho2,rfl⟩ Nq Ms XT XN (XF _ _)
   (tuple_addW0 p r its.toArray its2.toArray n n2 dd dd2 sl sl2 (by simp [e])) ⟨ho,ho2,⟨.ref r,H,I,rfl,q1 ea⟩⟩
 ·refine HT.Zls p1 p2 e (fun z=>⟨.ref p,H,I,rfl,q2 (by rw [z] at l2;exact qf.mp l2)⟩) (fun z=>?_) (by rw [<- l1,<- l2];exact hz)
  refine ⟨.ref s.heap.objs.size,_,I.laid (t':=s.toks) (o:=.tup ((a++b).map V.int)) (fun b ob q=>km _ q) (ki _) ?_,rfl,q3 _ (I.hok.fresh (ki _))⟩
  exact ⟨by rw [ke,kj];exact hz,_,by rw [kP];exact r1.append r2,IsTup.new _ _⟩
end
end L2
namespace L2
open PySem PySem.Spec PyProof.Rows PyProof.V
section
variable {X:Cx}
theorem ZhZ {K:PySem.W.Frag}{l tg:Expr}{tl:TE} (hk:X.K=K) (hl:PE X l tl):PI X tg l (Zn6 K tl):=hk ▸ ZmR hl
end
section
variable {g:TG}{tc:TT}{te:TE} {σ:St}{H:Hp}{Q:VK}{K:PySem.W.Frag}{a b:Addr}{xs ys:List V}
theorem ZjN (hn:xs.length<=sizeLine) (Pv:Nat->List V->Hp->Prop) (h0:Pv 0 [] H) (hlen:∀i ys H,Pv i ys H->ys.length<=i) (hS:∀i ys H,Pv i ys H->YX K H a xs)
  (hs:∀i x ys H,xs[i]? = some x->Pv i ys H->g x σ H fun σ2 H2=>tc σ2 H2 fun b H3=>if b=true then te σ2 H3 fun y H4=>Pv (i+1) (ys ++ [y]) H4 else Pv (i+1) ys H3)
  (hd:∀ys H,Pv xs.length ys H -> ∀D,H D=none->Q (.ref D) (upd H D (.lst ys))):LcW (Itt K a) σ g tc te H Q:=
 Zfw hn Pv h0 hlen (fun i ys H hi p=>⟨xs,xs[i],hS i ys H p,by simp [hi]⟩) (fun ys H p=>⟨xs,hS _ ys H p,ki _⟩) (fun i ys H hi p x H' y=>by
  obtain ⟨e,y⟩:=y
  subst e
  exact hs i x ys _ (y xs (hS i ys _ p)) p) hd
end
abbrev WS:=List (List Int)
theorem Jn.mono {H H':Hp}{v:V}{w:List Int} (k:∀t p,H t=some (.tup p)->H' t=some (.tup p)) (x:Jn H v w):Jn H' v w:=let ⟨a,e,q⟩:=x;⟨a,e,k _ _ q⟩
theorem Words.mono {H H':Hp}{xs:List V}{L:WS} (k:∀t p,H t=some (.tup p)->H' t=some (.tup p)) (x:Words H xs L):Words H' xs L:=Paired.mapP x fun _ _ q=>Jn.mono k q
theorem Words.same {H H':Hp}{xs:List V}{L:WS} (s:Zi H H') (x:Words H xs L):Words H' xs L:=Words.mono (fun t p e=>s t _ e) x
theorem Jn.same {H H':Hp}{v:V}{w:List Int} (s:Zi H H') (x:Jn H v w):Jn H' v w:=Jn.mono (fun t p e=>s t _ e) x
section
variable {X:Cx}
theorem U2:YU X (.type "tuple") (fun xs H Q=>∃p ys,xs = [.ref p]/\H p=some (.lst ys) /\ ∀l,H l=none->Q (.ref l) (upd H l (.tup ys))):=by
 intro pins s σ H xs us Q I r ⟨p,ys,e,hp,q⟩
 exact ZdL pins s σ H xs us Q I r ⟨p,ys,e,.inl ⟨Zr.of hp,q⟩⟩
end
end L2
namespace L2
open PySem PySem.Spec PyProof.Rows PyProof.V
theorem Zk7:entryFor table "zip.__getattribute__" = some Builtin.«object.__getattribute__»:=entryFor_alias (id' := "object.__getattribute__") (by kernel_rfl) (by decide +kernel) (by decide +kernel) (by kernel_rfl)
theorem Zmk:typeLookup (.type "zip") "__getattr__" = pure none:=by rw [typeLookup_type,builtinLookup_eq_fast];kernel_rfl
theorem Zhs:typeLookup (.type "zip") "keys" = pure none:=by rw [typeLookup_type,builtinLookup_eq_fast];kernel_rfl
abbrev Zjl (f0 f1:Value) (TI TO:Addr):Obj:={ cls:=.type "zip", dict:=none,data:=.fields #[f0,f1,.bool false,.ref TI,.ref TO],slots:=#[] }
theorem Zl7 (a TI TO:Addr) (f0 f1:Value) (u:Tok):Meets (Builtin.«object.__getattribute__» ⟨[.ref a,.str "keys" u],[]⟩) (fun A R s=>s.heap.get? a=some (Zjl f0 f1 TI TO)/\raisesAttr (.ref a) "keys" A R s):=
 .of_wp fun prog w A R ⟨hp,g,d,tk,os⟩ ⟨hx,hn,hr⟩=>by
  have ty:Shared.TypeIs ⟨hp,g,d,tk,os⟩ (.ref a) "zip" := ⟨_,hx,rfl⟩
  have no:=Zhs
  wp_walk
  exact wpAny_raiseAttrError hn hr (attrMsg_fits (by decide +kernel) (by decide))
theorem ZlF {prog:Program}{w:World}{A:Around}{E:Value->Shared->Prop}{s:Shared}{a TI TO:Addr}{f0 f1:Value}{Q:Option Value->Shared->Prop} (hx:s.heap.get? a=some (Zjl f0 f1 TI TO)) (hA:A.handled=none)
  (h:∀h' tk,(∀b o,s.heap.get? b=some o->h'.get? b=some o)->Q none { s with heap:=h',toks:=tk }):wpAny (model prog w) A (getAttr? (.ref a) "keys") Q E s:=by
 obtain ⟨hp,g,d,tk,os⟩:=s
 have ty:∀t,Shared.TypeIs ⟨hp,g,d,t,os⟩ (.ref a) "zip" := fun _=>⟨_,hx,rfl⟩
 have kind:=sub_AttributeError
 have own:=Xe.lookup
 have bound:=Xe.bind (.ref a)
 have hook:=Zmk
 have said:∀{A':Around}{R:Result->Shared->Prop} (t:Nat) (u:Tok),A'.handled=none->(∀h' tk e,Heap.NewAttrErr hp h' e (.ref a) "keys" -> R (.error (.ref e)) ⟨h',g,d,tk,os⟩)->codeAny (model prog w) A' (.call (.builtin "zip.__getattribute__") ⟨[.ref a,.str "keys" u],[]⟩) R ⟨hp,g,d,t,os⟩:=
  fun {A' R} t u hA' k=>codeAny_call_builtin Xe.plain Zk7 (Xe.check _ _ _ _ _ _ _ _ (ty t) (F.args_zip_getattribute_2 _ _) (Zl7 a TI TO f0 f1 u _ _ A' R _ ⟨hx,hA',k⟩))
 unfold getAttr? getAttrBy? getAttrBy
 wp_walk
 refine said _ _ hA fun h' tk' e new=>?_
 obtain ⟨t',u',there⟩:=new.there
 unfold getattributeRaised
 wp_walk
 exact h _ _ new.1
section
variable {prog:Program}{w:World}{A:Around}{E:Value->Shared->Prop}{s:Shared}
theorem ZfE {a:Addr}{Q:Option Obj->Shared->Prop} (h:Q (s.heap.get? a) s):wpAny (model prog w) A (loadIfAlive a) Q E s:=fun Γ p _=>by
 unfold loadIfAlive
 rw [Sem.wp_loadIfAlive]
 exact h
abbrev Zdq (h:Heap) (z TI TO T:Addr) (b:Bool):Prop:=
 h.get? z=some { cls:=.type "zip", dict:=none,data:=.fields #[rawInt T,.bool b,.bool false,.ref TI,.ref TO],slots:=#[] }
theorem Zhg {z TI TO T:Addr}{bb:Bool}{oT:Obj}{Q:Bool->Shared->Prop} (hz:Zdq s.heap z TI TO T bb) (hT:s.heap.get? T=some oT)
  (h:∀h₁,Zdq h₁ z TI TO T true->Heap.SameBut z s.heap h₁->Q false { s with heap:=h₁ }):wpAny (model prog w) A (Builtin.SmallTypes.ownedTupleIsFree (.ref z)) Q E s:=by
 unfold Builtin.SmallTypes.ownedTupleIsFree
 wp_walk using ZfE,qd hz rfl rfl
 cases bb with
 | true=>exact ko (h s.heap hz ⟨rfl,fun _ _=>rfl⟩)
 | false=>exact ka (wpAny_setField_rec hz (by simp) fun h₁ a b=>ko (h h₁ a b))
theorem ZjX {z TI TO T i1 i2 l1 l2:Addr}{k:Nat}{bb:Bool}{oT:Obj}{xs ys:Array Value}{R:Fin->Shared->Prop} (D:ZipApart z TI TO i1 i2 l1 l2)
  (hz:Zdq s.heap z TI TO T bb) (hT:s.heap.get? T=some oT) (hTI:IsPair s.heap TI (.ref i1) (.ref i2))
  (h1:s.heap.IsListIter i1 l1 k) (h2:s.heap.IsListIter i2 l2 k) (hl1:s.heap.IsList l1 xs) (hl2:s.heap.IsList l2 ys)
  (more:∀x y h',xs[k]? = some x->ys[k]? = some y->Zdq h' z TI TO T true->h'.IsListIter i1 l1 (k+1)->h'.IsListIter i2 l2 (k+1)->IsPair h' s.heap.objs.size x y->h'.objs.size=s.heap.objs.size+1 ->
   (∀c o,c≠z->c≠i1->c≠i2->s.heap.get? c=some o->h'.get? c=some o)->R (.done (.ret (.ref s.heap.objs.size))) { s with heap:=h' })
  (over:xs[k]? = none->A.handled=none /\ ∀h' e,(∀c o,c≠z->c≠i1->s.heap.get? c=some o->h'.get? c=some o)->(∃o,h'.get? e=some o/\o.cls = .type "StopIteration")->E (.ref e) { s with heap:=h' })
  (even:∀x,xs[k]? = some x -> ∃y,ys[k]? = some y):
  wpAny (model prog w) A (Builtin.«zip.__next__» ⟨[.ref z],[]⟩) R E s:=by
 unfold Builtin.«zip.__next__»
 refine ka (show wpAny _ _ (pure (Value.ref z,[])) _ _ _ from ko ?_)
 dsimp only
 refine ka (qd hz rfl rfl (ka (qd hz rfl rfl (ka (XW hTI rfl ?_)))))
 refine ka (Zhg hz hT fun h₁ hz₁ hs₁=>?_)
 simp only [qt,Xp,List.forIn_toArray,NW,Ma]
 have b1:=h1.extBut hs₁.extBut D.i1z
 have b2:=hl1.extBut hs₁.extBut D.l1z
 refine ka (ka (ka (Kv ?_)))
 show wpAny _ _ (Builtin.SmallTypes.nextOf (.ref i1) >>= fun v=>pure (some v)) _ _ _
 cases hx:xs[k]? with
 | none=>
  obtain ⟨hh,fin⟩:=over hx
  exact ka (wpAny_nextOf_list_end hh b1 b2 hx fun h₂ e keep stop=>fin h₂ e (fun c o n1 n2 g=>keep c o n2 (hs₁.extBut c o n1 g)) stop)
 | some x=>
  obtain ⟨y,hy⟩:=even x hx
  refine ka (wpAny_nextOf_list_item b1 b2 hx fun h₂ c1 hs₂=>ko (ko ?_))
  refine ka (ka (Kv ?_))
  show wpAny _ _ (Builtin.SmallTypes.nextOf (.ref i2) >>= fun v=>pure (some v)) _ _ _
  refine ka (wpAny_nextOf_list_item ((h2.extBut hs₁.extBut D.i2z).extBut hs₂.extBut D.i12.symm) ((hl2.extBut hs₁.extBut D.l2z).extBut hs₂.extBut D.l2i1) hy fun h₃ c2 hs₃=>ko (ko (ko ?_)))
  show wpAny _ _ (newTuple [x,y] >>= ret) _ _ _
  have size:h₃.objs.size=s.heap.objs.size:=hs₃.1.trans (hs₂.1.trans hs₁.1)
  refine ka (TV (ko ?_))
  show R (.done (.ret (.ref h₃.objs.size))) _
  rw [size]
  have lay:∀c o,h₃.get? c=some o->(h₃.push { cls:=.type "tuple", data:=.seq #[x,y] }).get? c=some o:=fun c o=>km _
  refine more x y _ hx hy (lay _ _ (hs₃.extBut _ _ D.i2z.symm (hs₂.extBut _ _ D.i1z.symm hz₁))) ((c1.extBut hs₃.extBut D.i12).at fun o=>lay _ o) (c2.at fun o=>lay _ o) ?_ (by rw [Mb,size]) fun c o n1 n2 n3 g=>lay _ _ (hs₃.extBut _ _ n3 (hs₂.extBut _ _ n2 (hs₁.extBut _ _ n1 g)))
  rw [<- size]
  exact Ki _ rfl
theorem ZhW {z:Addr}{Q:Option Value->Shared->Prop} (ty:s.TypeIs (.ref z) "zip")
  (h:∀E',(∀e s',(∃o,s'.heap.get? e=some o/\o.cls = .type "StopIteration")->Q none s'->E' (.ref e) s') -> ∀A',A'.handled=A.handled->wpAny (model prog w) A' (Builtin.«zip.__next__» ⟨[.ref z],[]⟩) (fun fin s'=>∃v,fin = .done (.ret v)/\wpAny (model prog w) A (pure (some v)) Q E s') E' s):wpAny (model prog w) A (pyNext (.ref z)) Q E s:=by
 unfold pyNext
 refine ka (Ng (qG (name:=Str.ofString "__next__") ty F.slot_zip_next (qb F.slot_zip_next ty F.entry_zip_next (h _ (fun e s' ⟨o,g,c⟩ q=>?_) _ rfl) (F.args_zip_next_1 _))))
 exact ka (wpAny_isInstance (T := "StopIteration") (b:=true) ⟨o,g,c⟩ isSubtype_stop (ko q))
structure ZS (h:Heap) (z TI TO i1 i2 l1 l2:Addr) (k:Nat):Prop where
 zp:(IsZip h z TI TO .none /\ ∃a b,IsPair h TO a b) ∨ ∃T b o,Zdq h z TI TO T b/\h.get? T=some o/\o.cls = .type "tuple" /\ T≠z/\T≠TO/\T≠i1/\T≠i2
 ti:IsPair h TI (.ref i1) (.ref i2)
 j1:h.IsListIter i1 l1 k
 j2:h.IsListIter i2 l2 k
theorem ZS.keep {h h':Heap}{z TI TO i1 i2 l1 l2:Addr}{k:Nat} (x:ZS h z TI TO i1 i2 l1 l2 k) (kk:∀c o,h.get? c=some o->o.cls ≠ .type "dict" -> h'.get? c=some o):ZS h' z TI TO i1 i2 l1 l2 k:=by
 refine ⟨?_,kk _ _ x.ti (by show Value.type "tuple" ≠ _;decide),?_,?_⟩
 ·rcases x.zp with ⟨a,p,q,b⟩ | ⟨T,b,o,a,c,d,e⟩
  ·exact .inl ⟨kk _ _ a (by show Value.type "zip" ≠ _;decide),p,q,kk _ _ b (by show Value.type "tuple" ≠ _;decide)⟩
  ·exact .inr ⟨T,b,o,kk _ _ a (by show Value.type "zip" ≠ _;decide),kk _ _ c (by rw [d];decide),d,e⟩
 ·obtain ⟨o,ho,hc,r⟩:=x.j1
  exact ⟨o,kk _ _ ho (by rw [hc];decide),hc,r⟩
 ·obtain ⟨o,ho,hc,r⟩:=x.j2
  exact ⟨o,kk _ _ ho (by rw [hc];decide),hc,r⟩
theorem ZlE {z TI TO i1 i2 l1 l2:Addr}{k:Nat}{xs ys:Array Value}{x y:Value}{Q:Option Value->Shared->Prop} (D:ZipApart z TI TO i1 i2 l1 l2) (Z:ZS s.heap z TI TO i1 i2 l1 l2 k)
  (hl1:s.heap.IsList l1 xs) (hl2:s.heap.IsList l2 ys) (hx:xs[k]? = some x) (hy:ys[k]? = some y)
  (hQ:∀h',ZS h' z TI TO i1 i2 l1 l2 (k+1)->IsPair h' s.heap.objs.size x y->h'.objs.size=s.heap.objs.size+1->(∀c o,c≠z->c≠TO->c≠i1->c≠i2->s.heap.get? c=some o->h'.get? c=some o)->Q (some (.ref s.heap.objs.size)) { s with heap:=h' }):
  wpAny (model prog w) A (pyNext (.ref z)) Q E s:=by
 have lt:∀{c:Addr}{o:Obj},s.heap.get? c=some o->s.heap.objs.size≠c:=fun e=>Ko (Kb (k6 e))
 have n1:s.heap.objs.size≠i1:=by obtain ⟨o,ho,_⟩:=Z.j1;exact lt ho
 have n2:s.heap.objs.size≠i2:=by obtain ⟨o,ho,_⟩:=Z.j2;exact lt ho
 rcases Z.zp with ⟨hz,a,b,hTO⟩ | ⟨T,b,o,hz,hT,hc,t1,t2,t3,t4⟩
 ·exact wpAny_pyNext_zip_item D hz Z.ti hTO Z.j1 Z.j2 hl1 hl2 hx hy fun h' a1 a2 a3 a4 a5 a6 a7=>
   hQ h' ⟨.inr ⟨s.heap.objs.size,false,_,a1,a5,rfl,lt hz,lt hTO,n1,n2⟩,a7 _ _ D.TIz D.TITO D.TIi1 D.TIi2 Z.ti,a3,a4⟩ a5 a6 a7
 ·refine ZhW ⟨_,hz,rfl⟩ fun E' _ A' _=>ZjX D hz hT Z.ti Z.j1 Z.j2 hl1 hl2 (fun x' y' h' e1 e2 a1 a3 a4 a5 a6 a7=>⟨_,rfl,ko ?_⟩) (fun e=>by rw [hx] at e;cases e) (fun _ _=>⟨y,hy⟩)
  rw [hx] at e1
  rw [hy] at e2
  cases e1
  cases e2
  exact hQ h' ⟨.inr ⟨T,true,o,a1,a7 _ _ t1 t3 t4 hT,hc,t1,t2,t3,t4⟩,a7 _ _ D.TIz D.TIi1 D.TIi2 Z.ti,a3,a4⟩ a5 a6 fun c o c1 _ c3 c4 e=>a7 c o c1 c3 c4 e
theorem ZmO {z TI TO i1 i2 l1 l2:Addr}{k:Nat}{xs ys:Array Value}{Q:Option Value->Shared->Prop} (hh:A.handled=none) (D:ZipApart z TI TO i1 i2 l1 l2) (Z:ZS s.heap z TI TO i1 i2 l1 l2 k)
  (hl1:s.heap.IsList l1 xs) (hl2:s.heap.IsList l2 ys) (hx:xs[k]? = none)
  (hQ:∀h',(∀c o,c≠z->c≠TO->c≠i1->c≠i2->s.heap.get? c=some o->h'.get? c=some o)->Q none { s with heap:=h' }):
  wpAny (model prog w) A (pyNext (.ref z)) Q E s:=by
 rcases Z.zp with ⟨hz,a,b,hTO⟩ | ⟨T,b,o,hz,hT,hc,t1,t2,t3,t4⟩
 ·exact wpAny_pyNext_zip_end hh D hz Z.ti hTO Z.j1 Z.j2 hl1 hl2 (.inl hx) hQ
 ·exact ZhW ⟨_,hz,rfl⟩ fun E' out A' hA=>ZjX D hz hT Z.ti Z.j1 Z.j2 hl1 hl2 (fun x' y' h' e1=>by rw [hx] at e1;cases e1) (fun _=>⟨hA.trans hh,fun h' e keep stop=>out e _ stop (hQ h' fun c o c1 _ c3 _ g=>keep c o c1 c3 g)⟩) (fun x' e=>by rw [hx] at e;cases e)
end
theorem ZfU:entryFor table "dict.update.loop" = some Builtin.«dict.update.loop»:=entryFor_of_tree (by kernel_rfl)
theorem Zbl:plainId "dict.update.loop" = true:=by decide +kernel
def ZjD (kvs:List (Key×Value)) (ps:List (Key×Value)):List (Key×Value):=ps.foldl (fun a p=>stored a p.1 p.2) kvs
section
variable {prog:Program}{w:World}{A:Around}{R:Result->Shared->Prop}
theorem Zm1 {E:Value->Shared->Prop}{s:Shared}{d:Addr}{kvs:List (Key×Value)}{k:Int}{t:Tok}{v:Value}{Q:Unit->Shared->Prop} (hm:s.heap.DictOf (ZT prog w) d kvs) (hsz:kvs.length<=sizeLine)
  (hQ:∀h',h'.DictOf (ZT prog w) d (stored kvs (Sum.inl k) v)->Heap.SameBut d s.heap h'->Q () { s with heap:=h',toks:=s.toks+1 }):wpAny (model prog w) A (dictSet d (.int k t) v) Q E s:=by
 unfold dictSet
 try with_reducible refine Kv ?_
 refine ka (wpAny_pyHash_int ?_)
 exact wpAny_dictSetHashed_pairs (knd:=ZT prog w) (k:=Sum.inl k) (by show Value.isInt k (.int k t)=true;simp [Value.isInt]) (s:={ s with toks:=s.toks+1 }) hm hQ hsz
theorem ZlO {z TI TO i1 i2 l1 l2 d:Addr}{xs ys:Array Value}{ps:List (Key×Value)} (D:ZipApart z TI TO i1 i2 l1 l2) (hh:A.handled=none) (hn:xs.size=ys.size) (hz:xs.size<=100000)
  (hp:ps.length=xs.size) (hps:∀(i:Nat) (k:Key) (v:Value),ps[i]? = some (k,v) -> ∃(a:Int) (t:Tok),k=Sum.inl a/\xs[i]? = some (Value.int a t)/\ys[i]? = some v)
  (dz:d≠z/\d≠TO/\d≠i1/\d≠i2/\l1≠d/\l2≠d):
  ∀(m k:Nat) (s:Shared) (kvs:List (Key×Value)),m+k=xs.size->ZS s.heap z TI TO i1 i2 l1 l2 k->s.heap.IsList l1 xs->s.heap.IsList l2 ys->s.heap.DictOf (ZT prog w) d kvs->kvs.length<=k ->
   (∀h' tk,h'.DictOf (ZT prog w) d (ZjD kvs (ps.drop k))->(∀c o,c≠z->c≠TO->c≠i1->c≠i2->c≠d->s.heap.get? c=some o->h'.get? c=some o)->R (.ok (.ret .none)) { s with heap:=h',toks:=tk }) ->
   codeAny (model prog w) A (.builtin "dict.update.loop" ⟨[.ref d,.ref z,rawInt (k:Int),.none],[]⟩) R s:=by
 intro m
 induction m with
 | zero=>
  intro k s kvs hk Z hl1 hl2 hd hlen fin
  refine Tw ZfU ?_
  rw [XB Zbl _]
  show wpAny _ A.in1 (pyNext (.ref z) >>= _) _ _ s
  refine ka (ZmO (A:=A.in1) hh D Z hl1 hl2 (by rw [X8];lia) fun h' kk=>?_)
  refine ko ?_
  have e:ps.drop k = []:=K8 (by lia)
  rw [e] at fin
  refine fin h' s.toks ?_ fun c o c1 c2 c3 c4 _ x=>kk c o c1 c2 c3 c4 x
  obtain ⟨o,es,ep,ho,r⟩:=hd
  exact ⟨o,es,ep,kk _ _ dz.1 dz.2.1 dz.2.2.1 dz.2.2.2.1 ho,r⟩
 | succ m ih=>
  intro k s kvs hk Z hl1 hl2 hd hlen fin
  refine Tw ZfU ?_
  rw [XB Zbl _]
  show wpAny _ A.in1 (pyNext (.ref z) >>= _) _ _ s
  obtain ⟨⟨pk,pv⟩,hpk⟩:∃p,ps[k]? = some p:=⟨ps[k]'(by lia),by simp⟩
  obtain ⟨a,t,rfl,hx,hy⟩:=hps k pk pv hpk
  refine ka (ZlE (A:=A.in1) D Z hl1 hl2 hx hy fun h' Z' hpair hsz kk=>?_)
  refine ka (Kv ?_)
  refine ka (wpAny_tryCatch ?_)
  unfold Builtin.Dict.pairItems
  refine ka (qr (T := "tuple") ⟨_,hpair,rfl⟩ ?_)
  refine wpAny_ite ?_
  rw [kh (by decide)]
  refine ka (XW hpair rfl ?_)
  refine ko ?_
  show wpAny _ _ (holding [.int a t,pv] (dictSet d (.int a t) pv)) _ _ _
  have hd':h'.DictOf (ZT prog w) d kvs:=by
   obtain ⟨o,es,ep,ho,r⟩:=hd
   exact ⟨o,es,ep,kk _ _ dz.1 dz.2.1 dz.2.2.1 dz.2.2.2.1 ho,r⟩
  have lst:∀{h h2:Heap}{l:Addr}{zs:Array Value},h.IsList l zs->(∀o,h.get? l=some o->h2.get? l=some o)->h2.IsList l zs:=fun {h h2 l zs} q k=>by
   obtain ⟨o,ho,r⟩:=q
   exact ⟨o,k o ho,r⟩
  refine Kv (Zm1 (s:={ s with heap:=h' }) hd' (by rw [Kg];lia) fun h2 hd2 sb=>?_)
  refine ko ⟨Nh Zbl _,?_⟩
  have hk2:∀c o,c≠z->c≠TO->c≠i1->c≠i2->c≠d->s.heap.get? c=some o->h2.get? c=some o:=fun c o c1 c2 c3 c4 c5 e=>sb.extBut _ _ c5 (kk c o c1 c2 c3 c4 e)
  have e:((k:Int)+1)=((k+1:Nat):Int):=by lia
  rw [e]
  have e2:ps.drop k=(Sum.inl a,pv)::ps.drop (k+1):=by
   obtain ⟨h1,h3⟩:=kC.mp hpk
   rw [<- h3]
   exact KQ h1
  refine ih (k+1) { s with heap:=h2,toks:=s.toks+1 } _ (by lia) (Z'.keep fun c o e nd=>sb.extBut _ _ (fun q=>?_) e) (lst hl1 fun o e=>hk2 _ o D.l1z D.l1TO D.l1i1 D.l1i2 dz.2.2.2.2.1 e) (lst hl2 fun o e=>hk2 _ o D.l2z D.l2TO D.l2i1 D.l2i2 dz.2.2.2.2.2 e) hd2 ?_ fun h3 tk hd3 k3=>?_
  ·obtain ⟨o',es,ep,ho,hc,_⟩:=hd'
   rw [q,ho] at e
   cases e
   exact nd hc.1
  ·have:=stored_length_le kvs (Sum.inl a:Key) pv
   lia
  ·refine fin h3 tk ?_ fun c o c1 c2 c3 c4 c5 e=>k3 c o c1 c2 c3 c4 c5 (hk2 c o c1 c2 c3 c4 c5 e)
   rw [e2]
   exact hd3
theorem ZlN {z TI TO i1 i2 l1 l2:Addr}{E:Value->Shared->Prop}{s:Shared}{xs ys:Array Value}{ps:List (Key×Value)}{Q:Value->Shared->Prop} (D:ZipApart z TI TO i1 i2 l1 l2) (hh:A.handled=none) (hn:xs.size=ys.size) (hz:xs.size<=100000)
  (hp:ps.length=xs.size) (hps:∀(i:Nat) (k:Key) (v:Value),ps[i]? = some (k,v) -> ∃(a:Int) (t:Tok),k=Sum.inl a/\xs[i]? = some (Value.int a t)/\ys[i]? = some v)
  (hzp:IsZip s.heap z TI TO .none) (hTI:IsPair s.heap TI (.ref i1) (.ref i2)) (hTO:∃a b,IsPair s.heap TO a b) (h1:s.heap.IsListIter i1 l1 0) (h2:s.heap.IsListIter i2 l2 0) (hl1:s.heap.IsList l1 xs) (hl2:s.heap.IsList l2 ys)
  (h:∀h' tk,h'.DictOf (ZT prog w) s.heap.objs.size (ZjD [] ps)->(∀c o,c≠z->c≠TO->c≠i1->c≠i2->s.heap.get? c=some o->h'.get? c=some o)->Q (.ref s.heap.objs.size) { s with heap:=h',toks:=tk }):
  wpAny (model prog w) A (call (.type "dict") [.ref z]) Q E s:=by
 refine callType_codes (Q₁:=fun obj s₁=>obj = .ref s.heap.objs.size/\s₁ = { s with heap:=s.heap.push { cls:=.type "dict", data:=.dict #[] } }) F.kt_called_dict (F.kt_typeCall_dict_1 _) F.entry_dict_init (kt_code_dict_new _ ⟨rfl,rfl⟩) ?_
 rintro obj s₁ ⟨rfl,rfl⟩
 have hnew:(s.heap.push { cls:=.type "dict", data:=.dict #[] }).DictOf (ZT prog w) s.heap.objs.size []:=Heap.DictOf.new s.heap
 have up:∀c o,s.heap.get? c=some o->(s.heap.push { cls:=.type "dict", data:=.dict #[] }).get? c=some o:=fun c o e=>km _ e
 refine ⟨hnew.typeIs,F.args_dict_init_2 _ _,?_⟩
 unfold Builtin.«dict.__init__»
 refine ka ?_
 unfold Builtin.Dict.selfAndRest
 refine ka (wpAny_notOrdered_dict hnew.typeIs ?_)
 show wpAny _ _ (pure (s.heap.objs.size,[Value.ref z])) _ _ _
 refine ko ?_
 show wpAny _ _ (Builtin.Dict.updateFrom "dict.__init__" s.heap.objs.size (.ref z) [] .none) _ _ _
 unfold Builtin.Dict.updateFrom
 refine ka (qr (T := "zip") ⟨_,up _ _ hzp,rfl⟩ ?_)
 rw [kh (by decide)]
 refine ka (ZlF (up _ _ hzp) hh fun h' tk kk=>?_)
 rw [kh (by rfl)]
 refine ka (qV ?_)
 refine ka (Ny (kk _ _ (up _ _ hzp)) ?_)
 have U:∀c o,s.heap.get? c=some o->h'.get? c=some o:=fun c o e=>kk c o (up c o e)
 have lt:∀{c:Addr}{o:Obj},s.heap.get? c=some o->s.heap.objs.size≠c:=fun e=>Ko (Kb (k6 e))
 obtain ⟨ta,tb,hto⟩:=hTO
 have n1:s.heap.objs.size≠i1:=by obtain ⟨o,ho,_⟩:=h1;exact lt ho
 have n2:s.heap.objs.size≠i2:=by obtain ⟨o,ho,_⟩:=h2;exact lt ho
 have n3:l1≠s.heap.objs.size:=by obtain ⟨o,ho,_⟩:=hl1;exact (lt ho).symm
 have n4:l2≠s.heap.objs.size:=by obtain ⟨o,ho,_⟩:=hl2;exact (lt ho).symm
 have cp:∀{l:Addr}{zs:Array Value},s.heap.IsList l zs->h'.IsList l zs:=fun {l zs} q=>by obtain ⟨o,ho,r⟩:=q;exact ⟨o,U _ _ ho,r⟩
 have ci:∀{i l:Addr}{k:Nat},s.heap.IsListIter i l k->h'.IsListIter i l k:=fun {i l k} q=>by obtain ⟨o,ho,r⟩:=q;exact ⟨o,U _ _ ho,r⟩
 have hd':h'.DictOf (ZT prog w) s.heap.objs.size []:=by
  obtain ⟨o,es,ep,ho,r⟩:=hnew
  exact ⟨o,es,ep,kk _ _ ho,r⟩
 refine ko ⟨Nh Zbl _,?_⟩
 refine ZlO (A:=A.in1) D hh hn hz hp hps ⟨lt hzp,lt hto,n1,n2,n3,n4⟩ xs.size 0 _ [] rfl ⟨.inl ⟨U _ _ hzp,ta,tb,U _ _ hto⟩,U _ _ hTI,ci h1,ci h2⟩ (cp hl1) (cp hl2) hd' (ki _) fun h3 tk3 d3 k3=>?_
 exact ⟨rfl,h h3 tk3 d3 fun c o c1 c2 c3 c4 e=>k3 c o c1 c2 c3 c4 (lt e).symm (U c o e)⟩
end
def Zan (acc:List (Key×V)) (ps:List (Int×V)):List (Key×V):=ps.foldl (fun a p=>putK a (Sum.inl p.1) p.2) acc
def tDz (K:PySem.W.Frag) (ta:TA):TE:=fun σ H Q=>ta σ H fun vs H1=>∃(a b:Addr) (ns:List Int) (ys:List V),vs = [.ref a,.ref b]/\Zr K H1 a (ns.map V.int)/\Zr K H1 b ys/\ns.length=ys.length/\ns.length<=100000 /\ ∀D,H1 D=none->Q (.ref D) (upd H1 D (.dK (Zan [] (ns.zip ys))))
theorem Zif:∀{ns:List Int}{ys:List V}{us vs:List Value}{acc:List (Key×V)}{acc':List (Key×Value)},Vals (ns.map V.int) us->Vals ys vs->KV acc acc'->KV (Zan acc (ns.zip ys)) (ZjD acc' ((ns.map fun n=>(Sum.inl n:Key)).zip vs))
 | [],_,_,_,_,_,_,_,r=>r
 | n::ns,[],_,_,_,_,_,h,r=>by cases h;exact r
 | n::ns,y::ys,_,_,_,_,h1,h2,r=>by
  cases h1 with
  | cons a1 t1=>
   cases h2 with
   | cons a2 t2=>exact Zif (ns:=ns) (ys:=ys) t1 t2 (r.put (Sum.inl n) a2)
theorem Zeu:∀(ps:List (Int×V)) (acc:List (Key×V)),(Zan acc ps).length<=acc.length+ps.length
 | [],acc=>ki _
 | p::ps,acc=>by
  have h1:=Zeu ps (putK acc (Sum.inl p.1) p.2)
  have h2:=Wh acc (Sum.inl p.1:Key) p.2
  show (Zan (putK acc (Sum.inl p.1) p.2) ps).length<=_
  rw [KJ];lia
section
variable {X:Cx}
theorem ZeB:∀{xs:List V}{us:List Value}{i:Nat}{x:V},Vals xs us->xs[i]? = some x -> ∃u,us[i]? = some u/\RelV x u
 | _,_,_,_,.nil,h=>by simp at h
 | _,_,0,_,.cons r _,h=>by simp at h;subst h;exact ⟨_,rfl,r⟩
 | _,_,i+1,x,.cons _ t,h=>by
  obtain ⟨b,h1,h2⟩:=ZeB (i:=i) (x:=x) t (by simpa using h)
  exact ⟨b,by simpa using h1,h2⟩
theorem Zht {K:PySem.W.Frag}{a b:Expr}{ta:TA}{p p2 pos pos2:Pos} (hK:X.K=K) (hc:X.calm=true) (hgd:Gl X "dict") (hmd:X.mg "dict" = none) (hgz:Gl X "zip") (hmz:X.mg "zip" = none) (ha:PA X [a,b] ta)
  (hs:starEach [a,b] X.env = [(false,eval a X.env),(false,eval b X.env)]:=by rfl) (hs2:starEach [b] X.env = [(false,eval b X.env)]:=by rfl)
  (he:starEach [Expr.Call (.Name "zip" p2) [a,b] [] pos2] X.env=(false,eval (Expr.Call (.Name "zip" p2) [a,b] [] pos2) X.env)::starEach [] X.env:=by rfl) (hpl:(backTo pos (starEach [] X.env)).any (·.1)=false:=by rfl):
  PE X (.Call (.Name "dict" p) [.Call (.Name "zip" p2) [a,b] [] pos2] [] pos) (tDz K ta):=by
 subst hK
 intro pins s σ H Q I h
 refine XH (Up I hgd hmd boot_dict ?_ (by decide) (by decide))
 refine KS ?_ he hpl
 rw [he]
 show wpAny _ _ (spliced ((false,eval (Expr.Call (.Name "zip" p2) [a,b] [] pos2) X.env)::backTo pos (starEach [] X.env))) _ _ s
 refine Xl ?_
 refine Call_ (Up I hgz hmz boot_zip (KS (YG (ha pos2 pins s σ H _ I h) fun us s1 ⟨vs,H1,I1,r1,q1⟩=>?_) (by rw [hs,hs2]) (by rw [hs2];rfl)))
 obtain ⟨l1,l2,ns,ys,e,hq1,hq2,hl,hz,q⟩:=q1
 subst e
 obtain ⟨u,v,rfl,ru,rv⟩:=r1.two
 cases ru
 cases rv
 obtain ⟨its1,rv1,p1,hz1⟩:=I1.list hq1
 obtain ⟨its2,rv2,p2',hz2⟩:=I1.list hq2
 have L1:@LT.lt Nat _ l1 s1.heap.objs.size:=by obtain ⟨o,ho,_⟩:=p1.isList;exact aLt ho
 have L2:@LT.lt Nat _ l2 s1.heap.objs.size:=by obtain ⟨o,ho,_⟩:=p2'.isList;exact aLt ho
 refine call_zip_2 p1.isList p2'.isList fun h' g1 g2 g3 g4 g5 hsz kk=>?_
 have ap:ZipApart (s1.heap.objs.size+4) (s1.heap.objs.size+2) (s1.heap.objs.size+3) s1.heap.objs.size (s1.heap.objs.size+1) l1 l2:=by
  constructor<;>(intro e;have e':@Eq Nat _ _:=e;lia)
 refine XS ?_
 have le1:its1.length=ns.length:=by rw [<- rv1.length,ke]
 have le2:its2.length=ys.length:=rv2.length.symm
 have hb:@LT.lt Nat _ sysModules h'.objs.size:=by have:@LT.lt Nat _ sysModules s1.heap.objs.size:=I1.big;rw [hsz];lia
 have cp:∀{l:Addr}{zs:Array Value},s1.heap.IsList l zs->h'.IsList l zs:=fun {l zs} q=>by obtain ⟨o,ho,r⟩:=q;exact ⟨o,kk _ _ ho,r⟩
 refine ZlN (s:={ s1 with heap:=h' }) (ps:=(ns.map fun n=>(Sum.inl n:Key)).zip its2) ap (I1.ok.hd hc) (by simp;lia) (by simp;lia) (by simp;lia) (fun i k v hi=>?_) g1 g2 ⟨_,_,g3⟩ g4 g5 (cp p1.isList) (cp p2'.isList) fun h2 tk hd k2=>?_
 ·obtain ⟨e1,e2⟩:=List.getElem?_zip_eq_some.mp hi
  rw [kz] at e1
  obtain ⟨a,ha',rfl⟩:=Kf.mp e1
  obtain ⟨u,hu,t,rfl⟩:=ZeB rv1 (i:=i) (x:=.int a) (by rw [kz,ha'];rfl)
  exact ⟨a,t,rfl,by simpa using hu,by simpa using e2⟩
 ·have keep:∀c o,s1.heap.get? c=some o->h2.get? c=some o:=fun c o e=>by
   have lt:@LT.lt Nat _ c s1.heap.objs.size:=aLt e
   refine k2 c o ?_ ?_ ?_ ?_ (kk c o e)<;>(intro e;have e':@Eq Nat _ _:=e;lia)
  have le:@LE.le Nat _ s1.heap.objs.size h'.objs.size:=by rw [hsz];lia
  refine ⟨.ref h'.objs.size,_,I1.laid (a:=h'.objs.size) (o:=.dK (Zan [] (ns.zip ys))) (h':=h2) (t':=tk) keep le (Zg3 ?_ (qI.mpr (Ko (Kb hb))) (Zif rv1 rv2 .nil) hd),rfl,q _ (I1.hok.fresh le)⟩
  have:=Zeu (ns.zip ys) []
  rw [NZ,Xs] at this
  rw [Kg];lia
end
open AutoSeq1 (wpAny_loadPart') in
theorem ZcH (xs:List V) (k:Nat):WB xs none (some (k:Int))=xs.take k:=by
 unfold WB
 rw [HT.Zbz,HT.Zax,Mg,M7,List.take_eq_take_iff]
 lia
theorem ZcN (xs:List V) (k:Nat):WB xs (some (k:Int)) none=xs.drop k:=by
 unfold WB
 rw [HT.Zbz,HT.Zax]
 by_cases h:k<=xs.length
 ·rw [KR h,kJ (by rw [KD];lia)]
 ·rw [KL (by lia),K8 (ki _),K8 (by lia),Mu]
end L2
namespace L2
open PySem PySem.Spec PyProof.Rows HT
section
variable {prog:Program}{w:World}{A:Around}{E:Value->Shared->Prop}{s:Shared}
set_option maxHeartbeats 6400000 in
end
end L2
namespace L2
open PySem PyProof.Rows
open PySem PySem.Spec PyProof.Rows
end L2
namespace L2
open PySem PySem.Spec PyProof.Rows MeetsSeq3
section
variable {l b:Addr}{us vs:Array Value}{m n:Nat}{p q:Option Addr}{sl st:Array (Option Value)}{xs ys:List Int}
theorem ZkB (hx:IntsAre us.toList xs) (hy:IntsAre vs.toList ys):∀k i:Nat,i+k=min xs.length ys.length->Meets (Builtin.«list.__eq__.loop» ⟨[.ref l,.ref b,rawInt i,rawInt 0],[]⟩)
  (fun A R s=>(s.heap.get? l=some ⟨.type "list", p,.seq us m,sl⟩/\s.heap.get? b=some ⟨.type "list", q,.seq vs n,st⟩)/\R (.ok (.ret (.bool (lexLt (xs.drop i) (ys.drop i))))) s):=by
 have lu:us.size=xs.length:=Kq.symm.trans (XA hx)
 have lv:vs.size=ys.length:=Kq.symm.trans (XA hy)
 intro k
 induction k with
 | zero=>
  rintro i hi prog w A R ⟨hp,g,d,tk,os⟩ ⟨⟨hl,hb⟩,h⟩
  rw [Zi9 (by lia),show decide (xs.length-i<ys.length-i)=decide (us.size<vs.size) from Xd.mpr ⟨fun z=>by lia,fun z=>by lia⟩] at h
  wp_walk
  have no:us[((i:Nat):Int).toNat]? = none∨vs[((i:Nat):Int).toNat]? = none:=by simp;lia
  cases e1:us[((i:Nat):Int).toNat]? with
  | none=>
   wp_walk
   exact h
  | some _=>
   cases e2:vs[((i:Nat):Int).toNat]? with
   | none=>
    wp_walk
    exact h
   | some _=>
    rw [e1,e2] at no
    rcases no with no | no<;>cases no
 | succ k ih=>
  rintro i hi prog w A R ⟨hp,g,d,tk,os⟩ ⟨⟨hl,hb⟩,h⟩
  have i1:i<us.size:=by lia
  have i2:i<vs.size:=by lia
  obtain ⟨t1,e1⟩:=ints_get hx i (by simpa using i1) (by lia)
  obtain ⟨t2,e2⟩:=ints_get hy i (by simpa using i2) (by lia)
  have g1:us[((i:Nat):Int).toNat]? = some (.int (xs[i]'(by lia)) t1):=by rw [<- e1];simp [i1]
  have g2:vs[((i:Nat):Int).toNat]? = some (.int (ys[i]'(by lia)) t2):=by rw [<- e2];simp [i2]
  rw [ZjK (by lia) (by lia)] at h
  wp_walk
  rw [g1,g2]
  refine ka (Tf ?_)
  by_cases z:xs[i]'(by lia)=ys[i]'(by lia)
  ·rw [kh z] at h
   rw [NJ.mpr z]
   wp_walk
   refine ⟨Nh plain_eq_loop _,Tw entry_eq_loop ?_⟩
   rw [XB plain_eq_loop _]
   exact ih (i+1) (by lia) prog w A R _ ⟨⟨hl,hb⟩,h⟩
  ·rw [kg z] at h
   rw [qI.mpr z]
   wp_walk
   rw [g1,g2]
   refine ka (wpAny_lt_int ?_)
   wp_walk
   exact h
theorem ZeG (hx:IntsAre us.toList xs) (hy:IntsAre vs.toList ys):Meets (Builtin.«list.__lt__» ⟨[.ref l,.ref b],[]⟩)
  (fun A R s=>(s.heap.get? l=some ⟨.type "list", p,.seq us m,sl⟩/\s.heap.get? b=some ⟨.type "list", q,.seq vs n,st⟩)/\R (.ok (.ret (.bool (lexLt xs ys)))) s):=by
 rintro prog w A R ⟨hp,g,d,tk,os⟩ ⟨⟨hl,hb⟩,h⟩
 have su:=AutoSeq1.sub_list_list
 wp_walk
 refine ⟨Nh plain_eq_loop _,Tw entry_eq_loop ?_⟩
 rw [XB plain_eq_loop _]
 exact ZkB hx hy _ 0 (NQ _) prog w A R _ ⟨⟨hl,hb⟩,h⟩
end
section
variable {prog:Program}{w:World}{A:Around}{E:Value->Shared->Prop}{s:Shared}{a b:Addr}{xs ys:List Int}
theorem ZfZ {c:Bool}{Q:Bool->Shared->Prop} (ha:JP "list" s.heap a xs) (hb:JP "list" s.heap b ys) (hu:A.units<cLine) (h:Q (lexLt xs ys) s):wpAny (model prog w) A (oneLt' c (.ref a) (.ref b)) Q E s:=by
 obtain ⟨_,_,_,_,e,i⟩:=ha
 obtain ⟨_,_,_,_,e2,i2⟩:=hb
 rw [oneLt'_eq]
 cases c with
 | false=>exact ka (richCompare_meets_room (op:=.Lt) ⟨_,e,rfl⟩ ⟨_,e2,rfl⟩ Mh F.entry_list_lt (F.args_list_lt_2 _ _) (ZeG i i2) ⟨⟨e,e2⟩,⟨(fun x=>nomatch x),KC h⟩⟩ hu)
 | true=>exact ka (wpAny_cRoomFor hu (ka (Th (T := "list") ⟨_,e,rfl⟩ Mh (XI Mh ⟨_,e,rfl⟩ F.entry_list_lt (F.args_list_lt_2 _ _) (ZeG i i2) ⟨⟨e,e2⟩,ka (KC (ko h))⟩))))
def Kd2 (kd:SortKind):Prop:=kd=general'∨kd=oneType'
theorem Zd2 {kd:SortKind} (hkd:Kd2 kd) (hu:A.units<cLine):Cmp prog w A E s kd (DS "list" s) (ltW s) where
 wo:=⟨fun p=>Za4 _,fun p q h=>Zdv _ _ h,fun p q r h=>Ze6 _ _ _ h⟩
 cmp:=fun p q st Q ⟨a,ks,e1,h1⟩ ⟨b,js,e2,h2⟩ hk h=>by
  unfold ltW at h
  rw [e1,e2,h1.key,h2.key] at h
  rw [lt'_eq]
  refine Ka (X0 ?_)
  rw [hk,e1,e2]
  refine Ka (Mf (Ng ?_))
  rcases hkd with rfl | rfl
  ·exact ZfZ (c:=false) h1 h2 hu (by exact ⟨rfl,Kl h⟩)
  ·exact ZfZ (c:=true) h1 h2 hu (by exact ⟨rfl,Kl h⟩)
theorem Zch {M:Model}:∀(vs:List Value) {Q:List (Option Value)->Shared->Prop},(∀v∈vs,∃a ks,v = .ref a/\JP "list" s.heap a ks)->(∀fs:List (Option Value),(∀f∈fs,f=none)->fs.length=vs.length->Q fs s)->wpAny M A (vs.mapM firstOfTuple') Q E s
 | [],Q,_,h=>by rw [List.mapM_nil];exact ko (h [] (fun f hf=>by cases hf) rfl)
 | v::vs,Q,hv,h=>by
  obtain ⟨a,ks,rfl,ws,dd,n,sl,e,i⟩:=hv v kK
  rw [List.mapM_cons]
  refine ka ?_
  rw [W.kas_first_eq]
  refine ka (qr (T := "list") ⟨_,e,rfl⟩ ?_)
  rw [kh (by first | decide | simp)]
  refine ko ?_
  refine ka (Zch vs (fun v hv'=>hv v (kQ _ hv')) fun fs hfs hl=>ko (h _ (fun f hf=>?_) (by simp [hl])))
  rcases kL.mp hf with rfl | hf
  ·rfl
  ·exact hfs f hf
theorem Zc5 {M:Model}{vs:List Value}{Q:SortKind->Shared->Prop} (hne:vs ≠ []) (hv:∀v∈vs,∃a ks,v = .ref a/\JP "list" s.heap a ks) (h:∀kd,Kd2 kd->Q kd s):wpAny M A (keyKind' vs.toArray) Q E s:=by
 rw [kat_kind_eq,Xw,XE]
 refine ka (ka (Zch vs hv fun fs hfs hfl=>ko ?_))
 have n0:∃rest,fs=none::rest:=by
  cases fs with
  | nil=>exact absurd (To hfl.symm) hne
  | cons f r=>exact ⟨r,by rw [hfs f kK]⟩
 obtain ⟨rest,rfl⟩:=n0
 refine Tv (fun q=>?_) (fun _=>Tv (fun _=>ko (h _ (.inl rfl))) fun _=>?_)
 ·exfalso
  simp at q
 ·rw [oneTypeOnly'_eq,Xw,XE]
  refine ka (ka (ka (W.kas_mapM (r:=.type "list") _ (fun v hv' Q' hq=>?_) (ko ?_))))
  ·obtain ⟨a,ks,rfl,ws,dd,n,sl,e,i⟩:=hv v hv'
   exact qr (T := "list") ⟨_,e,rfl⟩ hq
  ·split
   ·refine ko (ko (h _ ?_))
    split
    ·exact .inr rfl
    ·exact .inl rfl
   ·exact ko (ko (h _ (.inl rfl)))
end
def Zoa (H:Hp) (v:V) (ks:List Int):Prop:=∃a,v = .ref a/\H a=some (.lst (ks.map V.int))
abbrev Zdg (H:Hp):List V->List (List Int)->Prop:=Paired (Zoa H)
theorem ZbI {H:Hp}{P:Program}{w:World}{h:Heap}{v:V}{u:Value}{ks:List Int} (ok:GB P w H h) (x:Zoa H v ks) (r:RelV v u):∃a,u = .ref a/\H a=some (.lst (ks.map V.int))/\JP "list" h a ks:=by
 obtain ⟨a,rfl,e⟩:=x
 obtain ⟨_,its,n,r',h1⟩:=(show Yc P w H h a (.lst (ks.map V.int)) from ok a _ e)
 exact ⟨a,r,e,its.toArray,_,n,_,h1,by simpa using J0 r'⟩
end L2
namespace HT
open PySem PySem.Spec PyProof.Rows
section
variable {prog:Program}{w:World}{A:Around}{E:Value->Shared->Prop}{s:Shared}
theorem ZaF {t sl:Addr}{items:Array Value}{vl vu:Value}{lo hi:Option Int}{Q:Value->Shared->Prop} (ht:IsTup s.heap t items) (hs:s.heap.IsSliceOf sl vl vu .none) (pl:IsPart vl lo) (pu:IsPart vu hi)
  (hw:Jq items.size 0 lo=0/\Jq items.size items.size hi=items.size) (h:Q (.ref t) s):wpAny (model prog w) A (getItem (.ref t) (.ref sl)) Q E s:=by
 obtain ⟨os,hos,hcs,hds⟩:=id hs
 have hTs:s.TypeIs (.ref sl) "slice" := ⟨os,hos,hcs⟩
 unfold getItem
 try with_reducible refine Kv ?_
 first | refine ka (ko ?_) | skip
 refine ka (T5 ht.typeIs (by decide) ?_)
 refine ka (qG (name:=Str.ofString "__getitem__") ht.typeIs KU
  (qb KU ht.typeIs entry_tuple_getitem ?_ (args_tuple_getitem _ _)))
 show wpAny _ _ (Builtin.Tuple.tupleItemsOf (.ref t) >>= _) _ _ s
 refine ka (tupleItemsOf_ ht ?_)
 refine ka (qr hTs ?_)
 rw [kh (by decide)]
 refine ka (GQ hs pl pu ?_)
 have hyes:((((Jq items.size 0 lo:Nat):Int)==0&&(1:Int)==1&&(Jq items.size items.size hi-Jq items.size 0 lo)==items.size)=true):=by
  rw [hw.1,hw.2];simp
 show wpAny _ _ (if (((Jq items.size 0 lo:Nat):Int)==0&&(1:Int)==1&&(Jq items.size items.size hi-Jq items.size 0 lo)==items.size)=true then _ else _) _ _ s
 rw [kh hyes]
 refine ka (m:=Builtin.Tuple.tupleIsExact _) (ka (qr ht.typeIs (ko ?_)))
 rw [kh (by decide)]
 exact ka (qV (ko ⟨_,rfl,ko h⟩))
end
end HT
namespace L2
open PySem PySem.Spec PyProof.Rows
def Zl0 (K:PySem.W.Frag):V->Option Int->Option Int->Hp->VK->Prop:=fun x lo hi H Q=>∃a xs,x = .ref a/\YX K H a xs/\(WB xs lo hi=xs->Q x H) /\ ∀p,H p=none->Q (.ref p) (upd H p (.tup (WB xs lo hi)))
theorem Zmc {X:Cx}:SlR X (Zl0 X.K):=by
 intro pins s σ H x v vl vu lo hi sl Q I rx hs pl pu h
 obtain ⟨a,xs,rfl,hx,h1,q⟩:=h
 by_cases hw:HT.Jq xs.length 0 lo=0/\HT.Jq xs.length xs.length hi=xs.length
 ·have e:WB xs lo hi=xs:=by unfold WB;rw [hw.1,hw.2,Mg,M7,qP]
  cases rx
  obtain ⟨its,r,ht,hz⟩:=I.tuple hx
  have hlen:its.toArray.size=xs.length:=by rw [kr];exact r.length.symm
  refine ⟨"tuple", _,KU.lookup,ht.typeIs,?_⟩
  exact HT.ZaF ht hs pl pu (by rw [hlen];exact hw) ⟨.ref a,H,I,rfl,h1 e⟩
 ·exact Zna pins s σ H _ v vl vu lo hi sl Q I rx hs pl pu ⟨a,xs,rfl,hx,hw,q⟩
theorem Zby {X:Cx}{K:PySem.W.Frag} (h:X.K=K):SlR X (Zl0 K):=h ▸ Zmc
theorem Zj6 {K:PySem.W.Frag}{G:Hp}{x:V}{w:List Int}{k:Nat}{Q:VK} (hx:Jn G x w) (q:∀v G',Zi G G'->Jn G' v (w.take k)->Q v G'):Zl0 K x none (some (k:Int)) G Q:=by
 obtain ⟨a,rfl,ha⟩:=hx
 refine ⟨a,_,rfl,YX.of ha,fun z=>q _ _ (Zi.refl _) ⟨a,rfl,?_⟩,fun p hp=>q _ _ (Zi.laid hp) ⟨p,rfl,?_⟩⟩
 ·rw [ha,<- z,ZcH,qX]
 ·rw [Zc,ZcH,qX]
theorem Zk8 {K:PySem.W.Frag}{G:Hp}{x:V}{w:List Int}{k:Nat}{i:Int}{Q:VK} (hi:i=(k:Int)) (hx:Jn G x w) (q:∀v G',Zi G G'->Jn G' v (w.drop k)->Q v G'):Zl0 K x (some i) none G Q:=by
 subst hi
 obtain ⟨a,rfl,ha⟩:=hx
 refine ⟨a,_,rfl,YX.of ha,fun z=>q _ _ (Zi.refl _) ⟨a,rfl,?_⟩,fun p hp=>q _ _ (Zi.laid hp) ⟨p,rfl,?_⟩⟩
 ·rw [ha,<- z,ZcN,qY]
 ·rw [Zc,ZcN,qY]
theorem ZbH {G:Hp}{x y:V}{a b:List Int}{Q:VK} (hx:Jn G x a) (hy:Jn G y b) (hz:a.length+b.length<=sizeLine) (k:∀v G',Zi G G'->Jn G' v (a++b)->Q v G'):Zkg x y G Q:=
 ⟨a,b,hx,hy,hz,fun e=>k y G (Zi.refl _) (by rw [e];exact hy),fun e=>k x G (Zi.refl _) (by rw [e,qh];exact hx),fun p fp=>k _ _ (Zi.laid fp) ⟨p,rfl,Zc⟩⟩
section
variable {prog:Program}{w:World}{A:Around}{E:Value->Shared->Prop}{s:Shared}{v d it:Addr}{es:Array DictEntry}{ep i:Nat}{ok ov:Value}
theorem Zk3 {Q:Value->Shared->Prop} (hv:s.heap.IsItemsView v d) (hm:DAt s.heap d es ep)
  (hQ:Q (.ref s.heap.objs.size) { s with heap:=s.heap.push { cls:=.type "dict_itemiterator", data:=.fields #[.none,.bool false,.ref d,.int 0 0,.int es.size 0,.int ep 0,.none,.none] } }):
  wpAny (model prog w) A (pyIter (.ref v)) Q E s:=by
 obtain ⟨o1,g1,g2,g3⟩:=id hv
 obtain ⟨o2,k1,k2,k3⟩:=hm
 refine wpAny_pyIter_slot hv.typeIs F.slot_dict_items_iter (qb F.slot_dict_items_iter hv.typeIs F.entry_dict_items_iter ?_ (F.args_dict_items_iter_1 _))
 unfold Builtin.«dict_items.__iter__» Builtin.Dict_items.dictOf Builtin.Dict_items.newIterator newFields
 wp_walk using qd g1 g3 (x:=.ref d) rfl,wpAny_dictEntries k1 k3,wpAny_dictEpoch k1 k3,qe
 ·exact ⟨_,rfl,_,_,⟨_,Ki _ rfl,rfl⟩,qF.lookup,hQ⟩
 ·simp [sizeOk,Builtin.Dict_items.ownsTuple,Builtin.Dict_items.ownedTupleFields,Kg]
theorem Zgo {Q:Option Value->Shared->Prop} (hit:IsItemIter s.heap it d i es.size ep ok ov) (hm:DAt s.heap d es ep)
  (hQ:∀e,es[i]? = some e -> ∀h',IsItemIterOut h' it d (i+1) es.size ep e.key e.val s.heap.objs.size->h'.get? s.heap.objs.size=some { cls:=.type "tuple", data:=.seq #[e.key,e.val] } ->
   (∀b o,b≠it->s.heap.get? b=some o->h'.get? b=some o)->Q (some (.ref s.heap.objs.size)) { s with heap:=h' })
  (hE:es.size<=i->A.handled=none /\ ∀h',(∀b o,b≠it->s.heap.get? b=some o->h'.get? b=some o)->Q none { s with heap:=h' }):wpAny (model prog w) A (pyNext (.ref it)) Q E s:=by
 obtain ⟨hp,g,dr,tk,os⟩:=s
 obtain ⟨o2,k1,k2,k3⟩:=hm
 have hT:Shared.TypeIs ⟨hp,g,dr,tk,os⟩ (.ref it) "dict_itemiterator" := ⟨_,hit,rfl⟩
 unfold pyNext
 refine ka (Ng (qG (name:=Str.ofString "__next__") hT qF (qb qF hT F.entry_dict_itemiterator_next ?_ (F.args_dict_itemiterator_next_1 _))))
 wp_walk using wpAny_dictEntries k1 k3,wpAny_dictEpoch k1 k3,Xf hT,wpAny_fieldsOf hit rfl,X9 hT
 rw [kg (by lia),kI]
 cases hx:es[i]? with
 | some e=>
  wp_walk using Xf hT,X9 hT,wpAny_setField_rec hit
  ·show 3<8
   decide
  intro h1 e1 s1
  have e1:IsItemIter h1 it d (i+1) es.size ep ok ov:=e1
  have hT1:Shared.TypeIs ⟨h1,g,dr,tk,os⟩ (.ref it) "dict_itemiterator" := ⟨_,e1,rfl⟩
  have e2:=km { cls:=.type "tuple", data:=.seq #[e.key,e.val] } e1
  wp_walk using X9 hT1,TV,qd e2 rfl (x:=.none) rfl
  ·have z:=s1.1
   have il:it≠hp.objs.size:=Kb (k6 hit)
   obtain ⟨up,eu⟩:∃up,up=fun (h:Heap) k x=>h.update it (Obj.mapFields fun y=>y.setIfInBounds k x):=⟨_,rfl⟩
   have uo:∀h k x b,b≠it->(up h k x).get? b=h.get? b:=fun h k x b n=>by rw [eu];exact qv _ _ (Ko n)
   have us:∀h k x vs,h.get? it=some { cls:=.type "dict_itemiterator", dict:=none,data:=.fields vs,slots:=#[] } -> (up h k x).get? it=some { cls:=.type "dict_itemiterator", dict:=none,data:=.fields (vs.setIfInBounds k x),slots:=#[] }:=fun h k x vs e=>by rw [eu];exact Tb _ e rfl
   refine ⟨_,rfl,ko ?_⟩
   show Q (some (.ref h1.objs.size)) ⟨_,g,dr,tk,os⟩
   rw [z]
   refine hQ e hx _ ?_ ?_ fun b o n q=>?_
   ·have:=us _ 1 (.bool false) _ (us _ 0 (rawInt h1.objs.size) _ (us _ 7 e.val _ (us _ 6 e.key _ e2)))
    rw [eu,z] at this
    exact this
   ·have:=(uo (up (up (up (h1.push { cls:=.type "tuple", data:=.seq #[e.key,e.val] }) 6 e.key) 7 e.val) 0 (rawInt h1.objs.size)) 1 (.bool false) _ il.symm).trans ((uo _ _ _ _ il.symm).trans ((uo _ _ _ _ il.symm).trans ((uo _ _ _ _ il.symm).trans (show (h1.push { cls:=.type "tuple", data:=.seq #[e.key,e.val] }).get? hp.objs.size=some { cls:=.type "tuple", data:=.seq #[e.key,e.val] } from z ▸ Ki _ rfl))))
    rw [eu,z] at this
    exact this
   ·have:=(uo (up (up (up (h1.push { cls:=.type "tuple", data:=.seq #[e.key,e.val] }) 6 e.key) 7 e.val) 0 (rawInt h1.objs.size)) 1 (.bool false) _ n).trans ((uo _ _ _ _ n).trans ((uo _ _ _ _ n).trans ((uo _ _ _ _ n).trans (km _ ((s1.2 b n).trans q)))))
    rw [eu,z] at this
    exact this
  ·size_fits
 | none=>
  obtain ⟨hh,hE⟩:=hE (by simpa using hx)
  wp_walk using Xf hT,wpAny_setField hit rfl
  ·show 2<8
   decide
  refine ZgV hh fun h' a k ty=>?_
  wp_walk using wpAny_isInstance (T := "StopIteration") (b:=true) ty isSubtype_stop
  exact hE h' fun b o hb e=>k b o ((qv _ _ (Ko hb)).trans e)
end
section
variable {X:Cx}{pins:List (Addr×Obj)} {σ:St}{H:Hp}{s:Shared}{d:Addr}{kvs:List (List Key×V)}{o:Obj}
theorem Inv.froze (I:Inv X pins σ H s) (e:H d=some (.dT kvs)) (eo:s.heap.get? d=some o):Inv X pins σ (upd H d (.frz o (.dT kvs))) s:=by
 have nd:∀b u,H b=some u->u ≠ .dT kvs->b≠d:=fun b u q n z=>n (by rw [z,e] at q;exact (kX q).symm)
 have hok:GB X.prog X.w (upd H d (.frz o (.dT kvs))) s.heap:=fun b u q=>by
  have st:∀{c:Addr}{v:HO},Yc X.prog X.w H s.heap c v->Yc X.prog X.w (upd H d (.frz o (.dT kvs))) s.heap c v:=fun x=>
   x.stay (fun _ _ _ q=>q) (fun c q=>by rw [Zh (nd c _ q (by intro z;cases z))];exact q) fun c xs q=>by rw [Zh (nd c _ q (by intro z;cases z))];exact q
  by_cases hb:b=d
  ·subst hb
   rw [Zc] at q
   cases q
   exact ⟨eo,st (I.hok b _ e)⟩
  ·rw [Zh hb] at q
   exact st (I.hok b u q)
 exact I.step (h':=s.heap) (g':=s.gens) (d':=s.drawn) (t':=s.toks) (ch:=[]) (fun _ z=>nomatch z) (fun b o _ _ _ q _=>q) (fun b o _ _ _ q _=>⟨o.slots,q⟩)
  (fun b o _ _ n=>by rw [Zh (fun z=>by rw [z,e] at n;cases n)];exact n) (fun b o _ q=>⟨o,q⟩) (fun b xs q=>by rw [Zh (nd b _ q (by intro z;cases z))];exact q) (fun b o u q=>by rw [Zh (nd b _ q (by intro z;cases z))];exact q)
  (fun b ps q=>⟨#[],by rw [Zh (nd b _ q (by intro z;cases z)),q];simp⟩) (fun m hm=>hm) hok I.bare
end
def Itm (d:Addr) (o:Obj):It:=
  ⟨fun i H=>∃kvs p,H d=some (.frz o (.dT kvs))/\kvs[i]? = some p,
   fun i H v H'=>∃(t b:Addr) (kvs:List (List Key×V)) (k:List Key) (x:V),v = .ref t/\H t=none/\H d=some (.frz o (.dT kvs))/\kvs[i]? = some (k,x)/\H b=some (.tup (k.map kV))/\H'=upd H t (.tup [.ref b,x]),
   fun i H=>∃kvs,H d=some (.frz o (.dT kvs))/\kvs.length<=i⟩
theorem Zkp {H:Hp}:∀{kvs:List (List Key×V)}{xs:List (List Key×Addr×Value)}{i:Nat}{p:List Key×V},KT H kvs xs->kvs[i]? = some p -> ∃q,xs[i]? = some q/\H q.2.1=some (.tup (p.1.map kV))/\RelV p.2 q.2.2
 | _,_,_,_,.nil,e=>by simp at e
 | _,_,0,_,.cons r _,e=>by simp at e;subst e;exact ⟨_,rfl,r.2⟩
 | _,_,i+1,_,.cons _ t,e=>by
  obtain ⟨q,h1,h2⟩:=Zkp (i:=i) t (by simpa using e)
  exact ⟨q,by simpa using h1,h2⟩
theorem Zkv {H:Hp}:∀{kvs:List (List Key×V)}{xs:List (List Key×Addr×Value)},KT H kvs xs->kvs.length=xs.length
 | _,_,.nil=>rfl
 | _,_,.cons _ t=>Ks (· + 1) (Zkv t)
theorem Zj7 {P:Program}{w:World}{K:PySem.W.Frag}{es:List Expr}{k:Nat}{pos:Pos} (d it:Addr) (o:Obj) (ents:Array DictEntry) (ep:Nat) (ho:o.data = .dict ents ep) (hne:d≠it):
  Turn P w K (.Tuple es k pos) (Itm d o) [it] it (fun i h=>∃ok ov,IsItemIter h it d i ents.size ep ok ov) where
 mem:=by simp
 obj:=fun i h st b hb=>by
  obtain ⟨ok,ov,he⟩:=st
  have z:b=it:=by simpa using hb
  subst z
  exact ⟨_,he,fun v z=>by
   have z':Data.fields _=Data.cell v:=z
   cases z'⟩
 keep:=fun i h h' st k=>by
  obtain ⟨ok,ov,he⟩:=st
  exact ⟨ok,ov,k it (by simp) _ he⟩
 item:=by
  intro X hP hw hK hc i pins s σ H E I hf st hg
  subst hP hw hK
  obtain ⟨kvs,⟨kk,x⟩,hd,hx⟩:=hg
  obtain ⟨hod,z,y,xs,r,o',es',ep',h1,h2,h3,h4,h5⟩:=(show Yc X.prog X.w H s.heap d (.frz o (.dT kvs)) from I.hok d _ hd)
  rw [hod] at h1
  cases h1
  rw [ho] at h3
  cases h3
  obtain ⟨ok,ov,he⟩:=st
  obtain ⟨e0,e1,e2,e3,e4,e5⟩:=hf it (by simp)
  obtain ⟨⟨k',b,v⟩,hq,hb,rv⟩:=Zkp r hx
  have hent:ents[i]? = some (entryOfKey (tupleKind (ZT X.prog X.w)) (k',b,v)):=by
   rw [<- qA,h4,kz,hq];rfl
  refine Zgo he ⟨o,hod,h2,ho⟩ (fun e hx' h' ho' ht kp=>?_) (fun z=>by rw [X8 z] at hent;cases hent)
  cases hent.symm.trans hx'
  refine ⟨_,rfl,?_⟩
  refine wpAny_letOwnedTupleGo_items (s:={ s with heap:=h' }) ho' fun h'' he'' hs''=>?_
  have Tn:@LT.lt Nat _ it s.heap.objs.size:=aLt he
  have kk2:∀b o,b≠it->s.heap.get? b=some o->h''.get? b=some o:=fun b o h1 q=>(hs''.2 b h1).trans (kp b o h1 q)
  have nne:∀b u,H b=some u->b≠it:=fun b u q z=>by rw [z,e0] at q;cases q
  have fr:H s.heap.objs.size=none:=I.hok.fresh (ki _)
  have hT:h''.get? s.heap.objs.size=some { cls:=.type "tuple", data:=.seq #[.ref b,v] }:=(hs''.2 _ (qS Tn)).trans ht
  have nT:∀b o,s.heap.get? b=some o->b≠s.heap.objs.size:=fun b o q=>Kb (aLt q)
  have ok':GB X.prog X.w (upd H s.heap.objs.size (.tup [.ref b,x])) h'':=fun c u q=>by
   by_cases hb':c=s.heap.objs.size
   ·subst hb'
    rw [Zc] at q
    cases q
    exact ⟨show 2<=sizeLine by decide,[.ref b,v],.cons rfl (.cons rv .nil),⟨_,hT,rfl,_,rfl⟩⟩
   ·rw [Zh hb'] at q
    refine (I.hok c u q).stay (fun c' v' hc' r'=>?_) (fun c' r'=>by rw [Zh (Zf r' fr)];exact r') fun c' xs' r'=>by rw [Zh (Zf r' fr)];exact r'
    rcases hc' with z | z
    ·subst z
     exact kk2 c' v' (nne c' u q) r'
    ·exact kk2 c' v' (nne c' _ z) r'
  have I1:Inv X pins σ (upd H s.heap.objs.size (.tup [.ref b,x])) { s with heap:=h'',gens:=s.gens,drawn:=s.drawn,toks:=s.toks }:=by
   refine I.step (ch:=[it]) (fun b hb=>?_) (fun b o _ _ hc q _=>kk2 b o (fun z=>hc (by simp [z])) q) (fun b o _ _ hc q _=>⟨o.slots,kk2 b o (fun z=>hc (by simp [z])) q⟩)
    (fun b o _ q n=>by rw [Zh (nT b o q)];exact n) (fun b o hc q=>⟨o,kk2 b o (fun z=>hc (by simp [z])) q⟩) (fun b xs q=>by rw [Zh (Zf q fr)];exact q) (fun b o u q=>by rw [Zh (Zf q fr)];exact q)
    (fun b ps q=>⟨#[],by rw [Zh (Zf q fr),q];simp⟩) (fun m hm=>?_) ok' I.bare
   ·have z':b=it:=by simpa using hb
    subst z';exact ⟨e3,e1,e4,e5⟩
   ·obtain ⟨o,es,ep,ho,r⟩:=hm
    exact ⟨o,es,ep,kk2 _ o (Ko e1) ho,r⟩
  refine ⟨.ref s.heap.objs.size,_,I1,rfl,⟨s.heap.objs.size,b,kvs,kk,x,rfl,fr,hd,hx,hb,rfl⟩,⟨_,_,he''⟩,fun c hc'=>?_⟩
  have z:c=it:=by simpa using hc'
  subst z
  rw [Zh (nT c _ he)]
  exact e0
 done:=by
  intro X hP hw hK hc i pins s σ H E I hf st hg
  subst hP hw hK
  obtain ⟨kvs,hd,hx⟩:=hg
  obtain ⟨hod,z,y,xs,r,o',es',ep',h1,h2,h3,h4,h5⟩:=(show Yc X.prog X.w H s.heap d (.frz o (.dT kvs)) from I.hok d _ hd)
  rw [hod] at h1
  cases h1
  rw [ho] at h3
  cases h3
  obtain ⟨ok,ov,he⟩:=st
  obtain ⟨f0,f1,f2,f3,f4,f5⟩:=hf it (by simp)
  have hl:=Zkv r
  have hes:ents.size=kvs.length:=by rw [<- Kq,h4,ke,hl]
  exact Zgo he ⟨o,hod,h2,ho⟩ (fun e z=>by rw [X8 (by lia)] at z;cases z) fun _=>⟨I.ok.hd hc,fun h' eb=>⟨rfl,I.turned (t':=s.toks) eb f0 f1 f3 f4 f5⟩⟩
 self:=fun _ _ _ _ _ st h=>by
  obtain ⟨ok,ov,he⟩:=st
  have hT:Shared.TypeIs _ (.ref it) "dict_itemiterator" := ⟨_,he,rfl⟩
  refine wpAny_pyIter_slot hT Tp (qb Tp hT (entryFor_alias (b:=Builtin.«dict_keyiterator.__iter__») (id' := "dict_keyiterator.__iter__") (by kernel_rfl) rfl (by decide +kernel) (by kernel_rfl)) ?_ (F.args_dict_itemiterator_iter_1 _))
  show wpAny _ _ (ret (.ref it)) _ _ _
  exact ko ⟨_,rfl, "dict_itemiterator", _,hT,qF.lookup,h⟩
section
variable {X:Cx}
def Zj8 (td:TE):TI:=fun σ H R=>td σ H fun x H1=>∃d kvs,x = .ref d/\H1 d=some (.dT kvs) /\ ∀o,R (Itm d o) (upd H1 d (.frz o (.dT kvs)))
theorem ZjV {o:Expr}{td:TE}{es:List Expr}{k:Nat}{apos cpos tpos:Pos} (ho:PE X o td)
  (hbase:attributeBase o "items" X.env (eval o X.env)=eval o X.env:=by rfl) (hline:(apos.endLine==cpos.line)=true:=by rfl):
  PI X (.Tuple es k tpos) (.Call (.Attribute o "items" apos) [] [] cpos) (Zj8 td):=by
 intro pins s σ H R I h
 refine wpAny_Call_method0_late hbase hline (YG (ho pins s σ H _ I h) fun v s1 ⟨x,H1,I1,r1,d,kvs,ex,hd,q1⟩=>?_)
 subst ex
 cases (show v=Value.ref d from r1)
 obtain ⟨z,y,xs,r,ob,ents,ep,h1,h2,h3,h4,h5⟩:=(show Yc X.prog X.w H1 s1.heap d (.dT kvs) from I1.hok d _ hd)
 have ty:s1.TypeIs (.ref d) "dict" := ⟨ob,h1,h2.1⟩
 refine ⟨"dict", "dict.items", XQ,PySem.F.slot_dict_items,PySem.F.type_dict_items,ty,fun b q=>?_,?_⟩
 ·cases q
  exact ⟨ob,h1,h2.2.1⟩
 refine Xm rfl (PySem.evalArgs_none ?_)
 refine qb F.slot_dict_items ty F.entry_dict_items ?_ (F.args_dict_items_1 _)
 unfold Builtin.«dict.items» Builtin.Dict.noArgs Builtin.Dict.showsAll
 wp_walk using wpAny_notOrdered_dict ty,qe,wpAny_ite_false y
 rotate_left
 ·size_fits
 refine ⟨_,rfl,?_⟩
 have I2:Inv X pins σ (upd H1 d (.frz ob (.dT kvs))) s1:=I1.froze hd h1
 have dl:d<s1.heap.objs.size:=k6 h1
 refine Zk3 (es:=ents) (ep:=ep) (d:=d) ⟨_,Ki _ rfl,rfl,rfl⟩ ⟨ob,km _ h1,h2,h3⟩ ?_
 obtain ⟨h8,eh8⟩:∃h8,h8=(s1.heap.push { cls:=.type "dict_items", data:=.fields #[.ref d] }).push { cls:=.type "dict_itemiterator", data:=.fields #[.none,.bool false,.ref d,.int 0 0,.int ents.size 0,.int ep 0,.none,.none] }:=⟨_,rfl⟩
 have I3:Inv X pins σ (upd H1 d (.frz ob (.dT kvs))) { s1 with heap:=h8 }:=I2.kept (t':=s1.toks) fun b o q=>by rw [eh8];exact km _ (km _ q)
 have sz:(s1.heap.push { cls:=.type "dict_items", data:=.fields #[.ref d] }).objs.size=s1.heap.objs.size+1:=Mb ..
 show PIE X pins σ _ R (.ref (s1.heap.push { cls:=.type "dict_items", data:=.fields #[.ref d] }).objs.size) { s1 with heap:=(s1.heap.push { cls:=.type "dict_items", data:=.fields #[.ref d] }).push { cls:=.type "dict_itemiterator", data:=.fields #[.none,.bool false,.ref d,.int 0 0,.int ents.size 0,.int ep 0,.none,.none] } }
 rw [<- eh8,sz]
 refine ⟨_,[s1.heap.objs.size+1],_,_,_,rfl,I3,Zj7 d _ ob ents ep h3 (Kb (T6 dl)),⟨.none,.none,?_⟩,fun b hb=>?_,q1 ob⟩
 ·show h8.get? _=_
  rw [eh8,<- sz]
  exact Ki _ rfl
 ·have z':b=s1.heap.objs.size+1:=by simpa using hb
  subst z'
  exact I2.fpOk (qz _) (I2.hok.fresh (qz _))
end
theorem ZiV {d:Addr}{o:Obj}{kvs:List (List Key×V)}{g:TG}{tb:TS}{D:Ends} {σ:St}{H:Hp} (Pv:Nat->St->Hp->Prop) (h0:Pv 0 σ H) (hl:∀i σ H,i<=kvs.length->Pv i σ H->H d=some (.frz o (.dT kvs)))
  (hs:∀i k x t b σ H,kvs[i]? = some (k,x)->Pv i σ H->H t=none->H b=some (.tup (k.map kV))->g (.ref t) σ (upd H t (.tup [.ref b,x])) fun σ2 H2=>tb { D with nx:=Pv (i+1),ct:=Pv (i+1),bk:=D.nx } σ2 H2) (hd:∀ σ H,Pv kvs.length σ H->D.nx σ H):
  ∃W:Nat->Nat->St->Hp->Prop,(∃m,W 0 m σ H) /\ ∀i m σ H,W i m σ H ->
   ((Itm d o).stop i H/\D.nx σ H)∨((Itm d o).go i H /\ ∃N:St->Hp->Prop,(∀ σ' H',N σ' H' -> ∃m',m'<m/\W (i+1) m' σ' H') /\ ∀x H',(Itm d o).yld i H x H'->g x σ H' fun σ2 H2=>tb { D with nx:=N,ct:=N,bk:=D.nx } σ2 H2):=by
 refine ⟨fun i m σ H=>m=kvs.length-i/\i<=kvs.length/\Pv i σ H,⟨kvs.length,by simp,Km _,h0⟩,?_⟩
 rintro i m σ H ⟨rfl,hi,p⟩
 have q:=hl i σ H hi p
 by_cases hlt:i<kvs.length
 ·refine .inr ⟨⟨kvs,kvs[i],q,by simp [hlt]⟩,Pv (i+1),fun σ' H' p'=>⟨kvs.length-(i+1),by lia,rfl,hlt,p'⟩,fun x H' y=>?_⟩
  obtain ⟨t,b,kvs',k,z,e1,e2,e3,e4,e5,e6⟩:=y
  rw [q] at e3
  injection e3 with e3
  injection e3 with _ e3
  injection e3 with e3
  subst e3 e1 e6
  exact hs i k z t b σ _ e4 p e2 e5
 ·have e:i=kvs.length:=by lia
  subst e
  exact .inl ⟨⟨kvs,q,ki _⟩,hd σ H p⟩
structure M1 (X:Cx) (o:Expr) (m:Str) (apos:Pos) (e:Expr) (cpos:Pos):Prop where
 base:attributeBase o m X.env (eval o X.env)=eval o X.env
 few:((backTo cpos (starEach [e] X.env)).all (fun x=>!x.1)&&(backToKw cpos (keywordEach [] X.env)).all (fun x=>x.1.isSome)
  && decide (([e]:List Expr).length+([]:List Keyword).length+(if ([]:List Keyword).isEmpty then 0 else 1)<30))=true
 line:(apos.endLine==cpos.line)=true
 trees:backTo cpos (starEach [e] X.env) = [(false,eval e X.env)]
structure M2 (X:Cx) (o:Expr) (m:Str) (apos:Pos) (e f:Expr) (cpos:Pos):Prop where
 base:attributeBase o m X.env (eval o X.env)=eval o X.env
 few:((backTo cpos (starEach [e,f] X.env)).all (fun x=>!x.1)&&(backToKw cpos (keywordEach [] X.env)).all (fun x=>x.1.isSome)
  && decide (([e,f]:List Expr).length+([]:List Keyword).length+(if ([]:List Keyword).isEmpty then 0 else 1)<30))=true
 line:(apos.endLine==cpos.line)=true
 trees:backTo cpos (starEach [e,f] X.env) = [(false,eval e X.env),(false,eval f X.env)]
def IsD (H:Hp) (a:Addr):Prop:=(∃kvs,Rd H a (.dK kvs)) ∨ ∃kvs,Rd H a (.dT kvs)
theorem ZkZ {X:Cx}{pins:List (Addr×Obj)} {σ:St}{H:Hp}{s:Shared}{a:Addr} (I:Inv X pins σ H s) (d:IsD H a):
  s.TypeIs (.ref a) "dict" /\ (∀b,Value.ref a = .ref b -> ∃ob,s.heap.get? b=some ob/\ob.dict=none)/\(a==sysModules)=false:=by
 rcases d with ⟨kvs,e⟩ | ⟨kvs,e⟩
 ·obtain ⟨_,hd,vs,_,dd⟩:=Zc4 I.hok e
  refine ⟨dd.typeIs,fun b q=>?_,hd⟩
  cases q
  obtain ⟨ob,_,_,h1,h2,_⟩:=dd
  exact ⟨ob,h1,h2.2.1⟩
 ·obtain ⟨_,hd,xs,_,dd⟩:=ZcZ I.hok e
  refine ⟨dd.typeIs,fun b q=>?_,hd⟩
  cases q
  obtain ⟨ob,_,_,h1,h2,_⟩:=dd
  exact ⟨ob,h1,h2.2.1⟩
section
variable {X:Cx}{pins:List (Addr×Obj)} {σ:St}{H:Hp}{s:Shared}{a:Addr}{y d:V}{u r:Value}{o:Option V}{A:Around}{E:Value->Shared->Prop}
theorem ZnL {Q:Value->Shared->Prop} (hu:A.units+1<cLine) (I:Inv X pins σ H s) (g:UN H a y o) (ry:RelV y u) (h:∀w' s',Inv X pins σ H s'->RelV (o.getD .non) w'->Q w' s'):
  wpAny (model X.prog X.w) A (call (.builtin "dict.get") [.ref a,u]) Q E s:=by
 rcases g with ⟨kvs,k,e,ey,l⟩ | ⟨kvs,k,b,e,ey,eb,l⟩
 ·subst ey
  obtain ⟨z,hd,vs,rel,dd⟩:=Zc4 I.hok e
  refine NS qB dd.typeIs Xo (Nz _ _) (meets_dict_get (ZT X.prog X.w) a (ZdE ry) hd) ⟨_,dd.mapOf,h _ _ (I.tok _) ?_⟩
  rw [l]
  exact (rel.val k).getD rfl
 ·subst ey
  cases (show u=Value.ref b from ry)
  obtain ⟨z,hd,xs,rel,dd⟩:=ZcZ I.hok e
  refine NS qB dd.typeIs Xo (Nz _ _) (meetsH_dict_get (tupleKind (ZT X.prog X.w)) a b hd) ⟨Xn hu,k,xs,Za1 I.hok eb,dd,h _ _ (I.tok _) ?_⟩
  rw [l]
  exact (rel.val k).getD rfl
theorem ZnG {Q:Value->Shared->Prop} (hu:A.units+1<cLine) (I:Inv X pins σ H s) (g:UN H a y o) (ry:RelV y u) (rd:RelV d r) (h:∀w' s',Inv X pins σ H s'->RelV (o.getD d) w'->Q w' s'):
  wpAny (model X.prog X.w) A (call (.builtin "dict.get") [.ref a,u,r]) Q E s:=by
 rcases g with ⟨kvs,k,e,ey,l⟩ | ⟨kvs,k,b,e,ey,eb,l⟩
 ·subst ey
  obtain ⟨z,hd,vs,rel,dd⟩:=Zc4 I.hok e
  refine NS qB dd.typeIs Xo (NA _ _ _) (meets_dict_get_default (ZT X.prog X.w) a (ZdE ry) hd r) ⟨_,dd.mapOf,h _ _ (I.tok _) ?_⟩
  rw [l]
  exact (rel.val k).getD rd
 ·subst ey
  cases (show u=Value.ref b from ry)
  obtain ⟨z,hd,xs,rel,dd⟩:=ZcZ I.hok e
  refine NS qB dd.typeIs Xo (NA _ _ _) (meetsH_dict_get_default (tupleKind (ZT X.prog X.w)) a b hd r) ⟨Xn hu,k,xs,Za1 I.hok eb,dd,h _ _ (I.tok _) ?_⟩
  rw [l]
  exact (rel.val k).getD rd
end
def ZkH (td ty:TE):TE:=fun σ H Q=>td σ H fun x H1=>∃a,x = .ref a/\IsD H1 a/\ty σ H1 fun y H2=>∃o,UN H2 a y o/\Q (o.getD .non) H2
def Zfe (td ty tx:TE):TE:=fun σ H Q=>td σ H fun x H1=>∃a,x = .ref a/\IsD H1 a/\ty σ H1 fun y H2=>tx σ H2 fun z H3=>∃o,UN H3 a y o/\Q (o.getD z) H3
section
variable {X:Cx}{o e f:Expr}{apos cpos:Pos}{td ty tx:TE}
theorem Zk4 (hu:X.A.units+1<cLine) (ho:PE X o td) (he:PE X e ty) (m:M1 X o "get" apos e cpos):PE X (.Call (.Attribute o "get" apos) [e] [] cpos) (ZkH td ty):=by
 intro pins s σ H Q I h
 refine wpAny_Call_method m.base m.few m.line XQ qB N5 (YG (ho pins s σ H _ I h) fun u s1 ⟨x,H1,I1,rx,a,ex,d,q1⟩=>?_)
 subst ex
 obtain rfl:u=Value.ref a:=rx
 obtain ⟨t1,t2,_⟩:=ZkZ I1 d
 refine ⟨t1,t2,?_⟩
 rw [m.trees]
 refine Xm rfl (Xy (Xl (YG (he pins s1 σ H1 _ I1 q1) fun iv s2 ⟨y,H2,I2,ry,ov,g,q2⟩=>XS ?_)))
 exact ZnL hu I2 g ry fun w' s3 I3 rw'=>⟨_,H2,I3,rw',q2⟩
theorem Zf4 (hu:X.A.units+1<cLine) (ho:PE X o td) (he:PE X e ty) (hf:PE X f tx) (m:M2 X o "get" apos e f cpos):PE X (.Call (.Attribute o "get" apos) [e,f] [] cpos) (Zfe td ty tx):=by
 intro pins s σ H Q I h
 refine wpAny_Call_method m.base m.few m.line XQ qB N5 (YG (ho pins s σ H _ I h) fun u s1 ⟨x,H1,I1,rx,a,ex,d,q1⟩=>?_)
 subst ex
 obtain rfl:u=Value.ref a:=rx
 obtain ⟨t1,t2,_⟩:=ZkZ I1 d
 refine ⟨t1,t2,?_⟩
 rw [m.trees]
 refine Xm rfl (Xy (Xl (YG (he pins s1 σ H1 _ I1 q1) fun iv s2 ⟨y,H2,I2,ry,q2⟩=>
  Xl (YG (hf pins s2 σ H2 _ I2 q2) fun fv s3 ⟨z,H3,I3,rz,ov,g,q3⟩=>XS ?_))))
 exact ZnG hu I3 g ry rz fun w' s4 I4 rw'=>⟨_,H3,I4,rw',q3⟩
end
def ZkC (tk tv:TE):TE:=fun σ H Q=>∀p,H p=none->tk σ (upd H p (.dT [])) fun x H1=>tv σ H1 fun y H2=>H2 p=some (.dT []) /\ ∃b ks,x = .ref b/\H2 b=some (.tup (ks.map kV))/\Q (.ref p) (upd H2 p (.dT [(ks,y)]))
theorem Zj1 {X:Cx}{pos:Pos}{k v:Expr}{tk tv:TE} (hu:X.A.units+1<cLine) (hk:PE X k tk) (hv:PE X v tv):PE X (.Dict [some k] [v] pos) (ZkC tk tv):=by
 intro pins s σ H Q I q
 have hn:=I.hok.fresh (ki s.heap.objs.size)
 have I1:=I.laid (a:=s.heap.objs.size) (o:=.dT []) (h':=s.heap.push { cls:=.type "dict", data:=.dict #[] }) (t':=s.toks) (fun _ _ q=>km _ q) (ki _) (ZfN s.heap I.big)
 rw [arm_eval_Dict,zip_pairTrees [some k] [v] X.env pos rfl rfl,dictDisplay_pairs _ (by intro z;cases z) (by show 1<17;decide)]
 refine ka (qU (ka ?_))
 unfold subDict
 refine ka (wpAny_alloc ?_)
 refine ka (Kv ?_)
 rw [kh (show (pairTrees [some k] [v] X.env pos).length<=15 from (by show 1<=15;decide))]
 refine ka (pairTrees_cons_walk (YG (hk pins _ σ _ _ I1 (q _ hn)) fun u s1 ⟨x,H1,I1',rx,q1⟩=>YG (hv pins s1 σ H1 _ I1' q1) fun w2 s2 ⟨y,H2,I2,ry,e,b,ks,ex,eb,q2⟩=>pairTrees_nil_walk ?_))
 subst ex
 cases (show u=Value.ref b from rx)
 obtain ⟨z,hd,xs,rel,dd⟩:=Zmx I2.hok e
 cases rel
 refine Kv ?_
 rw [NW]
 refine ka (ka (ka (wpAny_dictSet_heap (hsz:=by size_fits) (Nat.lt_of_succ_lt hu) (Za1 I2.hok eb) dd fun h' dd' hs=>ko ?_)))
 dsimp only
 rw [Ma]
 refine ko (ko (ko (ko ⟨.ref s.heap.objs.size,_,?_,rfl,q2⟩)))
 obtain ⟨q',es,ep,hq,h2,h3,h4,_,h5⟩:=dd'
 refine ZcJ I2 (by rw [e];exact True.intro) hs ⟨q',hq⟩ ⟨(by show 1<=sizeLine;decide),hd,[(ks,b,w2)],.cons ⟨rfl,?_,ry⟩ .nil,q',es,ep,hq,h2,h3,h4,h5⟩
 rw [Zh (Wr eb e (fun z=>nomatch z))]
 exact eb
section
variable {prog:Program}{w:World}{A:Around}{E:Value->Shared->Prop}{s:Shared}{kd:SortKind}{D:Keyed->Prop}{lt:Keyed->Keyed->Bool}{x y:Keyed}{st:SortSt}
theorem Znl (C:Cmp prog w A E s kd D lt) (ha:arrOf st = #[x,y]) (hx:D x) (hy:D y) (hk:kindOf st=kd) {Q:Option Bool->SortSt->Prop} (h:Q (some (lt y x)) st):wpS (model prog w) A E s (ltAt' 1 0) Q st:=by
 rw [ltAt'_eq]
 refine Ka (X0 ?_)
 show wpS _ _ _ _ (elem' (arrOf st) 1 >>= fun x=>elem' (arrOf st) 0 >>= fun y=>lt' x y) Q st
 rw [ha]
 exact Ka (Zih rfl (Ka (Zih rfl (C.cmp y x st Q hy hx hk h))))
theorem Zl3 (C:Cmp prog w A E s kd D lt) (ha:arrOf st = #[x,y]) (hx:D x) (hy:D y) (hk:kindOf st=kd) {Q:Option Nat->SortSt->Prop} (h1:lt y x=false->Q (some 2) st) (h2:lt y x=true->Q (some 2) (setArr st #[y,x])):
  wpS (model prog w) A E s (Zek 0 2) Q st:=by
 refine Ka (XG (qw (a:=1) (b:=2) (I:=fun i c st'=>st'=st/\c=(none,i)/\(i=2->lt y x=false)) (Q:=fun c st'=>st'=st /\ ∃i,c=(none,i)/\i=if lt y x=true then 1 else 2) ?_ ?_ ⟨rfl,rfl,fun z=>nomatch z⟩) ?_)
 ·rintro i c st' a1 a2 ⟨rfl,rfl,_⟩
  obtain rfl:i=1:=by lia
  refine Ka (Znl C ha hx hy hk ?_)
  cases e:lt y x with
  | true=>exact Kl ⟨rfl,1,rfl,rfl⟩
  | false=>exact Kl ⟨rfl,rfl,fun _=>rfl⟩
 ·rintro c st' ⟨rfl,rfl,e⟩
  exact ⟨rfl,2,rfl,by rw [e rfl];rfl⟩
 ·rintro c st' ⟨rfl,i,rfl,rfl⟩
  cases e:lt y x with
  | false=>exact Kl (h1 e)
  | true=>
   refine Ka (Mf (qV ⟨rfl,?_⟩))
   refine Ka (XG (qw (a:=2) (b:=2) (I:=fun i c st2=>st2=st'/\c=(none,2,0)) (Q:=fun c st2=>st2=st'/\c=(none,2,0)) (fun i c st2 a b _=>by lia) (fun c st2 z=>z) ⟨rfl,rfl⟩) ?_)
   rintro c st2 ⟨rfl,rfl⟩
   refine Ka (GF (i:=0) (j:=2) ?_)
   have em:mirror (arrOf st2) 0 2 ((2-0) / 2) = #[y,x]:=by rw [ha];rfl
   rw [em]
   refine Ka (XG (qw (a:=2) (b:=2) (I:=fun i c st3=>st3=setArr st2 #[y,x]/\c=(none,2)) (Q:=fun c st3=>st3=setArr st2 #[y,x]/\c=(none,2)) (fun i c st3 a b _=>by lia) (fun c st3 z=>z) ⟨rfl,rfl⟩) ?_)
   rintro c st3 ⟨rfl,rfl⟩
   exact Kl (h2 e)
theorem Zjo (C:Cmp prog w A E s kd D lt) (ha:arrOf st = #[x,y]) (hx:D x) (hy:D y) (hk:kindOf st=kd) (hf:failedOf st=none) (hp:pendingOf st = #[]) {Q:Unit->SortSt->Prop}
  (h1:∀st',lt y x=false->arrOf st' = #[x,y]->failedOf st'=none->Q () st') (h2:∀st',lt y x=true->arrOf st' = #[y,x]->failedOf st'=none->Q () st'):wpS (model prog w) A E s GY Q st:=by
 refine Ka (X0 ?_)
 have hs:(arrOf st).size=2:=by rw [ha];rfl
 refine Ka (XG (qw (a:=0) (b:=(arrOf st).size) (I:=fun i c st'=>(i=0/\c=(none,0)/\st'=st)∨(c=(none,2)/\failedOf st'=none/\(pendingOf st').size=1/\((lt y x=false/\arrOf st' = #[x,y])∨(lt y x=true/\arrOf st' = #[y,x]))))
  (Q:=fun c st'=>c=(none,2)/\failedOf st'=none/\(pendingOf st').size=1/\((lt y x=false/\arrOf st' = #[x,y])∨(lt y x=true/\arrOf st' = #[y,x]))) ?_ ?_ (.inl ⟨rfl,rfl,rfl⟩)) ?_)
 ·rintro i c st' _ hi (⟨rfl,rfl,rfl⟩ | ⟨rfl,z⟩)
  ·show wpS _ _ _ _ (if 0>=(arrOf st').size then _ else _) _ _
   rw [kg (by lia)]
   rw [hs]
   refine Ka (Zl3 C ha hx hy hk (fun e=>?_) (fun e=>?_))
   ·show wpS _ _ _ _ (if 2<2 then _ else _) _ _
    refine ZgD (fun c=>absurd c (by lia)) (fun _=>?_)
    refine Ka (X0 ?_)
    have hb:(pendingOf st').back? = none:=by rw [hp];rfl
    generalize hbk:(pendingOf st').back? = bk at hb
    subst hb
    exact Ka (TR (Kl (.inr ⟨rfl,hf,by show ((pendingOf st').push _).size=1;rw [hp];rfl,.inl ⟨e,ha⟩⟩)))
   ·show wpS _ _ _ _ (if 2<2 then _ else _) _ _
    refine ZgD (fun c=>absurd c (by lia)) (fun _=>?_)
    refine Ka (X0 ?_)
    have hb:(pendingOf st').back? = none:=by rw [hp];rfl
    show wpS _ _ _ _ _ _ (setArr st' #[y,x])
    generalize hbk:(pendingOf (setArr st' #[y,x])).back? = bk
    rw [show (pendingOf (setArr st' #[y,x])).back? = (pendingOf st').back? from rfl,hb] at hbk
    subst hbk
    exact Ka (TR (Kl (.inr ⟨rfl,hf,by show ((pendingOf st').push _).size=1;rw [hp];rfl,.inr ⟨e,rfl⟩⟩)))
  ·show wpS _ _ _ _ (if 2>=(arrOf st).size then _ else _) _ _
   rw [kh (by lia)]
   exact Kl ⟨rfl,z⟩
 ·rintro c st' (⟨z,_⟩ | z)
  ·rw [hs] at z;cases z
  ·exact z
 ·rintro c st' ⟨rfl,z1,z2,z3⟩
  refine Ka (XG (qw (a:=0) (b:=(arrOf st).size) (I:=fun i c st2=>c=(none,())/\st2=st') (Q:=fun c st2=>c=(none,())/\st2=st') ?_ (fun c st2 z=>z) ⟨rfl,rfl⟩) ?_)
  ·rintro i c st2 _ _ ⟨rfl,rfl⟩
   refine Ka (X0 ?_)
   show wpS _ _ _ _ (if (pendingOf st2).size<=1 then _ else _) _ _
   rw [kh (by lia)]
   exact Kl ⟨rfl,rfl⟩
  ·rintro c st2 ⟨rfl,rfl⟩
   refine Kl ?_
   rcases z3 with ⟨e,a⟩ | ⟨e,a⟩
   ·exact h1 _ e a z1
   ·exact h2 _ e a z1
theorem Zjc {vs:List Value}{Dk:Keyed->Prop} (C:Cmp prog w A E s kd Dk lt) (h2:vs.length=2) (hd:∀p∈(pairsOf vs).toList,Dk p):
  wpS (model prog w) A E s GY (fun _ st'=>(arrOf st').toList.Perm (pairsOf vs).toList/\Srt lt (arrOf st').toList/\failedOf st'=none) (SortSt.mk' kd (vs.toArray.zip vs.toArray) #[] 7 none):=by
 obtain ⟨u,v,rfl⟩:∃u v,vs = [u,v]:=by
  cases vs with
  | nil=>cases h2
  | cons u r=>
   cases r with
   | nil=>cases h2
   | cons v r=>
    cases r with
    | nil=>exact ⟨u,v,rfl⟩
    | cons _ _=>cases h2
 have ep:(pairsOf [u,v]).toList = [(u,u),(v,v)]:=by rw [Xg];rfl
 rw [ep] at hd ⊢
 refine Zjo C (x:=(u,u)) (y:=(v,v)) (Array.toList_inj.mp ep) (hd _ (by simp)) (hd _ (by simp)) rfl rfl rfl (fun st' e a f=>⟨?_,?_,f⟩) (fun st' e a f=>⟨?_,?_,f⟩)
 ·rw [a]
 ·rw [a];exact List.Pairwise.cons (fun q hq=>by rw [kZ.mp hq];exact e) (Xh _ _)
 ·rw [a];exact List.Perm.swap _ _ _
 ·rw [a];exact List.Pairwise.cons (fun q hq=>by rw [kZ.mp hq];exact C.wo.asym _ _ e) (Xh _ _)
theorem Zg1 {T:String} (kp:SortKind->Prop) {D:Addr}{vs:List Value}{n:Nat}{P:PySem.Fin->Shared->Prop} (sr:∀(s':Shared) (kd:SortKind),kp kd->(∀p∈(pairsOf vs).toList,DS T s' p) -> ¬vs.toArray.size<2->wpS (model prog w) A E s' GY (fun _ st'=>(arrOf st').toList.Perm (pairsOf vs).toList/\Srt (ltW s') (arrOf st').toList/\failedOf st'=none) (SortSt.mk' kd (vs.toArray.zip vs.toArray) #[] 7 none))
  (kn:∀(s':Shared) (Q:SortKind->Shared->Prop),vs ≠ []->(∀v∈vs,∃a ks,v = .ref a/\JP T s'.heap a ks)->(∀kd,kp kd->Q kd s')->wpAny (model prog w) A (keyKind' vs.toArray) Q E s')
  (ho:s.heap.get? D=some (seqObj "list" vs.toArray n)) (hv:∀v∈vs,∃a ks,v = .ref a/\a≠D/\JP T s.heap a ks) (hz:vs.length<=sizeLine)
  (h:∀out:Array Value,out.toList.Perm vs->Zgp s.heap out.toList->P (.done (.ret .none)) { s with heap:=sortedHeap s.heap D vs out }):
  wpAny (model prog w) A (Builtin.«list.sort» ⟨[.ref D],[]⟩) P E s:=by
 rw [list_sort_plain]
 obtain ⟨ep,he⟩:∃ep,(s.heap.update D (Obj.mapSeq fun _=>#[])).get? D=some (seqObj "list" #[] ep):=⟨_,get?_update_seq ho fun _=>#[]⟩
 refine ka (listItems_at ho rfl (ka (Ni ho rfl (ka (seqEpoch_at he rfl (ka (TV (ka (Nj (Kv ?_))) (by simpa using hz))))) (by simpa using hz))))
 obtain ⟨u,eu⟩:∃u:Shared,u = { s with heap:=((s.heap.update D (Obj.mapSeq fun _=>#[])).push (seqObj "tuple" vs.toArray 0)).push (seqObj "list" #[] 0) }:=⟨_,rfl⟩
 have keep:∀b o,b≠D->s.heap.get? b=some o->u.heap.get? b=some o:=fun b o hb e=>by
  rw [eu]
  exact km _ (km _ ((qv _ _ (Ko hb)).trans e))
 have hD:u.heap.get? D=some (seqObj "list" #[] ep):=by rw [eu];exact km _ (km _ he)
 have hu4:∀v∈vs,(∃a ks,v = .ref a/\JP T u.heap a ks)/\ZdR u.heap v=ZdR s.heap v:=fun v hv'=>by
  obtain ⟨a,ks,rfl,ne,t⟩:=hv v hv'
  have t':=t.kept fun o q=>keep a o ne q
  exact ⟨⟨a,ks,rfl,t'⟩,by rw [t.key,t'.key]⟩
 show wpAny (model prog w) A _ P E { s with heap:=((s.heap.update D (Obj.mapSeq fun _=>#[])).push (seqObj "tuple" vs.toArray 0)).push (seqObj "list" #[] 0) }
 rw [<- eu]
 dsimp only
 refine Zed (fun kd=>vs.toArray.size<2∨kp kd) (fun h2 Q' q=>ko (q _ (.inl h2))) (fun h2 Q' q=>kn u Q' (fun z=>h2 (by rw [z];decide)) (fun v hv'=>(hu4 v hv').1) fun kd hk=>q kd (.inr hk)) fun kd hk=>?_
 refine ka (KH (Q:=fun r s''=>s''=u/\(arrOf r.2).toList.Perm (pairsOf vs).toList/\Srt (ltW u) (arrOf r.2).toList/\failedOf r.2=none) ?_ (fun r s'' hr=>?_) fun _ _ e=>e)
 ·by_cases h2:vs.toArray.size<2
  ·rw [kh h2,StateT.run_pure]
   refine ko ⟨rfl,XY _,?_,rfl⟩
   have lp:(pairsOf vs).toList.length<2:=by rw [Kq,TC];simpa using h2
   show Srt _ (pairsOf vs).toList
   generalize (pairsOf vs).toList=L at lp ⊢
   cases L with
   | nil=>exact .nil
   | cons x t=>
    cases t with
    | nil=>exact Xh _ _
    | cons y t=>exact absurd lp (by simp)
  ·rw [kg h2]
   refine KH (sr u kd (hk.resolve_left h2) (fun p hp=>?_) h2) (fun r s'' x=>x) fun _ _ e=>e
   have hp':p∈(pairsOf vs).toList:=hp
   rw [Xg] at hp'
   exact (hu4 _ (NT hp').2).1
 obtain ⟨rfl,hp,hs,hf⟩:=hr
 refine ka (seqEpoch_at hD rfl (ka (Ni hD rfl ?_ (hsz2:=by
  have:=hp.length_eq
  rw [Kq,Kq,TC] at this
  rw [Array.size_map,this];lia))))
 have same:∀p∈(arrOf r.2).toList,p.1=p.2/\p.1∈vs:=fun p hp'=>by
  have:=hp.mem_iff.mp hp'
  rw [Xg] at this
  exact NT this
 have:=h ((arrOf r.2).map (·.2)) (by
  rw [Ti]
  refine (hp.map _).trans ?_
  rw [Xg,List.map_snd_zip (ki _)]) (by
  rw [Ti]
  refine XX.mpr (Nk (fun {p q} hp' hq' x=>?_) hs)
  rw [<- (same p hp').1,<- (same q hq').1,<- (hu4 _ (same p hp').2).2,<- (hu4 _ (same q hq').2).2]
  exact x)
 unfold sortedHeap at this
 subst eu
 rw [hf,kg (by simp)]
 exact ko this
theorem ZfC {T:String} (kp:SortKind->Prop) {l:Addr}{vs:List Value}{Q:Value->Shared->Prop} (sr:∀(A:Around) (E:Value->Shared->Prop),A.units<cLine -> ∀(s':Shared) (kd:SortKind),kp kd->(∀p∈(pairsOf vs).toList,DS T s' p) -> ¬vs.toArray.size<2->wpS (model prog w) A E s' GY (fun _ st'=>(arrOf st').toList.Perm (pairsOf vs).toList/\Srt (ltW s') (arrOf st').toList/\failedOf st'=none) (SortSt.mk' kd (vs.toArray.zip vs.toArray) #[] 7 none))
  (kn:∀(A:Around) E (s':Shared) (Q:SortKind->Shared->Prop),vs ≠ []->(∀v∈vs,∃a ks,v = .ref a/\JP T s'.heap a ks)->(∀kd,kp kd->Q kd s')->wpAny (model prog w) A (keyKind' vs.toArray) Q E s')
  (hu:A.units+2<cLine) (hl:s.heap.IsList l vs.toArray) (hv:∀v∈vs,∃a ks,v = .ref a/\JP T s.heap a ks) (hz:vs.length<=sizeLine)
  (h:∀(out:Array Value),out.toList.Perm vs->(∃h1:Heap,(∀a ks,JP T s.heap a ks->JP T h1 a ks)/\Zgp h1 out.toList)->Q (.ref (s.heap.objs.size+1)) { s with heap:=sortedAll s.heap vs out }):
  wpAny (model prog w) A (call (.builtin "sorted") [.ref l]) Q E s:=by
 refine T1 kind_sorted plain_sorted entry_sorted (args_sorted1 _) ?_
 unfold Builtin.«sorted»
 refine ka (N9 (a:=()) rfl (ka (collect_list hl (ka (Nj ?_ hz)) hz)))
 obtain ⟨u,eu⟩:∃u:Heap,u=(s.heap.push (seqObj "list" #[] 0)).update s.heap.objs.size (Obj.mapSeq (· ++ vs.toArray)):=⟨_,rfl⟩
 have zu:u.objs.size=s.heap.objs.size+1:=by rw [eu,Heap.size_update,size_push']
 have kp':∀b o,s.heap.get? b=some o->(u.push (seqObj "list" vs.toArray 0)).get? b=some o:=fun b o e=>km _ (by
  rw [eu,Heap.get?_update_ne _ _ _ _ (Kb (k6 e))]
  exact km _ e)
 have nw:(u.push (seqObj "list" vs.toArray 0)).get? (s.heap.objs.size+1)=some (seqObj "list" vs.toArray 0):=zu ▸ Ki _ rfl
 show wpAny _ _ _ _ _ { s with heap:=((s.heap.push (seqObj "list" #[] 0)).update s.heap.objs.size (Obj.mapSeq (· ++ vs.toArray))).push (seqObj "list" vs.toArray 0) }
 unfold sortedAll at h
 rw [<- eu] at h ⊢
 rw [zu]
 refine ka (Kv (qb slot_list_sort ⟨_,nw,rfl⟩ entry_list_sort (Zg1 kp (sr _ _ (by exact hu)) (kn _ _) nw (fun v hv'=>?_) hz fun out a2 a3=>⟨_,rfl,ko ⟨_,rfl,h out a2 ⟨_,fun a ks t=>t.kept fun o e=>kp' a o e,a3⟩⟩⟩) (args_list_sort _)))
 obtain ⟨a,ks,e,t⟩:=hv v hv'
 refine ⟨a,ks,e,?_,t.kept fun o e=>kp' a o e⟩
 obtain ⟨_,_,_,_,e',_⟩:=t
 exact Kb (T6 (k6 e'))
end
section
variable {X:Cx}
def Zkd (K:PySem.W.Frag):List V->Hp->VK->Prop:=fun xs H Q=>∃(p:Addr) (ys:List V) (ws:List (List Int)),xs = [.ref p]/\Zr K H p ys/\Zdg H ys ws/\ys.length=2 /\
  ∀(l:Addr) (zs:List V) (vs:List (List Int)),H l=none->zs.Perm ys->vs.Perm ws->Zdg H zs vs->ZdU vs->Q (.ref l) (upd H l (.lst zs))
theorem ZeM (hu:X.A.units+64<cLine):YU X (.builtin "sorted") (Zkd X.K):=by
 intro pins s σ H xs us Q I r h
 obtain ⟨p,ys,ws,rfl,hq,hw,h2,q⟩:=h
 obtain ⟨u,rfl,ru⟩:=r.one
 cases ru
 obtain ⟨its,rv,pl,hz⟩:=I.list hq
 have hlen:ys.length=its.length:=rv.length
 refine ZfC Kd2 (fun A E hu s' kd hk hd _=>Zjc (Zd2 hk hu) (by lia) hd) (fun A E s' Q hn hv h=>Zc5 hn hv h) (by lia) pl.isList (fun v hv=>?_) (by lia) fun out a2 ⟨h1,k1,a3⟩=>?_
 ·obtain ⟨y,hy,ry⟩:=Paired.mem1 (Paired.flip rv) v hv
  obtain ⟨ks,_,hk⟩:=Paired.mem1 hw y hy
  obtain ⟨a,e1,e2,e3⟩:=ZbI I.hok hk ry
  exact ⟨a,ks,e1,e3⟩
 obtain ⟨zs,vs,b1,b2,b3,b4,b5⟩:=Zdr (fun f r=>(ZbI I.hok f r).imp fun _ z=>⟨z.1,z.2.2⟩) rv hw a2 k1 a3
 obtain ⟨e,he⟩:=NK s.heap its out
 have fr:H (s.heap.objs.size+1)=none:=I.hok.fresh (qz _)
 refine ⟨.ref (s.heap.objs.size+1),_,I.laid (a:=s.heap.objs.size+1) (o:=.lst zs) (t':=s.toks) (fun b o q=>Nc q) (qz _) ⟨?_,out.toList,e,b1,?_⟩,rfl,q _ _ _ fr b3 b4 b2 b5⟩
 ·rw [b3.length_eq];lia
 ·simpa [seqObj] using he
theorem ZdZ {K:PySem.W.Frag} (h:X.K=K) (hu:X.A.units+64<cLine):YU X (.builtin "sorted") (Zkd K):=h ▸ ZeM hu
end
section
variable {prog:Program}{w:World}{A:Around}{E:Value->Shared->Prop}{s:Shared}{kd:SortKind}{D:Keyed->Prop}{lt:Keyed->Keyed->Bool}
theorem ZiA {arr:Array Keyed}{n:Nat} (hn:arr.size=n) (h:Za9 lt arr 0 n):Srt lt arr.toList:=by
 refine List.pairwise_iff_getElem.mpr fun i j hi hj hij=>?_
 rw [Kq] at hi hj
 refine h i j _ _ (Kt hij) (by lia) ?_ ?_<;>rw [NQ,<- qA]
 ·exact kU _
 ·exact kU _
theorem Zfi (C:Cmp prog w A E s kd D lt) {st:SortSt}{Q:Unit->SortSt->Prop} (hD:∀x∈(arrOf st).toList,D x) (hk:kindOf st=kd) (hf:failedOf st=none) (hp:pendingOf st = #[]) (h0:0<(arrOf st).size) (h64:(arrOf st).size<64)
  (h:∀st',(arrOf st').toList.Perm (arrOf st).toList->Srt lt (arrOf st').toList->failedOf st'=none->Q () st'):wpS (model prog w) A E s GY Q st:=by
 obtain ⟨n,en⟩:∃n,n=(arrOf st).size:=⟨_,rfl⟩
 have mr:(sortPriv% PySem.Builtin.minRun) n n 0=n:=by
  cases n with
  | zero=>lia
  | succ f=>exact (minRun'_succ f (f+1) 0).trans (kh (by lia))
 have last:∀(m:Nat) (st':SortSt),Kp 0 n st st'->Za9 lt (arrOf st') 0 n->m=n ->
   ((none:Option Unit),0+m)=(none,n)/\(arrOf st').toList.Perm (arrOf st).toList/\Srt lt (arrOf st').toList/\failedOf st'=none/\((pendingOf st').push (0,m,0)).size<=1:=fun m st' k g e=>by
  subst e
  refine ⟨by rw [NQ],k.perm,ZiA (by rw [k.size,en]) g,k.fail.trans hf,?_⟩
  rw [k.pend,hp]
  exact ki _
 refine Ka (X0 ?_)
 refine Ka (XG (qw (a:=0) (b:=(arrOf st).size) (I:=fun x c st'=>(x=0/\c=(none,0)/\st'=st)∨(c=(none,n)/\(arrOf st').toList.Perm (arrOf st).toList/\Srt lt (arrOf st').toList/\failedOf st'=none/\(pendingOf st').size<=1))
  (Q:=fun c st'=>c.1=none/\(arrOf st').toList.Perm (arrOf st).toList/\Srt lt (arrOf st').toList/\failedOf st'=none/\(pendingOf st').size<=1) ?_ ?_ (.inl ⟨rfl,rfl,rfl⟩)) ?_)
 ·rw [<- en]
  rintro x c st1 _ hx (⟨rfl,rfl,rfl⟩ | ⟨rfl,z⟩)
  ·show wpS _ _ _ _ (if 0>=n then _ else _) _ _
   rw [kg (by lia)]
   refine Ka (Zgq C (lo:=0) (n:=n-0) (by lia) (by lia) hD hk fun m st2 m1 m2 kp sm=>?_)
   show wpS _ _ _ _ (if m<(sortPriv% PySem.Builtin.minRun) n n 0 then _ else _) _ _
   rw [mr]
   refine ZgD (fun c1=>?_) (fun c1=>?_)
   ·refine Ka (Mf (qV ⟨rfl,?_⟩))
    have en':min (n-0) n=n:=by lia
    rw [en']
    have z2:=kp.size
    refine Ka (ZdO C (lo:=0) (n:=n) (ok:=m) m1 (by lia) (by lia) (fun y hy=>hD y (kp.perm.mem_iff.mp hy)) (kp.kind.trans hk) sm fun st3 kp3 sm3=>?_)
    have k3:Kp 0 n st1 st3:=Kp.trans kp kp3
    refine Ka (X0 ?_)
    have hb:(pendingOf st3).back? = none:=by rw [k3.pend,hp];rfl
    show wpS _ _ _ _ (match (pendingOf st3).back? with | some (_,_,_)=>_ | _=>_) _ _
    rw [hb]
    exact Ka (TR (Kl (Or.inr (last n st3 k3 sm3 rfl))))
   ·refine Ka (X0 ?_)
    have hb:(pendingOf st2).back? = none:=by rw [kp.pend,hp];rfl
    show wpS _ _ _ _ (match (pendingOf st2).back? with | some (_,_,_)=>_ | _=>_) _ _
    rw [hb]
    have e:m=n:=by lia
    exact Ka (TR (Kl (Or.inr (last m st2 kp (e ▸ sm) e))))
  ·show wpS _ _ _ _ (if n>=n then _ else _) _ _
   rw [kh (ki _)]
   exact Kl ⟨rfl,z⟩
 ·rintro c st1 (⟨e,_⟩ | ⟨rfl,z⟩)
  ·lia
  ·exact ⟨rfl,z⟩
 ·rintro ⟨c1,c2⟩ st1 ⟨hc,p1,p2,p3,p4⟩
  dsimp only at hc
  subst hc
  refine Ka (XG (qw (a:=0) (b:=(arrOf st).size) (I:=fun _ c st'=>st'=st1/\c=(none,())) (Q:=fun c st'=>st'=st1/\c=(none,())) ?_ (fun _ _ z=>z) ⟨rfl,rfl⟩) ?_)
  ·rintro y c st4 _ _ ⟨rfl,rfl⟩
   refine Ka (X0 ?_)
   show wpS _ _ _ _ (if (pendingOf st4).size<=1 then _ else _) _ _
   rw [kh p4]
   exact Kl ⟨rfl,rfl⟩
  ·rintro c st4 ⟨rfl,rfl⟩
   exact Kl (h _ p1 p2 p3)
theorem ZgO {T:String} (kp:SortKind->Prop) {D:Addr}{vs:List Value}{n:Nat}{P:PySem.Fin->Shared->Prop} (cm:∀s' kd,kp kd->Cmp prog w A E s' kd (DS T s') (ltW s'))
  (kn:∀(s':Shared) (Q:SortKind->Shared->Prop),vs ≠ []->(∀v∈vs,∃a ks,v = .ref a/\JP T s'.heap a ks)->(∀kd,kp kd->Q kd s')->wpAny (model prog w) A (keyKind' vs.toArray) Q E s')
  (ho:s.heap.get? D=some (seqObj "list" vs.toArray n)) (hv:∀v∈vs,∃a ks,v = .ref a/\a≠D/\JP T s.heap a ks) (hz:vs.length<=sizeLine) (h64:vs.length<64)
  (h:∀out:Array Value,out.toList.Perm vs->Zgp s.heap out.toList->P (.done (.ret .none)) { s with heap:=sortedHeap s.heap D vs out }):
  wpAny (model prog w) A (Builtin.«list.sort» ⟨[.ref D],[]⟩) P E s:=by
 rw [list_sort_plain]
 obtain ⟨ep,he⟩:∃ep,(s.heap.update D (Obj.mapSeq fun _=>#[])).get? D=some (seqObj "list" #[] ep):=⟨_,get?_update_seq ho fun _=>#[]⟩
 refine ka (listItems_at ho rfl (ka (Ni ho rfl (ka (seqEpoch_at he rfl (ka (TV (ka (Nj (Kv ?_))) (by simpa using hz))))) (by simpa using hz))))
 obtain ⟨u,eu⟩:∃u:Shared,u = { s with heap:=((s.heap.update D (Obj.mapSeq fun _=>#[])).push (seqObj "tuple" vs.toArray 0)).push (seqObj "list" #[] 0) }:=⟨_,rfl⟩
 have keep:∀b o,b≠D->s.heap.get? b=some o->u.heap.get? b=some o:=fun b o hb e=>by
  rw [eu]
  exact km _ (km _ ((qv _ _ (Ko hb)).trans e))
 have hD:u.heap.get? D=some (seqObj "list" #[] ep):=by rw [eu];exact km _ (km _ he)
 have hu4:∀v∈vs,(∃a ks,v = .ref a/\JP T u.heap a ks)/\ZdR u.heap v=ZdR s.heap v:=fun v hv'=>by
  obtain ⟨a,ks,rfl,ne,t⟩:=hv v hv'
  have t':=t.kept fun o q=>keep a o ne q
  exact ⟨⟨a,ks,rfl,t'⟩,by rw [t.key,t'.key]⟩
 show wpAny (model prog w) A _ P E { s with heap:=((s.heap.update D (Obj.mapSeq fun _=>#[])).push (seqObj "tuple" vs.toArray 0)).push (seqObj "list" #[] 0) }
 rw [<- eu]
 dsimp only
 refine Zed (fun kd=>vs.toArray.size<2∨kp kd) (fun h2 Q' q=>ko (q _ (.inl h2))) (fun h2 Q' q=>kn u Q' (fun z=>h2 (by rw [z];decide)) (fun v hv'=>(hu4 v hv').1) fun kd hk=>q kd (.inr hk)) fun kd hk=>?_
 refine ka (KH (Q:=fun r s''=>s''=u/\(arrOf r.2).toList.Perm (pairsOf vs).toList/\Srt (ltW u) (arrOf r.2).toList/\failedOf r.2=none) ?_ (fun r s'' hr=>?_) fun _ _ e=>e)
 ·by_cases h2:vs.toArray.size<2
  ·rw [kh h2,StateT.run_pure]
   refine ko ⟨rfl,XY _,?_,rfl⟩
   have lp:(pairsOf vs).toList.length<2:=by rw [Kq,TC];simpa using h2
   show Srt _ (pairsOf vs).toList
   generalize (pairsOf vs).toList=L at lp ⊢
   cases L with
   | nil=>exact .nil
   | cons x t=>
    cases t with
    | nil=>exact Xh _ _
    | cons y t=>exact absurd lp (by simp)
  ·rw [kg h2]
   have z64:(arrOf (SortSt.mk' kd (vs.toArray.zip vs.toArray) #[] 7 none)).size=vs.length:=TC vs
   have h2:¬vs.length<2:=h2
   refine KH (Zfi (cm u kd (hk.resolve_left h2)) (st:=SortSt.mk' kd (vs.toArray.zip vs.toArray) #[] 7 none) (Q:=fun _ st'=>(arrOf st').toList.Perm (pairsOf vs).toList/\Srt (ltW u) (arrOf st').toList/\failedOf st'=none)
    (fun p hp=>?_) rfl rfl rfl (by rw [z64];lia) (by rw [z64];exact h64) fun st' a1 a2 a3=>⟨a1,a2,a3⟩) (fun r s'' x=>x) fun _ _ e=>e
   have hp':p∈(pairsOf vs).toList:=hp
   rw [Xg] at hp'
   exact (hu4 _ (NT hp').2).1
 obtain ⟨rfl,hp,hs,hf⟩:=hr
 refine ka (seqEpoch_at hD rfl (ka (Ni hD rfl ?_ (hsz2:=by
  have:=hp.length_eq
  rw [Kq,Kq,TC] at this
  rw [Array.size_map,this];lia))))
 have same:∀p∈(arrOf r.2).toList,p.1=p.2/\p.1∈vs:=fun p hp'=>by
  have:=hp.mem_iff.mp hp'
  rw [Xg] at this
  exact NT this
 have:=h ((arrOf r.2).map (·.2)) (by
  rw [Ti]
  refine (hp.map _).trans ?_
  rw [Xg,List.map_snd_zip (ki _)]) (by
  rw [Ti]
  refine XX.mpr (Nk (fun {p q} hp' hq' x=>?_) hs)
  rw [<- (same p hp').1,<- (same q hq').1,<- (hu4 _ (same p hp').2).2,<- (hu4 _ (same q hq').2).2]
  exact x)
 unfold sortedHeap at this
 subst eu
 rw [hf,kg (by simp)]
 exact ko this
theorem Za8 {T:String} (kp:SortKind->Prop) {l:Addr}{vs:List Value}{Q:Value->Shared->Prop} (cm:∀A,A.units<cLine -> ∀E s' kd,kp kd->Cmp prog w A E s' kd (DS T s') (ltW s'))
  (kn:∀(A:Around) E (s':Shared) (Q:SortKind->Shared->Prop),vs ≠ []->(∀v∈vs,∃a ks,v = .ref a/\JP T s'.heap a ks)->(∀kd,kp kd->Q kd s')->wpAny (model prog w) A (keyKind' vs.toArray) Q E s')
  (hu:A.units+2<cLine) (hl:s.heap.IsList l vs.toArray) (hv:∀v∈vs,∃a ks,v = .ref a/\JP T s.heap a ks) (hz:vs.length<=sizeLine) (h64:vs.length<64)
  (h:∀(out:Array Value),out.toList.Perm vs->(∃h1:Heap,(∀a ks,JP T s.heap a ks->JP T h1 a ks)/\Zgp h1 out.toList)->Q (.ref (s.heap.objs.size+1)) { s with heap:=sortedAll s.heap vs out }):
  wpAny (model prog w) A (call (.builtin "sorted") [.ref l]) Q E s:=by
 refine T1 kind_sorted plain_sorted entry_sorted (args_sorted1 _) ?_
 unfold Builtin.«sorted»
 refine ka (N9 (a:=()) rfl (ka (collect_list hl (ka (Nj ?_ hz)) hz)))
 obtain ⟨u,eu⟩:∃u:Heap,u=(s.heap.push (seqObj "list" #[] 0)).update s.heap.objs.size (Obj.mapSeq (· ++ vs.toArray)):=⟨_,rfl⟩
 have zu:u.objs.size=s.heap.objs.size+1:=by rw [eu,Heap.size_update,size_push']
 have kp':∀b o,s.heap.get? b=some o->(u.push (seqObj "list" vs.toArray 0)).get? b=some o:=fun b o e=>km _ (by
  rw [eu,Heap.get?_update_ne _ _ _ _ (Kb (k6 e))]
  exact km _ e)
 have nw:(u.push (seqObj "list" vs.toArray 0)).get? (s.heap.objs.size+1)=some (seqObj "list" vs.toArray 0):=zu ▸ Ki _ rfl
 show wpAny _ _ _ _ _ { s with heap:=((s.heap.push (seqObj "list" #[] 0)).update s.heap.objs.size (Obj.mapSeq (· ++ vs.toArray))).push (seqObj "list" vs.toArray 0) }
 unfold sortedAll at h
 rw [<- eu] at h ⊢
 rw [zu]
 refine ka (Kv (qb slot_list_sort ⟨_,nw,rfl⟩ entry_list_sort (ZgO kp (cm _ (by exact hu) _) (kn _ _) nw (fun v hv'=>?_) hz h64 fun out a2 a3=>⟨_,rfl,ko ⟨_,rfl,h out a2 ⟨_,fun a ks t=>t.kept fun o e=>kp' a o e,a3⟩⟩⟩) (args_list_sort _)))
 obtain ⟨a,ks,e,t⟩:=hv v hv'
 refine ⟨a,ks,e,?_,t.kept fun o e=>kp' a o e⟩
 obtain ⟨_,_,_,_,e',_⟩:=t
 exact Kb (T6 (k6 e'))
end
section
variable {X:Cx}
def ZhI (K:PySem.W.Frag):List V->Hp->VK->Prop:=fun xs H Q=>∃(p:Addr) (ys:List V) (ws:List (List Int)),xs = [.ref p]/\Zr K H p ys/\Zdg H ys ws/\ys.length<64 /\
  ∀(l:Addr) (zs:List V) (vs:List (List Int)),H l=none->zs.Perm ys->vs.Perm ws->Zdg H zs vs->ZdU vs->Q (.ref l) (upd H l (.lst zs))
theorem ZdI (hu:X.A.units+64<cLine):YU X (.builtin "sorted") (ZhI X.K):=by
 intro pins s σ H xs us Q I r h
 obtain ⟨p,ys,ws,rfl,hq,hw,h64,q⟩:=h
 obtain ⟨u,rfl,ru⟩:=r.one
 cases ru
 obtain ⟨its,rv,pl,hz⟩:=I.list hq
 have hlen:ys.length=its.length:=rv.length
 refine Za8 Kd2 (fun A hu E s' kd hk=>Zd2 hk hu) (fun A E s' Q hn hv h=>Zc5 hn hv h) (by lia) pl.isList (fun v hv=>?_) (by lia) (by lia) fun out a2 ⟨h1,k1,a3⟩=>?_
 ·obtain ⟨y,hy,ry⟩:=Paired.mem1 (Paired.flip rv) v hv
  obtain ⟨ks,_,hk⟩:=Paired.mem1 hw y hy
  obtain ⟨a,e1,e2,e3⟩:=ZbI I.hok hk ry
  exact ⟨a,ks,e1,e3⟩
 obtain ⟨zs,vs,b1,b2,b3,b4,b5⟩:=Zdr (fun f r=>(ZbI I.hok f r).imp fun _ z=>⟨z.1,z.2.2⟩) rv hw a2 k1 a3
 obtain ⟨e,he⟩:=NK s.heap its out
 have fr:H (s.heap.objs.size+1)=none:=I.hok.fresh (qz _)
 refine ⟨.ref (s.heap.objs.size+1),_,I.laid (a:=s.heap.objs.size+1) (o:=.lst zs) (t':=s.toks) (fun b o q=>Nc q) (qz _) ⟨?_,out.toList,e,b1,?_⟩,rfl,q _ _ _ fr b3 b4 b2 b5⟩
 ·rw [b3.length_eq];lia
 ·simpa [seqObj] using he
def Ze8 (K:PySem.W.Frag):List V->Hp->VK->Prop:=fun xs H Q=>∃(p:Addr) (ys:List V) (ws:List (List Int)),xs = [.ref p]/\Zr K H p ys/\Words H ys ws/\ys.length<64 /\
  ∀(l:Addr) (zs:List V) (vs:List (List Int)),H l=none->zs.Perm ys->vs.Perm ws->Words H zs vs->ZdU vs->Q (.ref l) (upd H l (.lst zs))
theorem ZdV (hu:X.A.units+64<cLine):YU X (.builtin "sorted") (Ze8 X.K):=by
 intro pins s σ H xs us Q I r h
 obtain ⟨p,ys,ws,rfl,hq,hw,h64,q⟩:=h
 obtain ⟨u,rfl,ru⟩:=r.one
 cases ru
 obtain ⟨its,rv,pl,hz⟩:=I.list hq
 have hlen:ys.length=its.length:=rv.length
 refine Za8 Kd3 (fun A hu E s' kd hk=>ZiG hk hu) (fun A E s' Q hn hv h=>ZgL hv h) (by lia) pl.isList (fun v hv=>?_) (by lia) (by lia) fun out a2 ⟨h1,k1,a3⟩=>?_
 ·obtain ⟨y,hy,ry⟩:=Paired.mem1 (Paired.flip rv) v hv
  obtain ⟨ks,_,hk⟩:=Paired.mem1 hw y hy
  obtain ⟨a,e1,e2,e3⟩:=Zgk I.hok hk ry
  exact ⟨a,ks,e1,e3⟩
 obtain ⟨zs,vs,b1,b2,b3,b4,b5⟩:=Zdr (fun f r=>(Zgk I.hok f r).imp fun _ z=>⟨z.1,z.2.2⟩) rv hw a2 k1 a3
 obtain ⟨e,he⟩:=NK s.heap its out
 have fr:H (s.heap.objs.size+1)=none:=I.hok.fresh (qz _)
 refine ⟨.ref (s.heap.objs.size+1),_,I.laid (a:=s.heap.objs.size+1) (o:=.lst zs) (t':=s.toks) (fun b o q=>Nc q) (qz _) ⟨?_,out.toList,e,b1,?_⟩,rfl,q _ _ _ fr b3 b4 b2 b5⟩
 ·rw [b3.length_eq];lia
 ·simpa [seqObj] using he
theorem ZdF {K:PySem.W.Frag} (h:X.K=K) (hu:X.A.units+64<cLine):YU X (.builtin "sorted") (ZhI K):=h ▸ ZdI hu
theorem Zdy {K:PySem.W.Frag} (h:X.K=K) (hu:X.A.units+64<cLine):YU X (.builtin "sorted") (Ze8 K):=h ▸ ZdV hu
end
end L2
namespace Qk37
open PySem L2 PyProof.Rows
def top (i:Nat):Stmt:=PySem.Challenge.pw_bendfronts_k37_all_bandings.main.body.getD i (.Pass ⟨0,0,0,0⟩)
section
variable {P:Program}{w:World}{K:PySem.W.Frag}{mg:Str->Option Value}{base:Heap}
def Za0:Sp:=fun vs H Q _=>∃(b:Addr) (m:Int),vs = [.ref b,.int m]/\Bag H b/\1<=m/\m<1073741824 /\ ∀(d:Int) (H':Hp),0<=d->d<m->Bag H' b->Jh b H H'->Q (.int d) H'
abbrev UT:Stmt:=top 33
theorem Zba:Zy ["_law_bag_here", "_law_many", "_law_digit"] ["_law_bag_here", "_law_many"] (Zj UT):={}
theorem ZlP {f:Addr}{fd:FuncData} (F:Yy K "_law_take" "_law_take" UT f fd):Yf P w K mg base Wy 1 f fd ["_law_bag_here", "_law_many"] Za0:=by
 refine F.ok Zba (fun vs H Q E h=>?_) (fun cdv A outer s H vs Q E hr h=>?_)
 ·obtain ⟨b,m,rfl,_⟩:=h
  rfl
 ·obtain ⟨b,m,rfl,⟨g,r,hg,hb⟩,h1,h2,k⟩:=h
  refine ⟨_,(Zd (ZW (Zt Zbj (Zz (Zp (K:=K) rfl) (pv 0) Ze (fun _ _=>rfl)) Ze (Zs _)) (Zd (Zn (i:=2) Zba.nd rfl (Or.inl rfl) (Zl Gg (Zz (Zp (K:=K) rfl) (pv 0) Ze (fun _ _=>rfl)) (pv 1)))
   (Zd (Yj (Zl ZbC (Zz (Zp (K:=K) rfl) (pv 0) Ze (fun _ _=>rfl)) (pv 1)) (Yv (pv 0) Ze set_list))
   (Zg (Zw (pv 2))))) ZJ)
   (Zd (Yj (Zl Gg (Zl ZA (Zl WD (Zz (Zp (K:=K) rfl) (pv 0) Ze (fun _ _=>rfl)) Ze) Ze) Ze) (Yv (pv 0) Ze set_list))
   (Zg (Zw (Zl Gg (Zl Gg (Zl ZgN (Zl ZbC (Zz (Zp (K:=K) rfl) (pv 0) Ze (fun _ _=>rfl)) Ze) Ze) Ze) (pv 1)))))),?_⟩
  refine ⟨_,rfl,b,_,_,_,rfl,rfl,Zr.of hb,Zo (j:=0) rfl,_,_,rfl,rfl,_,rfl,?_⟩
  refine Z7 (fun hp=>?_) (fun hp=>?_)
  ·have hp':0<g:=kE hp
   refine ⟨_,rfl,b,_,_,_,rfl,rfl,Zr.of hb,Zo (j:=0) rfl,_,rfl,_,_,rfl,rfl,(by omega:0<m),?_⟩
   refine ⟨_,rfl,b,_,_,_,rfl,rfl,Zr.of hb,Zo (j:=0) rfl,_,rfl,_,_,rfl,rfl,⟨by omega,by omega⟩,_,rfl,b,_,_,0,rfl,rfl,hb,rfl,?_⟩
   refine ⟨_,rfl,k _ _ (Xu _ (by omega)) (qQ _ (by omega)) ⟨g / m,r,Int.ediv_nonneg (by omega) (by omega),Zc⟩ Jh.upd⟩
  ·refine ⟨_,rfl,b,_,_,_,rfl,rfl,Zr.of hb,Zo (j:=1) rfl,_,_,rfl,rfl,.inr ⟨by decide,by decide⟩,_,_,rfl,rfl,_,_,rfl,rfl,(show (0:Int)<2147483647 by decide),_,rfl,b,_,_,1,rfl,rfl,hb,rfl,?_⟩
   have e1:0<=(r*48271+11) % 2147483647:=Xu _ (by decide)
   have e2:(r*48271+11) % 2147483647<2147483647:=qQ _ (by decide)
   refine ⟨_,rfl,b,_,_,_,rfl,rfl,Zr.of Zc,Zo (j:=1) rfl,_,_,rfl,rfl,⟨by decide,by decide⟩,_,_,rfl,rfl,⟨by decide,by decide,by omega⟩,_,_,rfl,rfl,(show (0:Int)<2147483629 by decide),_,rfl,_,_,rfl,rfl,(by omega:0<m),?_⟩
   exact k _ _ (Xu _ (by omega)) (qQ _ (by omega)) ⟨g,_,hg,Zc⟩ Jh.upd
def ZkU (K:PySem.W.Frag):Sp:=fun vs H Q _=>∃(a:Addr) (i:Int) (ns:List Int),vs = [.ref a,.int i]/\Zr K H a (ns.map V.int)/\0<=i/\i<1000 /\ ∀(l:Addr) (H':Hp),H l=none->Zi H H'->Bag H' l->Q (.ref l) H'
abbrev ZaW:Stmt:=top 32
theorem JO:Zy ["_law_script", "_law_at", "_law_cell", "_law_great", "_law_primes"] ["_law_script", "_law_at"] (Zj ZaW):={}
theorem Zm6 {f:Addr}{fd:FuncData} (F:Yy K "_law_bag" "_law_bag" ZaW f fd) (Yn:mg "len" = none) (ZaN:mg "abs" = none):Yf P w K mg base Wy 1 f fd ["_law_script", "_law_at"] (ZkU K):=by
 refine F.ok JO (fun vs H Q E h=>?_) (fun cdv A outer s H vs Q E hr h=>?_)
 ·obtain ⟨a,i,ns,rfl,_⟩:=h
  rfl
 ·obtain ⟨a,i,ns,rfl,hS,h0,h1,k⟩:=h
  refine ⟨_,(Zd (Zn (i:=2) JO.nd rfl (Or.inl rfl) Ze)
   (Zd (ZW (Zt Gm (pv 1) (Zx (YA (K:=K) rfl) (by rfl) Yn qa (Za (pv 0) Zb)) (Zs _)) (Zg (Zn (i:=2) JO.nd rfl (Or.inl rfl) (Zz (Zp (K:=K) rfl) (pv 0) (pv 1) (fun _ _=>rfl)))) ZJ)
   (Zd (Zn (i:=3) JO.nd rfl (Or.inl rfl) Ze)
   (Zd (ZW (Zt Zk1 (Zx Zbk (by rfl) ZaN boot_abs (Za (pv 2) Zb)) (Zl ZgN Ze Ze) (Zs _)) (Zg (Zn (i:=3) JO.nd rfl (Or.inl rfl) (Zx Zbk (by rfl) ZaN boot_abs (Za (pv 2) Zb)))) ZJ)
   (Zd (Zn (i:=4) JO.nd rfl (Or.inl rfl) (ZD (Za Ze (Za Ze (Za Ze (Za Ze (Za Ze (Za Ze (Za Ze (Za Ze Zb))))))))))
   (Zg (Zw (ZD (Za (pv 3) (Za (Zl Gg (Zl ZgN (Zl ZA (Zl ZA (Zl Gg (pv 2) Ze) (Zl WD Ze (pv 1))) Ze) Ze) (Zz (Zp (K:=K) rfl) (pv 4) (Zl Gg (pv 1) Ze) (fun _ _=>rfl))) Zb)))))))))),?_⟩
  refine ⟨_,rfl,_,rfl,a,_,rfl,.inl hS,_,_,rfl,rfl,_,rfl,?_⟩
  have last:∀(c:Int),0<=c % 2147483647/\c % 2147483647<2147483647:=fun c=>⟨Xu _ (by decide),qQ _ (by decide)⟩
  have e3:0<=i % 8:=Xu _ (by decide)
  have e4:i % 8<8:=qQ _ (by decide)
  obtain ⟨j,hj⟩:∃j:Nat,i % 8=(j:Int):=⟨(i % 8).toNat,by omega⟩
  have hj8:j<8:=by omega
  obtain ⟨q,hq,hq0⟩:∃q:Int,([V.int 2147483629,.int 2147483587,.int 2147483579,.int 2147483563,.int 2147483549,.int 2147483543,.int 2147483497,.int 2147483489]:List V)[j]? = some (.int q)/\0<q:=by
   match j,hj8 with
   | 0,_=>exact ⟨_,rfl,by decide⟩
   | 1,_=>exact ⟨_,rfl,by decide⟩
   | 2,_=>exact ⟨_,rfl,by decide⟩
   | 3,_=>exact ⟨_,rfl,by decide⟩
   | 4,_=>exact ⟨_,rfl,by decide⟩
   | 5,_=>exact ⟨_,rfl,by decide⟩
   | 6,_=>exact ⟨_,rfl,by decide⟩
   | 7,_=>exact ⟨_,rfl,by decide⟩
  have two:∀(c:Int) (B:Prop),B->(c=0 ∨ ∃j:Nat,i=(j:Int)/\ns[j]? = some c)->B:=fun _ _ b _=>b
  refine Z7 (fun hp=>?_) (fun hp=>?_)
  ·have hp':i<((ns.map V.int).length:Int):=kE hp
   rw [ke] at hp'
   obtain ⟨n,hn⟩:∃n:Nat,i=(n:Int):=⟨i.toNat,by omega⟩
   have hnl:n<ns.length:=by omega
   refine ⟨_,rfl,_,rfl,a,_,_,_,rfl,rfl,hS,(by rw [hn];exact Zo (v:=V.int ns[n]) (by simp [hnl])),?_⟩
   refine ⟨_,rfl,_,rfl,_,_,rfl,rfl,⟨by decide,by decide,by decide⟩,_,_,rfl,rfl,_,rfl,?_⟩
   refine Z7 (fun hp=>?_) (fun hp=>?_)
   ·refine ⟨_,rfl,_,rfl,?_⟩
    have l0:=last ns[n]
    refine ⟨(by show 8<=sizeLine;decide),fun pl hpl=>?_⟩
    refine ⟨_,rfl,_,rfl,_,_,rfl,rfl,(show (0:Int)<2147483647 by decide),_,rfl,_,_,rfl,rfl,.inl ⟨by decide,by decide⟩,_,_,rfl,rfl,_,_,rfl,rfl,_,_,rfl,rfl,⟨by decide,by decide,by omega⟩,_,rfl,_,rfl,_,_,rfl,rfl,(show (0:Int)<8 by decide),pl,_,_,_,rfl,rfl,Zr.of Zc,(by rw [hj];exact Zo hq),_,_,rfl,rfl,hq0,(by show 2<=sizeLine;decide),fun l hl=>?_⟩
    have hl0:H l=none:=(Zi.laid hpl).free hl
    exact k l _ hl0 ((Zi.laid hpl).step hl) ⟨_,_,(by split<;>omega),Zc⟩
   ·have l0:=last ns[n]
    refine ⟨(by show 8<=sizeLine;decide),fun pl hpl=>?_⟩
    refine ⟨_,rfl,_,rfl,_,_,rfl,rfl,(show (0:Int)<2147483647 by decide),_,rfl,_,_,rfl,rfl,.inl ⟨by decide,by decide⟩,_,_,rfl,rfl,_,_,rfl,rfl,_,_,rfl,rfl,⟨by decide,by decide,by omega⟩,_,rfl,_,rfl,_,_,rfl,rfl,(show (0:Int)<8 by decide),pl,_,_,_,rfl,rfl,Zr.of Zc,(by rw [hj];exact Zo hq),_,_,rfl,rfl,hq0,(by show 2<=sizeLine;decide),fun l hl=>?_⟩
    have hl0:H l=none:=(Zi.laid hpl).free hl
    exact k l _ hl0 ((Zi.laid hpl).step hl) ⟨0,_,qE _,Zc⟩
  ·refine ⟨_,rfl,_,rfl,_,_,rfl,rfl,⟨by decide,by decide,by decide⟩,_,_,rfl,rfl,_,rfl,?_⟩
   refine Z7 (fun hp=>?_) (fun hp=>?_)
   ·exact absurd hp (by decide)
   ·have l0:=last 0
    refine ⟨(by show 8<=sizeLine;decide),fun pl hpl=>?_⟩
    refine ⟨_,rfl,_,rfl,_,_,rfl,rfl,(show (0:Int)<2147483647 by decide),_,rfl,_,_,rfl,rfl,.inl ⟨by decide,by decide⟩,_,_,rfl,rfl,_,_,rfl,rfl,_,_,rfl,rfl,⟨by decide,by decide,by omega⟩,_,rfl,_,rfl,_,_,rfl,rfl,(show (0:Int)<8 by decide),pl,_,_,_,rfl,rfl,Zr.of Zc,(by rw [hj];exact Zo hq),_,_,rfl,rfl,hq0,(by show 2<=sizeLine;decide),fun l hl=>?_⟩
    have hl0:H l=none:=(Zi.laid hpl).free hl
    exact k l _ hl0 ((Zi.laid hpl).step hl) ⟨0,_,qE _,Zc⟩
def nX (ls:List (Str×Int)):Nat:=ls.countP fun p=>decide (p.1=("cross" : Str))
theorem J6 (a b:List (Str×Int)):nX (a++b)=nX a+nX b:=MI
theorem ZlK (a:List (Str×Int)) (k:Int):nX (a ++ [(("born" : Str),k)])=nX a:=by rw [J6];rfl
theorem ZkG (a:List (Str×Int)) (k:Int):nX (a ++ [(("end" : Str),k)])=nX a:=by rw [J6];rfl
theorem Zab (a:List (Str×Int)) (k:Int):nX (a ++ [(("cross" : Str),k)])=nX a+1:=by rw [J6];rfl
def ZgI (lo:Int):Sp:=fun vs H Q _=>∃(b:Addr) (m n:Int),vs = [.ref b,.int m,.int n]/\Bag H b/\1<=m/\m<1000/\0<=n/\n<1000 /\ ∀(l:Addr) (H':Hp) (ls:List (Str×Int)),H l=none->Bag H' b->Jh b H H'->Drw H' l ls->(nX ls:Int)<=n->Q (.ref l) H'
def Zc6:Sp:=fun vs H Q _=>∃(b:Addr) (n:Int),vs = [.ref b,.int n]/\Bag H b/\0<=n/\n<20 /\ ∀(l:Addr) (H':Hp) (ls:List (Str×Int)),H l=none->Bag H' b->Jh b H H'->Drw H' l ls->(nX ls:Int)<=n->Q (.ref l) H'
abbrev Gp:Stmt:=top 34
theorem ZM:Zy ["_law_bag_here", "_law_births", "_law_most", "_law_letters", "_law_many", "_law_left", "_law_crosses", "_law_turn", "_law_way"] ["_law_bag_here", "_law_births", "_law_most"] (Zj Gp):={}
theorem ZlB {f:Addr}{fd:FuncData} (F:Yy K "_law_drawing" "_law_drawing" Gp f fd) (Zu:Ys P w K mg base 1 "_law_take" ["_law_bag_here", "_law_many"] Za0) (ZR:mg "range" = none):
  Yf P w K mg base Wy 2 f fd ["_law_bag_here", "_law_births", "_law_most"] (ZgI 0):=by
 refine F.ok ZM (fun vs H Q E h=>?_) (fun cdv A outer s H vs Q E hr h=>?_)
 ·obtain ⟨b,m,n,rfl,_⟩:=h
  rfl
 ·obtain ⟨b,m,n,rfl,hbag,m1,m2,n1,n2,k⟩:=h
  refine ⟨_,(Zd (Zn (i:=3) ZM.nd rfl (Or.inl rfl) (ZD Zb))
   (Zd (Zn (i:=4) ZM.nd rfl (Or.inl rfl) Ze)
   (Zd (Zn (i:=5) ZM.nd rfl (Or.inl rfl) (Zl ZA Ze (Zq Zu hr (Za (pv 0) (Za (pv 1) Zb)))))
   (Zd (Zn (i:=6) ZM.nd rfl (Or.inl rfl) (Zq Zu hr (Za (pv 0) (Za (Zl ZA (pv 2) Ze) Zb))))
   (Zd (Yi k8 rfl (YI (by rfl) ZR (Za Ze Zb)) (Zk (i:=7) ZM.nd rfl (Or.inl rfl)) (Zd (Zn (i:=8) ZM.nd rfl (Or.inl rfl) (Zq Zu hr (Za (pv 0) (Za Ze Zb))))
   (Zg (ZW (PW.pt (GI (Zt Zbj (pv 5) Ze (Zs _)) (GI (Zt Gm (pv 4) Ze (Zs _)) (Uh (PW.pt (ZhJ (Zt Yp (pv 4) Ze (Zs _)) (Zhq (Zt Yp (pv 8) Ze (Zs _))))))))) (Zd (ZZ (Z9 (K:=K) rfl (Yw kH kR kS ZN (pv 3) (Za (ZH (Za ZG (Za (Zq Zu hr (Za (pv 0) (Za (Zl ZA (pv 4) Ze) Zb))) Zb))) Zb))))
   (Zd (Zn (i:=4) ZM.nd rfl (Or.inl rfl) (Zl ZA (pv 4) Ze))
   (Zg (Zn (i:=5) ZM.nd rfl (Or.inl rfl) (Zl YT (pv 5) Ze))))) (Zg (ZW (PW.pt (GI (Zt Zbj (pv 4) Ze (Zs _)) (Uh (Zt Yp (pv 8) Ze (Zs _))))) (Zd (ZZ (Z9 (K:=K) rfl (Yw kH kR kS ZN (pv 3) (Za (ZH (Za ZG (Za (Zq Zu hr (Za (pv 0) (Za (Zl YT (pv 4) Ze) Zb))) Zb))) Zb))))
   (Zg (Zn (i:=4) ZM.nd rfl (Or.inl rfl) (Zl YT (pv 4) Ze)))) (Zg (ZW (PW.pt (GI (Zt Zbj (pv 4) Ze (Zs _)) (Uh (Zt Zbj (pv 6) Ze (Zs _))))) (Zd (ZZ (Z9 (K:=K) rfl (Yw kH kR kS ZN (pv 3) (Za (ZH (Za ZG (Za (Zq Zu hr (Za (pv 0) (Za (Zl YT (pv 4) Ze) Zb))) Zb))) Zb))))
   (Zg (Zn (i:=6) ZM.nd rfl (Or.inl rfl) (Zl YT (pv 6) Ze)))) ZJ))))))))
   (Zd (ZbB k8 (Zt Zbj (pv 4) Ze (Zs _)) (Zd (ZZ (Z9 (K:=K) rfl (Yw kH kR kS ZN (pv 3) (Za (ZH (Za ZG (Za (Zq Zu hr (Za (pv 0) (Za (Zl YT (pv 4) Ze) Zb))) Zb))) Zb))))
   (Zg (Zn (i:=4) ZM.nd rfl (Or.inl rfl) (Zl YT (pv 4) Ze)))))
   (Zg (Zw (pv 3))))))))),?_⟩
  refine ⟨(by show 0<=sizeLine;decide),fun l hl=>?_⟩
  obtain ⟨g0,r0,hg0,hb0⟩:=id hbag
  have hlb:l≠b:=(Zf hb0 hl).symm
  have bag1:Bag (upd H l (.lst [])) b:=⟨g0,r0,hg0,by rw [Zh (Ko hlb)];exact hb0⟩
  refine ⟨_,rfl,_,rfl,b,m,rfl,bag1,m1,by lia,fun d1 H1 _ _ bg1 f1=>?_⟩
  refine ⟨_,_,rfl,rfl,?_⟩
  refine ⟨_,rfl,_,rfl,_,_,rfl,rfl,b,_,rfl,bg1,by lia,by lia,fun d2 H2 d20 d21 bg2 f2=>?_⟩
  have hl2:H2 l=some (.lst []):=f2 l _ (f1 l _ Zc hlb) hlb
  have fr2:Jh b H H2:=fun c o e nb=>f2 c o (f1 c o (by rw [Zh (Zf e hl)];exact e) nb) nb
  refine ⟨30,rfl,by decide,by decide,Jt (n:=30) (fun i σ H'=>∃(xs:List V) (ls:List (Str×Int)) (c:Nat) (lf cr:Int) (tv wv:Option V),σ = [some (.ref b),some (.int m),some (.int n),some (.ref l),some (.int (2*(c:Int))),some (.int lf),some (.int cr),tv,wv]/\c<=4/\Bag H' b/\Jh b H H'/\H' l=some (.lst xs)/\ZE H' xs ls/\Wk ls (2*(c:Int))/\ls.length<=i/\(nX ls:Int)+cr<=n/\0<=cr)
   ⟨[],[],0,_,_,none,none,rfl,by decide,bg2,fr2,hl2,.nil,Wk.nil0,ki _,(by show ((0:Nat):Int)+d2<=n;lia),d20⟩ ?_ ?_⟩
  ·rintro i σ H3 hi ⟨xs,ls,c,lf,cr,tv,wv,rfl,hc,bg3,fr3,hl3,hL,hW,hlen,hx,hx0⟩
   have hxl:xs.length<sizeLine:=by
    rw [hL.len]
    exact Zv (by lia)
   refine ⟨_,rfl,b,8,rfl,bg3,by decide,by decide,fun wy H4 _ _ bg4 f4=>?_⟩
   have hl4:H4 l=some (.lst xs):=f4 l _ hl3 hlb
   have fr4:Jh b H H4:=fr3.trans f4
   have hL4:ZE H4 xs ls:=hL.frm f4 bg3
   dsimp only [JX]
   refine Zg8 (Zfj (β:=decide (0<lf)) (fun Q q=>⟨_,rfl,_,_,rfl,rfl,_,rfl,q⟩) fun _=>Zfj (β:=decide (2*(c:Int)<7)) (fun Q q=>⟨_,rfl,_,_,rfl,rfl,_,rfl,q⟩) fun _=>ZnZ (fun Q q=>⟨_,rfl,rfl,_,rfl,q⟩) fun _=>(fun Q q=>⟨_,rfl,rfl,_,rfl,q⟩)) (fun hp=>?_) (fun _=>?_)
   ·
    have hp1:2*(c:Int)<7:=by
     simp only [Kw,Kk] at hp
     exact hp.2.1
    refine ⟨_,rfl,.inl ⟨rfl,_,Zr.of hl4⟩,_,rfl,_,rfl,_,_,rfl,rfl,b,_,rfl,bg4,by lia,by lia,fun d H5 hd0 hd1 bg5 f5=>⟨(by show 2<=sizeLine;decide),fun t ht=>?_⟩⟩
    obtain ⟨a1,a2,a3,a4,a5⟩:=Wm "born" d fr4 bg4 hl4 hL4 hlb hl f5 bg5 ht
    refine ⟨l,_,_,rfl,rfl,a1,hxl,_,rfl,_,_,rfl,rfl,_,rfl,_,_,rfl,rfl,?_⟩
    refine ⟨xs ++ [.ref t],ls ++ [((("born" : Str),d):Str×Int)],c+1,lf-1,cr,some (.int (0+(i:Int))),some (.int wy),?_,by lia,a2,a3,a4,a5,?_,by rw [kj,Kj];lia,by rw [ZlK];exact hx,hx0⟩
    ·have e:2*((c+1:Nat):Int)=2*(c:Int)+2:=by lia
     rw [e]
     rfl
    ·have e:2*((c+1:Nat):Int)=2*(c:Int)+2:=by lia
     rw [e]
     exact Wk.born hW hd0 (by lia)
   ·refine Zg8 (Zfj (β:=decide (2<2*(c:Int))) (fun Q q=>⟨_,rfl,_,_,rfl,rfl,_,rfl,q⟩) fun _=>(fun Q q=>⟨_,rfl,rfl,_,rfl,q⟩)) (fun hp=>?_) (fun _=>?_)
    ·
     have hp1:2<2*(c:Int):=by
      simp only [Kw,Kk] at hp
      exact hp.1
     refine ⟨_,rfl,.inl ⟨rfl,_,Zr.of hl4⟩,_,rfl,_,rfl,_,_,rfl,rfl,b,_,rfl,bg4,by lia,by lia,fun d H5 hd0 hd1 bg5 f5=>⟨(by show 2<=sizeLine;decide),fun t ht=>?_⟩⟩
     obtain ⟨a1,a2,a3,a4,a5⟩:=Wm "end" d fr4 bg4 hl4 hL4 hlb hl f5 bg5 ht
     refine ⟨l,_,_,rfl,rfl,a1,hxl,_,rfl,_,_,rfl,rfl,?_⟩
     have e:2*((c-1:Nat):Int)=2*(c:Int)-2:=by lia
     refine ⟨xs ++ [.ref t],ls ++ [((("end" : Str),d):Str×Int)],c-1,lf,cr,some (.int (0+(i:Int))),some (.int wy),?_,by lia,a2,a3,a4,a5,?_,by rw [kj,Kj];lia,by rw [ZkG];exact hx,hx0⟩
     ·rw [e]
      rfl
     ·rw [e]
      exact Wk.fin hW hd0 (by lia)
    ·refine Zg8 (Zfj (β:=decide (1<2*(c:Int))) (fun Q q=>⟨_,rfl,_,_,rfl,rfl,_,rfl,q⟩) fun _=>(fun Q q=>⟨_,rfl,_,_,rfl,rfl,_,rfl,q⟩)) (fun hp=>?_) (fun _=>?_)
     ·
      have hp1:1<2*(c:Int):=by
       simp only [Kw,Kk] at hp
       exact hp.1
      have hcr:0<cr:=by
       simp only [Kw,Kk] at hp
       exact hp.2
      refine ⟨_,rfl,.inl ⟨rfl,_,Zr.of hl4⟩,_,rfl,_,rfl,_,_,rfl,rfl,b,_,rfl,bg4,by lia,by lia,fun d H5 hd0 hd1 bg5 f5=>⟨(by show 2<=sizeLine;decide),fun t ht=>?_⟩⟩
      obtain ⟨a1,a2,a3,a4,a5⟩:=Wm "cross" d fr4 bg4 hl4 hL4 hlb hl f5 bg5 ht
      refine ⟨l,_,_,rfl,rfl,a1,hxl,_,rfl,_,_,rfl,rfl,?_⟩
      exact ⟨xs ++ [.ref t],ls ++ [((("cross" : Str),d):Str×Int)],c,_,_,_,_,rfl,hc,a2,a3,a4,a5,Wk.cross hW hd0 (by lia),by rw [kj,Kj];lia,by rw [Zab];lia,by lia⟩
     ·exact ⟨xs,ls,c,_,_,_,_,rfl,hc,bg4,fr4,hl4,hL4,hW,by lia,hx,hx0⟩
  ·
   rintro σ H3 ⟨xs,ls,c,lf,cr,tv,wv,rfl,hc,bg3,fr3,hl3,hL,hW,hlen,hx,hx0⟩
   refine ZkX (fun σ H'=>∃(xs:List V) (ls:List (Str×Int)) (c:Nat),σ = [some (.ref b),some (.int m),some (.int n),some (.ref l),some (.int (2*(c:Int))),some (.int lf),some (.int cr),tv,wv]/\c<=4/\Bag H' b/\Jh b H H'/\H' l=some (.lst xs)/\ZE H' xs ls/\Wk ls (2*(c:Int))/\ls.length+c<=34/\(nX ls:Int)<=n)
    (fun (σ:L2.St) _=>match σ[4]? with | some (some (V.int m))=>m.toNat | _=>0) ⟨xs,ls,c,rfl,hc,bg3,fr3,hl3,hL,hW,by lia,by lia⟩ ?_ ?_
   ·rintro σ H4 ⟨xs,ls,c,rfl,hc,bg4,fr4,hl4,hL4,hW,hlen,hx⟩
    have hxl:xs.length<sizeLine:=by
     rw [hL4.len]
     exact Zv (by lia)
    refine ⟨_,rfl,_,_,rfl,rfl,_,rfl,?_⟩
    refine Z7 (fun hp=>?_) (fun hp=>?_)
    ·have hp1:0<2*(c:Int):=kE hp
     refine ⟨_,rfl,.inl ⟨rfl,_,Zr.of hl4⟩,_,rfl,_,rfl,_,_,rfl,rfl,b,_,rfl,bg4,by lia,by lia,fun d H5 hd0 hd1 bg5 f5=>⟨(by show 2<=sizeLine;decide),fun t ht=>?_⟩⟩
     obtain ⟨a1,a2,a3,a4,a5⟩:=Wm "end" d fr4 bg4 hl4 hL4 hlb hl f5 bg5 ht
     refine ⟨l,_,_,rfl,rfl,a1,hxl,_,rfl,_,_,rfl,rfl,?_⟩
     have e:2*((c-1:Nat):Int)=2*(c:Int)-2:=by lia
     refine ⟨⟨xs ++ [.ref t],ls ++ [((("end" : Str),d):Str×Int)],c-1,?_,by lia,a2,a3,a4,a5,?_,by rw [kj,Kj];lia,by rw [ZkG];exact hx⟩,?_⟩
     ·rw [e]
      rfl
     ·rw [e]
      exact Wk.fin hW hd0 (by lia)
     ·show (2*(c:Int)-2).toNat<(2*(c:Int)).toNat
      lia
    ·have hp1:¬ 0<2*(c:Int):=fun z=>hp (kG z)
     have hc0:c=0:=by lia
     subst hc0
     refine ⟨_,rfl,k l H4 ls hl bg4 fr4 ⟨xs,hl4,hL4,by simpa using hW,by lia⟩ hx⟩
   ·rintro σ H Q Q' f ⟨v,e,i,j,e1,e2,kk,e3,q⟩
    exact ⟨v,e,i,j,e1,e2,kk,e3,f _ _ q⟩
abbrev Wt:Stmt:=top 35
theorem Ju:Zy ["_law_bag_here", "_law_most", "_law_births", "_law_letters", "_law_turn", "_law_k"] ["_law_bag_here", "_law_most"] (Zj Wt):={}
theorem Zlm {f:Addr}{fd:FuncData} (F:Yy K "_law_plat" "_law_plat" Wt f fd) (Zu:Ys P w K mg base 1 "_law_take" ["_law_bag_here", "_law_many"] Za0) (ZR:mg "range" = none):
  Yf P w K mg base Wy 2 f fd ["_law_bag_here", "_law_most"] Zc6:=by
 refine F.ok Ju (fun vs H Q E h=>?_) (fun cdv A outer s H vs Q E hr h=>?_)
 ·obtain ⟨b,n,rfl,_⟩:=h
  rfl
 ·obtain ⟨b,n,rfl,hbag,n1,n2,k⟩:=h
  refine ⟨_,(Zd (Zn (i:=2) Ju.nd rfl (Or.inl rfl) (Zl ZA Ze (Zq Zu hr (Za (pv 0) (Za Ze Zb)))))
   (Zd (Zea (i:=3) Ju.nd rfl (Or.inl rfl) (Ls:=["_law_k"]) (Fs:=[]) (fi:=[]) (Z6.of (show YE ["_law_bag_here", "_law_most", "_law_births", "_law_letters", "_law_turn", "_law_k"] (Zj Wt) _ [] []=true by decide +kernel)) rfl (YI (by rfl) ZR (Za (pv 2) Zb)) (fun cl C s3 H3 ex=>⟨(Zk (i:=0) (show ((["_law_k"]:List Str)++([]:List Str)).Nodup by decide +kernel) rfl (Or.inl rfl)),YN,(ZH (Za ZG (Za (Zl WD Ze (pv 0)) Zb)))⟩))
   (Zd (Yi k8 rfl (YI (by rfl) ZR (Za (Zq Zu hr (Za (pv 0) (Za (Zl ZA (pv 1) Ze) Zb))) Zb)) (Zk (i:=4) Ju.nd rfl (Or.inl rfl)) (Zd (Zn (i:=5) Ju.nd rfl (Or.inl rfl) (Zq Zu hr (Za (pv 0) (Za (Zl YT (Zl WD Ze (pv 2)) Ze) Zb))))
   (Zd (ZW (PW.pt (GI (Zt Zbj (pv 2) Ze (Zs _)) (Uh (Zt Yp (Zq Zu hr (Za (pv 0) (Za Ze Zb))) Ze (Zs _))))) (Zg (Zn (i:=5) Ju.nd rfl (Or.inl rfl) (Zl ZA (Zl WD Ze (Zl Gg (Zl ZbC (pv 5) Ze) (Zl YT (pv 2) Ze))) Ze))) ZJ)
   (Zg (ZZ (Z9 (K:=K) rfl (Yw kH kR kS ZN (pv 3) (Za (ZH (Za ZG (Za (pv 5) Zb))) Zb))))))))
   (Zg (Zw (Zl WK (pv 3) (Gi (Ls:=["_law_k"]) (Fs:=[]) (fi:=[]) (Z6.of (show YE ["_law_bag_here", "_law_most", "_law_births", "_law_letters", "_law_turn", "_law_k"] (Zj Wt) _ [] []=true by decide +kernel)) rfl (YI (by rfl) ZR (Za (pv 2) Zb)) (fun cl C s3 H3 ex=>⟨(Zk (i:=0) (show ((["_law_k"]:List Str)++([]:List Str)).Nodup by decide +kernel) rfl (Or.inl rfl)),YN,(ZH (Za ZG (Za Ze Zb)))⟩)))))))),?_⟩
  refine ⟨_,rfl,b,3,rfl,hbag,by decide,by decide,fun d H1 hd0 hd1 bg1 f1=>?_⟩
  refine ⟨_,_,rfl,rfl,?_⟩
  have hc1:1<=(1+d).toNat:=by lia
  have hc2:(1+d).toNat<=3:=by lia
  refine ⟨_,rfl,_,rfl,by lia,by lia,Zhe (n:=(1+d).toNat) (Kt (Zv (by lia))) (fun i ys H'=>Zi H1 H'/\ZE H' ys ((List.range i).map fun (j:Nat)=>(("born", 2*(j:Int)):Str×Int))) ⟨Zi.refl _,.nil⟩
   (fun i ys H' p=>by rw [p.2.len];simp) (fun i ys H' hi p=>?_) (fun ys H2 p l hl=>?_)⟩
  ·refine lcG ?_
   refine ⟨_,rfl,_,_,rfl,rfl,.inl ⟨by decide,by decide⟩,(by show 2<=sizeLine;decide),fun t ht=>⟨p.1.step ht,?_⟩⟩
   rw [KN,kP]
   have e:(2*(0+(i:Int)))=2*(i:Int):=by lia
   refine ZE.snoc (p.2.same (Zi.laid ht)) ?_
   rw [<- e]
   exact Zc
  ·
   obtain ⟨sm,hL0⟩:=p
   obtain ⟨g0,r0,hg0,hb0⟩:=id bg1
   have hb2:H2 b=some (.lst [.int g0,.int r0]):=sm b _ hb0
   have hlb:l≠b:=(Zf hb2 hl).symm
   have bg2:Bag (upd H2 l (.lst ys)) b:=⟨g0,r0,hg0,by rw [Zh (Ko hlb)];exact hb2⟩
   have hlH:H l=none:=f1.free bg1 (sm.free hl)
   have fr2:Jh b H (upd H2 l (.lst ys)):=(f1.trans sm.frm).new hl
   have hL2:ZE (upd H2 l (.lst ys)) ys ((List.range (1+d).toNat).map fun (j:Nat)=>(("born", 2*(j:Int)):Str×Int)):=hL0.same (Zi.laid hl)
   refine ⟨_,rfl,_,rfl,_,_,rfl,rfl,b,_,rfl,bg2,by lia,by lia,fun d2 H3 he0 he1 bg3 f3=>?_⟩
   refine ⟨_,rfl,by lia,by lia,Jt (n:=d2.toNat) (fun i σ H'=>∃(xs:List V) (ls:List (Str×Int)) (tv kv:Option V),σ = [some (.ref b),some (.int n),some (.int (1+d)),some (.ref l),tv,kv]/\Bag H' b/\Jh b H H'/\H' l=some (.lst xs)/\ZE H' xs ls/\Wk ls (2*((1+d).toNat:Int))/\ls.length<=3+i/\nX ls<=i)
    ⟨ys,_,none,none,rfl,bg3,fr2.trans f3,f3 l _ Zc hlb,hL2.frm f3 bg2,Zev _,by rw [ke,qo];lia,by unfold nX;rw [List.countP_map];refine Nat.le_of_eq (Mq.mpr fun _ _=>by simp;decide)⟩ ?_ ?_⟩
   ·rintro i σ H4 hi ⟨xs,ls,tv,kv,rfl,bg4,fr4,hl4,hL4,hW,hlen,hx⟩
    have hxl:xs.length<sizeLine:=by
     rw [hL4.len]
     exact Zv (by lia)
    refine ⟨_,rfl,_,rfl,_,_,rfl,rfl,.inl ⟨by decide,by decide⟩,_,_,rfl,rfl,b,_,rfl,bg4,by lia,by lia,fun k1 H5 hk0 hk1 bg5 f5=>?_⟩
    have hl5:H5 l=some (.lst xs):=f5 l _ hl4 hlb
    have fr5:Jh b H H5:=fr4.trans f5
    have hL5:ZE H5 xs ls:=hL4.frm f5 bg4
    refine ⟨_,rfl,_,_,rfl,rfl,_,rfl,?_⟩
    refine Z7 (fun hp=>?_) (fun hp=>?_)
    ·have hp1:1<1+d:=kE hp
     refine ⟨_,rfl,b,2,rfl,bg5,by decide,by decide,fun d3 H6 _ _ bg6 f6=>⟨rfl,_,rfl,?_⟩⟩
     have hl6:H6 l=some (.lst xs):=f6 l _ hl5 hlb
     have fr6:Jh b H H6:=fr5.trans f6
     have hL6:ZE H6 xs ls:=hL5.frm f6 bg5
     refine Z7 (fun hq=>?_) (fun hq=>?_)
     ·refine ⟨_,rfl,_,_,rfl,rfl,⟨by decide,by decide⟩,_,rfl,_,_,rfl,rfl,_,_,rfl,rfl,(show (0:Int)<1+d-1 by lia),_,_,rfl,rfl,.inl ⟨by decide,by decide⟩,_,_,rfl,rfl,?_⟩
      have z0:0<=k1 / 2 % (1+d-1):=Xu _ (by lia)
      have z1:k1 / 2 % (1+d-1)<1+d-1:=qQ _ (by lia)
      refine ⟨_,rfl,.inl ⟨rfl,_,Zr.of hl6⟩,_,rfl,(by show 2<=sizeLine;decide),fun t ht=>?_⟩
      obtain ⟨a1,a2,a3,a4,a5⟩:=Wm "cross" (2*(k1 / 2 % (1+d-1))+1) fr6 bg6 hl6 hL6 hlb hlH (Jh.refl b H6) bg6 ht
      refine ⟨l,_,_,rfl,rfl,a1,hxl,?_⟩
      exact ⟨xs ++ [.ref t],_,_,_,rfl,a2,a3,a4,a5,Wk.cross hW (by lia) (by lia),by rw [kj,Kj];lia,by rw [Zab];lia⟩
     ·refine ⟨_,rfl,.inl ⟨rfl,_,Zr.of hl6⟩,_,rfl,(by show 2<=sizeLine;decide),fun t ht=>?_⟩
      obtain ⟨a1,a2,a3,a4,a5⟩:=Wm "cross" k1 fr6 bg6 hl6 hL6 hlb hlH (Jh.refl b H6) bg6 ht
      refine ⟨l,_,_,rfl,rfl,a1,hxl,?_⟩
      exact ⟨xs ++ [.ref t],_,_,_,rfl,a2,a3,a4,a5,Wk.cross hW (by lia) (by lia),by rw [kj,Kj];lia,by rw [Zab];lia⟩
    ·refine ⟨_,rfl,.inl ⟨rfl,_,Zr.of hl5⟩,_,rfl,(by show 2<=sizeLine;decide),fun t ht=>?_⟩
     obtain ⟨a1,a2,a3,a4,a5⟩:=Wm "cross" k1 fr5 bg5 hl5 hL5 hlb hlH (Jh.refl b H5) bg5 ht
     refine ⟨l,_,_,rfl,rfl,a1,hxl,?_⟩
     exact ⟨xs ++ [.ref t],_,_,_,rfl,a2,a3,a4,a5,Wk.cross hW (by lia) (by lia),by rw [kj,Kj];lia,by rw [Zab];lia⟩
   ·rintro σ H4 ⟨xs,ls,tv,kv,rfl,bg4,fr4,hl4,hL4,hW,hlen,hx⟩
    refine ⟨_,rfl,_,rfl,_,rfl,by lia,by lia,Zhe (n:=(1+d).toNat) (Kt (Zv (by lia))) (fun i ys H'=>Zi H4 H'/\ZE H' ys (List.replicate i ((("end" : Str),0):Str×Int))) ⟨Zi.refl _,.nil⟩
     (fun i ys H' p=>by rw [p.2.len];simp) (fun i ys H' hi p=>?_) (fun zs H5 p D hD=>?_)⟩
    ·refine lcG ?_
     refine ⟨(by show 2<=sizeLine;decide),fun t ht=>⟨p.1.step ht,?_⟩⟩
     rw [qC]
     exact ZE.snoc (p.2.same (Zi.laid ht)) Zc
    ·obtain ⟨sm5,hZ⟩:=p
     have hl5:H5 l=some (.lst xs):=sm5 l _ hl4
     have hZl:=hZ.len
     rw [KA] at hZl
     have hXl:=hL4.len
     refine ⟨l,D,xs,zs,rfl,rfl,(by rw [Zh (Zf hl5 hD)];exact hl5),Zc,Kt (Zv (by lia)),fun p hp=>?_⟩
     have sm6:Zi H4 (upd (upd H5 D (.lst zs)) p (.lst (xs++zs))):=(sm5.step hD).step hp
     have hpH:H p=none:=fr4.free bg4 ((sm5.step hD).free hp)
     obtain ⟨g4,r4,hg4,hb4⟩:=id bg4
     refine k p _ (ls++List.replicate (1+d).toNat ((("end" : Str),0):Str×Int)) hpH ⟨g4,r4,hg4,sm6 b _ hb4⟩ (fr4.trans sm6.frm) ⟨xs++zs,Zc,?_,?_,?_⟩ (by
      rw [J6]
      have:nX (List.replicate (1+d).toNat ((("end" : Str),0):Str×Int))=0:=Mq.mpr fun a ha=>by rw [(List.mem_replicate.mp ha).2];decide
      lia)
     ·exact (hL4.same sm6).append (hZ.same ((Zi.laid hD).step hp))
     ·have:=ZcC _ hW (1+d).toNat (ki _)
      simpa using this
     ·rw [kj,KA]
      lia
abbrev ZaO:Stmt:=top 36
theorem Zgb:Zy ["_law_bag_here", "_law_most"] ["_law_bag_here", "_law_most"] (Zj ZaO):={}
theorem Znp {f:Addr}{fd:FuncData} (F:Yy K "_law_any" "_law_any" ZaO f fd) (Zu:Ys P w K mg base 1 "_law_take" ["_law_bag_here", "_law_many"] Za0) (JN:Ys P w K mg base 2 "_law_plat" ["_law_bag_here", "_law_most"] Zc6)
  (Ga:Ys P w K mg base 2 "_law_drawing" ["_law_bag_here", "_law_births", "_law_most"] (ZgI 0)):Yf P w K mg base Wy 3 f fd ["_law_bag_here", "_law_most"] Zc6:=by
 refine F.ok Zgb (fun vs H Q E h=>?_) (fun cdv A outer s H vs Q E hr h=>?_)
 ·obtain ⟨b,n,rfl,_⟩:=h
  rfl
 ·obtain ⟨b,n,rfl,hbag,n1,n2,k⟩:=h
  refine ⟨_,(Zd (ZW (Zt Yp (Zq Zu hr (Za (pv 0) (Za Ze Zb))) Ze (Zs _)) (Zg (Zw (Zq JN hr (Za (pv 0) (Za (pv 1) Zb))))) ZJ)
   (Zg (Zw (Zq Ga hr (Za (pv 0) (Za Ze (Za (pv 1) Zb))))))),?_⟩
  refine ⟨_,rfl,b,3,rfl,hbag,by decide,by decide,fun d H1 _ _ bg1 f1=>⟨rfl,_,rfl,?_⟩⟩
  refine Z7 (fun _=>?_) (fun _=>?_)
  ·exact ⟨_,rfl,_,rfl,b,n,rfl,bg1,n1,n2,fun l H2 ls hl bg2 f2 dr nx=>k l H2 ls (f1.free bg1 hl) bg2 (f1.trans f2) dr nx⟩
  ·exact ⟨_,rfl,_,rfl,b,4,n,rfl,bg1,by decide,by decide,n1,by lia,fun l H2 ls hl bg2 f2 dr nx=>k l H2 ls (f1.free bg1 hl) bg2 (f1.trans f2) dr nx⟩
def ZeU:Sp:=fun vs H Q _=>∃i:Int,vs = [.int i]/\Q (.bl true) H
abbrev Uo:Stmt:=top 41
theorem ZdS:Zy ["_law_thing"] ["_law_thing"] (Zj Uo):={}
theorem Zkt {f:Addr}{fd:FuncData} (F:Yy K "_law_whole" "_law_whole" Uo f fd) (Yk:mg "isinstance" = none) (Zbv:mg "int" = none) (ZgX:mg "bool" = none):Yf P w K mg base Wy 1 f fd ["_law_thing"] ZeU:=by
 refine F.ok ZdS (fun vs H Q E h=>?_) (fun cdv A outer s H vs Q E hr h=>?_)
 ·obtain ⟨i,rfl,_⟩:=h
  rfl
 ·obtain ⟨i,rfl,k⟩:=h
  refine ⟨_,(Zg (Zw (Zc9 (Zx (WQ (K:=K) rfl) (by rfl) Yk Tx (Za (pv 0) (Za (ZcI (v:=.ty "int") (by rfl) Zbv boot_int rfl) Zb))) (ZaU (ZnB (Zx (WQ (K:=K) rfl) (by rfl) Yk Tx (Za (pv 0) (Za (ZcI (v:=.ty "bool") (by rfl) ZgX boot_bool rfl) Zb)))))))),?_⟩
  refine ⟨_,rfl,_, "int", _,true,rfl,.int i,by rfl,true,rfl,Zbt ?_⟩
  exact ⟨_,rfl,_, "bool", _,false,rfl,.int i,by rfl,false,rfl,k⟩
def Zb5:Sp:=fun vs H Q _=>∃(l:Addr) (ns:List Int),vs = [.ref l]/\H l=some (.lst (ns.map V.int))/\ns.length<=900 /\ ∀H',Zi H H'->Q (.bl true) H'
abbrev JQ:Stmt:=top 42
theorem Zcq:Zy ["_law_thing"] ["_law_thing"] (Zj JQ):={}
theorem ZgT {f:Addr}{fd:FuncData} (F:Yy K "_law_numbers" "_law_numbers" JQ f fd) (Uw:Ys P w K mg base 1 "_law_whole" ["_law_thing"] ZeU) (Yk:mg "isinstance" = none) (Yt:mg "list" = none) (Zer:mg "all" = none):
  Yf P w K mg base Wy 2 f fd ["_law_thing"] Zb5:=by
 refine F.ok Zcq (fun vs H Q E h=>?_) (fun cdv A outer s H vs Q E hr h=>?_)
 ·obtain ⟨l,ns,rfl,_⟩:=h
  rfl
 ·obtain ⟨l,ns,rfl,hl,hlen,k⟩:=h
  refine ⟨_,(Zg (Zw (Zc9 (Zx (WQ (K:=K) rfl) (by rfl) Yk Tx (Za (pv 0) (Za (ZcI (v:=.ty "list") (by rfl) Yt XR rfl) Zb))) (ZaU (Zx (Zd4 (K:=K) rfl rfl) (by rfl) Zer boot_all (Za (Gi (Ls:=["_law_one"]) (Fs:=[]) (fi:=[]) (Z6.of (show YE ["_law_thing"] (Zj JQ) _ [] []=true by decide +kernel)) rfl (ZV (K:=K) rfl (pv 0)) (fun cl C s3 H3 ex=>⟨(Zk (i:=0) (show ((["_law_one"]:List Str)++([]:List Str)).Nodup by decide +kernel) rfl (Or.inl rfl)),YN,(Zq Uw hr (Za (pv 0) Zb))⟩)) Zb)))))),?_⟩
  refine ⟨_,rfl,_, "list", _,true,rfl,.lst hl,by rfl,true,rfl,Zbt ?_⟩
  refine ⟨_,rfl,l,rfl,⟨_,Zr.of hl⟩,Jg (xs:=ns.map V.int) (by rw [ke];exact Kt (Zv (by lia))) (fun i ys H'=>Zi H H'/\ys=(List.replicate i true).map V.bl) ⟨Zi.refl _,rfl⟩
   (fun i ys H' p=>by rw [p.2];simp) (fun i ys H' p=>Zr.of (p.1 l _ hl)) (fun i x ys H' hx p=>?_) (fun ys H' p D hD=>?_)⟩
  ·obtain ⟨sm,rfl⟩:=p
   obtain ⟨z,rfl⟩:∃z,x=V.int z:=by
    rw [kz] at hx
    cases e:ns[i]? with
    | none=>rw [e] at hx;cases hx
    | some z=>rw [e] at hx;exact ⟨z,(kX hx).symm⟩
   refine lcG ?_
   refine ⟨_,rfl,z,rfl,sm,?_⟩
   rw [qC,kP]
   rfl
  ·obtain ⟨sm,rfl⟩:=p
   refine ⟨D,_,rfl,Zr.of Zc,?_⟩
   have e:(List.replicate (ns.map V.int).length true).all id=true:=by simp
   rw [e]
   exact k _ (sm.step hD)
abbrev Zb2:Stmt:=top 8
theorem JI:Zy ["drawing", "rows", "born", "kind", "k", "row"] ["drawing"] (Zj Zb2):={}
theorem ZgF {f:Addr}{fd:FuncData} (F:Yy K "threads" "threads" Zb2 f fd) (Yt:mg "list" = none):Yf P w K mg base Wy 1 f fd ["drawing"] UY:=by
 refine F.ok JI (fun vs H Q E h=>?_) (fun cdv A outer s H vs Q E hr h=>?_)
 ·obtain ⟨l,xs,ls,rfl,_⟩:=h
  rfl
 ·obtain ⟨l,xs,ls,rfl,hl,hL,hlen,hW,k⟩:=h
  refine ⟨_,(Zd (Zn (i:=1) JI.nd rfl (Or.inl rfl) (ZD (Za (ZD Zb) Zb)))
   (Zd (Zn (i:=2) JI.nd rfl (Or.inl rfl) Ze)
   (Zd (Yi k8 rfl (ZV (K:=K) rfl (pv 0)) (ZY (K:=K) (n:=2) rfl rfl (Zm (Zk (i:=3) JI.nd rfl (Or.inl rfl)) (Zm (Zk (i:=4) JI.nd rfl (Or.inl rfl)) ZQ))) (Zd (Zn (i:=5) JI.nd rfl (Or.inl rfl) (Yr (JJ (K:=K) rfl) (by rfl) Yt XR (Za (Zz (Zp (K:=K) rfl) (pv 1) (Zcj US Ze) (fun _ _=>rfl)) Zb)))
   (Zd (ZW (Zt Yp (pv 3) ZG (Zs _)) (Zd (Yj (ZD (Za (pv 2) (Za (Zl ZA (pv 2) Ze) Zb))) (ZnK (pv 5) (Yb (pv 4)) (Yb (pv 4))))
   (Zg (ZjZ (i:=2) JI.nd rfl (Or.inl rfl) Ze Zno))) (Zg (ZW (Zt Yp (pv 3) ZG (Zs _)) (Zg (Yj (ZH (Za (Zz (Zp (K:=K) rfl) (pv 5) (Zl ZA (pv 4) Ze) (fun _ _=>rfl)) (Za (Zz (Zp (K:=K) rfl) (pv 5) (pv 4) (fun _ _=>rfl)) Zb))) (ZY (K:=K) (n:=2) rfl rfl (Zm (Yv (pv 5) (pv 4) set_list) (Zm (Yv (pv 5) (Zl ZA (pv 4) Ze) set_list) ZQ))))) (Zg (Zkn (pv 5) (Yb (pv 4)) (Yb (Zl ZA (pv 4) Ze)))))))
   (Zg (ZZ (Z9 (K:=K) rfl (Yw kH kR kS ZN (pv 1) (Za (pv 5) Zb))))))))
   (Zg (Zw (pv 1)))))),?_⟩
  have hxl:=hL.len
  refine ⟨(by show 0<=sizeLine;decide),fun e0 he0=>⟨(by show 1<=sizeLine;decide),fun R hR=>?_⟩⟩
  have hRH:H R=none:=(Zi.laid he0).free hR
  have hRe:e0≠R:=Zf (Zc (H:=H) (a:=e0) (o:=.lst [])) hR
  have sm0:Zi H (upd (upd H e0 (.lst [])) R (.lst [.ref e0])):=(Zi.laid he0).step hR
  refine ⟨_,rfl,l,rfl,⟨_,Zr.of (sm0 l _ hl)⟩,JD (K:=K) (a:=l) (xs:=xs) (fun i σ H'=>∃(ys:List V) (v3 v4 v5:Option V),σ = [some (.ref l),some (.ref R),some (.int (rb (ls.take i)).2),v3,v4,v5]/\Zi H H'/\H' R=some (.lst ys)/\YR H' ys (rowsOf ls (i+1))/\(∀t,V.ref t∈ys->H t=none/\t≠R)/\ys.Nodup)
   ⟨[.ref e0],none,none,none,rfl,sm0,Zc,?_,?_,by simp⟩ (fun i σ H' _ ⟨_,_,_,_,_,sm,_⟩=>Zr.of (sm l _ hl)) ?_ ?_⟩
  ·refine Paired.cons ⟨e0,rfl,?_⟩ .nil
   rw [Zh hRe,Zc]
   rfl
  ·intro t ht
   have:t=e0:=V.ref.inj (kZ.mp ht)
   subst this
   exact ⟨he0,hRe⟩
  ·rintro i x σ H' hx ⟨ys,v3,v4,v5,rfl,sm,hR',rv,ap,nd⟩
   obtain ⟨⟨qx,qk⟩,tl,hq,rfl,htl⟩:=hL.get hx
   have htl':=sm tl _ htl
   have hi:i<ls.length:=(kC.mp hq).1
   obtain ⟨ztk,cases3⟩:=Zd9 hW hq
   have rv':=rv
   rw [Zac] at rv'
   obtain ⟨ys0,t,rfl,ht⟩:=rv'.last
   have hyl:(ys0 ++ [V.ref t]).length<sizeLine:=by
    rw [rv.len]
    unfold rowsOf
    rw [ke,qo]
    exact Zv (by lia)
   have rl:((rb (ls.take i)).1.map V.int).length=(rb (ls.take i)).1.length:=ke _
   obtain ⟨m,hm⟩:=W0 hW i
   have r8:(rb (ls.take i)).1.length<=900:=by
    have z1:=U5 hm
    have z2:=Zbr hm
    rw [kM] at z2
    lia
   refine ⟨tl,_,rfl,YX.of htl',rfl,_,_,rfl,_,_,rfl,rfl,?_⟩
   refine ⟨_,rfl,1,rfl,R,_,_,_,rfl,rfl,Zr.of hR',Zbx _ _,t,_,rfl,.inl (Zr.of ht),fun w hw=>?_⟩
   have hwR:w≠R:=(Zf hR' hw).symm
   refine ⟨_,rfl,rfl,_,rfl,?_⟩
   rcases cases3 with ⟨e,b0,b1⟩ | ⟨e,b0,b1⟩ | ⟨e,b0,b1⟩
   ·have e:qx = "born" := e
    subst e
    refine Z7 (fun _=>?_) (fun hn=>absurd (by simp) hn)
    refine ⟨_,rfl,_,rfl,_,_,rfl,rfl,(by show 2<=sizeLine;decide),fun nl hnl=>?_⟩
    have hwn:w≠nl:=Zf (Zc (H:=H') (a:=w)) hnl
    refine ⟨_,rfl,_,rfl,_,rfl,_,rfl,_,rfl,w,nl,_,_,qk,qk,rfl,rfl,rfl,rfl,(by rw [Zh hwn];exact Zc),Zc,hwn,b0,qE _,(by rw [rl];exact b1),(by rw [rl];exact Kt (Zv (by show _+2<=1000;lia))),?_⟩
    refine ⟨_,rfl,_,_,rfl,rfl,?_⟩
    have hR2:(upd (upd (upd H' w (.lst ((rb (ls.take i)).1.map V.int))) nl (.lst [.int (rb (ls.take i)).2,.int ((rb (ls.take i)).2+1)])) w (.lst (((rb (ls.take i)).1.map V.int).take qk.toNat ++ [.int (rb (ls.take i)).2,.int ((rb (ls.take i)).2+1)]++((rb (ls.take i)).1.map V.int).drop qk.toNat))) R=some (.lst (ys0 ++ [.ref t])):=by
     rw [Zh (Ko hwR)]
     exact (Zi.laid hnl) R _ ((Zi.laid hw) R _ hR')
    refine ⟨_,rfl,.inl ⟨rfl,_,Zr.of hR2⟩,_,rfl,R,_,_,rfl,rfl,hR2,hyl,?_⟩
    obtain ⟨z1,z2,z3,z4⟩:=W4 (G:=upd (upd (upd (upd H' w (.lst ((rb (ls.take i)).1.map V.int))) nl (.lst [.int (rb (ls.take i)).2,.int ((rb (ls.take i)).2+1)])) w (.lst (((rb (ls.take i)).1.map V.int).take qk.toNat ++ [.int (rb (ls.take i)).2,.int ((rb (ls.take i)).2+1)]++((rb (ls.take i)).1.map V.int).drop qk.toNat))) R (.lst ((ys0 ++ [.ref t]) ++ [.ref w]))) hRH sm rv ap nd hw hwR (fun c o e n=>by
      rw [Zh n,Zh (Zf e hw)]
      exact (Zi.laid hnl) c _ ((Zi.laid hw) c _ e)) (by
      rw [Zh hwR,Zc,ztk,YF,Wi]
      simp [kP,qX,qY])
    refine ⟨ys0 ++ [.ref t] ++ [.ref w],some (.str "born"),some (.int qk),some (.ref w),?_,z1,Zc,z2,z3,z4⟩
    rw [ztk,YF,Wi]
    rfl
   ·have e:qx = "cross" := e
    subst e
    refine Z7 (fun hn=>absurd (V.str.inj (kE hn)) nb1) (fun _=>?_)
    refine ⟨_,rfl,rfl,_,rfl,?_⟩
    refine Z7 (fun _=>?_) (fun hn=>absurd (by simp) hn)
    obtain ⟨kk,rfl⟩:=kF b0
    have k1:kk+1<(rb (ls.take i)).1.length:=by have b1:(kk:Int)+1<_:=b1;lia
    have ec:((kk:Int)+1)=((kk+1:Nat):Int):=by lia
    have a1:atI ((rb (ls.take i)).1.map V.int) ((kk:Int)+1)=some (V.int ((rb (ls.take i)).1.getD (kk+1) 0)):=by rw [ec];exact Zo (map_getD _ k1)
    have a0:atI ((rb (ls.take i)).1.map V.int) (kk:Int)=some (V.int ((rb (ls.take i)).1.getD kk 0)):=Zo (map_getD _ (by lia))
    refine ⟨_,rfl,_,rfl,_,_,rfl,rfl,w,_,_,_,rfl,rfl,Zr.of Zc,a1,_,rfl,_,rfl,w,_,_,_,rfl,rfl,Zr.of Zc,a0,(by show 2<=sizeLine;decide),fun tt htt=>?_⟩
    have hwt:w≠tt:=Zf (Zc (H:=H') (a:=w)) htt
    refine ⟨tt,_,rfl,YX.of Zc,rfl,_,_,rfl,_,rfl,_,rfl,w,_,_,kk,rfl,rfl,(by rw [Zh hwt];exact Zc),(by rw [rl];exact Y5 (by lia)),?_⟩
    refine ⟨_,_,rfl,_,rfl,_,rfl,_,_,rfl,rfl,w,_,_,kk+1,rfl,rfl,Zc,(by rw [KG,rl,ec];exact Y5 k1),rfl,?_⟩
    rw [Jv,Zij]
    have hR2:(upd (upd (upd H' w (.lst ((rb (ls.take i)).1.map V.int))) tt (.tup [.int ((rb (ls.take i)).1.getD (kk+1) 0),.int ((rb (ls.take i)).1.getD kk 0)])) w (.lst ((Gr (rb (ls.take i)).1 kk).map V.int))) R=some (.lst (ys0 ++ [.ref t])):=by
     rw [Zh (Ko hwR)]
     exact (Zi.laid htt) R _ ((Zi.laid hw) R _ hR')
    refine ⟨_,rfl,.inl ⟨rfl,_,Zr.of hR2⟩,_,rfl,R,_,_,rfl,rfl,hR2,hyl,?_⟩
    obtain ⟨z1,z2,z3,z4⟩:=W4 (G:=upd (upd (upd (upd H' w (.lst ((rb (ls.take i)).1.map V.int))) tt (.tup [.int ((rb (ls.take i)).1.getD (kk+1) 0),.int ((rb (ls.take i)).1.getD kk 0)])) w (.lst ((Gr (rb (ls.take i)).1 kk).map V.int))) R (.lst ((ys0 ++ [.ref t]) ++ [.ref w]))) hRH sm rv ap nd hw hwR (fun c o e n=>by
      rw [Zh n,Zh (Zf e hw)]
      exact (Zi.laid htt) c _ ((Zi.laid hw) c _ e)) (by
      rw [Zh hwR,Zc,ztk,YF,JL]
      rfl)
    refine ⟨ys0 ++ [.ref t] ++ [.ref w],some (.str "cross"),some (.int kk),some (.ref w),?_,z1,Zc,z2,z3,z4⟩
    rw [ztk,YF,JL]
    rfl
   ·have e:qx = "end" := e
    subst e
    refine Z7 (fun hn=>absurd (V.str.inj (kE hn)) nb2) (fun _=>?_)
    refine ⟨_,rfl,rfl,_,rfl,?_⟩
    refine Z7 (fun hn=>absurd (V.str.inj (kE hn)) nb3) (fun _=>?_)
    have b1':qk+1<((rb (ls.take i)).1.length:Int):=b1
    refine ⟨_,rfl,_,rfl,_,rfl,_,rfl,_,_,rfl,rfl,_,rfl,w,_,qk,qk+2,rfl,rfl,rfl,Zc,b0,by lia,(by rw [rl];lia),?_⟩
    rw [Jv]
    have hR2:(upd H' w (.lst (((rb (ls.take i)).1.map V.int).take qk.toNat++((rb (ls.take i)).1.map V.int).drop (qk+2).toNat))) R=some (.lst (ys0 ++ [.ref t])):=(Zi.laid hw) R _ hR'
    refine ⟨_,rfl,.inl ⟨rfl,_,Zr.of hR2⟩,_,rfl,R,_,_,rfl,rfl,hR2,hyl,?_⟩
    have e2:(qk+2).toNat=qk.toNat+2:=by have b0':0<=qk:=b0;lia
    obtain ⟨z1,z2,z3,z4⟩:=W4 (G:=upd (upd H' w (.lst (((rb (ls.take i)).1.map V.int).take qk.toNat++((rb (ls.take i)).1.map V.int).drop (qk+2).toNat))) R (.lst ((ys0 ++ [.ref t]) ++ [.ref w]))) hRH sm rv ap nd hw hwR (fun c o e n=>by
      rw [Zh n]
      exact (Zi.laid hw) c _ e) (by
      rw [Zh hwR,Zc,ztk,YF,Gz,e2,kP,qX,qY])
    refine ⟨ys0 ++ [.ref t] ++ [.ref w],some (.str "end"),some (.int qk),some (.ref w),?_,z1,Zc,z2,z3,z4⟩
    rw [ztk,YF,Gz]
    rfl
  ·rintro σ H' ⟨ys,v3,v4,v5,rfl,sm,hR',rv,ap,nd⟩
   rw [hxl] at rv
   exact ⟨_,rfl,k R H' ys hRH sm hR' rv ap nd⟩
abbrev Zag:Stmt:=top 37
theorem Y6:Zy ["_law_drawing_here", "_law_rows_here", "_law_born", "_law_word", "_law_k", "_law_row"] ["_law_drawing_here"] (Zj Zag):={}
theorem Zl6 {f:Addr}{fd:FuncData} (F:Yy K "_law_rows" "_law_rows" Zag f fd) (Yt:mg "list" = none):Yf P w K mg base Wy 1 f fd ["_law_drawing_here"] UY:=by
 refine F.ok Y6 (fun vs H Q E h=>?_) (fun cdv A outer s H vs Q E hr h=>?_)
 ·obtain ⟨l,xs,ls,rfl,_⟩:=h
  rfl
 ·obtain ⟨l,xs,ls,rfl,hl,hL,hlen,hW,k⟩:=h
  refine ⟨_,(Zd (Zn (i:=1) Y6.nd rfl (Or.inl rfl) (ZD (Za (ZD Zb) Zb)))
   (Zd (Zn (i:=2) Y6.nd rfl (Or.inl rfl) Ze)
   (Zd (Yi k8 rfl (ZV (K:=K) rfl (pv 0)) (ZY (K:=K) (n:=2) rfl rfl (Zm (Zk (i:=3) Y6.nd rfl (Or.inl rfl)) (Zm (Zk (i:=4) Y6.nd rfl (Or.inl rfl)) ZQ))) (Zd (Zn (i:=5) Y6.nd rfl (Or.inl rfl) (Yr (JJ (K:=K) rfl) (by rfl) Yt XR (Za (Zz (Zp (K:=K) rfl) (pv 1) (Zcj US Ze) (fun _ _=>rfl)) Zb)))
   (Zd (ZW (Zt Yp (pv 3) ZG (Zs _)) (Zd (ZZ (Z9 (K:=K) rfl (Yw kH Nl Nm ZeH (pv 5) (Za (pv 4) (Za (Zl ZA (pv 2) Ze) Zb)))))
   (Zd (ZZ (Z9 (K:=K) rfl (Yw kH Nl Nm ZeH (pv 5) (Za (pv 4) (Za (pv 2) Zb)))))
   (Zg (Zn (i:=2) Y6.nd rfl (Or.inl rfl) (Zl ZA (pv 2) Ze))))) (Zg (ZW (Zt Yp (pv 3) ZG (Zs _)) (Zg (Yj (ZH (Za (Zz (Zp (K:=K) rfl) (pv 5) (Zl ZA (pv 4) Ze) (fun _ _=>rfl)) (Za (Zz (Zp (K:=K) rfl) (pv 5) (pv 4) (fun _ _=>rfl)) Zb))) (ZY (K:=K) (n:=2) rfl rfl (Zm (Yv (pv 5) (pv 4) set_list) (Zm (Yv (pv 5) (Zl ZA (pv 4) Ze) set_list) ZQ))))) (Zd (ZZ (Z9 (K:=K) rfl (Yw kH Tc Td Zds (pv 5) (Za (pv 4) Zb))))
   (Zg (ZZ (Z9 (K:=K) rfl (Yw kH Tc Td Zds (pv 5) (Za (pv 4) Zb)))))))))
   (Zg (ZZ (Z9 (K:=K) rfl (Yw kH kR kS ZN (pv 1) (Za (pv 5) Zb))))))))
   (Zg (Zw (pv 1)))))),?_⟩
  have hxl:=hL.len
  refine ⟨(by show 0<=sizeLine;decide),fun e0 he0=>⟨(by show 1<=sizeLine;decide),fun R hR=>?_⟩⟩
  have hRH:H R=none:=(Zi.laid he0).free hR
  have hRe:e0≠R:=Zf (Zc (H:=H) (a:=e0) (o:=.lst [])) hR
  have sm0:Zi H (upd (upd H e0 (.lst [])) R (.lst [.ref e0])):=(Zi.laid he0).step hR
  refine ⟨_,rfl,l,rfl,⟨_,Zr.of (sm0 l _ hl)⟩,JD (K:=K) (a:=l) (xs:=xs) (fun i σ H'=>∃(ys:List V) (v3 v4 v5:Option V),σ = [some (.ref l),some (.ref R),some (.int (rb (ls.take i)).2),v3,v4,v5]/\Zi H H'/\H' R=some (.lst ys)/\YR H' ys (rowsOf ls (i+1))/\(∀t,V.ref t∈ys->H t=none/\t≠R)/\ys.Nodup)
   ⟨[.ref e0],none,none,none,rfl,sm0,Zc,?_,?_,by simp⟩ (fun i σ H' _ ⟨_,_,_,_,_,sm,_⟩=>Zr.of (sm l _ hl)) ?_ ?_⟩
  ·refine Paired.cons ⟨e0,rfl,?_⟩ .nil
   rw [Zh hRe,Zc]
   rfl
  ·intro t ht
   have:t=e0:=V.ref.inj (kZ.mp ht)
   subst this
   exact ⟨he0,hRe⟩
  ·rintro i x σ H' hx ⟨ys,v3,v4,v5,rfl,sm,hR',rv,ap,nd⟩
   obtain ⟨⟨qx,qk⟩,tl,hq,rfl,htl⟩:=hL.get hx
   have htl':=sm tl _ htl
   have hi:i<ls.length:=(kC.mp hq).1
   obtain ⟨ztk,cases3⟩:=Zd9 hW hq
   have rv':=rv
   rw [Zac] at rv'
   obtain ⟨ys0,t,rfl,ht⟩:=rv'.last
   have hyl:(ys0 ++ [V.ref t]).length<sizeLine:=by
    rw [rv.len]
    unfold rowsOf
    rw [ke,qo]
    exact Zv (by lia)
   have rl:((rb (ls.take i)).1.map V.int).length=(rb (ls.take i)).1.length:=ke _
   obtain ⟨m,hm⟩:=W0 hW i
   have r8:(rb (ls.take i)).1.length<=900:=by
    have z1:=U5 hm
    have z2:=Zbr hm
    rw [kM] at z2
    lia
   refine ⟨tl,_,rfl,YX.of htl',rfl,_,_,rfl,_,_,rfl,rfl,?_⟩
   refine ⟨_,rfl,1,rfl,R,_,_,_,rfl,rfl,Zr.of hR',Zbx _ _,t,_,rfl,.inl (Zr.of ht),fun w hw=>?_⟩
   have hwR:w≠R:=(Zf hR' hw).symm
   refine ⟨_,rfl,rfl,_,rfl,?_⟩
   rcases cases3 with ⟨e,b0,b1⟩ | ⟨e,b0,b1⟩ | ⟨e,b0,b1⟩
   ·have e:qx = "born" := e
    subst e
    refine Z7 (fun _=>?_) (fun hn=>absurd (by simp) hn)
    have b0':0<=qk:=b0
    have b1':qk<=((rb (ls.take i)).1.length:Int):=b1
    refine ⟨_,rfl,.inl ⟨rfl,_,Zr.of Zc⟩,_,rfl,_,rfl,_,_,rfl,rfl,w,_,qk,_,rfl,rfl,Zc,b0',(by rw [rl];exact b1'),(by rw [rl];exact Zv (by lia)),(by rw [rl];lia),?_⟩
    have rl2:(((rb (ls.take i)).1.map V.int).take qk.toNat++V.int ((rb (ls.take i)).2+1)::((rb (ls.take i)).1.map V.int).drop qk.toNat).length=(rb (ls.take i)).1.length+1:=by
     rw [kj,KJ,kM,KD,rl]
     lia
    refine ⟨_,rfl,.inl ⟨rfl,_,Zr.of Zc⟩,_,rfl,_,rfl,w,_,qk,_,rfl,rfl,Zc,b0',(by rw [rl2];lia),(by rw [rl2];exact Zv (by lia)),(by rw [rl2];lia),?_⟩
    refine ⟨_,rfl,_,_,rfl,rfl,?_⟩
    rw [Jv,Jv,Zl8 _ _ _ _ (by rw [rl];lia)]
    have hR2:(upd H' w (.lst (((rb (ls.take i)).1.map V.int).take qk.toNat ++ [.int (rb (ls.take i)).2,.int ((rb (ls.take i)).2+1)]++((rb (ls.take i)).1.map V.int).drop qk.toNat))) R=some (.lst (ys0 ++ [.ref t])):=(Zi.laid hw) R _ hR'
    refine ⟨_,rfl,.inl ⟨rfl,_,Zr.of hR2⟩,_,rfl,R,_,_,rfl,rfl,hR2,hyl,?_⟩
    obtain ⟨z1,z2,z3,z4⟩:=W4 (G:=upd (upd H' w (.lst (((rb (ls.take i)).1.map V.int).take qk.toNat ++ [.int (rb (ls.take i)).2,.int ((rb (ls.take i)).2+1)]++((rb (ls.take i)).1.map V.int).drop qk.toNat))) R (.lst ((ys0 ++ [.ref t]) ++ [.ref w]))) hRH sm rv ap nd hw hwR (fun c o e n=>by
      rw [Zh n]
      exact (Zi.laid hw) c _ e) (by
      rw [Zh hwR,Zc,ztk,YF,Wi]
      simp [kP,qX,qY])
    refine ⟨ys0 ++ [.ref t] ++ [.ref w],some (.str "born"),some (.int qk),some (.ref w),?_,z1,Zc,z2,z3,z4⟩
    rw [ztk,YF,Wi]
    rfl
   ·have e:qx = "cross" := e
    subst e
    refine Z7 (fun hn=>absurd (V.str.inj (kE hn)) nb1) (fun _=>?_)
    refine ⟨_,rfl,rfl,_,rfl,?_⟩
    refine Z7 (fun _=>?_) (fun hn=>absurd (by simp) hn)
    obtain ⟨kk,rfl⟩:=kF b0
    have k1:kk+1<(rb (ls.take i)).1.length:=by have b1:(kk:Int)+1<_:=b1;lia
    have ec:((kk:Int)+1)=((kk+1:Nat):Int):=by lia
    have a1:atI ((rb (ls.take i)).1.map V.int) ((kk:Int)+1)=some (V.int ((rb (ls.take i)).1.getD (kk+1) 0)):=by rw [ec];exact Zo (map_getD _ k1)
    have a0:atI ((rb (ls.take i)).1.map V.int) (kk:Int)=some (V.int ((rb (ls.take i)).1.getD kk 0)):=Zo (map_getD _ (by lia))
    refine ⟨_,rfl,_,rfl,_,_,rfl,rfl,w,_,_,_,rfl,rfl,Zr.of Zc,a1,_,rfl,_,rfl,w,_,_,_,rfl,rfl,Zr.of Zc,a0,(by show 2<=sizeLine;decide),fun tt htt=>?_⟩
    have hwt:w≠tt:=Zf (Zc (H:=H') (a:=w)) htt
    refine ⟨tt,_,rfl,YX.of Zc,rfl,_,_,rfl,_,rfl,_,rfl,w,_,_,kk,rfl,rfl,(by rw [Zh hwt];exact Zc),(by rw [rl];exact Y5 (by lia)),?_⟩
    refine ⟨_,_,rfl,_,rfl,_,rfl,_,_,rfl,rfl,w,_,_,kk+1,rfl,rfl,Zc,(by rw [KG,rl,ec];exact Y5 k1),rfl,?_⟩
    rw [Jv,Zij]
    have hR2:(upd (upd (upd H' w (.lst ((rb (ls.take i)).1.map V.int))) tt (.tup [.int ((rb (ls.take i)).1.getD (kk+1) 0),.int ((rb (ls.take i)).1.getD kk 0)])) w (.lst ((Gr (rb (ls.take i)).1 kk).map V.int))) R=some (.lst (ys0 ++ [.ref t])):=by
     rw [Zh (Ko hwR)]
     exact (Zi.laid htt) R _ ((Zi.laid hw) R _ hR')
    refine ⟨_,rfl,.inl ⟨rfl,_,Zr.of hR2⟩,_,rfl,R,_,_,rfl,rfl,hR2,hyl,?_⟩
    obtain ⟨z1,z2,z3,z4⟩:=W4 (G:=upd (upd (upd (upd H' w (.lst ((rb (ls.take i)).1.map V.int))) tt (.tup [.int ((rb (ls.take i)).1.getD (kk+1) 0),.int ((rb (ls.take i)).1.getD kk 0)])) w (.lst ((Gr (rb (ls.take i)).1 kk).map V.int))) R (.lst ((ys0 ++ [.ref t]) ++ [.ref w]))) hRH sm rv ap nd hw hwR (fun c o e n=>by
      rw [Zh n,Zh (Zf e hw)]
      exact (Zi.laid htt) c _ ((Zi.laid hw) c _ e)) (by
      rw [Zh hwR,Zc,ztk,YF,JL]
      rfl)
    refine ⟨ys0 ++ [.ref t] ++ [.ref w],some (.str "cross"),some (.int kk),some (.ref w),?_,z1,Zc,z2,z3,z4⟩
    rw [ztk,YF,JL]
    rfl
   ·have e:qx = "end" := e
    subst e
    refine Z7 (fun hn=>absurd (V.str.inj (kE hn)) nb2) (fun _=>?_)
    refine ⟨_,rfl,rfl,_,rfl,?_⟩
    refine Z7 (fun hn=>absurd (V.str.inj (kE hn)) nb3) (fun _=>?_)
    have b1':qk+1<((rb (ls.take i)).1.length:Int):=b1
    obtain ⟨kk,rfl⟩:=kF b0
    have k1:kk+1<(rb (ls.take i)).1.length:=by lia
    have l1:(((rb (ls.take i)).1.map V.int).eraseIdx kk).length=(rb (ls.take i)).1.length-1:=by rw [List.length_eraseIdx_of_lt (by rw [rl];lia),rl]
    refine ⟨_,rfl,.inl ⟨rfl,_,Zr.of Zc⟩,_,rfl,w,_,_,kk,_,rfl,rfl,Zc,by lia,by lia,(by rw [rl];exact Zd7 (by lia)),map_getD _ (by lia),?_⟩
    obtain ⟨y2,hy2⟩:∃y2,(((rb (ls.take i)).1.map V.int).eraseIdx kk)[kk]? = some y2:=⟨_,kU (by rw [l1];lia)⟩
    refine ⟨_,rfl,.inl ⟨rfl,_,Zr.of Zc⟩,_,rfl,w,_,_,kk,_,rfl,rfl,Zc,by lia,by lia,(by rw [l1];exact Zd7 (by lia)),hy2,?_⟩
    rw [Jv,Jv,ZlS]
    have hR2:(upd H' w (.lst (((rb (ls.take i)).1.map V.int).take kk++((rb (ls.take i)).1.map V.int).drop (kk+2)))) R=some (.lst (ys0 ++ [.ref t])):=(Zi.laid hw) R _ hR'
    refine ⟨_,rfl,.inl ⟨rfl,_,Zr.of hR2⟩,_,rfl,R,_,_,rfl,rfl,hR2,hyl,?_⟩
    obtain ⟨z1,z2,z3,z4⟩:=W4 (G:=upd (upd H' w (.lst (((rb (ls.take i)).1.map V.int).take kk++((rb (ls.take i)).1.map V.int).drop (kk+2)))) R (.lst ((ys0 ++ [.ref t]) ++ [.ref w]))) hRH sm rv ap nd hw hwR (fun c o e n=>by
      rw [Zh n]
      exact (Zi.laid hw) c _ e) (by
      rw [Zh hwR,Zc,ztk,YF,Gz,kI,kP,qX,qY])
    refine ⟨ys0 ++ [.ref t] ++ [.ref w],some (.str "end"),some (.int kk),some (.ref w),?_,z1,Zc,z2,z3,z4⟩
    rw [ztk,YF,Gz]
    rfl
  ·rintro σ H' ⟨ys,v3,v4,v5,rfl,sm,hR',rv,ap,nd⟩
   rw [hxl] at rv
   exact ⟨_,rfl,k R H' ys hRH sm hR' rv ap nd⟩
def Za5 (pr:Str->Bool):Sp:=fun vs H Q _=>∃(l:Addr) (xs:List V) (ls:List (Str×Int)),vs = [.ref l]/\H l=some (.lst xs)/\ZE H xs ls/\ls.length<=60/\(∀p∈ls,Kd p.1) /\ ∀(p:Addr) (H':Hp),H p=none->Zi H H'->H' p=some (.lst ((Yd ls pr ls.length).map V.int))->Q (.ref p) H'
def ZbW:Sp:=fun vs H Q _=>∃(l:Addr) (kd:Str) (xs:List V) (ls:List (Str×Int)),vs = [.ref l,.str kd]/\H l=some (.lst xs)/\ZE H xs ls/\ls.length<=60 /\ ∀(p:Addr) (H':Hp),H p=none->Zi H H'->H' p=some (.lst ((Yd ls (fun x=>decide (x=kd)) ls.length).map V.int))->Q (.ref p) H'
abbrev WW:Stmt:=top 1
theorem ZdM:Zy ["drawing", "kind"] ["drawing", "kind"] (Zj WW):={}
theorem Zg5 {f:Addr}{fd:FuncData} (F:Yy K "letters_of" "letters_of" WW f fd) (ZC:mg "enumerate" = none):Yf P w K mg base Wy 1 f fd ["drawing", "kind"] ZbW:=by
 refine F.ok ZdM (fun vs H Q E h=>?_) (fun cdv A outer s H vs Q E hr h=>?_)
 ·obtain ⟨l,kd,xs,ls,rfl,_⟩:=h
  rfl
 ·obtain ⟨l,kd,xs,ls,rfl,hl,hL,hlen,k⟩:=h
  refine ⟨_,(Zg (Zw (Gi (Ls:=["t", "letter"]) (Fs:=["kind"]) (fi:=[1]) (Z6.of (show YE ["drawing", "kind"] (Zj WW) _ ["kind"] [1]=true by decide +kernel)) rfl (Wg (K:=K) rfl (by rfl) ZC (Za (pv 0) Zb)) (fun cl C s3 H3 ex=>⟨(ZY (K:=K) (n:=2) rfl rfl (Zm (Zk (i:=0) (show ((["t", "letter"]:List Str)++(["kind"]:List Str)).Nodup by decide +kernel) rfl (Or.inl rfl)) (Zm (Zk (i:=1) (show ((["t", "letter"]:List Str)++(["kind"]:List Str)).Nodup by decide +kernel) rfl (Or.inl rfl)) ZQ))),(ZcP (Zt Yp (Zz (Yl (K:=K) rfl) (pv 1) Ze (fun _ _=>rfl)) (pv 2) (Zs _))),(pv 0)⟩)))),?_⟩
  have hxl:=hL.len
  refine ⟨_,rfl,l,rfl,⟨_,Zr.of hl⟩,Zki (xs:=xs) (Kt (Zv (by lia))) (fun i ys H'=>Zi H H'/\ys=(Yd ls (fun x=>decide (x=kd)) i).map V.int) ⟨Zi.refl _,rfl⟩
   (fun i ys H' p=>by rw [p.2,ke];exact Wq _ _ _) (fun i ys H' p=>Zr.of (p.1 l _ hl)) (fun i x p ys H' hx pv hp=>?_) (fun ys H' pv D hD=>?_)⟩
  ·obtain ⟨sm,rfl⟩:=pv
   obtain ⟨q,t,hq,rfl,ht⟩:=hL.get hx
   have ht':(upd H' p (.tup [.int i,.ref t])) t=some (.tup [.str q.1,.int q.2]):=by rw [Zh (Zf (sm t _ ht) hp)];exact sm t _ ht
   refine ⟨p,_,rfl,YX.of Zc,rfl,_,_,rfl,_,_,rfl,rfl,?_⟩
   refine ⟨_,rfl,t,_,_,_,rfl,rfl,YX.of ht',Zo (j:=0) rfl,_,rfl,rfl,_,rfl,?_⟩
   refine Z7 (fun hc=>?_) (fun hc=>?_)
   ·have e:q.1=kd:=V.str.inj (kE hc)
    exact ⟨_,rfl,sm.step hp,ZfT hq (by simpa using e)⟩
   ·have e:¬q.1=kd:=fun z=>hc (kG (Ks V.str z))
    exact ⟨sm.step hp,Zhx hq (by simpa using e)⟩
  ·obtain ⟨sm,rfl⟩:=pv
   rw [hxl]
   exact k D _ (sm.free hD) (sm.step hD) Zc
abbrev Zb3:Stmt:=top 2
theorem Zho:Zy ["drawing"] ["drawing"] (Zj Zb3):={}
theorem Zln {f:Addr}{fd:FuncData} (F:Yy K "ends_of" "ends_of" Zb3 f fd) (Ui:Ys P w K mg base 1 "letters_of" ["drawing", "kind"] ZbW):Yf P w K mg base Wy 2 f fd ["drawing"] (Za5 fun x=>decide (x = "end")):=by
 refine F.ok Zho (fun vs H Q E h=>?_) (fun cdv A outer s H vs Q E hr h=>?_)
 ·obtain ⟨l,xs,ls,rfl,_⟩:=h
  rfl
 ·obtain ⟨l,xs,ls,rfl,hl,hL,hlen,_,k⟩:=h
  refine ⟨_,(Zg (Zw (Zq Ui hr (Za (pv 0) (Za ZG Zb))))),?_⟩
  exact ⟨_,rfl,l,_,xs,ls,rfl,hl,hL,hlen,k⟩
abbrev Us:Stmt:=top 3
theorem ZfJ:Zy ["drawing"] ["drawing"] (Zj Us):={}
theorem Zjt {f:Addr}{fd:FuncData} (F:Yy K "names_of" "names_of" Us f fd) (ZC:mg "enumerate" = none):Yf P w K mg base Wy 1 f fd ["drawing"] (Za5 fun x=>!decide (x = "born")):=by
 refine F.ok ZfJ (fun vs H Q E h=>?_) (fun cdv A outer s H vs Q E hr h=>?_)
 ·obtain ⟨l,xs,ls,rfl,_⟩:=h
  rfl
 ·obtain ⟨l,xs,ls,rfl,hl,hL,hlen,_,k⟩:=h
  refine ⟨_,(Zg (Zw (Gi (Ls:=["t", "letter"]) (Fs:=[]) (fi:=[]) (Z6.of (show YE ["drawing"] (Zj Us) _ [] []=true by decide +kernel)) rfl (Wg (K:=K) rfl (by rfl) ZC (Za (pv 0) Zb)) (fun cl C s3 H3 ex=>⟨(ZY (K:=K) (n:=2) rfl rfl (Zm (Zk (i:=0) (show ((["t", "letter"]:List Str)++([]:List Str)).Nodup by decide +kernel) rfl (Or.inl rfl)) (Zm (Zk (i:=1) (show ((["t", "letter"]:List Str)++([]:List Str)).Nodup by decide +kernel) rfl (Or.inl rfl)) ZQ))),(ZcP (Zt Zeo (Zz (Yl (K:=K) rfl) (pv 1) Ze (fun _ _=>rfl)) ZG (Zs _))),(pv 0)⟩)))),?_⟩
  have hxl:=hL.len
  refine ⟨_,rfl,l,rfl,⟨_,Zr.of hl⟩,Zki (xs:=xs) (Kt (Zv (by lia))) (fun i ys H'=>Zi H H'/\ys=(Yd ls (fun x=>!decide (x = "born")) i).map V.int) ⟨Zi.refl _,rfl⟩
   (fun i ys H' p=>by rw [p.2,ke];exact Wq _ _ _) (fun i ys H' p=>Zr.of (p.1 l _ hl)) (fun i x p ys H' hx pv hp=>?_) (fun ys H' pv D hD=>?_)⟩
  ·obtain ⟨sm,rfl⟩:=pv
   obtain ⟨q,t,hq,rfl,ht⟩:=hL.get hx
   have ht':(upd H' p (.tup [.int i,.ref t])) t=some (.tup [.str q.1,.int q.2]):=by rw [Zh (Zf (sm t _ ht) hp)];exact sm t _ ht
   refine ⟨p,_,rfl,YX.of Zc,rfl,_,_,rfl,_,_,rfl,rfl,?_⟩
   refine ⟨_,rfl,t,_,_,_,rfl,rfl,YX.of ht',Zo (j:=0) rfl,rfl,_,rfl,?_⟩
   refine Z7 (fun hc=>?_) (fun hc=>?_)
   ·have e:¬q.1 = "born" := fun z=>by
     have:(!decide (V.str q.1=V.str "born"))=true:=hc
     rw [kG (Ks V.str z)] at this
     cases this
    exact ⟨_,rfl,sm.step hp,ZfT hq (by simpa using e)⟩
   ·have e:q.1 = "born" := by
     by_cases z:q.1 = "born"
     ·exact z
     ·exact absurd (show (!decide (V.str q.1=V.str "born"))=true by rw [Kn (fun y=>z (V.str.inj y))];rfl) hc
    exact ⟨sm.step hp,Zhx hq (by simpa using e)⟩
  ·obtain ⟨sm,rfl⟩:=pv
   rw [hxl]
   exact k D _ (sm.free hD) (sm.step hD) Zc
theorem Zin {H:Hp}:∀{xs:List V}{ls:List (Str×Int)}{i:Nat}{q:Str×Int},ZE H xs ls->ls[i]? = some q -> ∃t,xs[i]? = some (.ref t)/\H t=some (.tup [.str q.1,.int q.2])
 | _,_,_,_,.nil,e=>by simp at e
 | _,_,0,_,.cons ⟨t,e1,q⟩ _,e=>by simp at e;subst e;exact ⟨t,by simp [e1],q⟩
 | _,_,i+1,q,.cons _ r,e=>by
  obtain ⟨t,h1,h2⟩:=Zin (i:=i) (q:=q) r (by simpa using e)
  exact ⟨t,by simpa using h1,h2⟩
def ZcL:Sp:=fun vs H Q _=>∃(l n:Addr) (xs:List V) (ls:List (Str×Int)) (ns:List Int),vs = [.ref l,.ref n]/\H l=some (.lst xs)/\ZE H xs ls/\ls.length<=60/\Wk ls 0/\H n=some (.lst (ns.map V.int))/\ns.length<=60/\(∀t∈ns,0<=t /\ ∃q,ls[t.toNat]? = some q/\q.1 ≠ "born") /\
 ∀(p:Addr) (H':Hp) (ys:List V),H p=none->Zi H H'->H' p=some (.lst ys)->JA H' ys (ns.map fun t=>YW ls t.toNat)->Q (.ref p) H'
abbrev GD:Stmt:=top 9
theorem Jp:Zy ["drawing", "numbers", "rows", "found", "t", "k"] ["drawing", "numbers"] (Zj GD):={}
theorem ZkJ {f:Addr}{fd:FuncData} (F:Yy K "pairs_ahead" "pairs_ahead" GD f fd) (Zb4:Ys P w K mg base 1 "threads" ["drawing"] UY):Yf P w K mg base Wy 2 f fd ["drawing", "numbers"] ZcL:=by
 refine F.ok Jp (fun vs H Q E h=>?_) (fun cdv A outer s H vs Q E hr h=>?_)
 ·obtain ⟨l,n,xs,ls,ns,rfl,_⟩:=h
  rfl
 ·obtain ⟨l,n,xs,ls,ns,rfl,hl,hL,hlen,hW,hn,hnl,hns,k⟩:=h
  refine ⟨_,(Zd (Zn (i:=2) Jp.nd rfl (Or.inl rfl) (Zq Zb4 hr (Za (pv 0) Zb)))
   (Zd (Zn (i:=3) Jp.nd rfl (Or.inl rfl) (ZD Zb))
   (Zd (Yi k8 rfl (ZV (K:=K) rfl (pv 1)) (Zk (i:=4) Jp.nd rfl (Or.inl rfl)) (Zd (Zn (i:=5) Jp.nd rfl (Or.inl rfl) (Zz (Yl (K:=K) rfl) (Zz (Zp (K:=K) rfl) (pv 0) (pv 4) (fun _ _=>rfl)) Ze (fun _ _=>rfl)))
   (Zg (ZZ (Z9 (K:=K) rfl (Yw kH kR kS ZN (pv 3) (Za (ZH (Za (Zz (Zp (K:=K) rfl) (Zz (Zp (K:=K) rfl) (pv 2) (pv 4) (fun _ _=>rfl)) (pv 5) (fun _ _=>rfl)) (Za (Zz (Zp (K:=K) rfl) (Zz (Zp (K:=K) rfl) (pv 2) (pv 4) (fun _ _=>rfl)) (Zl ZA (pv 5) Ze) (fun _ _=>rfl)) Zb))) Zb)))))))
   (Zg (Zw (pv 3)))))),?_⟩
  refine ⟨_,rfl,l,xs,ls,rfl,hl,hL,hlen,hW,fun R H1 ys fR s1 eR rv ap nd=>?_⟩
  refine ⟨(by show 0<=sizeLine;decide),fun fA hfA=>?_⟩
  have hl1:=s1 l _ hl
  have hL1:=hL.same s1
  have hn1:=s1 n _ hn
  refine ⟨_,rfl,n,rfl,⟨_,Zr.of ((Zi.laid hfA) n _ hn1)⟩,JD (K:=K) (a:=n) (xs:=ns.map V.int) (fun i σ H'=>∃(zs:List V) (v4 v5:Option V),σ = [some (.ref l),some (.ref n),some (.ref R),some (.ref fA),v4,v5]/\Zi H1 H'/\H' fA=some (.lst zs)/\JA H' zs ((ns.take i).map fun t=>YW ls t.toNat))
   ⟨[],none,none,rfl,Zi.laid hfA,Zc,.nil⟩ (fun i σ H' _ ⟨_,_,_,_,sm,_⟩=>Zr.of (sm n _ hn1)) ?_ ?_⟩
  ·rintro i x σ H' hx ⟨zs,v4,v5,rfl,sm,hf,pv⟩
   obtain ⟨t,ht,rfl⟩:=J9 hx
   obtain ⟨t0,⟨qx,qk⟩,hq,hb⟩:=hns t (kY ht)
   obtain ⟨tn,rfl⟩:=kF t0
   rw [kI] at hq
   have htl:tn<ls.length:=(kC.mp hq).1
   obtain ⟨k0,k1,pe⟩:=Zgf hW hq hb
   obtain ⟨kn,rfl⟩:=kF (show 0<=qk from k0)
   simp only [kI] at k1 pe
   obtain ⟨ta,hxt,hta⟩:=Zin hL1 hq
   obtain ⟨ra,hra,hrr⟩:=rv.at (Zay ls (i:=tn) (n:=ls.length+1) (by lia))
   have e1:((kn:Int)+1)=((kn+1:Nat):Int):=by lia
   refine ⟨_,rfl,_,rfl,l,_,_,_,rfl,rfl,Zr.of (sm l _ hl1),Zo hxt,ta,_,_,_,rfl,rfl,YX.of (sm ta _ hta),Zo (j:=1) rfl,?_⟩
   refine ⟨_,rfl,.inl ⟨rfl,_,Zr.of hf⟩,_,rfl,_,rfl,R,_,_,_,rfl,rfl,Zr.of (sm R _ eR),Zo hra,_,rfl,ra,_,_,_,rfl,rfl,Zr.of (sm ra _ hrr),Zo (map_getD _ (by lia)),?_⟩
   refine ⟨_,rfl,_,rfl,R,_,_,_,rfl,rfl,Zr.of (sm R _ eR),Zo hra,_,rfl,_,_,rfl,rfl,ra,_,_,_,rfl,rfl,Zr.of (sm ra _ hrr),(by rw [e1];exact Zo (map_getD _ k1)),(by show 2<=sizeLine;decide),fun tt htt=>?_⟩
   have hft:fA≠tt:=Zf hf htt
   have zl:zs.length<sizeLine:=by
    rw [pv.len,ke,kM]
    exact Zv (by lia)
   refine ⟨fA,_,_,rfl,rfl,(by rw [Zh hft];exact hf),zl,?_⟩
   refine ⟨zs ++ [.ref tt],some (.int tn),some (.int kn),rfl,(sm.step htt).put hfA,Zc,?_⟩
   rw [Y9 _ ht]
   refine JA.snoc (pv.mono fun a p e=>?_) ?_
   ·rw [Zh (Wr e hf (by intro z;cases z)),Zh (Zf e htt)]
    exact e
   ·rw [Zh (Ko hft),Zc,kI,pe]
  ·rintro σ H' ⟨zs,v4,v5,rfl,sm,hf,pv⟩
   refine ⟨_,rfl,k fA H' zs (s1.free hfA) (s1.trans sm) hf ?_⟩
   rw [ke,kJ (ki _)] at pv
   exact pv
def Zfu:Sp:=fun vs H Q _=>∃(l:Addr) (xs:List V) (ls:List (Str×Int)),vs = [.ref l]/\H l=some (.lst xs)/\ZE H xs ls/\ls.length<=60/\Wk ls 0 /\
 ∀(p:Addr) (H':Hp) (ys:List V),H p=none->Zi H H'->H' p=some (.lst ys)->JA H' ys (YZ ls)->Q (.ref p) H'
abbrev Zah:Stmt:=top 10
theorem ZeR:Zy ["drawing"] ["drawing"] (Zj Zah):={}
theorem Zfm {f:Addr}{fd:FuncData} (F:Yy K "end_pairs" "end_pairs" Zah f fd) (Y8:Ys P w K mg base 2 "pairs_ahead" ["drawing", "numbers"] ZcL) (Jr:Ys P w K mg base 2 "ends_of" ["drawing"] (Za5 fun x=>decide (x = "end"))):Yf P w K mg base Wy 3 f fd ["drawing"] Zfu:=by
 refine F.ok ZeR (fun vs H Q E h=>?_) (fun cdv A outer s H vs Q E hr h=>?_)
 ·obtain ⟨l,xs,ls,rfl,_⟩:=h
  rfl
 ·obtain ⟨l,xs,ls,rfl,hl,hL,hlen,hW,k⟩:=h
  refine ⟨_,(Zg (Zw (Zq Y8 hr (Za (pv 0) (Za (Zq Jr hr (Za (pv 0) Zb)) Zb))))),?_⟩
  refine ⟨_,rfl,_,rfl,l,xs,ls,rfl,hl,hL,hlen,hW.kd,fun n H1 hn s1 e1=>?_⟩
  refine ⟨l,n,xs,ls,Yd ls GW ls.length,rfl,s1 l _ hl,hL.same s1,hlen,hW,e1,k9 (Wq _ _ _) hlen,fun t ht=>?_,fun p H2 ys hp s2 e2 pv=>k p H2 ys (s1.free hp) (s1.trans s2) e2 pv⟩
  obtain ⟨a,_,q,hq,z⟩:=Zgm ht
  refine ⟨a,q,hq,fun z2=>?_⟩
  have z:q.1 = "end" := kE z
  rw [z2] at z
  exact nb2 z.symm
def Zlt:Sp:=fun vs H Q _=>∃x:Int,vs = [.int x]/\0<=x/\Q (.int (bw x)) H
abbrev UU:Stmt:=top 11
theorem ZeQ:Zy ["thread"] ["thread"] (Zj UU):={}
theorem Zoy {f:Addr}{fd:FuncData} (F:Yy K "born_with" "born_with" UU f fd):Yf P w K mg base Wy 1 f fd ["thread"] Zlt:=by
 refine F.ok ZeQ (fun vs H Q E h=>?_) (fun cdv A outer s H vs Q E hr h=>?_)
 ·obtain ⟨x,rfl,_⟩:=h
  rfl
 ·obtain ⟨x,rfl,h0,k⟩:=h
  refine ⟨_,(Zg (Zw (Zl Znc (pv 0) Ze))),?_⟩
  refine ⟨_,rfl,_,_,rfl,rfl,?_⟩
  show Q (.int (Builtin.bitXor x 1)) H
  rw [ZnM h0]
  exact k
def tab {α:Type} (N:Nat) (g:Int -> α):List α:=(List.range N).map fun (x:Nat)=>g (x:Int)
theorem WO {α:Type} (N:Nat) (g:Int -> α):(tab N g).length=N:=by simp [tab]
theorem Zfo {α:Type}{N:Nat} (g:Int -> α) {j:Nat} (h:j<N):(tab N g)[j]? = some (g (j:Int)):=by
 unfold tab
 rw [kz]
 simp [h]
theorem Y7 {α:Type}{N:Nat}{g g':Int -> α} (h:∀x:Int,0<=x->x<(N:Int)->g x=g' x):tab N g=tab N g':=by
 unfold tab
 refine List.map_congr_left fun x hx=>?_
 have:=K9.mp hx
 exact h x (by lia) (by lia)
theorem ZbJ {α:Type}{N:Nat} (g:Int -> α) (j:Nat) (v:α):(tab N g).set j v=tab N (fun x=>if x=(j:Int) then v else g x):=by
 apply T7
 intro i
 rw [KZ,WO]
 by_cases hi:i<N
 ·rw [Zfo _ hi,Zfo _ hi]
  by_cases e:j=i
  ·subst e;simp [hi]
  ·rw [kg e,kg (by lia)]
 ·rw [show (tab N g)[i]? = none from T2.mpr (by rw [WO];lia),show (tab N (fun x=>if x=(j:Int) then v else g x))[i]? = none from T2.mpr (by rw [WO];lia)]
  by_cases e:j=i
  ·subst e;rw [kh rfl,kg hi]
  ·rw [kg e]
theorem Za7 {α β:Type} (N:Nat) (g:Int -> α) (f:α -> β):(tab N g).map f=tab N (fun x=>f (g x)):=by
 unfold tab
 rw [NO]
 rfl
theorem Zat {α:Type} (N:Nat) (v:α):(List.replicate N [v]).flatten=tab N (fun _=>v):=by
 unfold tab
 induction N with
 | zero=>rfl
 | succ n ih=>rw [qC,qK,ih,KN,kP];simp
theorem Zdz:∀{ps:List (Int×Int)}{u l x:Int},u∉ZI ps->l∉ZI ps->u≠l->Jl (ps ++ [(u,l)]) x=if x=l then u else if x=u then l else Jl ps x
 | [],u,l,x,_,_,ne=>by
  simp only [Xq,Jl]
  by_cases h1:x=u
  ·subst h1;simp [ne]
  ·simp [h1]
 | p::r,u,l,x,hu,hl,ne=>by
  have e:ZI (p::r)=p.1::p.2::ZI r:=by simp [ZI]
  rw [e] at hu hl
  simp only [kL,not_or] at hu hl
  have ih:=Zdz (x:=x) hu.2.2 hl.2.2 ne
  simp only [Nx,Jl,ih]
  by_cases h1:x=p.1
  ·subst h1;simp [Ko hu.1,Ko hl.1]
  ·by_cases h2:x=p.2
   ·subst h2;simp [h1,Ko hu.2.1,Ko hl.2.1]
   ·simp [h1,h2]
theorem Zg4 {ps:List (Int×Int)}{i:Nat}{p:Int×Int} (h:ps[i]? = some p):ZI (ps.take (i+1))=ZI (ps.take i) ++ [p.1,p.2]:=by
 rw [Kh,h,YY]
 simp [ZI]
theorem ZkS {ps:List (Int×Int)} (nd:(ZI ps).Nodup) {i:Nat}{p:Int×Int} (h:ps[i]? = some p):p.1∉ZI (ps.take i)/\p.2∉ZI (ps.take i)/\p.1≠p.2:=by
 have e:ps=ps.take (i+1)++ps.drop (i+1):=(KW _ _).symm
 rw [e,YY,Zg4 h] at nd
 have nd:=(qm.mp nd).1
 obtain ⟨_,n2,n3⟩:=qm.mp nd
 refine ⟨fun z=>n3 _ z _ (by simp) rfl,fun z=>n3 _ z _ (by simp) rfl,?_⟩
 have:=Kx.mp n2
 simpa using this.1
theorem ZhQ {ls:List (Str×Int)} (hW:Wk ls 0) {p:Int×Int} (h:p∈YZ ls):(0<=p.1/\p.1<(Jc ls:Int))/\(0<=p.2/\p.2<(Jc ls:Int)):=
 ⟨YM.mp ((Wu hW).mem_iff.mp (Kz.mpr ⟨p,h,by simp⟩)),YM.mp ((Wu hW).mem_iff.mp (Kz.mpr ⟨p,h,by simp⟩))⟩
theorem Zd5 {ls:List (Str×Int)} (hW:Wk ls 0):(ZI (YZ ls)).Nodup:=(Wu hW).nodup_iff.mpr (Gj _)
def Zfr:Sp:=fun vs H Q _=>∃(l:Addr) (xs:List V) (ls:List (Str×Int)),vs = [.ref l]/\H l=some (.lst xs)/\ZE H xs ls/\ls.length<=60/\Wk ls 0 /\
 ∀(p:Addr) (H':Hp),H p=none->Zi H H'->H' p=some (.lst ((tab (Jc ls) (Jl (YZ ls))).map V.int))->Q (.ref p) H'
abbrev Zaa:Stmt:=top 12
theorem J1:Zy ["drawing", "pairs", "mates", "upper", "lower"] ["drawing"] (Zj Zaa):={}
theorem Zj9 {f:Addr}{fd:FuncData} (F:Yy K "end_mates" "end_mates" Zaa f fd) (JK:Ys P w K mg base 3 "end_pairs" ["drawing"] Zfu) (Yn:mg "len" = none):Yf P w K mg base Wy 4 f fd ["drawing"] Zfr:=by
 refine F.ok J1 (fun vs H Q E h=>?_) (fun cdv A outer s H vs Q E hr h=>?_)
 ·obtain ⟨l,xs,ls,rfl,_⟩:=h
  rfl
 ·obtain ⟨l,xs,ls,rfl,hl,hL,hlen,hW,k⟩:=h
  refine ⟨_,(Zd (Zn (i:=1) J1.nd rfl (Or.inl rfl) (Zq JK hr (Za (pv 0) Zb)))
   (Zd (Zn (i:=2) J1.nd rfl (Or.inl rfl) (Zl ZaZ (ZD (Za Ze Zb)) (Zl WD Ze (Zx (YA (K:=K) rfl) (by rfl) Yn qa (Za (pv 1) Zb)))))
   (Zd (Yi k8 rfl (ZV (K:=K) rfl (pv 1)) (ZY (K:=K) (n:=2) rfl rfl (Zm (Zk (i:=3) J1.nd rfl (Or.inl rfl)) (Zm (Zk (i:=4) J1.nd rfl (Or.inl rfl)) ZQ))) (Zd (Yj (pv 4) (Yv (pv 2) (pv 3) set_list))
   (Zg (Yj (pv 3) (Yv (pv 2) (pv 4) set_list)))))
   (Zg (Zw (pv 2)))))),?_⟩
  refine ⟨_,rfl,l,xs,ls,rfl,hl,hL,hlen,hW,fun pA H1 ys fp s1 ep pv=>?_⟩
  have n120:=J8 hlen
  have yl:2*ys.length=Jc ls:=by rw [pv.len];rfl
  refine ⟨(by show 1<=sizeLine;decide),fun l0 hl0=>?_⟩
  have ep0:=(Zi.laid (o:=.lst [.int 0]) hl0) pA _ ep
  refine ⟨_,rfl,pA,_,rfl,.inl (Zr.of ep0),_,_,rfl,rfl,.inl ⟨by decide,by decide⟩,?_⟩
  have e2:((2:Int)*(ys.length:Int))=((Jc ls:Nat):Int):=by lia
  refine ⟨l0,_,_,rfl,rfl,Zc,by lia,by lia,?_,fun mA hmA=>?_⟩
  ·rw [e2]
   show 1*_<=sizeLine
   exact Kt (Zv (by lia))
  have hm1:H1 mA=none:=(Zi.laid hl0).free hmA
  have sm1:Zi H1 (upd (upd H1 l0 (.lst [.int 0])) mA (.lst (List.replicate ((2:Int)*(ys.length:Int)).toNat [V.int 0]).flatten)):=(Zi.laid hl0).step hmA
  refine ⟨_,rfl,pA,rfl,⟨_,Zr.of (sm1 pA _ ep)⟩,JD (K:=K) (a:=pA) (xs:=ys) (fun i σ H'=>∃(v3 v4:Option V),σ = [some (.ref l),some (.ref pA),some (.ref mA),v3,v4]/\Zi H1 H'/\H' mA=some (.lst ((tab (Jc ls) (Jl ((YZ ls).take i))).map V.int)))
   ⟨none,none,rfl,sm1,?_⟩ (fun i σ H' _ ⟨_,_,_,sm,_⟩=>Zr.of (sm pA _ ep)) ?_ ?_⟩
  ·rw [Zc,e2,kI,Zat,Za7]
   rfl
  ·rintro i x σ H' hx ⟨v3,v4,rfl,sm,hm⟩
   obtain ⟨p,t,hp,rfl,ht⟩:=pv.get hx
   obtain ⟨u,lw⟩:=p
   obtain ⟨⟨d1,d2⟩,d3,d4⟩:=ZhQ hW (kY hp)
   obtain ⟨n1,n2,n3⟩:=ZkS (Zd5 hW) hp
   obtain ⟨un,rfl⟩:=kF (show 0<=u from d1)
   obtain ⟨wn,rfl⟩:=kF (show 0<=lw from d3)
   have d2:(un:Int)<_:=d2
   have d4:(wn:Int)<_:=d4
   refine ⟨t,_,rfl,YX.of (sm t _ ht),rfl,_,_,rfl,_,_,rfl,rfl,?_⟩
   refine ⟨_,rfl,_,rfl,_,rfl,mA,_,_,un,rfl,rfl,hm,(by rw [ke,WO];exact Y5 (by lia)),?_⟩
   refine ⟨_,rfl,_,rfl,_,rfl,mA,_,_,wn,rfl,rfl,Zc,(by rw [KG,ke,WO];exact Y5 (by lia)),?_⟩
   refine ⟨some (.int un),some (.int wn),rfl,(sm.put hm1).put hm1,?_⟩
   rw [Zc,<- qL,<- qL,ZbJ,ZbJ,Kh,hp]
   congr 2
   refine Ks (List.map V.int) (Y7 fun x _ _=>?_)
   rw [show (some ((un:Int),(wn:Int))).toList = [((un:Int),(wn:Int))] from rfl,Zdz n1 n2 n3]
  ·rintro σ H' ⟨v3,v4,rfl,sm,hm⟩
   refine ⟨_,rfl,k mA H' (s1.free hm1) (s1.trans sm) ?_⟩
   rw [pv.len,kJ (ki _)] at hm
   exact hm
theorem ZaB {N:Nat} (m:Int->Int) {x:Int} (h0:0<=x) (h1:x<(N:Int)):atI ((tab N m).map V.int) x=some (V.int (m x)):=by
 obtain ⟨n,rfl⟩:=kF h0
 refine Zo ?_
 rw [kz,Zfo _ (by lia)]
 rfl
def Zhc:Sp:=fun vs H Q _=>∃(f:Int) (mA:Addr) (m:Int->Int) (N:Nat),vs = [.int f,.ref mA]/\H mA=some (.lst ((tab N m).map V.int))/\JM m N/\N<=200/\0<=f/\f<(N:Int) /\
 ∀(p:Addr) (H':Hp) (T:List Int),H p=none->Zi H H'->H' p=some (.lst (T.map V.int))->Jd m f T->Q (.ref p) H'
abbrev UZ:Stmt:=top 13
theorem Uu:Zy ["first", "mates", "tour", "onward"] ["first", "mates"] (Zj UZ):={}
theorem Zl2 {f:Addr}{fd:FuncData} (F:Yy K "tour_from" "tour_from" UZ f fd) (Ji:Ys P w K mg base 1 "born_with" ["thread"] Zlt):Yf P w K mg base Wy 2 f fd ["first", "mates"] Zhc:=by
 refine F.ok Uu (fun vs H Q E h=>?_) (fun cdv A outer s H vs Q E hr h=>?_)
 ·obtain ⟨f,mA,m,N,rfl,_⟩:=h
  rfl
 ·obtain ⟨f,mA,m,N,rfl,hm,M,hN,h0,h1,k⟩:=h
  refine ⟨_,(Zd (Zn (i:=2) Uu.nd rfl (Or.inl rfl) (ZD (Za (pv 0) (Za (Zz (Zp (K:=K) rfl) (pv 1) (pv 0) (fun _ _=>rfl)) Zb))))
   (Zd (ZbB k8 (Zt Zeo (Zq Ji hr (Za (Zz (Zp (K:=K) rfl) (pv 2) (Zcj US Ze) (fun _ _=>rfl)) Zb)) (pv 0) (Zs _)) (Zd (Zn (i:=3) Uu.nd rfl (Or.inl rfl) (Zq Ji hr (Za (Zz (Zp (K:=K) rfl) (pv 2) (Zcj US Ze) (fun _ _=>rfl)) Zb)))
   (Zd (ZZ (Z9 (K:=K) rfl (Yw kH kR kS ZN (pv 2) (Za (pv 3) Zb))))
   (Zg (ZZ (Z9 (K:=K) rfl (Yw kH kR kS ZN (pv 2) (Za (Zz (Zp (K:=K) rfl) (pv 1) (pv 3) (fun _ _=>rfl)) Zb))))))))
   (Zg (Zw (pv 2))))),?_⟩
  have dom:=YH M h0 h1
  have mdom:∀i,0<=m (gt m f i)/\m (gt m f i)<N:=fun i=>⟨M.lo _ (dom i).1 (dom i).2,M.hi _ (dom i).1 (dom i).2⟩
  have ol:∀i,(Wv m f (i+1)).map V.int=((Wv m f i).map V.int ++ [V.int (gt m f i)]) ++ [V.int (m (gt m f i))]:=fun i=>by simp [Wv]
  refine ⟨_,rfl,_,rfl,_,rfl,mA,_,_,_,rfl,rfl,Zr.of hm,ZaB m h0 h1,(by show 2<=sizeLine;decide),fun tA htA=>?_⟩
  refine ⟨fun mm σ H'=>∃(i:Nat) (v3:Option V),mm+i=N /\ σ = [some (.int f),some (.ref mA),some (.ref tA),v3]/\Zi H H'/\H' tA=some (.lst ((Wv m f (i+1)).map V.int))/\(∀j,1<=j->j<i+1->gt m f j≠f),
   ⟨N,0,none,rfl,rfl,Zi.laid htA,Zc,fun j a b=>by lia⟩,?_⟩
  rintro mm σ H' ⟨i,v3,hi,rfl,sm,ht,nf⟩
  have short:=GS M h0 h1 nf
  refine ⟨_,rfl,1,rfl,tA,_,_,V.int (m (gt m f i)),rfl,rfl,Zr.of ht,(by rw [ol];exact Zbx _ _),_,rfl,(mdom i).1,_,rfl,rfl,_,rfl,?_⟩
  refine Z7 (fun hc=>?_) (fun hc=>?_)
  ·have ne:gt m f (i+1)≠f:=fun z=>by
    have hc:(!decide (V.int (bw (m (gt m f i)))=V.int f))=true:=hc
    rw [kG (show V.int (bw (m (gt m f i)))=V.int f from Ks V.int z)] at hc
    cases hc
   have nf':∀j,1<=j->j<i+2->gt m f j≠f:=fun j a b=>by
    by_cases e:j=i+1
    ·rw [e];exact ne
    ·exact nf j a (by lia)
   have short2:=GS M h0 h1 nf'
   refine ⟨fun σ' H''=>∃v3:Option V,σ' = [some (.int f),some (.ref mA),some (.ref tA),v3]/\Zi H H''/\H'' tA=some (.lst ((Wv m f (i+2)).map V.int)),fun σ' H'' ⟨v,e,a,b⟩=>⟨mm-1,by lia,i+1,v,by lia,e,a,b,nf'⟩,?_⟩
   refine ⟨_,rfl,1,rfl,tA,_,_,V.int (m (gt m f i)),rfl,rfl,Zr.of ht,(by rw [ol];exact Zbx _ _),_,rfl,(mdom i).1,?_⟩
   refine ⟨_,rfl,.inl ⟨rfl,_,Zr.of ht⟩,_,rfl,tA,_,_,rfl,rfl,ht,(by rw [ke,We];exact Zv (by lia)),?_⟩
   have hma:tA≠mA:=fun z=>by rw [z,hm] at htA;cases htA
   refine ⟨_,rfl,.inl ⟨rfl,_,Zr.of Zc⟩,_,rfl,_,rfl,mA,_,_,_,rfl,rfl,Zr.of (by rw [Zh (Ko hma)];exact sm mA _ hm),ZaB m (dom (i+1)).1 (dom (i+1)).2,tA,_,_,rfl,rfl,Zc,(by rw [kj,ke,We];exact Zv (by show _+1<=1000;lia)),?_⟩
   refine ⟨_,rfl,(sm.put htA).put htA,?_⟩
   rw [Zc,ol (i+1)]
   rfl
  ·have e:gt m f (i+1)=f:=by
    by_cases z:gt m f (i+1)=f
    ·exact z
    ·exact absurd (show (!decide (V.int (gt m f (i+1))=V.int f))=true by rw [Kn (fun y=>z (V.int.inj y))];rfl) hc
   exact ⟨_,rfl,k tA H' (Wv m f (i+1)) htA sm ht ⟨i+1,by lia,e,nf,rfl⟩⟩
def ZcO:Sp:=fun vs H Q _=>∃(l:Addr) (xs:List V) (ls:List (Str×Int)),vs = [.ref l]/\H l=some (.lst xs)/\ZE H xs ls/\ls.length<=60/\Wk ls 0 /\
 ∀(p:Addr) (H':Hp) (ys:List V) (ts:List (List Int)),H p=none->Zi H H'->H' p=some (.lst ys)->YR H' ys ts->(∀t,V.ref t∈ys->H t=none)->GL (Jl (YZ ls)) (Jc ls) ts->Q (.ref p) H'
theorem Zf0 {N:Nat} (g:Int->V) {x:Int} (h0:0<=x) (h1:x<(N:Int)):atI (tab N g) x=some (g x):=by
 obtain ⟨n,rfl⟩:=kF h0
 exact Zo (Zfo _ (by lia))
abbrev Zfg:Stmt:=top 14
theorem Ge:Zy ["drawing", "mates", "gone", "found", "first", "tour", "thread"] ["drawing"] (Zj Zfg):={}
theorem Zjm {f:Addr}{fd:FuncData} (F:Yy K "tours" "tours" Zfg f fd) (U3:Ys P w K mg base 4 "end_mates" ["drawing"] Zfr) (UW:Ys P w K mg base 2 "tour_from" ["first", "mates"] Zhc) (Yn:mg "len" = none) (ZR:mg "range" = none):Yf P w K mg base Wy 5 f fd ["drawing"] ZcO:=by
 refine F.ok Ge (fun vs H Q E h=>?_) (fun cdv A outer s H vs Q E hr h=>?_)
 ·obtain ⟨l,xs,ls,rfl,_⟩:=h
  rfl
 ·obtain ⟨l,xs,ls,rfl,hl,hL,hlen,hW,k⟩:=h
  have n120:=J8 hlen
  have M:=J5 hW
  generalize hm':Jl (YZ ls)=m at *
  generalize hn':Jc ls=N at *
  refine ⟨_,(Zd (Zn (i:=1) Ge.nd rfl (Or.inl rfl) (Zq U3 hr (Za (pv 0) Zb)))
   (Zd (Zn (i:=2) Ge.nd rfl (Or.inl rfl) (Zl ZaZ (ZD (Za Gk Zb)) (Zx (YA (K:=K) rfl) (by rfl) Yn qa (Za (pv 1) Zb))))
   (Zd (Zn (i:=3) Ge.nd rfl (Or.inl rfl) (ZD Zb))
   (Zd (Yi k8 rfl (YI (by rfl) ZR (Za (Zx (YA (K:=K) rfl) (by rfl) Yn qa (Za (pv 1) Zb)) Zb)) (Zk (i:=4) Ge.nd rfl (Or.inl rfl)) (Zg (ZW (ZaY (GC (Zz (Zp (K:=K) rfl) (pv 2) (pv 4) (fun _ _=>rfl)))) (Zd (Zn (i:=5) Ge.nd rfl (Or.inl rfl) (Zq UW hr (Za (pv 4) (Za (pv 1) Zb))))
   (Zd (Yi k8 rfl (ZV (K:=K) rfl (pv 5)) (Zk (i:=6) Ge.nd rfl (Or.inl rfl)) (Zg (Yj Gk (Yv (pv 2) (pv 6) set_list))))
   (Zg (ZZ (Z9 (K:=K) rfl (Yw kH kR kS ZN (pv 3) (Za (pv 5) Zb))))))) ZJ)))
   (Zg (Zw (pv 3))))))),?_⟩
  refine ⟨_,rfl,l,xs,ls,rfl,hl,hL,hlen,hW,fun mA H1 fm s1 em=>?_⟩
  rw [hm',hn'] at em
  refine ⟨(by show 1<=sizeLine;decide),fun l0 hl0=>?_⟩
  refine ⟨_,rfl,mA,_,rfl,.inl (Zr.of ((Zi.laid hl0) mA _ em)),?_⟩
  have el:((((tab N m).map V.int).length:Nat):Int)=((N:Nat):Int):=by rw [ke,WO]
  rw [el]
  refine ⟨l0,_,_,rfl,rfl,Zc,by lia,by lia,(by show 1*_<=sizeLine;exact Kt (Zv (by lia))),fun gA UJ=>?_⟩
  obtain ⟨H2,hH2⟩:∃H2,H2=upd (upd H1 l0 (.lst [.bl false])) gA (.lst (List.replicate ((N:Nat):Int).toNat [V.bl false]).flatten):=⟨_,rfl⟩
  rw [<- hH2]
  have s12:Zi H1 H2:=by rw [hH2];exact (Zi.laid hl0).step UJ
  have hg1:H1 gA=none:=(Zi.laid hl0).free UJ
  have hg2:H2 gA=some (.lst (tab N fun _=>V.bl false)):=by rw [hH2,Zc,kI,Zat]
  refine ⟨(by show 0<=sizeLine;decide),fun fA hfA=>?_⟩
  have hf1:H1 fA=none:=s12.free hfA
  have hgf:gA≠fA:=Zf hg2 hfA
  refine ⟨_,rfl,mA,_,rfl,.inl (Zr.of ((s12.step hfA) mA _ em)),_,rfl,?_⟩
  rw [el]
  refine ⟨by lia,by lia,Jt (n:=((N:Nat):Int).toNat) (fun i σ H'=>∃(ys:List V) (ts:List (List Int)) (v4 v5 v6:Option V),σ = [some (.ref l),some (.ref mA),some (.ref gA),some (.ref fA),v4,v5,v6]/\Zi H1 H'/\H' gA=some (.lst (tab N fun x=>V.bl (decide (x∈ts.flatten))))/\H' fA=some (.lst ys)/\YR H' ys ts/\GL m i ts/\(∀t,V.ref t∈ys->t≠gA/\t≠fA/\H1 t=none))
   ⟨[],[],none,none,none,rfl,s12.step hfA,?_,Zc,.nil,.nil,fun t ht=>by cases ht⟩ ?_ ?_⟩
  ·rw [Zh hgf,hg2]
   exact Ks (fun z=>some (HO.lst z)) (Y7 fun x _ _=>by simp)
  ·rintro i σ H' hi ⟨ys,ts,v4,v5,v6,rfl,sm,hg,hf,rv,tr,ap⟩
   rw [kI] at hi
   have e0:(0:Int)+(i:Int)=(i:Int):=Int.zero_add _
   have good:=tr.good M (by lia)
   refine ⟨_,rfl,_,rfl,gA,_,_,_,rfl,rfl,Zr.of hg,Zf0 _ (by lia) (by lia),_,rfl,?_⟩
   rw [e0]
   by_cases hin:(i:Int)∈ts.flatten
   ·rw [kG hin]
    refine WN ?_
    exact ⟨ys,ts,_,v5,v6,rfl,sm,hg,hf,rv,tr.skip hin,ap⟩
   ·rw [Kn hin]
    refine Zbt ?_
    refine ⟨_,rfl,_,rfl,_,mA,m,N,rfl,sm mA _ em,M,by lia,by lia,by lia,fun tA H3 T htA s3 eT isT=>?_⟩
    have tdom:=isT.dom M (by lia) (by lia)
    have tlen:=isT.len M (by lia) (by lia)
    have htg:tA≠gA:=(Zf hg htA).symm
    have htf:tA≠fA:=(Zf hf htA).symm
    refine ⟨_,rfl,tA,rfl,⟨_,Zr.of eT⟩,JD (K:=K) (a:=tA) (xs:=T.map V.int) (fun j σ H''=>∃v6:Option V,σ = [some (.ref l),some (.ref mA),some (.ref gA),some (.ref fA),some (.int (i:Int)),some (.ref tA),v6]/\Jh gA H3 H''/\H'' gA=some (.lst (tab N fun x=>V.bl (decide (x∈ts.flatten∨x∈T.take j)))))
     ⟨_,rfl,Jh.refl _ _,?_⟩ (fun j σ H'' _ ⟨_,_,fr,_⟩=>Zr.of (fr tA _ eT htg)) ?_ ?_⟩
    ·rw [s3 gA _ hg]
     exact Ks (fun z=>some (HO.lst z)) (Y7 fun x _ _=>by simp)
    ·rintro j x σ H'' hx ⟨v6,rfl,fr,hg''⟩
     obtain ⟨t,ht,rfl⟩:=J9 hx
     obtain ⟨d0,d1⟩:=tdom t (kY ht)
     obtain ⟨tn,rfl⟩:=kF d0
     refine ⟨_,rfl,_,rfl,gA,_,_,tn,rfl,rfl,hg'',(by rw [WO];exact Y5 (by lia)),?_⟩
     refine ⟨_,rfl,fr.trans Jh.upd,?_⟩
     rw [Zc,ZbJ]
     refine Ks (fun z=>some (HO.lst z)) (Y7 fun x _ _=>?_)
     rw [Kh,ht]
     by_cases e:x=(tn:Int)
     ·rw [kh e]
      congr 1
      exact (kG (.inr (by rw [e];simp))).symm
     ·rw [kg e]
      congr 1
      exact Xd.mpr (by simp [e])
    ·rintro σ H'' ⟨v6,rfl,fr,hg''⟩
     have hf'':=fr fA _ (s3 fA _ hf) (Ko hgf)
     refine ⟨_,rfl,.inl ⟨rfl,_,Zr.of hf''⟩,_,rfl,fA,_,_,rfl,rfl,hf'',(by rw [rv.len];have:=tr.len M (by lia);exact Zv (by lia)),?_⟩
     have keep:∀c o,H' c=some o->c≠gA->c≠fA->(upd H'' fA (.lst (ys ++ [.ref tA]))) c=some o:=fun c o e n1 n2=>by
      rw [Zh n2]
      exact fr c o (s3 c o e) n1
     refine ⟨ys ++ [.ref tA],ts ++ [T],_,_,_,rfl,fun c o e=>keep c o (sm c o e) (Zf e hg1) (Zf e hf1),?_,Zc,?_,tr.add hin isT,fun t ht=>?_⟩
     ·rw [Zh hgf,hg'',ke,kJ (ki _)]
      refine Ks (fun z=>some (HO.lst z)) (Y7 fun x _ _=>?_)
      congr 1
      exact Xd.mpr (by rw [qK];simp)
     ·refine YR.snoc (rv.mono fun t o ht e=>keep t o e (ap t ht).1 (ap t ht).2.1) ?_
      rw [Zh htf]
      exact fr tA _ eT htg
     ·rcases Ku.mp ht with z | z
      ·exact ap t z
      ·have:t=tA:=V.ref.inj (kZ.mp z)
       subst this
       exact ⟨htg,htf,sm.free htA⟩
  ·rintro σ H' ⟨ys,ts,v4,v5,v6,rfl,sm,hg,hf,rv,tr,ap⟩
   rw [kI] at tr
   exact ⟨_,rfl,k fA H' ys ts (s1.free hf1) (s1.trans sm) hf rv (fun t ht=>s1.free (ap t ht).2.2) tr⟩
def Z0 (ps:List (Int×Int)) (x:Int):Int:=if x∈ps.map (·.1) then 1 else -1
inductive DV (H:Hp):List (Key×V)->List (Int×Int)->Prop
 | nil:DV H [] []
 | snoc {kvs:List (Key×V)}{ps:List (Int×Int)}{u l:Int}{a b:Addr}:DV H kvs ps->H a=some (.tup [.int l,.int 1])->H b=some (.tup [.int u,.int (-1)])->DV H (kvs ++ [(Sum.inl u,.ref a),(Sum.inl l,.ref b)]) (ps ++ [(u,l)])
theorem DV.mono {H H':Hp} (h:∀t p,H t=some (.tup p)->H' t=some (.tup p)) {kvs:List (Key×V)}{ps:List (Int×Int)} (d:DV H kvs ps):DV H' kvs ps:=by
 induction d with
 | nil=>exact .nil
 | snoc _ ea eb ih=>exact .snoc ih (h _ _ ea) (h _ _ eb)
theorem DV.keys {H:Hp}{kvs:List (Key×V)}{ps:List (Int×Int)} (d:DV H kvs ps):kvs.map (·.1)=(ZI ps).map Sum.inl:=by
 induction d with
 | nil=>rfl
 | snoc _ _ _ ih=>rw [kP,ih,YY,kP];rfl
theorem DV.len {H:Hp}{kvs:List (Key×V)}{ps:List (Int×Int)} (d:DV H kvs ps):kvs.length=2*ps.length:=by
 have:=Ks List.length d.keys
 simpa [Ua] using this
theorem Zgv {kvs:List (Key×V)}{k:Key}{v:V} (h:k∉kvs.map (·.1)):putK kvs k v=kvs ++ [(k,v)]:=by
 unfold putK
 rw [kg]
 intro z
 rw [List.any_eq_true] at z
 obtain ⟨p,hp,e⟩:=z
 exact h (K7.mpr ⟨p,hp,kE e⟩)
theorem Zgd {kvs:List (Key×V)}{k:Key} (h:k∉kvs.map (·.1)):(kvs.find? fun kv=>decide (kv.1=k))=none:=by
 rw [List.find?_eq_none]
 intro p hp z
 exact h (K7.mpr ⟨p,hp,kE z⟩)
theorem ZcG {ps:List (Int×Int)}{H:Hp}{kvs:List (Key×V)} (d:DV H kvs ps) {x:Int} (h:x∉ZI ps):(Sum.inl x:Key)∉kvs.map (·.1):=by
 rw [d.keys]
 intro z
 obtain ⟨y,hy,e⟩:=K7.mp z
 cases e
 exact h hy
theorem DV.look {H:Hp}{kvs:List (Key×V)}{ps:List (Int×Int)} (d:DV H kvs ps):(ZI ps).Nodup -> ∀x∈ZI ps,∃a,Jo kvs (Sum.inl x)=some (.ref a)/\H a=some (.tup [.int (Jl ps x),.int (Z0 ps x)]):=by
 induction d with
 | nil=>intro _ x hx;cases hx
 | @snoc kvs ps u l a b d ea eb ih=>
  intro nd x hx
  rw [YY] at nd hx
  have ef:ZI [(u,l)] = [u,l]:=by simp [ZI]
  rw [ef] at nd hx
  obtain ⟨n1,n2,n3⟩:=qm.mp nd
  have hu:u∉ZI ps:=fun z=>n3 u z u (by simp) rfl
  have hl:l∉ZI ps:=fun z=>n3 l z l (by simp) rfl
  have ne:u≠l:=by
   have:=(Kx.mp n2).1
   simpa using this
  rw [Zdz hu hl ne]
  have dn:Z0 (ps ++ [(u,l)]) x=if x=u then 1 else Z0 ps x:=by
   unfold Z0
   rw [kP]
   by_cases e:x=u
   ·simp [e]
   ·rw [kg e]
    by_cases q:x∈ps.map (·.1)
    ·rw [kh q,kh (Xx _ q)]
    ·rw [kg q,kg (fun z=>(Ku.mp z).elim q (fun z=>e (by simpa using z)))]
  rw [dn]
  rcases Ku.mp hx with z | z
  ·obtain ⟨c,hv,hc⟩:=ih n1 x z
   have e1:x≠u:=fun e=>hu (e ▸ z)
   have e2:x≠l:=fun e=>hl (e ▸ z)
   refine ⟨c,?_,?_⟩
   ·unfold Jo at hv ⊢
    rw [T8]
    cases q:(kvs.find? fun kv=>decide (kv.1=Sum.inl x)) with
    | none=>rw [q] at hv;cases hv
    | some y=>rw [q] at hv;exact hv
   ·rw [kg e2,kg e1,kg e1];exact hc
  ·have z:x=u∨x=l:=by simpa using z
   rcases z with e | e
   ·subst e
    refine ⟨a,?_,?_⟩
    ·unfold Jo
     rw [T8,Zgd (ZcG d hu)]
     simp
    ·rw [kg ne,kh rfl,kh rfl];exact ea
   ·subst e
    refine ⟨b,?_,?_⟩
    ·unfold Jo
     rw [T8,Zgd (ZcG d hl)]
     have:¬((Sum.inl u:Key)=Sum.inl x):=fun z=>ne (by cases z;rfl)
     simp [this]
    ·have:Z0 ps x = -1:=by
      unfold Z0
      rw [kg]
      intro z
      obtain ⟨p,hp,e⟩:=K7.mp z
      exact hl (Kz.mpr ⟨p,hp,by simp [e]⟩)
     rw [kh rfl,kg (Ko ne),this];exact eb
theorem few {ls:List (Str×Int)} (hW:Wk ls 0):∀i,i<=ls.length->(rb (ls.take i)).2+2*((Jk ls i).length:Int)<=2*(i:Int)
 | 0,_=>by simp [Jk,Yd,rb]
 | i+1,hi=>by
  have ih:=few hW i (by lia)
  have hq:ls[i]? = some ls[i]:=by simp [show i<ls.length by lia]
  obtain ⟨tk,c⟩:=Zd9 hW hq
  rw [W5,tk,YF]
  have kk:∀pr:Str->Bool,isK ls pr i=pr ls[i].1:=fun pr=>by
   unfold isK
   rw [hq]
   cases h:pr ls[i].1<;>simp [h]
  rw [kk]
  generalize ls[i]=p at c
  obtain ⟨px,pk⟩:=p
  rcases c with ⟨e,_⟩ | ⟨e,_⟩ | ⟨e,_⟩
  ·have e:px = "born" := e
   subst e
   have hf:GW "born" = false:=by unfold GW;decide +kernel
   rw [Wi,hf]
   simp only [qt,Xp,qh]
   lia
  ·have e:px = "cross" := e
   subst e
   have hf:GW "cross" = false:=by unfold GW;decide +kernel
   rw [JL,hf]
   simp only [qt,Xp,qh]
   lia
  ·have e:px = "end" := e
   subst e
   have hf:GW "end" = true:=by unfold GW;simp
   rw [Gz,hf]
   simp only [XU,kj,Kj]
   lia
theorem ZhE {ls:List (Str×Int)} (hW:Wk ls 0):Jc ls<=ls.length:=by
 have h:=few hW ls.length (ki _)
 obtain ⟨g0,g1,g2⟩:=Zbq hW ls.length (ki _)
 have e:rowAt ls ls.length = []:=by
  unfold rowAt
  rw [kJ (ki _)]
  have:=U5 hW
  exact qf.mp (by lia)
 rw [e,Xq] at g2
 have hl:=g2.length_eq
 rw [Ub,Ua] at hl
 show 2*(Jk ls ls.length).length<=_
 lia
theorem Zai:∀n,(UM n).Pairwise (· < ·)
 | 0=>by simp [UM]
 | n+1=>by
  unfold UM
  rw [KN,kP,List.pairwise_append]
  refine ⟨Zai n,by simp,fun a ha b hb=>?_⟩
  have h1:=(YM (n:=n)).mp ha
  have:b=(n:Int):=by simpa using hb
  lia
def Gs (N:Nat) (ts:List (List Int)):List Int:=(UM N).filter fun x=>decide (x∉ts.flatten)
theorem Zhr {N:Nat}{ts:List (List Int)}{x:Int}:x∈Gs N ts ↔ (0<=x/\x<(N:Int))/\x∉ts.flatten:=by
 unfold Gs
 rw [NU,YM]
 simp
theorem Zh6 {N:Nat}{ts:List (List Int)}{f:Int}{r:List Int} (e:Gs N ts=f::r):(0<=f/\f<(N:Int))/\f∉ts.flatten /\ ∀j:Nat,(j:Int)<f->(j:Int)∈ts.flatten:=by
 have hf:f∈Gs N ts:=by rw [e];exact kK
 obtain ⟨d,n⟩:=Zhr.mp hf
 refine ⟨d,n,fun j hj=>?_⟩
 by_cases z:(j:Int)∈ts.flatten
 ·exact z
 ·have hm:(j:Int)∈Gs N ts:=Zhr.mpr ⟨⟨by lia,by lia⟩,z⟩
  have pw:(Gs N ts).Pairwise (· < ·):=(Zai N).filter _
  rw [e] at hm pw
  rcases kL.mp hm with y | y
  ·lia
  ·have:=(qu.mp pw).1 _ y
   lia
theorem Zh8 {N:Nat}{ts:List (List Int)}{T:List Int}:Gs N (ts ++ [T])=(Gs N ts).filter fun x=>decide (x∉T):=by
 unfold Gs
 rw [List.filter_filter]
 refine List.filter_congr fun x _=>?_
 rw [qK]
 by_cases h1:x∈T<;>by_cases h2:x∈ts.flatten<;>simp [h1,h2]
theorem Zlj {N:Nat}{ts:List (List Int)}{T:List Int}{f:Int}{r:List Int} (e:Gs N ts=f::r) (h:f∈T):(Gs N (ts ++ [T])).length<(Gs N ts).length:=by
 rw [Zh8,e,List.filter_cons,kg (by simpa using h)]
 have:=Te (fun x=>decide (x∉T)) r
 simp only [KJ]
 lia
theorem ZmN {m:Int->Int}{N i:Nat}{ts:List (List Int)} (e:Gs N ts = []) (tr:GL m i ts) (hi:i<=N):GL m N ts:=by
 have:=tr.jump (N-i) fun j a b=>by
  by_cases z:(j:Int)∈ts.flatten
  ·exact z
  ·have:(j:Int)∈Gs N ts:=Zhr.mpr ⟨⟨by lia,by lia⟩,z⟩
   rw [e] at this
   cases this
 rwa [show i+(N-i)=N by lia] at this
theorem ZlL {m:Int->Int}{N i:Nat}{ts:List (List Int)}{f:Int}{r T:List Int} (e:Gs N ts=f::r) (tr:GL m i ts) (hi:i<=N) (isT:Jd m f T):∃j:Nat,j<=N/\GL m j (ts ++ [T]):=by
 obtain ⟨⟨d0,d1⟩,n,lo⟩:=Zh6 e
 obtain ⟨fn,rfl⟩:=kF d0
 have hif:i<=fn:=by
  refine Nu fun z=>n (tr.mem fn z)
 have:=tr.jump (fn-i) fun j a b=>lo j (by lia)
 rw [show i+(fn-i)=fn by lia] at this
 exact ⟨fn+1,by lia,this.add n isT⟩
def ev2 (y:Int):Int:=if y % 2=0 then 1 else -1
theorem ZmL (y:Int):y+ev2 y=bw y:=by unfold ev2 bw;split<;>lia
def fl (dn:Int->Int):List Int->Int
 | x::y::r=>dn x+ev2 y+fl dn r
 | _=>0
theorem Zfp (dn:Int->Int) (x y:Int):∀(n:Nat) (A:List Int),A.length=2*n->fl dn (A ++ [x,y])=fl dn A+dn x+ev2 y
 | 0,A,h=>by
  have:A = []:=qf.mp (by lia)
  subst this
  simp [fl]
 | n+1,[],h=>by simp at h
 | n+1,[a],h=>by simp at h;lia
 | n+1,a::b::r,h=>by
  have ih:=Zfp dn x y n r (by simp at h;lia)
  simp only [Nx,fl,ih]
  lia
theorem ZmS (dn m:Int->Int) (f:Int) (i:Nat):fl dn (Wv m f (i+1))=fl dn (Wv m f i)+dn (gt m f i)+ev2 (m (gt m f i)):=Zfp dn _ _ i _ (We m f i)
def ZfW (i:Int):Int:=if i<0 then -i else i
def WV (z:Addr) (dn:Int->Int) (H:Hp) (ys:List V) (ts:List (List Int)):Prop:=Paired (fun v (T:List Int)=>∃a g,v=V.ref a/\H a=some (.tup [.ref g,.int (ZfW (fl dn T) / 2)])/\H g=some (.lst (T.map V.int))/\g≠z) ys ts
theorem WV.mono {z:Addr}{dn:Int->Int}{H H':Hp} (h:∀c o,c≠z->H c=some o->H' c=some o) (hz:∃xs,H z=some (.lst xs)):∀{ys:List V}{ts:List (List Int)},WV z dn H ys ts->WV z dn H' ys ts
 | _,_,.nil=>.nil
 | _,_,.cons ⟨a,g,e,ha,hg,n⟩ r=>.cons ⟨a,g,e,h a _ (fun y=>by obtain ⟨xs,hz⟩:=hz;rw [y,hz] at ha;cases ha) ha,h g _ n hg,n⟩ (WV.mono h hz r)
theorem WV.same {z:Addr}{dn:Int->Int}{H H':Hp} (s:Zi H H'):∀{ys:List V}{ts:List (List Int)},WV z dn H ys ts->WV z dn H' ys ts
 | _,_,.nil=>.nil
 | _,_,.cons ⟨a,g,e,ha,hg,n⟩ r=>.cons ⟨a,g,e,s a _ ha,s g _ hg,n⟩ (WV.same s r)
theorem WV.len {z:Addr}{dn:Int->Int}{H:Hp}{ys:List V}{ts:List (List Int)} (h:WV z dn H ys ts):ys.length=ts.length:=qM h
theorem Ze1 {r:List Int}{k:Nat} (h:k+1<r.length):WB (r.map V.int) (some (k:Int)) (some ((k:Int)+2)) = [V.int (r.getD k 0),V.int (r.getD (k+1) 0)]:=by
 have e1:HT.Jq (r.map V.int).length 0 (some (k:Int))=k:=by
  rw [HT.Zax,ke]
  omega
 have e2:HT.Jq (r.map V.int).length (r.map V.int).length (some ((k:Int)+2))=k+2:=by
  rw [show (k:Int)+2=((k+2:Nat):Int) by omega,HT.Zax,ke]
  omega
 unfold WB
 rw [e1,e2,show k+2-k=2 by omega,<- qY,<- qX]
 have c:=Zlz r k h
 have hl:(r.take k).length=k:=by rw [kM];omega
 have e3:r.drop k = [r.getD k 0,r.getD (k+1) 0]++r.drop (k+2):=by
  conv=>lhs;rw [c]
  rw [Kc,List.drop_append_of_le_length (by omega),K8 (by omega),Xq]
 rw [e3]
 simp
theorem Zmq (y:Int):atI [V.int 1,V.int (-1)] (y % 2)=some (V.int (ev2 y)):=by
 unfold ev2
 rcases Int.emod_two_eq y with e | e<;>rw [e]
 ·exact Zo (j:=0) rfl
 ·exact Zo (j:=1) rfl
def Zfc:Sp:=fun vs H Q _=>∃(l:Addr) (xs:List V) (ls:List (Str×Int)),vs = [.ref l]/\H l=some (.lst xs)/\ZE H xs ls/\ls.length<=60/\Wk ls 0 /\
 ∀(p:Addr) (H':Hp) (ys:List V) (ts:List (List Int)),H p=none->Zi H H'->H' p=some (.lst ys)->WV p (Z0 (YZ ls)) H' ys ts->GL (Jl (YZ ls)) (Jc ls) ts->Q (.ref p) H'
abbrev W2:Stmt:=top 38
theorem ZF:Zy ["_law_drawing_here", "_law_rows_here", "_law_mates", "_law_t", "_law_letter", "_law_upper", "_law_lower", "_law_found", "_law_left", "_law_gone", "_law_fall", "_law_here", "_law_there", "_law_down"] ["_law_drawing_here"] (Zj W2):={}
theorem Zks {f:Addr}{fd:FuncData} (F:Yy K "_law_walks" "_law_walks" W2 f fd) (YK:Ys P w K mg base 1 "_law_rows" ["_law_drawing_here"] UY) (ZC:mg "enumerate" = none) (YS:mg "sorted" = none) (ZaN:mg "abs" = none):Yf P w K mg base Wy 2 f fd ["_law_drawing_here"] Zfc:=by
 refine F.ok ZF (fun vs H Q E h=>?_) (fun cdv A outer s H vs Q E hr h=>?_)
 ·obtain ⟨l,xs,ls,rfl,_⟩:=h
  rfl
 ·obtain ⟨l,xs,ls,rfl,hl,hL,hlen,hW,k⟩:=h
  have hxl:=hL.len
  have n60:=ZhE hW
  have M:=J5 hW
  have nd:=Zd5 hW
  have pm:=Wu hW
  refine ⟨_,(Zd (Zn (i:=1) ZF.nd rfl (Or.inl rfl) (Zq YK hr (Za (pv 0) Zb)))
   (Zd (Zn (i:=2) ZF.nd rfl (Or.inl rfl) ZjJ)
   (Zd (Yi k8 rfl (Wg (K:=K) rfl (by rfl) ZC (Za (pv 0) Zb)) (ZY (K:=K) (n:=2) rfl rfl (Zm (Zk (i:=3) ZF.nd rfl (Or.inl rfl)) (Zm (Zk (i:=4) ZF.nd rfl (Or.inl rfl)) ZQ))) (Zg (ZW (Zt Yp (Zz (Yl (K:=K) rfl) (pv 4) Ze (fun _ _=>rfl)) ZG (Zs _)) (Zd (Yj (Ym (YV (K:=K) rfl) (Zz (Zp (K:=K) rfl) (pv 1) (pv 3) (fun _ _=>rfl)) (Yb (Zz (Yl (K:=K) rfl) (pv 4) Ze (fun _ _=>rfl))) (Yb (Zl ZA (Zz (Yl (K:=K) rfl) (pv 4) Ze (fun _ _=>rfl)) Ze))) (ZcB (K:=K) (n:=2) rfl rfl (Zm (Zk (i:=5) ZF.nd rfl (Or.inl rfl)) (Zm (Zk (i:=6) ZF.nd rfl (Or.inl rfl)) ZQ))))
   (Zg (Yj (ZH (Za (ZH (Za (pv 6) (Za Ze Zb))) (Za (ZH (Za (pv 5) (Za (Zcj US Ze) Zb))) Zb))) (ZY (K:=K) (n:=2) rfl rfl (Zm (Yv (pv 2) (pv 5) (set_dict (JF hr))) (Zm (Yv (pv 2) (pv 6) (set_dict (JF hr))) ZQ)))))) ZJ)))
   (Zd (Zn (i:=7) ZF.nd rfl (Or.inl rfl) (ZD Zb))
   (Zd (Zn (i:=8) ZF.nd rfl (Or.inl rfl) (Zx (Zfv rfl) (by rfl) YS Tq (Za (pv 2) Zb)))
   (Zd (ZbB k8 (Zt (Zi4 (K:=K) rfl hr.units) (pv 8) (ZD Zb) (Zs _)) (Zd (Zn (i:=9) ZF.nd rfl (Or.inr rfl) (ZD Zb))
   (Zd (Zn (i:=10) ZF.nd rfl (Or.inl rfl) Ze)
   (Zd (Zn (i:=11) ZF.nd rfl (Or.inl rfl) (Zz (Zp (K:=K) rfl) (pv 8) Ze (fun _ _=>rfl)))
   (Zd (ZbB k8 (Zt (ZaG (K:=K) rfl) (pv 11) (pv 9) rfl) (Zd (Yj (Zz (Zap (JF hr)) (pv 2) (pv 11) (fun _ _=>rfl)) (ZY (K:=K) (n:=2) rfl rfl (Zm (Zk (i:=12) ZF.nd rfl (Or.inl rfl)) (Zm (Zk (i:=13) ZF.nd rfl (Or.inl rfl)) ZQ))))
   (Zd (Zn (i:=9) ZF.nd rfl (Or.inr rfl) (Zl WK (pv 9) (ZD (Za (pv 11) (Za (pv 12) Zb)))))
   (Zd (Zn (i:=10) ZF.nd rfl (Or.inl rfl) (Zl ZA (Zl ZA (pv 10) (pv 13)) (Zz (Zp (K:=K) rfl) (ZD (Za Ze (Za (Zcj US Ze) Zb))) (Zl Gg (pv 12) Ze) (fun _ _=>rfl))))
   (Zg (Zn (i:=11) ZF.nd rfl (Or.inl rfl) (Zl ZA (pv 12) (Zz (Zp (K:=K) rfl) (ZD (Za Ze (Za (Zcj US Ze) Zb))) (Zl Gg (pv 12) Ze) (fun _ _=>rfl)))))))))
   (Zd (ZZ (Z9 (K:=K) rfl (Yw kH kR kS ZN (pv 7) (Za (ZH (Za (pv 9) (Za (Zl ZbC (Zx Zbk (by rfl) ZaN boot_abs (Za (pv 10) Zb)) Ze) Zb))) Zb))))
   (Zg (Zea (i:=8) ZF.nd rfl (Or.inl rfl) (Ls:=["_law_thread"]) (Fs:=["_law_gone"]) (fi:=[9]) (Z6.of (show YE ["_law_drawing_here", "_law_rows_here", "_law_mates", "_law_t", "_law_letter", "_law_upper", "_law_lower", "_law_found", "_law_left", "_law_gone", "_law_fall", "_law_here", "_law_there", "_law_down"] (Zj W2) _ ["_law_gone"] [9]=true by decide +kernel)) rfl (ZV (K:=K) rfl (pv 8)) (fun cl C s3 H3 ex=>⟨(Zk (i:=0) (show ((["_law_thread"]:List Str)++(["_law_gone"]:List Str)).Nodup by decide +kernel) rfl (Or.inl rfl)),(ZcP (Zt (ZaG (K:=K) rfl) (pv 0) (pv 1) rfl)),(pv 0)⟩)))))))))
   (Zg (Zw (pv 7))))))))),?_⟩
  refine ⟨_,rfl,l,xs,ls,rfl,hl,hL,hlen,hW,fun R H1 ys fR s1 eR rv ap ndr=>?_⟩
  refine fun dA hdA=>?_
  have hdH:H dA=none:=s1.free hdA
  have hl1:=s1 l _ hl
  have hL1:=hL.same s1
  refine ⟨_,rfl,l,rfl,⟨_,Zr.of ((Zi.laid hdA) l _ hl1)⟩,Zaw (K:=K) (a:=l) (xs:=xs) (fun i σ H'=>∃(kvs:List (Key×V)) (v3 v4 v5 v6:Option V),σ = [some (.ref l),some (.ref R),some (.ref dA),v3,v4,v5,v6,none,none,none,none,none,none,none]/\Zi H1 H'/\H' dA=some (.dK kvs)/\DV H' kvs (Jk ls i))
   ⟨[],none,none,none,none,rfl,Zi.laid hdA,Zc,.nil⟩ (fun i σ H' _ ⟨_,_,_,_,_,_,sm,_⟩=>Zr.of (sm l _ hl1)) ?_ ?_⟩
  ·rintro i x p σ H' hx ⟨kvs,v3,v4,v5,v6,rfl,sm,hd,dv⟩ hp
   obtain ⟨⟨qx,qk⟩,ta,hq,rfl,hta⟩:=hL1.get hx
   have hta':=(sm.step (o:=.tup [.int i,.ref ta]) hp) ta _ hta
   obtain ⟨G0,hG0⟩:∃G0,G0=upd H' p (.tup [.int i,.ref ta]):=⟨_,rfl⟩
   have sp:Zi H' G0:=by rw [hG0];exact Zi.laid hp
   have sg0:Zi H1 G0:=sm.trans sp
   have hd0:=sp dA _ hd
   have kk:isK ls GW i=GW qx:=by
    unfold isK
    rw [hq]
    cases h:GW qx<;>simp [h]
   refine ⟨p,_,rfl,YX.of Zc,rfl,_,_,rfl,_,_,rfl,rfl,?_⟩
   rw [<- hG0] at hta' ⊢
   refine ⟨_,rfl,ta,_,_,_,rfl,rfl,YX.of hta',Zo (j:=0) rfl,rfl,_,rfl,?_⟩
   refine Z7 (fun hc=>?_) (fun hc=>?_)
   ·have e:qx = "end" := V.str.inj (kE hc)
    subst e
    obtain ⟨k0,k1,pe⟩:=Zgf hW hq (fun z=>nb2 z)
    obtain ⟨kn,rfl⟩:=kF (show 0<=qk from k0)
    simp only [kI] at k1 pe
    have hi:i<ls.length:=(kC.mp hq).1
    obtain ⟨ra,hra,hrr⟩:=rv.at (Zay ls (i:=i) (n:=ls.length+1) (by lia))
    have ei:isK ls GW i=true:=by rw [kk];unfold GW;simp
    have pin:YW ls i∈YZ ls:=K7.mpr ⟨(i:Int),by
     unfold Yd
     exact K6.mpr ⟨i,K9.mpr hi,by rw [kh ei]⟩,by simp⟩
    have es:Jk ls (i+1)=Jk ls i ++ [YW ls i]:=by rw [W5,kh ei]
    obtain ⟨u,hu⟩:∃u,u=(rowAt ls i).getD kn 0:=⟨_,rfl⟩
    obtain ⟨w,hw⟩:∃w,w=(rowAt ls i).getD (kn+1) 0:=⟨_,rfl⟩
    rw [<- hu,<- hw] at pe
    have nde:(ZI (Jk ls (i+1))).Nodup:=by
     have e:Yd ls GW (i+1) <+: Yd ls GW ls.length:=by
      have:∀d,Yd ls GW (i+1) <+: Yd ls GW (i+1+d):=by
       intro d
       induction d with
       | zero=>exact List.prefix_refl _
       | succ d ih=>
        refine ih.trans ?_
        show _ <+: Yd ls GW (i+1+d+1)
        rw [W3]
        exact List.prefix_append _ _
      have:=this (ls.length-(i+1))
      rwa [show i+1+(ls.length-(i+1))=ls.length by lia] at this
     obtain ⟨r,e⟩:=e
     have:YZ ls=Jk ls (i+1)++r.map (fun t=>YW ls t.toNat):=by
      unfold YZ Jk
      rw [<- e,kP]
     rw [this,YY] at nd
     exact (qm.mp nd).1
    rw [es,YY,pe] at nde
    have ef:ZI [(u,w)] = [u,w]:=by simp [ZI]
    rw [ef] at nde
    obtain ⟨n1,n2,n3⟩:=qm.mp nde
    have nu:u∉ZI (Jk ls i):=fun z=>n3 u z u (by simp) rfl
    have nw:w∉ZI (Jk ls i):=fun z=>n3 w z w (by simp) rfl
    have nuw:u≠w:=by
     have:=(Kx.mp n2).1
     simpa using this
    have e2:((Jk ls i).length)<=60:=by
     unfold Jk
     rw [ke]
     exact k9 (Wq _ _ _) (by lia)
    refine ⟨_,rfl,_,rfl,R,_,_,_,rfl,rfl,Zr.of (sg0 R _ eR),Zo hra,_,rfl,ta,_,_,_,rfl,rfl,YX.of hta',Zo (j:=1) rfl,_,rfl,_,rfl,ta,_,_,_,rfl,rfl,YX.of hta',Zo (j:=1) rfl,_,_,rfl,rfl,_,rfl,ra,_,rfl,Zr.of (sg0 ra _ hrr),fun cA hcA=>?_⟩
    rw [Ze1 k1,<- hu,<- hw]
    refine ⟨cA,_,rfl,Zr.of Zc,rfl,_,_,rfl,_,_,rfl,rfl,?_⟩
    obtain ⟨G1,hG1⟩:∃G1,G1=upd G0 cA (.lst [.int u,.int w]):=⟨_,rfl⟩
    have sg1:Zi G0 G1:=by rw [hG1];exact Zi.laid hcA
    rw [<- hG1]
    refine ⟨_,rfl,(by show 2<=sizeLine;decide),fun t1 ht1=>?_⟩
    obtain ⟨G2,hG2⟩:∃G2,G2=upd G1 t1 (.tup [.int w,.int 1]):=⟨_,rfl⟩
    have sg2:Zi G1 G2:=by rw [hG2];exact Zi.laid ht1
    have e21:G2 t1=some (.tup [.int w,.int 1]):=by rw [hG2];exact Zc
    rw [<- hG2]
    refine ⟨_,rfl,1,rfl,(by show 2<=sizeLine;decide),fun t2 ht2=>?_⟩
    obtain ⟨G3,hG3⟩:∃G3,G3=upd G2 t2 (.tup [.int u,.int (-1)]):=⟨_,rfl⟩
    have sg3:Zi G2 G3:=by rw [hG3];exact Zi.laid ht2
    have e32:G3 t2=some (.tup [.int u,.int (-1)]):=by rw [hG3];exact Zc
    rw [<- hG3]
    refine ⟨(by show 2<=sizeLine;decide),fun t3 ht3=>?_⟩
    obtain ⟨G4,hG4⟩:∃G4,G4=upd G3 t3 (.tup [.ref t1,.ref t2]):=⟨_,rfl⟩
    have sg4:Zi G3 G4:=by rw [hG4];exact Zi.laid ht3
    have e43:G4 t3=some (.tup [.ref t1,.ref t2]):=by rw [hG4];exact Zc
    rw [<- hG4]
    have sAll:Zi G0 G4:=((sg1.trans sg2).trans sg3).trans sg4
    have hd4:=sAll dA _ hd0
    have kl:kvs.length<sizeLine:=by rw [dv.len];exact Zv (by lia)
    have o1:(Sum.inl u:Key)∉kvs.map (·.1):=ZcG dv nu
    have p1:putK kvs (Sum.inl u) (.ref t1)=kvs ++ [(Sum.inl u,.ref t1)]:=Zgv o1
    have o2:(Sum.inl w:Key)∉(kvs ++ [((Sum.inl u:Key),V.ref t1)]).map (·.1):=by
     rw [kP]
     intro z
     rcases Ku.mp z with z | z
     ·exact ZcG dv nw z
     ·have:(Sum.inl w:Key)=Sum.inl u:=by simpa using z
      cases this
      exact nuw rfl
    have p2:putK (kvs ++ [((Sum.inl u:Key),V.ref t1)]) (Sum.inl w) (.ref t2)=kvs ++ [((Sum.inl u:Key),V.ref t1),(Sum.inl w,.ref t2)]:=by
     rw [Zgv o2]
     simp
    refine ⟨t3,_,rfl,YX.of e43,rfl,_,_,rfl,_,rfl,_,rfl,dA,_,rfl,Zge.k (k:=Sum.inl u) hd4 kl,?_⟩
    rw [p1]
    refine ⟨_,_,rfl,_,rfl,_,rfl,dA,_,rfl,Zge.k (k:=Sum.inl w) Zc (by rw [kj,dv.len];exact Zv (by show _+1<=1000;lia)),rfl,?_⟩
    rw [p2,Jv]
    refine ⟨_,_,_,_,_,rfl,fun c o e=>?_,Zc,?_⟩
    ·rw [Zh (Zf e hdA)]
     exact sAll c o (sg0 c o e)
    ·rw [es,pe]
     have tk:∀t q,G4 t=some (.tup q)->(upd G4 dA (.dK (kvs ++ [((Sum.inl u:Key),V.ref t1),(Sum.inl w,.ref t2)]))) t=some (.tup q):=fun t q e=>by
      rw [Zh (Wr e hd4 (by intro z;cases z))]
      exact e
     exact DV.snoc (dv.mono fun t q e=>tk t q (sAll t _ (sp t _ e))) (tk _ _ (sg4 t1 _ (sg3 t1 _ e21))) (tk _ _ (sg4 t2 _ e32))
   ·have e:¬qx = "end" := fun z=>hc (kG (Ks V.str z))
    have ei:isK ls GW i=false:=by rw [kk];unfold GW;simp [e]
    have es:Jk ls (i+1)=Jk ls i:=by rw [W5,ei];simp
    refine ⟨kvs,_,_,_,_,rfl,sg0,hd0,?_⟩
    rw [es]
    exact dv.mono fun t q e=>sp t _ e
  ·rintro σ H2 ⟨kvs,v3,v4,v5,v6,rfl,sm2,hd2,dv2⟩
   rw [hxl] at dv2
   have s02:Zi H H2:=s1.trans sm2
   refine ⟨(by show 0<=sizeLine;decide),fun fA hfA=>?_⟩
   have hfd:dA≠fA:=Zf hd2 hfA
   refine ⟨_,rfl,dA,kvs,ZI (YZ ls),rfl,(Zi.laid hfA) dA _ hd2,dv2.keys,(by rw [Ua];show Jc ls<64;lia),fun lA ns hlA hperm hsort=>?_⟩
   have ens:ns=UM (Jc ls):=ZaT (hperm.trans pm) hsort ((Zai _).imp fun h=>Int.le_of_lt h)
   subst ens
   have hlf:lA≠fA:=(Zf (Zc (H:=H2) (a:=fA) (o:=.lst [])) hlA).symm
   generalize hmm:Jl (YZ ls)=m at *
   generalize hdn:Z0 (YZ ls)=dn at *
   generalize hnn:Jc ls=N at *
   have dget:∀(G:Hp),Zi H2 G -> ∀x:Int,0<=x->x<(N:Int) -> ∃a,UN G dA (.int x) (some (.ref a))/\G a=some (.tup [.int (m x),.int (dn x)]):=fun G sG x x0 x1=>by
    obtain ⟨a,hv,ha⟩:=dv2.look nd x (pm.mem_iff.mpr (YM.mpr ⟨x0,x1⟩))
    have:=UN.k (k:=Sum.inl x) (sG dA _ hd2)
    rw [hv] at this
    have e1:Jl (Jk ls ls.length)=m:=hmm
    have e2:Z0 (Jk ls ls.length)=dn:=hdn
    rw [e1,e2] at ha
    exact ⟨a,this,sG a _ ha⟩
   refine ⟨fun mm σ H'=>∃(ts:List (List Int)) (ys:List V) (i:Nat) (lf:Addr) (v9 v10 v11 v12 v13:Option V),mm=(Gs N ts).length /\ σ = [some (.ref l),some (.ref R),some (.ref dA),v3,v4,v5,v6,some (.ref fA),some (.ref lf),v9,v10,v11,v12,v13]/\Zi H2 H'/\H' fA=some (.lst ys)/\H' lf=some (.lst ((Gs N ts).map V.int))/\lf≠fA/\WV fA dn H' ys ts/\GL m i ts/\i<=N,
    ⟨_,[],[],0,lA,none,none,none,none,none,rfl,rfl,(Zi.laid hfA).step hlA,?_,?_,hlf,.nil,.nil,Km _⟩,?_⟩
   ·rw [Zh (Ko hlf),Zc]
   ·rw [Zc]
    congr 3
    unfold Gs
    rw [List.filter_eq_self.mpr]
    intro x _
    simp
   rintro mm σ H' ⟨ts,ys,i,lf,v9,v10,v11,v12,v13,rfl,rfl,sm,hf,hlf',nlf,wv,tr,hi⟩
   refine ⟨_,rfl,(by show 0<=sizeLine;decide),fun nA hnA=>?_⟩
   obtain ⟨G0,hG0⟩:∃G0,G0=upd H' nA (.lst []):=⟨_,rfl⟩
   have s0:Zi H' G0:=by rw [hG0];exact Zi.laid hnA
   rw [<- hG0]
   refine ⟨lf,nA,_,rfl,rfl,Zr.of (s0 lf _ hlf'),Zr.of (by rw [hG0];exact Zc),_,rfl,?_⟩
   cases elf:Gs N ts with
   | nil=>
    refine WN ?_
    refine ⟨_,rfl,k fA G0 ys ts (s02.free hfA) (s02.trans (sm.trans s0)) (s0 fA _ hf) (wv.same s0) (ZmN elf tr hi)⟩
   | cons f0 rest=>
    refine Zbt ?_
    obtain ⟨⟨f0lo,f0hi⟩,f0n,f0l⟩:=Zh6 elf
    have dom:=YH M f0lo f0hi
    refine ⟨fun σ' H''=>∃(ts':List (List Int)) (ys:List V) (i:Nat) (lf:Addr) (v9 v10 v11 v12 v13:Option V),(Gs N ts').length<(f0::rest).length /\ σ' = [some (.ref l),some (.ref R),some (.ref dA),v3,v4,v5,v6,some (.ref fA),some (.ref lf),v9,v10,v11,v12,v13]/\Zi H2 H''/\H'' fA=some (.lst ys)/\H'' lf=some (.lst ((Gs N ts').map V.int))/\lf≠fA/\WV fA dn H'' ys ts'/\GL m i ts'/\i<=N,
     fun σ' H'' ⟨ts',ys,i,lf,v9,v10,v11,v12,v13,a,b⟩=>⟨_,a,ts',ys,i,lf,v9,v10,v11,v12,v13,rfl,b⟩,?_⟩
    refine ⟨(by show 0<=sizeLine;decide),fun gA UJ=>?_⟩
    have s1':Zi H' (upd G0 gA (.lst [])):=s0.step UJ
    have hgf:gA≠fA:=(Zf (s0 fA _ hf) UJ).symm
    refine ⟨_,rfl,lf,_,_,V.int f0,rfl,rfl,Zr.of (s1' lf _ hlf'),Zo (j:=0) (by rw [elf];rfl),?_⟩
    refine ⟨fun m2 σ H''=>∃(j:Nat) (g:Addr) (v12 v13:Option V),m2+j=N+1 /\ σ = [some (.ref l),some (.ref R),some (.ref dA),v3,v4,v5,v6,some (.ref fA),some (.ref lf),some (.ref g),some (.int (fl dn (Wv m f0 j))),some (.int (gt m f0 j)),v12,v13]/\Zi H' H''/\H'' g=some (.lst ((Wv m f0 j).map V.int))/\g≠fA/\(∀q,1<=q->q<j->gt m f0 q≠f0),
     ⟨N+1,0,gA,v12,v13,rfl,rfl,s1',Zc,hgf,fun q a b=>by lia⟩,?_⟩
    rintro m2 σ H'' ⟨j,g,w12,w13,hj,rfl,sm2',hg,ngf,nf⟩
    have short:=GS M f0lo f0hi nf
    have s22:Zi H2 H'':=sm.trans sm2'
    refine ⟨_,rfl,_,rfl,g,_,rfl,.inl (Zr.of hg),rfl,Zeh _,_,rfl,?_⟩
    show if (!inV (V.int (gt m f0 j)) ((Wv m f0 j).map V.int))=true then _ else _
    rw [ZfO]
    by_cases hin:gt m f0 j∈Wv m f0 j
    ·rw [kG hin]
     refine WN ?_
     obtain ⟨j1,ej⟩:=(Zjh M f0lo f0hi nf).mp hin
     have isT:Jd m f0 (Wv m f0 j):=⟨j,j1,ej,nf,rfl⟩
     have hf'':=sm2' fA _ hf
     refine ⟨_,rfl,.inl ⟨rfl,_,Zr.of hf''⟩,_,rfl,_,rfl,_,rfl,_,_,rfl,rfl,⟨by decide,by decide⟩,(by show 2<=sizeLine;decide),fun tt htt=>?_⟩
     have hft:fA≠tt:=Zf hf'' htt
     have yl:ys.length<sizeLine:=by rw [wv.len];have:=tr.len M (by lia);exact Zv (by lia)
     refine ⟨fA,_,_,rfl,rfl,(by rw [Zh hft];exact hf''),yl,?_⟩
     have K5:∀(o1 o2:HO) c o,H'' c=some o->c≠fA->(upd (upd H'' tt o1) fA o2) c=some o:=fun o1 o2 c o e n=>by
      rw [Zh n,Zh (Zf e htt)]
      exact e
     have hlf2:H'' lf=some (.lst ((f0::rest).map V.int)):=by
      have:=sm2' lf _ hlf'
      rw [elf] at this
      exact this
     obtain ⟨j2,hj2,tr2⟩:=ZlL elf tr hi isT
     have f0T:f0∈Wv m f0 j:=isT.self
     have less:=Zlj elf f0T
     rw [elf] at less
     have llen:(f0::rest).length<=120:=by
      rw [<- elf]
      unfold Gs
      refine k9 (Te _ _) ?_
      rw [Ub]
      lia
     refine ⟨_,rfl,lf,rfl,⟨_,Zr.of (K5 _ _ lf _ hlf2 nlf)⟩,Jg (K:=K) (a:=lf) (xs:=(f0::rest).map V.int) (by rw [ke];exact Kt (Zv (by lia))) (fun i zs G=>((∀c o,H'' c=some o->c≠fA->G c=some o)/\G fA=some (.lst (ys ++ [.ref tt]))/\G tt=some (.tup [.ref g,.int (ZfW (fl dn (Wv m f0 j)) / 2)]))/\zs=(((f0::rest).take i).filter fun x=>decide (x∉Wv m f0 j)).map V.int)
      ⟨⟨fun c o e n=>K5 _ _ c o e n,Zc,by rw [Zh (Ko hft),Zc];rfl⟩,by simp⟩ (fun i zs G p=>?_) (fun i zs G p=>Zr.of (p.1.1 lf _ hlf2 nlf)) (fun i x zs G hx p=>?_) (fun zs G p D hD=>?_)⟩
     ·rw [p.2,ke]
      exact k9 (Te _ _) (by rw [kM];lia)
     ·obtain ⟨kp,rfl⟩:=p
      obtain ⟨t,ht,rfl⟩:=J9 hx
      have tk:((f0::rest).take (i+1)).filter (fun x=>decide (x∉Wv m f0 j))=((f0::rest).take i).filter (fun x=>decide (x∉Wv m f0 j))++(if t∈Wv m f0 j then [] else [t]):=by
       rw [Kh,ht,List.filter_append]
       by_cases z:t∈Wv m f0 j<;>simp [z]
      refine ⟨_,rfl,_,rfl,g,_,rfl,.inl (Zr.of (kp.1 g _ hg ngf)),rfl,Zeh _,_,rfl,?_⟩
      show if (!inV (V.int t) ((Wv m f0 j).map V.int))=true then _ else _
      rw [ZfO]
      by_cases z:t∈Wv m f0 j
      ·rw [kG z]
       refine WN ⟨kp,?_⟩
       rw [tk,kh z,qh]
      ·rw [Kn z]
       refine Zbt ⟨_,rfl,kp,?_⟩
       rw [tk,kg z,kP]
       rfl
     ·obtain ⟨kp,rfl⟩:=p
      have hDf:D≠fA:=(Zf kp.2.1 hD).symm
      have kD:∀c o,H'' c=some o->c≠fA->(upd G D (.lst ((((f0::rest).take ((f0::rest).map V.int).length).filter fun x=>decide (x∉Wv m f0 j)).map V.int))) c=some o:=fun c o e n=>by
       have e2:=kp.1 c o e n
       rw [Zh (Zf e2 hD)]
       exact e2
      refine ⟨ts ++ [Wv m f0 j],ys ++ [.ref tt],j2,D,_,_,_,_,_,less,rfl,fun c o e=>kD c o (s22 c o e) (Zf e hfA),?_,?_,hDf,?_,tr2,hj2⟩
      ·rw [Zh (Ko hDf)]
       exact kp.2.1
      ·rw [Zc,Zh8,elf,ke,kJ (ki _)]
      ·refine Tj (wv.mono (fun c o n e=>kD c o (sm2' c o e) n) ⟨_,hf⟩) ⟨tt,g,rfl,?_,kD g _ hg ngf,ngf⟩
       rw [Zh (Zf kp.2.2 hD)]
       exact kp.2.2
    ·rw [Kn hin]
     refine Zbt ?_
     have nf':∀q,1<=q->q<j+1->gt m f0 q≠f0:=fun q a b e=>by
      by_cases z:q=j
      ·subst z;exact hin ((Zjh M f0lo f0hi nf).mpr ⟨a,e⟩)
      ·exact nf q a (by lia) e
     have short2:=GS M f0lo f0hi nf'
     refine ⟨fun σ' H3=>∃(g:Addr) (v12 v13:Option V),σ' = [some (.ref l),some (.ref R),some (.ref dA),v3,v4,v5,v6,some (.ref fA),some (.ref lf),some (.ref g),some (.int (fl dn (Wv m f0 (j+1)))),some (.int (gt m f0 (j+1))),v12,v13]/\Zi H' H3/\H3 g=some (.lst ((Wv m f0 (j+1)).map V.int))/\g≠fA,
      fun σ' H3 ⟨g,a,b,e,h1,h2,h3⟩=>⟨m2-1,by lia,j+1,g,a,b,by lia,e,h1,h2,h3,nf'⟩,?_⟩
     obtain ⟨a,dg,ha⟩:=dget H'' s22 (gt m f0 j) (dom j).1 (dom j).2
     refine ⟨_,rfl,_,rfl,dA,_,rfl,dg,?_⟩
     refine ⟨a,_,rfl,YX.of ha,rfl,_,_,rfl,_,_,rfl,rfl,?_⟩
     refine ⟨_,rfl,_,rfl,_,rfl,(by show 2<=sizeLine;decide),fun b hb=>?_⟩
     refine ⟨g,b,_,_,rfl,rfl,(Zi.laid hb) g _ hg,Zc,(by rw [ke,We];exact Kt (Zv (by show _+2<=1000;lia))),fun g' hg'=>?_⟩
     have s3:Zi H'' (upd (upd H'' b (.lst [.int (gt m f0 j),.int (m (gt m f0 j))])) g' (.lst ((Wv m f0 j).map V.int ++ [.int (gt m f0 j),.int (m (gt m f0 j))]))):=(Zi.laid hb).step hg'
     have ng':g'≠fA:=(Zf ((Zi.laid (o:=.lst [.int (gt m f0 j),.int (m (gt m f0 j))]) hb) fA _ (sm2' fA _ hf)) hg').symm
     refine ⟨_,rfl,_,rfl,_,_,rfl,rfl,1,rfl,(by show 2<=sizeLine;decide),fun c hc=>?_⟩
     refine ⟨_,rfl,_,_,rfl,rfl,(by show (0:Int)<2;decide),c,_,_,_,rfl,rfl,Zr.of Zc,Zmq _,_,_,rfl,rfl,?_⟩
     refine ⟨_,rfl,1,rfl,(by show 2<=sizeLine;decide),fun c2 hc2=>?_⟩
     refine ⟨_,rfl,_,_,rfl,rfl,(by show (0:Int)<2;decide),c2,_,_,_,rfl,rfl,Zr.of Zc,Zmq _,_,_,rfl,rfl,?_⟩
     refine ⟨g',some (.int (m (gt m f0 j))),some (.int (dn (gt m f0 j))),?_,((sm2'.trans s3).step hc).step hc2,?_,ng'⟩
     ·rw [ZmS,show gt m f0 (j+1)=m (gt m f0 j)+ev2 (m (gt m f0 j)) from (ZmL _).symm]
      rfl
     ·have e1:=(Zi.laid (o:=.lst [.int 1,.int (-1)]) hc) g' _ Zc
      have e2:=(Zi.laid (o:=.lst [.int 1,.int (-1)]) hc2) g' _ e1
      refine e2.trans ?_
      simp [Wv]
def Zbd:Sp:=fun vs H Q _=>∃(l:Addr) (xs:List V) (ls:List (Str×Int)),vs = [.ref l]/\H l=some (.lst xs)/\ZE H xs ls/\ls.length<=60/\Wk ls 0 /\
 ∀(p:Addr) (H':Hp),H p=none->Zi H H'->H' p=some (.lst (tab (Jc ls) fun x=>V.bl (decide (x∈(YZ ls).map (·.1)))))->Q (.ref p) H'
abbrev Wb:Stmt:=top 15
theorem Jf:Zy ["drawing", "uppers", "upper", "lower"] ["drawing"] (Zj Wb):={}
theorem Zi5 {f:Addr}{fd:FuncData} (F:Yy K "uppers_at_ends" "uppers_at_ends" Wb f fd) (Jr:Ys P w K mg base 2 "ends_of" ["drawing"] (Za5 fun x=>decide (x = "end"))) (JK:Ys P w K mg base 3 "end_pairs" ["drawing"] Zfu) (Yn:mg "len" = none):Yf P w K mg base Wy 4 f fd ["drawing"] Zbd:=by
 refine F.ok Jf (fun vs H Q E h=>?_) (fun cdv A outer s H vs Q E hr h=>?_)
 ·obtain ⟨l,xs,ls,rfl,_⟩:=h
  rfl
 ·obtain ⟨l,xs,ls,rfl,hl,hL,hlen,hW,k⟩:=h
  have n120:=J8 hlen
  have nt:2*(Yd ls GW ls.length).length=Jc ls:=by unfold Jc YZ Jk;rw [ke]
  refine ⟨_,(Zd (Zn (i:=1) Jf.nd rfl (Or.inl rfl) (Zl ZaZ (ZD (Za Gk Zb)) (Zl WD Ze (Zx (YA (K:=K) rfl) (by rfl) Yn qa (Za (Zq Jr hr (Za (pv 0) Zb)) Zb)))))
   (Zd (Yi k8 rfl (ZV (K:=K) rfl (Zq JK hr (Za (pv 0) Zb))) (ZY (K:=K) (n:=2) rfl rfl (Zm (Zk (i:=2) Jf.nd rfl (Or.inl rfl)) (Zm (Zk (i:=3) Jf.nd rfl (Or.inl rfl)) ZQ))) (Zg (Yj Gk (Yv (pv 1) (pv 2) set_list))))
   (Zg (Zw (pv 1))))),?_⟩
  refine ⟨(by show 1<=sizeLine;decide),fun l0 hl0=>?_⟩
  have s0:Zi H (upd H l0 (.lst [.bl false])):=Zi.laid hl0
  refine ⟨_,rfl,l,xs,ls,rfl,s0 l _ hl,hL.same s0,hlen,hW.kd,fun eA H1 fe s1 ee=>?_⟩
  refine ⟨eA,_,rfl,.inl (Zr.of ee),_,_,rfl,rfl,.inl ⟨by decide,by decide⟩,?_⟩
  have el:((2:Int)*((((Yd ls (fun x=>decide (x = "end")) ls.length).map V.int).length:Nat):Int))=((Jc ls:Nat):Int):=by
   rw [ke]
   have:(Yd ls (fun x=>decide (x = "end")) ls.length).length=(Yd ls GW ls.length).length:=rfl
   lia
  show ZmE (V.ref l0) (V.int ((2:Int)*((((Yd ls (fun x=>decide (x = "end")) ls.length).map V.int).length:Nat):Int))) H1 _
  rw [el]
  refine ⟨l0,_,_,rfl,rfl,s1 l0 _ Zc,by lia,by lia,(by show 1*_<=sizeLine;exact Kt (Zv (by lia))),fun rA hrA=>?_⟩
  obtain ⟨H2,hH2⟩:∃H2,H2=upd H1 rA (.lst (List.replicate ((Jc ls:Nat):Int).toNat [V.bl false]).flatten):=⟨_,rfl⟩
  rw [<- hH2]
  have s02:Zi H H2:=by rw [hH2];exact (s0.trans s1).step hrA
  have hrH:H rA=none:=(s0.trans s1).free hrA
  have hr2:H2 rA=some (.lst (tab (Jc ls) fun _=>V.bl false)):=by rw [hH2,Zc,kI,Zat]
  refine ⟨_,rfl,l,xs,ls,rfl,s02 l _ hl,hL.same s02,hlen,hW,fun pA H3 ys fp s3 ep pv=>?_⟩
  have hpr:pA≠rA:=(Zf hr2 fp).symm
  refine ⟨pA,rfl,⟨_,Zr.of ep⟩,JD (K:=K) (a:=pA) (xs:=ys) (fun i σ H'=>∃(v2 v3:Option V),σ = [some (.ref l),some (.ref rA),v2,v3]/\Jh rA H3 H'/\H' rA=some (.lst (tab (Jc ls) fun x=>V.bl (decide (x∈((YZ ls).take i).map (·.1))))))
   ⟨none,none,rfl,Jh.refl _ _,?_⟩ (fun i σ H' _ ⟨_,_,_,fr,_⟩=>Zr.of (fr pA _ ep hpr)) ?_ ?_⟩
  ·rw [s3 rA _ hr2]
   exact Ks (fun z=>some (HO.lst z)) (Y7 fun x _ _=>by simp)
  ·rintro i x σ H' hx ⟨v2,v3,rfl,fr,hr'⟩
   obtain ⟨p,t,hp,rfl,ht⟩:=pv.get hx
   obtain ⟨u,lw⟩:=p
   obtain ⟨⟨d1,d2⟩,d3,d4⟩:=ZhQ hW (kY hp)
   obtain ⟨un,rfl⟩:=kF (show 0<=u from d1)
   have d2:(un:Int)<_:=d2
   have htr:t≠rA:=Wr ht (s3 rA _ hr2) (by intro z;cases z)
   refine ⟨t,_,rfl,YX.of (fr t _ ht htr),rfl,_,_,rfl,_,_,rfl,rfl,?_⟩
   refine ⟨_,rfl,_,rfl,rA,_,_,un,rfl,rfl,hr',(by rw [WO];exact Y5 (by lia)),?_⟩
   refine ⟨_,_,rfl,fr.trans Jh.upd,?_⟩
   rw [Zc,ZbJ,Y9 (ns:=YZ ls) _ hp]
   refine Ks (fun z=>some (HO.lst z)) (Y7 fun x _ _=>?_)
   by_cases e:x=(un:Int)
   ·rw [kh e]
    congr 1
    exact (kG (by rw [e];simp)).symm
   ·rw [kg e]
    congr 1
    exact Xd.mpr (by simp [e])
  ·rintro σ H' ⟨v2,v3,rfl,fr,hr'⟩
   refine ⟨_,rfl,k rA H' hrH (fun c o e=>fr c o (s3 c o (s02 c o e)) (Zf e hrH)) ?_⟩
   rw [pv.len,kJ (ki _)] at hr'
   exact hr'
def stA (dn:Int->Int) (T:List Int) (i:Nat):Int:=if i % 2=0 then dn (T.getD i 0) else ev2 (T.getD i 0)
theorem Zg7 (dn:Int->Int) (T:List Int):∀n,2*n<=T.length->((List.range (2*n)).map (stA dn T)).sum=fl dn (T.take (2*n))
 | 0,_=>by simp [fl]
 | n+1,h=>by
  have ih:=Zg7 dn T n (by lia)
  have e:2*(n+1)=2*n+1+1:=by lia
  have h1:T[2*n]? = some (T.getD (2*n) 0):=by simp [show 2*n<T.length by lia]
  have h2:T[2*n+1]? = some (T.getD (2*n+1) 0):=by simp [show 2*n+1<T.length by lia]
  rw [e,KN,KN,Kh,Kh,h1,h2]
  have e2:T.take (2*n)++(some (T.getD (2*n) 0)).toList++(some (T.getD (2*n+1) 0)).toList=T.take (2*n) ++ [T.getD (2*n) 0,T.getD (2*n+1) 0]:=by simp
  rw [e2,Zfp dn _ _ n _ (by rw [kM];lia),<- ih]
  have a1:stA dn T (2*n)=dn (T.getD (2*n) 0):=kh (by lia)
  have a2:stA dn T (2*n+1)=ev2 (T.getD (2*n+1) 0):=kg (by lia)
  rw [kP,kP,Tz,Tz]
  simp only [k7,NI,Nn,List.sum_nil,a1,a2]
  lia
def ZcD:Sp:=fun vs H Q _=>∃(tA uA:Addr) (T:List Int) (N:Nat) (ps:List Int) (n:Nat),vs = [.ref tA,.ref uA]/\H tA=some (.lst (T.map V.int))/\H uA=some (.lst (tab N fun x=>V.bl (decide (x∈ps))))/\T.length=2*n/\T.length<=200/\(∀x∈T,0<=x/\x<(N:Int)) /\
 ∀(p:Addr) (H':Hp) (ss:List Int),H p=none->Zi H H'->H' p=some (.lst (ss.map V.int))->ss.sum=fl (fun x=>if x∈ps then 1 else -1) T->ss=(List.range T.length).map (stA (fun x=>if x∈ps then 1 else -1) T)->Q (.ref p) H'
abbrev Ut:Stmt:=top 16
theorem JB:Zy ["tour", "uppers", "steps", "at", "thread", "upper"] ["tour", "uppers"] (Zj Ut):={}
theorem Zj4 {f:Addr}{fd:FuncData} (F:Yy K "steps_down" "steps_down" Ut f fd) (Ji:Ys P w K mg base 1 "born_with" ["thread"] Zlt) (ZC:mg "enumerate" = none):Yf P w K mg base Wy 2 f fd ["tour", "uppers"] ZcD:=by
 refine F.ok JB (fun vs H Q E h=>?_) (fun cdv A outer s H vs Q E hr h=>?_)
 ·obtain ⟨tA,uA,T,N,ps,n,rfl,_⟩:=h
  rfl
 ·obtain ⟨tA,uA,T,N,ps,n,rfl,hT,hU,hn,hlen,dom,k⟩:=h
  obtain ⟨dn,hdn⟩:∃dn:Int->Int,dn=fun x=>if x∈ps then 1 else -1:=⟨_,rfl⟩
  rw [<- hdn] at k
  refine ⟨_,(Zd (Zn (i:=2) JB.nd rfl (Or.inl rfl) (ZD Zb))
   (Zd (Yi k8 rfl (Wg (K:=K) rfl (by rfl) ZC (Za (pv 0) Zb)) (ZY (K:=K) (n:=2) rfl rfl (Zm (Zk (i:=3) JB.nd rfl (Or.inl rfl)) (Zm (Zk (i:=4) JB.nd rfl (Or.inl rfl)) ZQ))) (Zd (Zn (i:=5) JB.nd rfl (Or.inl rfl) (UX (ZkE (Zl ZmZ (pv 3) Ze) (fun _=>rfl)) (YQ Gm (pv 4) (Zq Ji hr (Za (pv 4) Zb)) (Zs _)) (Zz (Zp (K:=K) rfl) (pv 1) (pv 4) (fun _ _=>rfl))))
   (Zg (ZZ (Z9 (K:=K) rfl (Yw kH kR kS ZN (pv 2) (Za (UX (GC (pv 5)) Ze (Zcj US Ze)) Zb)))))))
   (Zg (Zw (pv 2))))),?_⟩
  refine ⟨(by show 0<=sizeLine;decide),fun sA hsA=>?_⟩
  refine ⟨_,rfl,tA,rfl,⟨_,Zr.of ((Zi.laid hsA) tA _ hT)⟩,Zaw (K:=K) (a:=tA) (xs:=T.map V.int) (fun i σ H'=>∃(v3 v4 v5:Option V),σ = [some (.ref tA),some (.ref uA),some (.ref sA),v3,v4,v5]/\Zi H H'/\H' sA=some (.lst (((List.range i).map (stA dn T)).map V.int)))
   ⟨none,none,none,rfl,Zi.laid hsA,Zc⟩ (fun i σ H' _ ⟨_,_,_,_,sm,_⟩=>Zr.of (sm tA _ hT)) ?_ ?_⟩
  ·rintro i x p σ H' hx ⟨v3,v4,v5,rfl,sm,hs⟩ hp
   obtain ⟨t,ht,rfl⟩:=J9 hx
   have hi:i<T.length:=(kC.mp ht).1
   obtain ⟨d0,d1⟩:=dom t (kY ht)
   have td:T.getD i 0=t:=by simp [ht]
   obtain ⟨G0,hG0⟩:∃G0,G0=upd H' p (.tup [.int i,.int t]):=⟨_,rfl⟩
   have sp:Zi H' G0:=by rw [hG0];exact Zi.laid hp
   have ep:G0 p=some (.tup [.int i,.int t]):=by rw [hG0];exact Zc
   rw [<- hG0]
   have sg0:Zi H G0:=sm.trans sp
   have l2:(((List.range i).map (stA dn T)).map V.int).length<sizeLine:=by
    rw [ke,ke,qo]
    exact Zv (by omega)
   have tail:∀v:Int,v=stA dn T i->(upd G0 sA (.lst (((List.range i).map (stA dn T)).map V.int ++ [V.int v]))) sA=some (.lst (((List.range (i+1)).map (stA dn T)).map V.int)):=fun v e=>by
    rw [Zc,KN,kP,kP,e]
    rfl
   have hbit:Builtin.bitAnd (i:Int) 1=(i:Int) % 2:=ZlT (by omega)
   refine ⟨p,_,rfl,YX.of ep,rfl,_,_,rfl,_,_,rfl,rfl,?_⟩
   refine ⟨_,rfl,_,_,rfl,rfl,_,rfl,?_⟩
   show if (Builtin.bitAnd (i:Int) 1 != 0)=true then _ else _
   rw [hbit]
   refine Z7 (fun hc=>?_) (fun hc=>?_)
   ·have odd:¬i % 2=0:=fun z=>by
     rw [NL] at hc
     omega
    have se:stA dn T i=ev2 t:=by unfold stA;rw [kg odd,td]
    refine ⟨_,rfl,_,rfl,_,rfl,d0,_,_,rfl,rfl,?_⟩
    refine ⟨_,rfl,.inl ⟨rfl,_,Zr.of (sp sA _ hs)⟩,_,rfl,_,rfl,?_⟩
    refine Z7 (fun hd=>?_) (fun hd=>?_)
    ·have e:(1:Int)=stA dn T i:=by
      have hd:t<bw t:=kE hd
      rw [se]
      unfold ev2
      unfold bw at hd
      split at hd
      ·rw [kh (by assumption)]
      ·omega
     exact ⟨sA,_,_,rfl,rfl,sp sA _ hs,l2,_,_,_,rfl,sg0.put hsA,tail _ e⟩
    ·have e:(-1:Int)=stA dn T i:=by
      have hd:¬t<bw t:=fun z=>hd (kG z)
      rw [se]
      unfold ev2
      unfold bw at hd
      split at hd
      ·omega
      ·rw [kg (by assumption)]
     exact ⟨1,rfl,sA,_,_,rfl,rfl,sp sA _ hs,l2,_,_,_,rfl,sg0.put hsA,tail _ e⟩
   ·have evn0:i % 2=0:=by
     by_cases z:i % 2=0
     ·exact z
     ·exact absurd (by rw [NL];omega) hc
    have se:stA dn T i=dn t:=by unfold stA;rw [kh evn0,td]
    rw [hdn] at se
    refine ⟨_,rfl,_,rfl,uA,_,_,_,rfl,rfl,Zr.of (sg0 uA _ hU),Zf0 _ d0 d1,?_⟩
    refine ⟨_,rfl,.inl ⟨rfl,_,Zr.of (sp sA _ hs)⟩,_,rfl,_,rfl,?_⟩
    refine Z7 (fun hd=>?_) (fun hd=>?_)
    ·have e:(1:Int)=stA dn T i:=by
      rw [hdn,se]
      exact (kh (kE hd)).symm
     exact ⟨sA,_,_,rfl,rfl,sp sA _ hs,l2,_,_,_,rfl,sg0.put hsA,tail _ e⟩
    ·have e:(-1:Int)=stA dn T i:=by
      rw [hdn,se]
      exact (kg (fun z=>hd (kG z))).symm
     exact ⟨1,rfl,sA,_,_,rfl,rfl,sp sA _ hs,l2,_,_,_,rfl,sg0.put hsA,tail _ e⟩
  ·rintro σ H' ⟨v3,v4,v5,rfl,sm,hs⟩
   rw [ke] at hs
   refine ⟨_,rfl,k sA H' _ hsA sm hs ?_ (by rw [hdn])⟩
   rw [hn,Zg7 dn T n (by omega),kJ (by omega)]
def Zad (dn:Int->Int) (T:List Int):Int:=ZfW (fl dn T) / 2
def Zfb:Sp:=fun vs H Q _=>∃(l:Addr) (xs:List V) (ls:List (Str×Int)),vs = [.ref l]/\H l=some (.lst xs)/\ZE H xs ls/\ls.length<=60/\Wk ls 0 /\
 ∀(p:Addr) (H':Hp) (ts:List (List Int)),H p=none->Zi H H'->GL (Jl (YZ ls)) (Jc ls) ts->H' p=some (.lst ((ts.map (Zad (Z0 (YZ ls)))).map V.int))->Q (.ref p) H'
theorem ZiT {m:Int->Int}{i:Nat}{ts:List (List Int)} (a:GL m i ts):∀T∈ts,∃n,T.length=2*n:=by
 induction a with
 | nil=>intro T h;cases h
 | add a h t ih=>
  intro T hT
  rcases Ku.mp hT with z | z
  ·exact ih T z
  ·rw [kZ.mp z]
   obtain ⟨L,_,_,_,rfl⟩:=t
   exact ⟨L,We _ _ _⟩
 | skip a h ih=>exact ih
abbrev ZcK:Stmt:=top 17
theorem Zf6:Zy ["drawing", "uppers"] ["drawing"] (Zj ZcK):={}
theorem ZkN {f:Addr}{fd:FuncData} (F:Yy K "turns" "turns" ZcK f fd) (YB:Ys P w K mg base 4 "uppers_at_ends" ["drawing"] Zbd) (Jw:Ys P w K mg base 2 "steps_down" ["tour", "uppers"] ZcD) (Zas:Ys P w K mg base 5 "tours" ["drawing"] ZcO) (ZaN:mg "abs" = none) (Zel:mg "sum" = none):Yf P w K mg base Wy 6 f fd ["drawing"] Zfb:=by
 refine F.ok Zf6 (fun vs H Q E h=>?_) (fun cdv A outer s H vs Q E hr h=>?_)
 ·obtain ⟨l,xs,ls,rfl,_⟩:=h
  rfl
 ·obtain ⟨l,xs,ls,rfl,hl,hL,hlen,hW,k⟩:=h
  have n60:=ZhE hW
  have M:=J5 hW
  refine ⟨_,(Zd (Zn (i:=1) Zf6.nd rfl (Or.inr rfl) (Zq YB hr (Za (pv 0) Zb)))
   (Zg (Zw (Gi (Ls:=["tour"]) (Fs:=["uppers"]) (fi:=[1]) (Z6.of (show YE ["drawing", "uppers"] (Zj ZcK) _ ["uppers"] [1]=true by decide +kernel)) rfl (ZV (K:=K) rfl (Zq Zas hr (Za (pv 0) Zb))) (fun cl C s3 H3 ex=>⟨(Zk (i:=0) (show ((["tour"]:List Str)++(["uppers"]:List Str)).Nodup by decide +kernel) rfl (Or.inl rfl)),YN,(Zl ZbC (Zx Zbk (by rfl) ZaN boot_abs (Za (Zx (ZeF (K:=K) rfl rfl) (by rfl) Zel boot_sum (Za (Zq Jw hr (Za (pv 0) (Za (pv 1) Zb))) Zb)) Zb)) Ze)⟩))))),?_⟩
  refine ⟨_,rfl,l,xs,ls,rfl,hl,hL,hlen,hW,fun uA H1 fu s1 eu=>?_⟩
  refine ⟨_,rfl,l,xs,ls,rfl,s1 l _ hl,hL.same s1,hlen,hW,fun tsA H2 ys ts ft s2 et rv ap tr=>?_⟩
  have good:=tr.good M (qE _)
  have tl:=tr.len M (qE _)
  refine ⟨tsA,rfl,⟨_,Zr.of et⟩,Jg (K:=K) (a:=tsA) (xs:=ys) (by rw [rv.len];exact Kt (Zv (by lia))) (fun i zs G=>Zi H2 G/\zs=((ts.take i).map (Zad (Z0 (YZ ls)))).map V.int) ⟨Zi.refl _,rfl⟩ (fun i zs G p=>by rw [p.2,ke,ke,kM];lia) (fun i zs G p=>Zr.of (p.1 tsA _ et)) (fun i x zs G hx p=>?_) (fun zs G p D hD=>?_)⟩
  ·obtain ⟨sG,rfl⟩:=p
   obtain ⟨q,T,hT,rfl,hq⟩:=rv.atX hx
   obtain ⟨n,hn⟩:=ZiT tr T (kY hT)
   have inT:∀x∈T,x∈ts.flatten:=fun x hx=>List.mem_flatten.mpr ⟨T,kY hT,hx⟩
   have sub:T.length<=ts.flatten.length:=by
    obtain ⟨a,b,e⟩:=List.append_of_mem (kY hT)
    rw [e,qK,qT,kj,kj]
    lia
   have fs:=Ws (Jc ls) ts.flatten good.1 good.2.1
   refine lcG ?_
   refine ⟨_,rfl,_,rfl,q,uA,T,Jc ls,(YZ ls).map (·.1),n,rfl,sG q _ hq,sG uA _ (s2 uA _ eu),hn,by lia,fun x hx=>good.2.1 x (inT x hx),fun pA G1 ss fp sp ep es _=>?_⟩
   refine ⟨pA,_,rfl,Zr.of ep,_,rfl,_,_,rfl,rfl,⟨by decide,by decide⟩,sG.trans sp,?_⟩
   rw [Y9 (ns:=ts) _ hT,kP]
   refine Ks (fun z=>_ ++ [V.int z]) ?_
   show (if ss.sum<0 then -ss.sum else ss.sum) / 2=_
   rw [es]
   rfl
  ·obtain ⟨sG,rfl⟩:=p
   refine k D _ ts (s1.free (s2.free (sG.free hD))) ((s1.trans (s2.trans sG)).step hD) tr ?_
   rw [Zc,rv.len,kJ (ki _)]
def hAt (dn:Int->Int) (T:List Int):Nat->Int
 | 0=>1
 | i+1=>hAt dn T i-stA dn T i
def plc (T:List Int) (x:Int):Nat:=T.idxOf x
def hgt (dn:Int->Int) (T:List Int) (x:Int):Int:=hAt dn T (plc T x)
theorem ZkA {T:List Int} (nd:T.Nodup) {i:Nat} (hi:i<T.length):plc T T[i]=i:=by
 unfold plc
 exact List.Nodup.idxOf_getElem nd i hi
theorem ZmG {dn:Int->Int}{T:List Int} (nd:T.Nodup) {i:Nat} (hi:i<T.length):hgt dn T T[i]=hAt dn T i:=by
 unfold hgt
 rw [ZkA nd hi]
theorem ZhX (dn:Int->Int) (T:List Int):∀i,hAt dn T i=1-((List.range i).map (stA dn T)).sum
 | 0=>by simp [hAt]
 | i+1=>by
  rw [KN,kP,Tz]
  show hAt dn T i-stA dn T i=_
  rw [ZhX dn T i]
  simp
  lia
theorem Zhb (m:Int->Int) (f:Int):∀(L j:Nat),j<L->(Wv m f L)[2*j]? = some (gt m f j)/\(Wv m f L)[2*j+1]? = some (m (gt m f j))
 | 0,j,h=>by lia
 | L+1,j,h=>by
  have hl:=We m f L
  by_cases e:j=L
  ·subst e
   constructor
   ·show (Wv m f j ++ [gt m f j,m (gt m f j)])[2*j]? = _
    rw [KO (by lia),hl]
    simp
   ·show (Wv m f j ++ [gt m f j,m (gt m f j)])[2*j+1]? = _
    rw [KO (by lia),hl]
    simp [show 2*j+1-2*j=1 by lia]
  ·obtain ⟨a,b⟩:=Zhb m f L j (by lia)
   constructor
   ·show (Wv m f L++_)[2*j]? = _
    rw [qj (by lia)];exact a
   ·show (Wv m f L++_)[2*j+1]? = _
    rw [qj (by lia)];exact b
structure One (ps:List (Int×Int)) (N:Nat) (T:List Int) (L:Nat):Prop where
 M:JM (Jl ps) N
 fl0:(ZI ps).Nodup
 T_is:T=Wv (Jl ps) 0 L
 L1:1<=L
 back:gt (Jl ps) 0 L=0
 nd:T.Nodup
 all:∀x:Int,0<=x->x<N->x∈T
 dom:∀x∈T,0<=x/\x<(N:Int)
 zero:fl (Z0 ps) T=0
theorem Zmh {ps:List (Int×Int)}{u l b:Int} (nd:(ZI ps).Nodup) (h:(u,l)∈ps) (h2:(l,b)∈ps):False:=by
 induction ps with
 | nil=>cases h
 | cons p r ih=>
  have e:ZI (p::r)=p.1::p.2::ZI r:=by simp [ZI]
  have fr:=nd
  rw [e] at nd
  obtain ⟨n1,nd2⟩:=Kx.mp nd
  obtain ⟨n2,nd3⟩:=Kx.mp nd2
  have inr:∀{a c:Int},(a,c)∈r->a∈ZI r/\c∈ZI r:=fun {a c} z=>⟨Kz.mpr ⟨(a,c),z,by simp⟩,Kz.mpr ⟨(a,c),z,by simp⟩⟩
  rcases kL.mp h with z | z
  ·rcases kL.mp h2 with y | y
   ·subst z
    have:(u,l)=(l,b):=y.symm
    have e1:u=l:=Ks Prod.fst this
    exact ZaQ fr (kK) e1
   ·subst z
    exact n2 (inr y).1
  ·rcases kL.mp h2 with y | y
   ·subst y
    exact n1 (kQ _ (inr z).2)
   ·exact ih nd3 z y
namespace One
variable {ps:List (Int×Int)}{N:Nat}{T:List Int}{L:Nat}
theorem len (o:One ps N T L):T.length=2*L:=by rw [o.T_is];exact We _ _ _
theorem at0 (o:One ps N T L) {j:Nat} (h:j<L):T[2*j]? = some (gt (Jl ps) 0 j):=by rw [o.T_is];exact (Zhb _ _ L j h).1
theorem at1 (o:One ps N T L) {j:Nat} (h:j<L):T[2*j+1]? = some (Jl ps (gt (Jl ps) 0 j)):=by rw [o.T_is];exact (Zhb _ _ L j h).2
theorem hg (o:One ps N T L) {i:Nat}{x:Int} (h:T[i]? = some x):hgt (Z0 ps) T x=hAt (Z0 ps) T i:=by
 obtain ⟨hi,e⟩:=kC.mp h
 rw [<- e]
 exact ZmG o.nd hi
theorem stE (o:One ps N T L) {j:Nat} (h:j<L):hAt (Z0 ps) T (2*j+1)=hAt (Z0 ps) T (2*j)-Z0 ps (gt (Jl ps) 0 j):=by
 show hAt (Z0 ps) T (2*j)-stA (Z0 ps) T (2*j)=_
 unfold stA
 rw [kh (by lia)]
 have:=o.at0 h
 simp [this]
theorem stO (o:One ps N T L) {j:Nat} (h:j<L):hAt (Z0 ps) T (2*j+2)=hAt (Z0 ps) T (2*j+1)-ev2 (Jl ps (gt (Jl ps) 0 j)):=by
 show hAt (Z0 ps) T (2*j+1)-stA (Z0 ps) T (2*j+1)=_
 unfold stA
 rw [kg (by lia)]
 have:=o.at1 h
 simp [this]
theorem Zpc (o:One ps N T L):hAt (Z0 ps) T (2*L)=1:=by
 rw [ZhX]
 have:=Zg7 (Z0 ps) T L (by rw [o.len];exact ki _)
 rw [this,kJ (by rw [o.len];exact ki _),o.zero]
 rfl
theorem on (o:One ps N T L) {x:Int} (h0:0<=x) (h1:x<N):∃j,j<L/\(x=gt (Jl ps) 0 j∨x=Jl ps (gt (Jl ps) 0 j)):=by
 have:=o.all x h0 h1
 rw [o.T_is] at this
 exact Y0.mp this
theorem pos (o:One ps N T L):(0:Int)<N:=by
 have:=o.at0 (j:=0) o.L1
 have h:=o.dom _ (kY this)
 have e:gt (Jl ps) 0 0=0:=rfl
 rw [e] at h
 exact h.2
theorem Zlk (o:One ps N T L) (j:Nat):0<=gt (Jl ps) 0 j/\gt (Jl ps) 0 j<(N:Int):=YH o.M (by decide) o.pos j
theorem ends (o:One ps N T L) {u l:Int} (h:(u,l)∈ps) (hu:0<=u/\u<(N:Int)):hgt (Z0 ps) T u=hgt (Z0 ps) T l+1:=by
 obtain ⟨m1,m2⟩:=Zc7 o.fl0 h
 have ne:=ZaQ o.fl0 h
 have du:Z0 ps u=1:=kh (K7.mpr ⟨(u,l),h,rfl⟩)
 have dl:Z0 ps l = -1:=by
  unfold Z0
  rw [kg]
  intro z
  obtain ⟨⟨a,b⟩,hab,e⟩:=K7.mp z
  have e:a=l:=e
  subst e
  have q:=(Zc7 o.fl0 hab).1
  rw [m2] at q
  subst q
  exact Zmh o.fl0 h hab
 obtain ⟨j,hj,c⟩:=o.on hu.1 hu.2
 rcases c with c | c
 ·have a0:=o.at0 hj
  have a1:=o.at1 hj
  rw [<- c] at a0 a1
  rw [m1] at a1
  rw [o.hg a0,o.hg a1,o.stE hj,<- c,du]
  lia
 ·have a0:=o.at0 hj
  have a1:=o.at1 hj
  have e:gt (Jl ps) 0 j=l:=by
   have:=o.M.inv _ (o.Zlk j).1 (o.Zlk j).2
   rw [<- c,m1] at this
   exact this.symm
  rw [e] at a0
  rw [<- c] at a1
  rw [o.hg a0,o.hg a1,o.stE hj,e,dl]
  lia
theorem ZjC (o:One ps N T L) {x:Int} (h0:0<=x) (h1:x<N) (hx:x % 2=0):hgt (Z0 ps) T x=hgt (Z0 ps) T (x+1)+1:=by
 have key:∀y:Int,(∃j,j<L/\y=Jl ps (gt (Jl ps) 0 j))->0<=y->hgt (Z0 ps) T (bw y)=hgt (Z0 ps) T y-ev2 y:=by
  rintro y ⟨j,hj,e⟩ _
  have a1:=o.at1 hj
  rw [<- e] at a1
  rw [o.hg a1]
  have nx:gt (Jl ps) 0 (j+1)=bw y:=by rw [e];rfl
  have st:=o.stO hj
  rw [<- e] at st
  by_cases lt:j+1<L
  ·have a2:=o.at0 lt
   rw [nx] at a2
   rw [o.hg a2,<- st]
   rfl
  ·have eL:j+1=L:=by omega
   have z0:bw y=0:=by rw [<- nx,eL];exact o.back
   have a0:=o.at0 (j:=0) o.L1
   have e0:gt (Jl ps) 0 0=0:=rfl
   rw [e0] at a0
   rw [z0,o.hg a0,<- st]
   have:=o.Zpc
   rw [show 2*L=2*j+2 by omega] at this
   rw [this]
   rfl
 have hb:bw x=x+1:=kh hx
 have hb1:bw (x+1)=x:=by rw [<- hb];exact Zcb x
 have h2:=Zkw o.M.ev h0 h1
 rw [hb] at h2
 obtain ⟨j,hj,c⟩:=o.on h2.1 h2.2
 rcases c with c | c
 ·
  have hx':∃i,i<L/\x=Jl ps (gt (Jl ps) 0 i):=by
   cases j with
   | zero=>
    have e0:gt (Jl ps) 0 0=0:=rfl
    rw [e0] at c
    omega
   | succ i=>
    refine ⟨i,by omega,?_⟩
    have:gt (Jl ps) 0 (i+1)=bw (Jl ps (gt (Jl ps) 0 i)):=rfl
    rw [this] at c
    rw [<- Zcb (Jl ps (gt (Jl ps) 0 i)),<- c,hb1]
  have q:=key x hx' h0
  rw [hb] at q
  have:ev2 x=1:=kh hx
  omega
 ·have q:=key (x+1) ⟨j,hj,c⟩ h2.1
  rw [hb1] at q
  have:ev2 (x+1) = -1:=kg (by omega)
  omega
theorem h0 (o:One ps N T L):hgt (Z0 ps) T 0=1:=by
 have a0:=o.at0 (j:=0) o.L1
 have e0:gt (Jl ps) 0 0=0:=rfl
 rw [e0] at a0
 rw [o.hg a0]
 rfl
theorem h1 (o:One ps N T L):hgt (Z0 ps) T 1=0:=by
 have:=o.ZjC (x:=0) (by decide) o.pos (by decide)
 rw [o.h0] at this
 have e:(0:Int)+1=1:=rfl
 rw [e] at this
 lia
end One
theorem ZcT {m:Int->Int}{ts:List (List Int)} (h:GL m 0 ts):ts = []:=by cases h;rfl
theorem Zb6 {m:Int->Int}:∀{n:Nat}{ts:List (List Int)},GL m (n+1) ts -> ∃T r,ts=T::r/\Jd m 0 T
 | 0,ts,h=>by
  cases h with
  | add a b c=>rw [ZcT a];exact ⟨_,[],rfl,c⟩
  | skip a b=>rw [ZcT a] at b;simp at b
 | n+1,ts,h=>by
  cases h with
  | add a b c=>
   obtain ⟨T,r,e,t⟩:=Zb6 a
   rw [e]
   exact ⟨T,_,rfl,t⟩
  | skip a b=>exact Zb6 a
theorem Zm2 (ps:List (Int×Int)) (x:Int):Z0 ps x % 2=1:=by unfold Z0;split<;>decide
theorem Zmb (x:Int):ev2 x % 2=1:=by unfold ev2;split<;>decide
theorem ZhO (ps:List (Int×Int)):∀T:List Int,fl (Z0 ps) T % 2=0
 | []=>rfl
 | [_]=>rfl
 | x::y::r=>by
  have h:=ZhO ps r
  have a:=Zm2 ps x
  have b:=Zmb y
  show (Z0 ps x+ev2 y+fl (Z0 ps) r) % 2=0
  omega
theorem sub_len:∀{l l':List Int},l.Nodup->(∀x∈l,x∈l')->l.length<=l'.length
 | [],_,_,_=>Km _
 | a::r,l',nd,h=>by
  obtain ⟨na,nr⟩:=Kx.mp nd
  have ih:=sub_len (l':=l'.erase a) nr fun x hx=>(List.mem_erase_of_ne (fun z:x=a=>na (by rw [<- z];exact hx))).mpr (h x (kQ _ hx))
  have ha:=h a kK
  rw [Nf ha] at ih
  have:0<l'.length:=List.length_pos_of_mem ha
  rw [KJ]
  lia
theorem ZkF {ls:List (Str×Int)}{T:List Int} (hW:Wk ls 0) (tr:GL (Jl (YZ ls)) (Jc ls) [T]) (h0:Zad (Z0 (YZ ls)) T=0):∃L,One (YZ ls) (Jc ls) T L/\T.length=Jc ls:=by
 have M:=J5 hW
 have nd0:(ZI (YZ ls)).Nodup:=(Wu hW).symm.nodup (Gj _)
 cases e:Jc ls with
 | zero=>rw [e] at tr;exact absurd (ZcT tr) (by simp)
 | succ n=>
  rw [e] at tr M
  obtain ⟨T',r,q,t⟩:=Zb6 tr
  cases q
  have p0:(0:Int)<((n+1:Nat):Int):=by lia
  obtain ⟨L,L1,bk,no,rfl⟩:=id t
  have nd:=t.nodup M (by decide) p0
  have all:∀x:Int,0<=x->x<((n+1:Nat):Int)->x∈Wv (Jl (YZ ls)) 0 L:=fun x x0 x1=>by
   obtain ⟨k,rfl⟩:=kF x0
   simpa using tr.mem k (by lia)
  refine ⟨L,⟨M,nd0,rfl,L1,bk,nd,all,t.dom M (by decide) p0,?_⟩,?_⟩
  ·have:=ZhO (YZ ls) (Wv (Jl (YZ ls)) 0 L)
   unfold Zad ZfW at h0
   split at h0<;>lia
  ·have a:=t.len M (by decide) p0
   have b:n+1<=(Wv (Jl (YZ ls)) 0 L).length:=by
    have sub:∀x∈UM (n+1),x∈Wv (Jl (YZ ls)) 0 L:=fun x hx=>all x (YM.mp hx).1 (YM.mp hx).2
    have:=sub_len (Gj (n+1)) sub
    rwa [Ub] at this
   lia
def ZnC:Sp:=fun vs H Q _=>∃(tA uA:Addr) (T:List Int) (ps:List (Int×Int)) (N L:Nat),vs = [.ref tA,.ref uA]/\H tA=some (.lst (T.map V.int))/\H uA=some (.lst (tab N fun x=>V.bl (decide (x∈ps.map (·.1)))))/\One ps N T L/\T.length=N/\N<=120 /\
 ∀(p:Addr) (H':Hp),H p=none->Zi H H'->H' p=some (.lst (tab N fun x=>V.int (hgt (Z0 ps) T x)))->Q (.ref p) H'
abbrev WC:Stmt:=top 19
theorem Yz:Zy ["tour", "uppers", "heights", "height", "thread", "step"] ["tour", "uppers"] (Zj WC):={}
theorem ZoG {f:Addr}{fd:FuncData} (F:Yy K "heights_along" "heights_along" WC f fd) (Jw:Ys P w K mg base 2 "steps_down" ["tour", "uppers"] ZcD) (Yn:mg "len" = none) (Zew:mg "zip" = none):Yf P w K mg base Wy 3 f fd ["tour", "uppers"] ZnC:=by
 refine F.ok Yz (fun vs H Q E h=>?_) (fun cdv A outer s H vs Q E hr h=>?_)
 ·obtain ⟨tA,uA,T,ps,N,L,rfl,_⟩:=h
  rfl
 ·obtain ⟨tA,uA,T,ps,N,L,rfl,hT,hU,o,hTl,n120,k⟩:=h
  refine ⟨_,(Zd (Zn (i:=2) Yz.nd rfl (Or.inl rfl) (Zl ZaZ (ZD (Za Ze Zb)) (Zx (YA (K:=K) rfl) (by rfl) Yn qa (Za (pv 0) Zb))))
   (Zd (Zn (i:=3) Yz.nd rfl (Or.inl rfl) Ze)
   (Zd (Yi k8 rfl (ZlY (K:=K) rfl (by rfl) Zew (Za (pv 0) (Za (Zq Jw hr (Za (pv 0) (Za (pv 1) Zb))) Zb))) (ZY (K:=K) (n:=2) rfl rfl (Zm (Zk (i:=4) Yz.nd rfl (Or.inl rfl)) (Zm (Zk (i:=5) Yz.nd rfl (Or.inl rfl)) ZQ))) (Zd (Yj (pv 3) (Yv (pv 2) (pv 4) set_list))
   (Zg (ZjZ (i:=3) Yz.nd rfl (Or.inl rfl) (pv 5) Znu))))
   (Zg (Zw (pv 2)))))),?_⟩
  refine ⟨(by show 1<=sizeLine;decide),fun l0 hl0=>?_⟩
  have s0:Zi H (upd H l0 (.lst [.int 0])):=Zi.laid hl0
  refine ⟨_,rfl,tA,_,rfl,.inl (Zr.of (s0 _ _ hT)),?_⟩
  rw [ke,hTl]
  refine ⟨l0,_,_,rfl,rfl,Zc,by lia,by lia,(by show 1*_<=sizeLine;exact Kt (Zv (by lia))),fun hA hhA=>?_⟩
  obtain ⟨H1,e1⟩:∃G,G=upd (upd H l0 (.lst [.int 0])) hA (.lst (List.replicate ((N:Nat):Int).toNat [V.int 0]).flatten):=⟨_,rfl⟩
  rw [<- e1]
  have s1:Zi H H1:=by rw [e1];exact s0.step hhA
  have h1:H1 hA=some (.lst (tab N fun _=>V.int 0)):=by rw [e1,Zc,kI,Zat]
  have fh:H hA=none:=s0.free hhA
  refine ⟨_,rfl,_,rfl,_,rfl,tA,uA,T,N,ps.map (·.1),L,rfl,s1 _ _ hT,s1 _ _ hU,o.len,by lia,o.dom,fun sA H2 ss fs s2 es _ ess=>?_⟩
  have dn:(fun x=>if x∈ps.map (·.1) then (1:Int) else -1)=Z0 ps:=rfl
  rw [dn] at ess
  have sl:ss.length=T.length:=by rw [ess,ke,qo]
  have s02:=s1.trans s2
  have h2:=s2 _ _ h1
  have nta:tA≠hA:=Zf hT fh
  have nsa:sA≠hA:=(Zf h1 fs).symm
  refine ⟨tA,sA,rfl,⟨_,Zr.of (s02 _ _ hT)⟩,⟨_,Zr.of es⟩,Zlq (K:=K) (a:=tA) (b:=sA) (xs:=T.map V.int) (ys:=ss.map V.int) (by rw [ke,ke,sl]) (fun i σ G=>∃(v4 v5:Option V),σ = [some (.ref tA),some (.ref uA),some (.ref hA),some (.int (hAt (Z0 ps) T i)),v4,v5]/\Jh hA H2 G /\
   G hA=some (.lst (tab N fun x=>V.int (if plc T x<i then hgt (Z0 ps) T x else 0)))) ⟨none,none,rfl,Jh.refl _ _,?_⟩ (fun i σ G ⟨_,_,_,fr,_⟩=>⟨Zr.of (fr _ _ (s02 _ _ hT) nta),Zr.of (fr _ _ es nsa)⟩) ?_ ?_⟩
  ·rw [h2]
   exact Ks (fun z=>some (HO.lst z)) (Y7 fun x _ _=>by simp)
  ·rintro i x y p σ G hx hy ⟨v4,v5,rfl,fr,hG⟩ hp
   obtain ⟨t,ht,rfl⟩:=J9 hx
   obtain ⟨d,hd,rfl⟩:=J9 hy
   have hi:i<T.length:=(kC.mp ht).1
   obtain ⟨d0,d1⟩:=o.dom t (kY ht)
   obtain ⟨tn,rfl⟩:=kF d0
   have hds:d=stA (Z0 ps) T i:=by
    rw [ess] at hd
    simp [hi] at hd
    exact hd.symm
   refine ⟨p,_,rfl,YX.of Zc,rfl,_,_,rfl,_,_,rfl,rfl,?_⟩
   have np:hA≠p:=Zf hG hp
   have hG1:(upd G p (.tup [.int (tn:Int),.int d])) hA=some (.lst (tab N fun x=>V.int (if plc T x<i then hgt (Z0 ps) T x else 0))):=by rw [Zh np];exact hG
   refine ⟨_,rfl,_,rfl,_,rfl,hA,_,_,tn,rfl,rfl,hG1,(by rw [WO];exact Y5 (by lia)),?_⟩
   refine ⟨_,rfl,_,rfl,_,_,rfl,rfl,?_⟩
   refine ⟨some (.int (tn:Int)),some (.int d),?_,(fr.new hp).trans Jh.upd,?_⟩
   ·rw [hds];rfl
   ·rw [Zc,ZbJ]
    refine Ks (fun z=>some (HO.lst z)) (Y7 fun x x0 x1=>?_)
    have pt:plc T ((tn:Nat):Int)=i:=by
     obtain ⟨_,e⟩:=kC.mp ht
     rw [<- e];exact ZkA o.nd hi
    by_cases e:x=(tn:Int)
    ·rw [kh e,e,pt,kh (Nat.lt_succ_self i)]
     unfold hgt
     rw [pt]
    ·rw [kg e]
     have nx:plc T x≠i:=fun z=>e (by
      have hx:=o.all x x0 x1
      have lt:plc T x<T.length:=TF hx
      have gx:T[plc T x]=x:=List.getElem_idxOf lt
      obtain ⟨_,e2⟩:=kC.mp ht
      rw [<- gx,<- e2]
      simp [z])
     by_cases c:plc T x<i
     ·rw [kh c,kh (by lia)]
     ·rw [kg c,kg (by lia)]
  ·rintro σ G ⟨v4,v5,rfl,fr,hG⟩
   refine ⟨_,rfl,k hA G fh ?_ ?_⟩
   ·exact fun c u e=>fr c u (s02 c u e) (Zf e fh)
   ·rw [hG]
    refine Ks (fun z=>some (HO.lst z)) (Y7 fun x x0 x1=>?_)
    rw [kh]
    rw [ke]
    unfold plc
    exact TF (o.all x x0 x1)
def hsB (sc:Int) (ls:List (Str×Int)) (b:Bool):Prop:=(sc=1->b=true)/\(sc≠1 -> ∃ts,GL (Jl (YZ ls)) (Jc ls) ts/\b=decide (ts.map (Zad (Z0 (YZ ls))) = [0]))
def Znb:Sp:=fun vs H Q _=>∃(l:Addr) (sc:Int) (xs:List V) (ls:List (Str×Int)),vs = [.ref l,.int sc]/\H l=some (.lst xs)/\ZE H xs ls/\ls.length<=60/\Wk ls 0 /\
 ∀(H':Hp) (b:Bool),Zi H H'->hsB sc ls b->Q (.bl b) H'
abbrev Zaf:Stmt:=top 20
theorem Ze4:Zy ["drawing", "scale"] ["drawing", "scale"] (Zj Zaf):={}
theorem Zn4 {f:Addr}{fd:FuncData} (F:Yy K "has_scale" "has_scale" Zaf f fd) (ZeJ:Ys P w K mg base 6 "turns" ["drawing"] Zfb):Yf P w K mg base Wy 7 f fd ["drawing", "scale"] Znb:=by
 refine F.ok Ze4 (fun vs H Q E h=>?_) (fun cdv A outer s H vs Q E hr h=>?_)
 ·obtain ⟨l,sc,xs,ls,rfl,_⟩:=h
  rfl
 ·obtain ⟨l,sc,xs,ls,rfl,hl,hL,hlen,hW,k⟩:=h
  refine ⟨_,(Zg (Zw (Zik (YQ Yp (pv 1) Ze (Zs _)) (ZaU (YQ (Zl4 (K:=K) rfl hr.units) (Zq ZeJ hr (Za (pv 0) Zb)) (ZD (Za Ze Zb)) (Zs _)))))),?_⟩
  refine ⟨_,rfl,rfl,_,rfl,?_⟩
  refine Z7 (fun c=>?_) (fun c=>?_)
  ·have e:sc=1:=V.int.inj (kE c)
   exact k H true (Zi.refl _) ⟨fun _=>rfl,fun z=>absurd e z⟩
  ·have e:sc≠1:=fun z=>c (kG (Ks V.int z))
   refine ⟨_,rfl,l,xs,ls,rfl,hl,hL,hlen,hW,fun p H1 ts fp s1 tr ep=>?_⟩
   refine ⟨(by show 1<=sizeLine;decide),fun q hq=>?_⟩
   refine ⟨p,q,ts.map (Zad (Z0 (YZ ls))),[0],rfl,rfl,Zr.of ((Zi.laid hq) _ _ ep),Zr.of Zc,?_⟩
   exact k _ _ (s1.step hq) ⟨fun z=>absurd z e,fun _=>⟨ts,tr,rfl⟩⟩
def thV (sc:Int) (ls:List (Str×Int)) (zs:List V):Prop:=(sc=1/\zs=tab (Jc ls) fun _=>V.int 0)∨(sc≠1 /\ ∃T L,GL (Jl (YZ ls)) (Jc ls) [T]/\Zad (Z0 (YZ ls)) T=0/\One (YZ ls) (Jc ls) T L/\zs=tab (Jc ls) fun x=>V.int (hgt (Z0 (YZ ls)) T x))
def Znv (C:Addr):Sp:=fun vs H Q E=>∃(l:Addr) (sc:Int) (xs:List V) (ls:List (Str×Int)),vs = [.ref l,.int sc]/\H l=some (.lst xs)/\ZE H xs ls/\ls.length<=60/\Wk ls 0 /\
 (∀(p:Addr) (H':Hp) (zs:List V),H p=none->Zi H H'->H' p=some (.lst zs)->thV sc ls zs->Q (.ref p) H') /\
 (∀(H':Hp) (ts:List (List Int)),Zi H H'->sc≠1->GL (Jl (YZ ls)) (Jc ls) ts->ts.map (Zad (Z0 (YZ ls))) ≠ [0]->E (.ref C) none H')
theorem Zm9 {dn:Int->Int}{ts:List (List Int)} (h:ts.map (Zad dn) = [0]):∃T,ts = [T]/\Zad dn T=0:=by
 cases ts with
 | nil=>cases h
 | cons T r=>
  cases r with
  | nil=>exact ⟨T,rfl,by simpa using h⟩
  | cons a b=>simp at h
abbrev Wc:Stmt:=top 21
theorem Zbu:Zy ["drawing", "scale"] ["drawing", "scale"] (Zj Wc):={}
theorem Zol {f Yh:Addr}{fd:FuncData} (F:Yy K "thread_heights" "thread_heights" Wc f fd) (U1:mg "NoHeights" = some (.ref Yh)) (Wj:PySem.W.excIn K Yh bmV "ValueError.__new__" = true)
  (U8:Ys P w K mg base 7 "has_scale" ["drawing", "scale"] Znb) (Jr:Ys P w K mg base 2 "ends_of" ["drawing"] (Za5 fun x=>decide (x = "end"))) (Zas:Ys P w K mg base 5 "tours" ["drawing"] ZcO) (YB:Ys P w K mg base 4 "uppers_at_ends" ["drawing"] Zbd)
  (WI:Ys P w K mg base 3 "heights_along" ["tour", "uppers"] ZnC) (Yn:mg "len" = none):Yf P w K mg base (CX1 P w) 8 f fd ["drawing", "scale"] (Znv Yh):=by
 refine F.okX Zbu (fun vs H Q E h=>?_) (fun cdv A outer s H vs Q E hr h=>?_)
 ·obtain ⟨l,sc,xs,ls,rfl,_⟩:=h
  rfl
 ·obtain ⟨l,sc,xs,ls,rfl,hl,hL,hlen,hW,k,kx⟩:=h
  have n120:=J8 hlen
  have nt:2*(Yd ls GW ls.length).length=Jc ls:=by unfold Jc YZ Jk;rw [ke]
  refine ⟨_,(Zd (ZW (ZaY (GC (Zq U8 hr (Za (pv 0) (Za (pv 1) Zb))))) (Zg (ZjT (by rfl) U1 Wj (Za ZG Zb))) ZJ)
   (Zd (ZW (Zt Yp (pv 1) Ze (Zs _)) (Zg (Zw (Zl ZaZ (ZD (Za Ze Zb)) (Zl WD Ze (Zx (YA (K:=K) rfl) (by rfl) Yn qa (Za (Zq Jr hr (Za (pv 0) Zb)) Zb)))))) ZJ)
   (Zg (Zw (Zq WI hr (Za (Zz (Zp (K:=K) rfl) (Zq Zas hr (Za (pv 0) Zb)) Ze (fun _ _=>rfl)) (Za (Zq YB hr (Za (pv 0) Zb)) Zb))))))),?_⟩
  refine ⟨_,rfl,_,rfl,l,sc,xs,ls,rfl,hl,hL,hlen,hW,fun H1 b s1 hb=>?_⟩
  refine ⟨b,rfl,?_⟩
  cases b with
  | false=>
   refine Zbt ?_
   refine ⟨(by show 1<=sizeLine;decide),?_⟩
   have ne:sc≠1:=fun z=>by cases hb.1 z
   obtain ⟨ts,tr,e⟩:=hb.2 ne
   exact kx H1 ts s1 ne tr (fun z=>by rw [kG z] at e;cases e)
  | true=>
   refine WN ?_
   refine ⟨_,rfl,rfl,_,rfl,?_⟩
   refine Z7 (fun c=>?_) (fun c=>?_)
   ·have e:sc=1:=V.int.inj (kE c)
    refine ⟨(by show 1<=sizeLine;decide),fun l0 hl0=>?_⟩
    have s0:=s1.step (o:=.lst [.int 0]) hl0
    refine ⟨_,rfl,l,xs,ls,rfl,s0 l _ hl,hL.same s0,hlen,hW.kd,fun eA H2 fe s2 ee=>?_⟩
    refine ⟨eA,_,rfl,.inl (Zr.of ee),_,_,rfl,rfl,.inl ⟨by decide,by decide⟩,?_⟩
    have el:((2:Int)*((((Yd ls (fun x=>decide (x = "end")) ls.length).map V.int).length:Nat):Int))=((Jc ls:Nat):Int):=by
     rw [ke]
     have:(Yd ls (fun x=>decide (x = "end")) ls.length).length=(Yd ls GW ls.length).length:=rfl
     lia
    show ZmE (V.ref l0) (V.int ((2:Int)*((((Yd ls (fun x=>decide (x = "end")) ls.length).map V.int).length:Nat):Int))) H2 _
    rw [el]
    refine ⟨l0,_,_,rfl,rfl,s2 l0 _ Zc,by lia,by lia,(by show 1*_<=sizeLine;exact Kt (Zv (by lia))),fun rA hrA=>?_⟩
    refine k rA _ _ ((s0.trans s2).free hrA) ((s0.trans s2).step hrA) Zc (.inl ⟨e,?_⟩)
    rw [kI,Zat]
   ·have e:sc≠1:=fun z=>c (kG (Ks V.int z))
    obtain ⟨ts0,tr0,e0⟩:=hb.2 e
    obtain ⟨T,rfl,t0⟩:=Zm9 (kE e0.symm)
    obtain ⟨L,o,hTl⟩:=ZkF hW tr0 t0
    refine ⟨_,rfl,l,xs,ls,rfl,s1 l _ hl,hL.same s1,hlen,hW,fun tsA H2 ys ts ft s2 et rv ap tr=>?_⟩
    have ets:ts = [T]:=(tr.uniq tr0)
    subst ets
    obtain ⟨tA,rfl,eT⟩:∃tA,ys = [V.ref tA]/\H2 tA=some (.lst (T.map V.int)):=by
     cases rv with
     | cons a r=>
      cases r
      obtain ⟨q,rfl,hq⟩:=a
      exact ⟨q,rfl,hq⟩
    refine ⟨tsA,_,_,_,rfl,rfl,Zr.of et,Zo (j:=0) rfl,?_⟩
    have s12:=s1.trans s2
    refine ⟨_,rfl,l,xs,ls,rfl,s12 l _ hl,hL.same s12,hlen,hW,fun uA H3 fu s3 eu=>?_⟩
    refine ⟨tA,uA,T,YZ ls,Jc ls,L,rfl,s3 _ _ eT,eu,o,hTl,n120,fun p H4 fp s4 ep=>?_⟩
    have s04:=(s12.trans s3).trans s4
    exact k p H4 _ ((s12.trans s3).free fp) s04 ep (.inr ⟨e,T,L,tr0,t0,o,rfl⟩)
def kn (kvs:List (Key×V)) (x:Int):Prop:=(Jo kvs (Sum.inl x)).isSome=true
structure Dc (g:Int->Int) (H:Hp) (d:Addr) (n:Nat) (kvs:List (Key×V)):Prop where
 at_:H d=some (.dK kvs)
 le:kvs.length<=n
 ok:∀x v,Jo kvs (Sum.inl x)=some v->v = .int (g x)
theorem ZbM {kvs:List (Key×V)}{x y:Int}{v:V}:kn (putK kvs (Sum.inl y) v) x ↔ (x=y∨kn kvs x):=by
 unfold kn
 rw [Zdo]
 by_cases e:x=y
 ·rw [kh (Ks Sum.inl e)]
  simp [e]
 ·rw [kg (fun z=>e (T4 z))]
  simp [e]
theorem Dc.put {g:Int->Int}{H:Hp}{d:Addr}{n:Nat}{kvs:List (Key×V)}{y:Int} (h:Dc g H d n kvs):Dc g (upd H d (.dK (putK kvs (Sum.inl y) (.int (g y))))) d (n+1) (putK kvs (Sum.inl y) (.int (g y))):=by
 refine ⟨Zc,?_,fun x v e=>?_⟩
 ·have:=Wh kvs (Sum.inl y) (.int (g y))
  have:=h.le
  lia
 ·rw [Zdo] at e
  split at e
  ·rename_i z
   cases e
   rw [T4 z]
  ·exact h.ok x v e
theorem Dc.val {g:Int->Int}{H:Hp}{d:Addr}{n:Nat}{kvs:List (Key×V)}{x:Int} (h:Dc g H d n kvs) (k:kn kvs x):Jo kvs (Sum.inl x)=some (.int (g x)):=by
 unfold kn at k
 cases e:Jo kvs (Sum.inl x) with
 | none=>rw [e] at k;cases k
 | some v=>rw [h.ok x v e]
theorem ZeC {g:Int->Int}{tu tl td:TE} {σ:L2.St}{H:Hp}{d:Addr}{n:Nat}{kvs:List (Key×V)}{u l:Int}{D:Ends} (hu:∀(H:Hp) (Q:VK),Q (.int u) H->tu σ H Q) (hl:∀(H:Hp) (Q:VK),Q (.int l) H->tl σ H Q) (hd:∀(H:Hp) (Q:VK),Q (.ref d) H->td σ H Q)
  (dc:Dc g H d n kvs) (hn:n<1000000) (hg:g u=g l+1)
  (k:∀(H':Hp) (kvs':List (Key×V)),Jh d H H'->Dc g H' d (n+1) kvs'->(∀x,kn kvs x->kn kvs' x)->((kn kvs u∨kn kvs l)->kn kvs' u/\kn kvs' l)->D.nx σ H'):
  Zi6 (tB (ZjG tu td)) (Zcz (tOp (rI0 fun i j=>V.int (i-j)) (tOp Zng td tu) (tC (V.int 1))) (Zjf td tl Zgw))
   (Zi6 (tB (ZjG tl td)) (Zcz (tOp (rI0 fun i j=>V.int (i+j)) (tOp Zng td tl) (tC (V.int 1))) (Zjf td tu Zgw)) Zmv) D σ H:=by
 have sz:kvs.length<sizeLine:=by have:=dc.le;rw [Kg];lia
 refine hu _ _ (hd _ _ ⟨d,_,rfl,UN.k (k:=Sum.inl u) dc.at_,_,rfl,?_⟩)
 refine Z7 (fun c=>?_) (fun c=>?_)
 ·have ku:kn kvs u:=c
  refine hd _ _ (hu _ _ ⟨d,.int (g u),rfl,?_,_,_,rfl,rfl,hd _ _ (hl _ _ ⟨d,_,rfl,Zge.k (k:=Sum.inl l) dc.at_ sz,?_⟩)⟩)
  ·have:=UN.k (k:=Sum.inl u) dc.at_
   rw [dc.val ku] at this
   exact this
  ·have e:g u-1=g l:=by lia
   show D.nx σ (upd H d (.dK (putK kvs (Sum.inl l) (.int (g u-1)))))
   rw [e]
   exact k _ _ Jh.upd dc.put (fun x h=>ZbM.mpr (.inr h)) (fun _=>⟨ZbM.mpr (.inr ku),ZbM.mpr (.inl rfl)⟩)
 ·have nu:¬kn kvs u:=c
  refine hl _ _ (hd _ _ ⟨d,_,rfl,UN.k (k:=Sum.inl l) dc.at_,_,rfl,?_⟩)
  refine Z7 (fun c2=>?_) (fun c2=>?_)
  ·have kl:kn kvs l:=c2
   refine hd _ _ (hl _ _ ⟨d,.int (g l),rfl,?_,_,_,rfl,rfl,hd _ _ (hu _ _ ⟨d,_,rfl,Zge.k (k:=Sum.inl u) dc.at_ sz,?_⟩)⟩)
   ·have:=UN.k (k:=Sum.inl l) dc.at_
    rw [dc.val kl] at this
    exact this
   ·have e:g l+1=g u:=hg.symm
    show D.nx σ (upd H d (.dK (putK kvs (Sum.inl u) (.int (g l+1)))))
    rw [e]
    exact k _ _ Jh.upd dc.put (fun x h=>ZbM.mpr (.inr h)) (fun _=>⟨ZbM.mpr (.inl rfl),ZbM.mpr (.inr kl)⟩)
  ·have nl:¬kn kvs l:=c2
   exact k H kvs (Jh.refl _ _) ⟨dc.at_,by have:=dc.le;lia,dc.ok⟩ (fun x h=>h) (fun z=>z.elim (fun y=>absurd y nu) (fun y=>absurd y nl))
theorem One.pair {ps:List (Int×Int)}{N:Nat}{T:List Int}{L:Nat} (o:One ps N T L) (pf:∀x:Int,0<=x->x<N->x∈ZI ps) {x:Int} (h0:0<=x) (h1:x<N):∃u l,(u,l)∈ps/\((x=u/\Jl ps x=l)∨(x=l/\Jl ps x=u)):=by
 obtain ⟨⟨u,l⟩,hp,hx⟩:=Kz.mp (pf x h0 h1)
 obtain ⟨a,b⟩:=Zc7 o.fl0 hp
 refine ⟨u,l,hp,?_⟩
 rcases kL.mp hx with z | z
 ·have z:x=u:=z
  exact .inl ⟨z,by rw [z];exact a⟩
 ·have z:x=l:=kZ.mp z
  exact .inr ⟨z,by rw [z];exact b⟩
theorem One.grow {ps:List (Int×Int)}{N:Nat}{T:List Int}{L:Nat} (o:One ps N T L) (pf:∀x:Int,0<=x->x<N->x∈ZI ps) {A B C:List (Key×V)}
  (ab:∀x,kn A x->kn B x) (bc:∀x,kn B x->kn C x) (pe:∀u l,(u,l)∈ps->(kn A u∨kn A l)->kn B u/\kn B l) (pb:∀j:Nat,2*j<N->(kn B (2*j)∨kn B (2*j+1))->kn C (2*j)/\kn C (2*j+1)) {r:Nat}
  (h:∀i x,i<=r->T[i]? = some x->kn A x):∀i x,i<=r+1->T[i]? = some x->kn C x:=by
 intro i x hi hx
 by_cases c:i<=r
 ·exact bc _ (ab _ (h i x c hx))
 ·have e:i=r+1:=by omega
  subst e
  have hlt:r+1<T.length:=(kC.mp hx).1
  have hL:=o.len
  by_cases ev:r % 2=0
  ·obtain ⟨j,rfl⟩:∃j,r=2*j:=⟨r / 2,by omega⟩
   have a0:=o.at0 (j:=j) (by omega)
   have a1:=o.at1 (j:=j) (by omega)
   rw [hx] at a1
   have ex:x=Jl ps (gt (Jl ps) 0 j):=kX a1
   have kA:=h (2*j) _ (ki _) a0
   obtain ⟨u,l,hp,c⟩:=o.pair pf (o.Zlk j).1 (o.Zlk j).2
   rw [ex]
   rcases c with ⟨z1,z2⟩ | ⟨z1,z2⟩
   ·rw [z2];exact bc _ (pe u l hp (.inl (z1 ▸ kA))).2
   ·rw [z2];exact bc _ (pe u l hp (.inr (z1 ▸ kA))).1
  ·obtain ⟨j,rfl⟩:∃j,r=2*j+1:=⟨r / 2,by omega⟩
   have a1:=o.at1 (j:=j) (by omega)
   have a2:=o.at0 (j:=j+1) (by omega)
   have e2:2*(j+1)=2*j+1+1:=by omega
   rw [e2,hx] at a2
   have ex:x=bw (Jl ps (gt (Jl ps) 0 j)):=kX a2
   have kB:=ab _ (h (2*j+1) _ (ki _) a1)
   obtain ⟨y,hy⟩:∃y,y=Jl ps (gt (Jl ps) 0 j):=⟨_,rfl⟩
   rw [<- hy] at ex kB
   have yd:0<=y/\y<(N:Int):=by rw [hy];exact o.dom _ (kY a1)
   have ne:=o.M.ev
   rw [ex]
   unfold bw
   split
   ·rename_i z
    obtain ⟨q,hq⟩:∃q:Nat,y=2*(q:Int):=⟨(y / 2).toNat,by omega⟩
    rw [hq] at kB yd ⊢
    exact (pb q (by omega) (.inl kB)).2
   ·rename_i z
    obtain ⟨q,hq⟩:∃q:Nat,y=2*(q:Int)+1:=⟨(y / 2).toNat,by omega⟩
    rw [hq] at kB yd ⊢
    have:=(pb q (by omega) (.inr kB)).1
    rwa [show 2*(q:Int)+1-1=2*(q:Int) by omega]
def lhV (sc:Int) (ls:List (Str×Int)) (H H':Hp) (v:V):Prop:=(sc=1 /\ ∃p,v = .ref p/\H p=none/\H' p=some (.lst (tab (Jc ls) fun _=>V.int 0))) ∨
 (sc≠1 /\ ∃ts,GL (Jl (YZ ls)) (Jc ls) ts/\((ts.map (Zad (Z0 (YZ ls))) ≠ [0]/\v = .non)∨(∃p T L,ts = [T]/\Zad (Z0 (YZ ls)) T=0/\One (YZ ls) (Jc ls) T L/\v = .ref p/\H p=none/\H' p=some (.lst (tab (Jc ls) fun x=>V.int (hgt (Z0 (YZ ls)) T x))))))
def ZmT:Sp:=fun vs H Q _=>∃(l:Addr) (sc:Int) (xs:List V) (ls:List (Str×Int)),vs = [.ref l,.int sc]/\H l=some (.lst xs)/\ZE H xs ls/\ls.length<=60/\Wk ls 0 /\
 ∀(v:V) (H':Hp),Zi H H'->lhV sc ls H H' v->Q v H'
theorem Zli {ls:List (Str×Int)}{ts:List (List Int)} (hW:Wk ls 0) (tr:GL (Jl (YZ ls)) (Jc ls) ts):(ts.map fun T=>(T.length:Int)).sum=(Jc ls:Int):=by
 have good:=tr.good (J5 hW) (qE _)
 have e:∀us:List (List Int),(us.map fun T=>(T.length:Int)).sum=(us.flatten.length:Int):=by
  intro us
  induction us with
  | nil=>rfl
  | cons a r ih=>simp only [k7,Nn,ih,qT,kj];lia
 rw [e]
 have a:=Ws (Jc ls) ts.flatten good.1 (fun x hx=>good.2.1 x hx)
 have b:Jc ls<=ts.flatten.length:=by
  have:=sub_len (Gj (Jc ls)) (l':=ts.flatten) (fun x hx=>by
   obtain ⟨x0,x1⟩:=YM.mp hx
   obtain ⟨k,rfl⟩:=kF x0
   exact tr.mem k (by lia))
  rwa [Ub] at this
 lia
theorem WV.at' {z:Addr}{dn:Int->Int}{H:Hp}:∀{ys:List V}{ts:List (List Int)}{i:Nat}{x:V},WV z dn H ys ts->ys[i]? = some x -> ∃T,ts[i]? = some T /\ ∃a g,x=V.ref a/\H a=some (.tup [.ref g,.int (ZfW (fl dn T) / 2)])/\H g=some (.lst (T.map V.int))
 | _,_,_,_,.nil,e=>by simp at e
 | _,_,0,_,.cons ⟨a,g,q,ha,hg,_⟩ _,e=>by simp at e;subst e;exact ⟨_,rfl,a,g,q,ha,hg⟩
 | _,_,i+1,x,.cons _ r,e=>by
  obtain ⟨T,h1,h2⟩:=WV.at' (i:=i) (x:=x) r (by simpa using e)
  exact ⟨T,by simpa using h1,h2⟩
abbrev Jm:Stmt:=top 39
theorem ZU:Zy ["_law_drawing_here", "_law_scale", "_law_walks_here", "_law_many", "_law_rows_here", "_law_found", "_law_turn", "_law_t", "_law_letter", "_law_upper", "_law_lower", "_law_thread"] ["_law_drawing_here", "_law_scale"] (Zj Jm):={}
theorem Zom {f:Addr}{fd:FuncData} (F:Yy K "_law_heights" "_law_heights" Jm f fd) (Um:Ys P w K mg base 2 "_law_walks" ["_law_drawing_here"] Zfc) (YK:Ys P w K mg base 1 "_law_rows" ["_law_drawing_here"] UY)
  (ZC:mg "enumerate" = none) (Zel:mg "sum" = none) (Yn:mg "len" = none) (ZR:mg "range" = none):Yf P w K mg base Wy 3 f fd ["_law_drawing_here", "_law_scale"] ZmT:=by
 refine F.ok ZU (fun vs H Q E h=>?_) (fun cdv A outer s H vs Q E hr h=>?_)
 ·obtain ⟨l,sc,xs,ls,rfl,_⟩:=h
  rfl
 ·obtain ⟨l,sc,xs,ls,rfl,hl,hL,hlen,hW,k⟩:=h
  have n120:=J8 hlen
  have hxl:=hL.len
  refine ⟨_,(Zd (Zn (i:=2) ZU.nd rfl (Or.inl rfl) (Zq Um hr (Za (pv 0) Zb)))
   (Zd (Zn (i:=3) ZU.nd rfl (Or.inl rfl) (Zx (ZeF (K:=K) rfl rfl) (by rfl) Zel boot_sum (Za (Gi (Ls:=["_law_gone", "_law_turn"]) (Fs:=[]) (fi:=[]) (Z6.of (show YE ["_law_drawing_here", "_law_scale", "_law_walks_here", "_law_many", "_law_rows_here", "_law_found", "_law_turn", "_law_t", "_law_letter", "_law_upper", "_law_lower", "_law_thread"] (Zj Jm) _ [] []=true by decide +kernel)) rfl (ZV (K:=K) rfl (pv 2)) (fun cl C s3 H3 ex=>⟨(ZY (K:=K) (n:=2) rfl rfl (Zm (Zk (i:=0) (show ((["_law_gone", "_law_turn"]:List Str)++([]:List Str)).Nodup by decide +kernel) rfl (Or.inl rfl)) (Zm (Zk (i:=1) (show ((["_law_gone", "_law_turn"]:List Str)++([]:List Str)).Nodup by decide +kernel) rfl (Or.inl rfl)) ZQ))),YN,(Zx (YA (K:=K) rfl) (by rfl) Yn qa (Za (pv 0) Zb))⟩)) Zb)))
   (Zd (ZW (Zt Yp (pv 1) Ze (Zs _)) (Zg (Zw (Zl ZaZ (ZD (Za Ze Zb)) (pv 3)))) ZJ)
   (Zd (ZW (PW.pt (ZhJ (Zt Zeo (Zx (YA (K:=K) rfl) (by rfl) Yn qa (Za (pv 2) Zb)) Ze (Zs _)) (Zhq (Zt Zeo (Zz (Yl (K:=K) rfl) (Zz (Zp (K:=K) rfl) (pv 2) Ze (fun _ _=>rfl)) Ze (fun _ _=>rfl)) Ze (Zs _))))) (Zg (Zw Zam)) ZJ)
   (Zd (Zn (i:=4) ZU.nd rfl (Or.inl rfl) (Zq YK hr (Za (pv 0) Zb)))
   (Zd (Zn (i:=5) ZU.nd rfl (Or.inr rfl) (Zmf (Zf1 Ze Ze (Zf1 Ze Ze ZlC)) rfl rfl (by intro z;cases z) (by decide)))
   (Zd (Yi k8 rfl (YI (by rfl) ZR (Za (pv 3) Zb)) (Zk (i:=6) ZU.nd rfl (Or.inl rfl)) (Zd (Yi k8 rfl (Wg (K:=K) rfl (by rfl) ZC (Za (pv 0) Zb)) (ZY (K:=K) (n:=2) rfl rfl (Zm (Zk (i:=7) ZU.nd rfl (Or.inl rfl)) (Zm (Zk (i:=8) ZU.nd rfl (Or.inl rfl)) ZQ))) (Zg (ZW (Zt Yp (Zz (Yl (K:=K) rfl) (pv 8) Ze (fun _ _=>rfl)) ZG (Zs _)) (Zd (Yj (Ym (YV (K:=K) rfl) (Zz (Zp (K:=K) rfl) (pv 4) (pv 7) (fun _ _=>rfl)) (Yb (Zz (Yl (K:=K) rfl) (pv 8) Ze (fun _ _=>rfl))) (Yb (Zl ZA (Zz (Yl (K:=K) rfl) (pv 8) Ze (fun _ _=>rfl)) Ze))) (ZcB (K:=K) (n:=2) rfl rfl (Zm (Zk (i:=9) ZU.nd rfl (Or.inl rfl)) (Zm (Zk (i:=10) ZU.nd rfl (Or.inl rfl)) ZQ))))
   (Zg (ZW (ZeP (ZeZ (JF hr) (pv 9) (pv 5))) (Zg (Yj (Zl YT (Zz (Zap (JF hr)) (pv 5) (pv 9) (fun _ _=>rfl)) Ze) (Yv (pv 5) (pv 10) (set_dict (JF hr))))) (Zg (ZW (ZeP (ZeZ (JF hr) (pv 10) (pv 5))) (Zg (Yj (Zl ZA (Zz (Zap (JF hr)) (pv 5) (pv 10) (fun _ _=>rfl)) Ze) (Yv (pv 5) (pv 9) (set_dict (JF hr))))) ZJ))))) ZJ)))
   (Zg (Yi k8 rfl (Zi7 (by rfl) ZR (Za Ze (Za (pv 3) (Za Ze Zb)))) (Zk (i:=11) ZU.nd rfl (Or.inl rfl)) (Zg (ZW (ZeP (ZeZ (JF hr) (pv 11) (pv 5))) (Zg (Yj (Zl YT (Zz (Zap (JF hr)) (pv 5) (pv 11) (fun _ _=>rfl)) Ze) (Yv (pv 5) (Zl ZA (pv 11) Ze) (set_dict (JF hr))))) (Zg (ZW (ZeP (ZeZ (JF hr) (Zl ZA (pv 11) Ze) (pv 5))) (Zg (Yj (Zl ZA (Zz (Zap (JF hr)) (pv 5) (Zl ZA (pv 11) Ze) (fun _ _=>rfl)) Ze) (Yv (pv 5) (pv 11) (set_dict (JF hr))))) ZJ))))))))
   (Zg (Zw (Gi (Ls:=["_law_thread"]) (Fs:=["_law_found"]) (fi:=[5]) (Z6.of (show YE ["_law_drawing_here", "_law_scale", "_law_walks_here", "_law_many", "_law_rows_here", "_law_found", "_law_turn", "_law_t", "_law_letter", "_law_upper", "_law_lower", "_law_thread"] (Zj Jm) _ ["_law_found"] [5]=true by decide +kernel)) rfl (YI (by rfl) ZR (Za (pv 3) Zb)) (fun cl C s3 H3 ex=>⟨(Zk (i:=0) (show ((["_law_thread"]:List Str)++(["_law_found"]:List Str)).Nodup by decide +kernel) rfl (Or.inl rfl)),YN,(Zz (Zap (JF hr)) (pv 1) (pv 0) (fun _ _=>rfl))⟩))))))))))),?_⟩
  refine ⟨_,rfl,l,xs,ls,rfl,hl,hL,hlen,hW,fun wA H1 ys ts fw s1 ew wv tr=>?_⟩
  have good:=tr.good (J5 hW) (qE _)
  have tl:=tr.len (J5 hW) (qE _)
  have yl:=wv.len
  refine ⟨_,rfl,wA,rfl,⟨_,Zr.of ew⟩,Jg (K:=K) (a:=wA) (xs:=ys) (Kt (Zv (by lia))) (fun i zs G=>Zi H1 G/\zs=((ts.take i).map fun T=>(T.length:Int)).map V.int) ⟨Zi.refl _,rfl⟩
   (fun i zs G q=>by rw [q.2,ke,ke,kM];lia) (fun i zs G q=>Zr.of (q.1 wA _ ew)) (fun i x zs G hx q=>?_) (fun zs G q D hD=>?_)⟩
  ·obtain ⟨sq,rfl⟩:=q
   obtain ⟨T,hT,a,g,rfl,ha,hg⟩:=wv.at' hx
   refine ⟨a,_,rfl,YX.of (sq _ _ ha),rfl,_,_,rfl,_,_,rfl,rfl,?_⟩
   dsimp only [Zd3]
   rw [kh rfl]
   refine ⟨_,rfl,g,_,rfl,.inl (Zr.of (sq _ _ hg)),sq,?_⟩
   rw [ke,Y9 (ns:=ts) _ hT,kP]
   rfl
  obtain ⟨sq,rfl⟩:=q
  rw [yl,kJ (ki _)]
  refine ⟨D,_,rfl,Zr.of Zc,?_⟩
  rw [Zli hW tr]
  have s2:=(s1.trans sq).step (o:=.lst ((ts.map fun T=>(T.length:Int)).map V.int)) hD
  have s12:=sq.step (o:=.lst ((ts.map fun T=>(T.length:Int)).map V.int)) hD
  generalize upd G D (.lst ((ts.map fun T=>(T.length:Int)).map V.int))=H2 at *
  have ew2:=s12 _ _ ew
  refine ⟨_,rfl,rfl,_,rfl,?_⟩
  refine Z7 (fun c=>?_) (fun c=>?_)
  ·have e:sc=1:=V.int.inj (kE c)
   refine ⟨(by show 1<=sizeLine;decide),fun l0 hl0=>⟨_,rfl,?_⟩⟩
   refine ⟨l0,_,_,rfl,rfl,Zc,by lia,by lia,(by show 1*_<=sizeLine;exact Kt (Zv (by lia))),fun rA hrA=>?_⟩
   refine k _ _ ((s2.step hl0).step hrA) (.inl ⟨e,rA,rfl,(s2.step hl0).free hrA,?_⟩)
   rw [Zc,kI,Zat]
  ·have e:sc≠1:=fun z=>c (kG (Ks V.int z))
   refine ⟨_,rfl,wA,_,rfl,.inl (Zr.of ew2),rfl,_,rfl,?_⟩
   by_cases len1:ts.length=1
   ·obtain ⟨T,rfl⟩:∃T,ts = [T]:=by
     cases ts with
     | nil=>simp at len1
     | cons T r=>
      cases r with
      | nil=>exact ⟨T,rfl⟩
      | cons _ _=>simp at len1
    have ly:((ys.length:Nat):Int)=1:=by rw [yl];rfl
    rw [ly]
    refine ZmB rfl ?_
    obtain ⟨T',hT',a,g,e1,ha,hg⟩:=wv.at' (i:=0) (x:=ys[0]'(by rw [yl];exact Nat.zero_lt_one)) (by simp [yl])
    have eT:T'=T:=by simpa using hT'.symm
    subst eT
    refine ⟨_,rfl,wA,_,_,_,rfl,rfl,Zr.of ew2,Zo (j:=0) (by simp [yl];rfl),?_⟩
    rw [e1]
    refine ⟨a,_,_,_,rfl,rfl,YX.of (s12 _ _ ha),Zo (j:=1) rfl,rfl,_,rfl,?_⟩
    by_cases t0:Zad (Z0 (YZ ls)) T'=0
    ·have t0':ZfW (fl (Z0 (YZ ls)) T') / 2=0:=t0
     rw [t0']
     refine ZmB rfl ?_
     obtain ⟨L,o,hTl⟩:=ZkF hW tr t0
     have pf:∀x:Int,0<=x->x<(Jc ls:Int)->x∈ZI (YZ ls):=fun x x0 x1=>(Wu hW).mem_iff.mpr (YM.mpr ⟨x0,x1⟩)
     obtain ⟨gg,hgg⟩:∃gg,gg=hgt (Z0 (YZ ls)) T':=⟨_,rfl⟩
     refine ⟨_,rfl,l,xs,ls,rfl,s2 l _ hl,hL.same s2,hlen,hW,fun R H3 rys fR s3 eR rv ap ndr=>?_⟩
     have s03:=s2.trans s3
     refine fun dA hdA=>⟨Zc,[(Sum.inl 0,.int 1),(Sum.inl 1,.int 0)],rfl,by decide,?_⟩
     have hdH:H dA=none:=s03.free hdA
     have mk:Zb1 [] [((Sum.inl 0:Key),V.int 1),(Sum.inl 1,.int 0)] = [((Sum.inl 0:Key),V.int 1),(Sum.inl 1,.int 0)]:=by decide +kernel
     rw [mk,Jv]
     obtain ⟨Hd,hHd⟩:∃Hd,Hd=upd H3 dA (.dK [((Sum.inl 0:Key),V.int 1),(Sum.inl 1,.int 0)]):=⟨_,rfl⟩
     rw [<- hHd]
     have sd:Zi H3 Hd:=by rw [hHd];exact Zi.laid hdA
     have dc0:Dc gg Hd dA 2 [((Sum.inl 0:Key),V.int 1),(Sum.inl 1,.int 0)]:=by
      refine ⟨by rw [hHd];exact Zc,by decide,fun x v e=>?_⟩
      by_cases x0:x=0
      ·subst x0
       rw [YO rfl] at e
       cases e
       rw [hgg,o.h0]
      ·rw [YL (fun z=>x0 (T4 z).symm)] at e
       by_cases x1:x=1
       ·subst x1
        rw [YO rfl] at e
        cases e
        rw [hgg,o.h1]
       ·rw [YL (fun z=>x1 (T4 z).symm)] at e
        cases e
     have hlH3:=s03 l _ hl
     have hL3:=hL.same s03
     have nld:l≠dA:=Zf hlH3 hdA
     have nRd:R≠dA:=Zf eR hdA
     have keepT:∀{G:Hp},Jh dA Hd G -> ∀c o,H3 c=some o->G c=some o:=fun fr c o e=>fr c o (sd c o e) (Zf e hdA)
     refine ⟨_,rfl,_,rfl,by lia,by lia,Jt (n:=((Jc ls:Nat):Int).toNat) (fun r σ G=>∃(kvs:List (Key×V)) (v6 v7 v8 v9 v10 v11:Option V),σ = [some (.ref l),some (.int sc),some (.ref wA),some (.int (Jc ls)),some (.ref R),some (.ref dA),v6,v7,v8,v9,v10,v11]/\Jh dA Hd G/\Dc gg G dA (2+r*200) kvs /\ ∀i x,i<=r->T'[i]? = some x->kn kvs x)
      ⟨_,none,none,none,none,none,none,rfl,Jh.refl _ _,dc0,fun i x hi hx=>?_⟩ ?_ ?_⟩
     ·have:i=0:=by lia
      subst this
      have:=o.at0 (j:=0) o.L1
      rw [show 2*0=0 from rfl,hx] at this
      have e0:x=0:=kX this
      rw [e0]
      rfl
     ·rintro r σ G hr' ⟨kvs,v6,v7,v8,v9,v10,v11,rfl,fr,dc,kw⟩
      rw [kI] at hr'
      refine ⟨_,rfl,l,rfl,⟨_,Zr.of (keepT fr _ _ hlH3)⟩,Zaw (K:=K) (a:=l) (xs:=xs) (fun i σ G'=>∃(kv2:List (Key×V)) (v7 v8 v9 v10 v11:Option V),σ = [some (.ref l),some (.int sc),some (.ref wA),some (.int (Jc ls)),some (.ref R),some (.ref dA),some (.int (0+(r:Int))),v7,v8,v9,v10,v11]/\Jh dA Hd G'/\Dc gg G' dA (2+r*200+i) kv2/\(∀x,kn kvs x->kn kv2 x) /\ ∀u w,(u,w)∈Jk ls i->(kn kvs u∨kn kvs w)->kn kv2 u/\kn kv2 w)
       ⟨kvs,_,_,_,_,_,rfl,fr,dc,fun _ h=>h,fun u w h=>by unfold Jk Yd at h;simp at h⟩ (fun i σ G' _ ⟨_,_,_,_,_,_,_,fr',_⟩=>Zr.of (keepT fr' _ _ hlH3)) ?_ ?_⟩
      ·rintro i x p σ G1 hx ⟨kv2,v7,v8,v9,v10,v11,rfl,fr1,dc1,mono1,pe1⟩ hp
       obtain ⟨⟨qx,qk⟩,ta,hq,rfl,hta⟩:=hL3.get hx
       have hi:i<ls.length:=(kC.mp hq).1
       obtain ⟨G0,hG0⟩:∃G0,G0=upd G1 p (.tup [.int i,.ref ta]):=⟨_,rfl⟩
       have npd:dA≠p:=Zf dc1.at_ hp
       have fr0:Jh dA Hd G0:=by rw [hG0];exact fr1.new hp
       have dc0':Dc gg G0 dA (2+r*200+i) kv2:=⟨by rw [hG0,Zh npd];exact dc1.at_,dc1.le,dc1.ok⟩
       have hta':=keepT fr0 _ _ hta
       have kk:isK ls GW i=GW qx:=by
        unfold isK
        rw [hq]
        cases h:GW qx<;>simp [h]
       refine ⟨p,_,rfl,YX.of Zc,rfl,_,_,rfl,_,_,rfl,rfl,?_⟩
       rw [<- hG0]
       refine ⟨_,rfl,ta,_,_,_,rfl,rfl,YX.of hta',Zo (j:=0) rfl,rfl,_,rfl,?_⟩
       refine Z7 (fun hc=>?_) (fun hc=>?_)
       ·have e:qx = "end" := V.str.inj (kE hc)
        subst e
        obtain ⟨k0,k1,pe⟩:=Zgf hW hq (fun z=>nb2 z)
        obtain ⟨kn',rfl⟩:=kF (show 0<=qk from k0)
        simp only [kI] at k1 pe
        obtain ⟨ra,hra,hrr⟩:=rv.at (Zay ls (i:=i) (n:=ls.length+1) (by lia))
        have ei:isK ls GW i=true:=by rw [kk];unfold GW;simp
        have pin:YW ls i∈YZ ls:=K7.mpr ⟨(i:Int),by
         unfold Yd
         exact K6.mpr ⟨i,K9.mpr hi,by rw [kh ei]⟩,by simp⟩
        have es:Jk ls (i+1)=Jk ls i ++ [YW ls i]:=by rw [W5,kh ei]
        obtain ⟨u,hu⟩:∃u,u=(rowAt ls i).getD kn' 0:=⟨_,rfl⟩
        obtain ⟨w',hw⟩:∃w',w'=(rowAt ls i).getD (kn'+1) 0:=⟨_,rfl⟩
        rw [<- hu,<- hw] at pe
        rw [pe] at pin es
        refine ⟨_,rfl,_,rfl,R,_,_,_,rfl,rfl,Zr.of (keepT fr0 R _ eR),Zo hra,_,rfl,ta,_,_,_,rfl,rfl,YX.of hta',Zo (j:=1) rfl,_,rfl,_,rfl,ta,_,_,_,rfl,rfl,YX.of hta',Zo (j:=1) rfl,_,_,rfl,rfl,_,rfl,ra,_,rfl,Zr.of (keepT fr0 ra _ hrr),fun cA hcA=>?_⟩
        rw [Ze1 k1,<- hu,<- hw]
        refine ⟨cA,_,rfl,Zr.of Zc,rfl,_,_,rfl,_,_,rfl,rfl,?_⟩
        have ncd:dA≠cA:=Zf dc0'.at_ hcA
        have fr2:Jh dA Hd (upd G0 cA (.lst [.int u,.int w'])):=fr0.new hcA
        have dc2:Dc gg (upd G0 cA (.lst [.int u,.int w'])) dA (2+r*200+i) kv2:=⟨by rw [Zh ncd];exact dc0'.at_,dc0'.le,dc0'.ok⟩
        have ud:0<=u/\u<(Jc ls:Int):=YM.mp ((Wu hW).mem_iff.mp (Kz.mpr ⟨(u,w'),pin,by simp⟩))
        show Zi6 (tB (ZjG (JC 9) (JC 5))) _ _ _ _ _
        refine ZeC (g:=gg) (u:=u) (l:=w') (d:=dA) (fun H Q q=>⟨_,rfl,q⟩) (fun H Q q=>⟨_,rfl,q⟩) (fun H Q q=>⟨_,rfl,q⟩) dc2 (by lia) (by rw [hgg];exact o.ends pin ud) fun H' kv3 frx dcx mx px=>?_
        refine ⟨kv3,_,_,_,_,_,rfl,fr2.trans frx,dcx,fun x h=>mx x (mono1 x h),fun u2 w2 h h2=>?_⟩
        rw [es] at h
        rcases Ku.mp h with h | h
        ·obtain ⟨a1,a2⟩:=pe1 u2 w2 h h2
         exact ⟨mx _ a1,mx _ a2⟩
        ·have:=kZ.mp h
         cases this
         exact px (h2.elim (fun z=>.inl (mono1 _ z)) (fun z=>.inr (mono1 _ z)))
       ·have e:¬qx = "end" := fun z=>hc (kG (Ks V.str z))
        have ei:isK ls GW i=false:=by rw [kk];unfold GW;simp [e]
        have es:Jk ls (i+1)=Jk ls i:=by rw [W5,ei];simp
        refine ⟨kv2,_,_,_,_,_,rfl,fr0,⟨dc0'.at_,by have:=dc0'.le;lia,dc0'.ok⟩,mono1,?_⟩
        rw [es]
        exact pe1
      ·rintro σ G1 ⟨kv2,v7,v8,v9,v10,v11,rfl,fr1,dc1,mono1,pe1⟩
       have ev2':∃hN:Nat,Jc ls=2*hN:=⟨(YZ ls).length,rfl⟩
       obtain ⟨hN,hN2⟩:=ev2'
       refine ⟨_,rfl,hN,?_,by lia,Zhi (lo:=0) (n:=hN) (fun j σ G'=>∃(kv3:List (Key×V)) (v11:Option V),σ = [some (.ref l),some (.int sc),some (.ref wA),some (.int (Jc ls)),some (.ref R),some (.ref dA),some (.int (0+(r:Int))),v7,v8,v9,v10,v11]/\Jh dA Hd G'/\Dc gg G' dA (2+r*200+60+j) kv3/\(∀x,kn kv2 x->kn kv3 x) /\ ∀q:Nat,q<j->(kn kv2 (2*q)∨kn kv2 (2*q+1))->kn kv3 (2*q)/\kn kv3 (2*q+1))
        ⟨kv2,_,rfl,fr1,⟨dc1.at_,by have:=dc1.le;lia,dc1.ok⟩,fun _ h=>h,fun q h=>by lia⟩ ?_ ?_⟩
       ·rw [hN2];simp
       ·rintro j σ G2 hj ⟨kv3,v11',rfl,fr2,dc2,mono2,pb2⟩
        have ej:(0:Int)+(j:Int)*2=2*(j:Int):=by lia
        rw [ej]
        show Zi6 (tB (ZjG (JC 11) (JC 5))) _ _ _ _ _
        refine ZeC (g:=gg) (u:=2*(j:Int)) (l:=2*(j:Int)+1) (d:=dA) (fun H Q q=>⟨_,rfl,q⟩) (fun H Q q=>⟨_,rfl,_,_,rfl,rfl,q⟩) (fun H Q q=>⟨_,rfl,q⟩) dc2 (by lia) (by rw [hgg];exact o.ZjC (by lia) (by lia) (by lia)) fun H' kv4 frx dcx mx px=>?_
        refine ⟨kv4,_,rfl,fr2.trans frx,dcx,fun x h=>mx x (mono2 x h),fun q hq h=>?_⟩
        by_cases c:q<j
        ·obtain ⟨a1,a2⟩:=pb2 q c h
         exact ⟨mx _ a1,mx _ a2⟩
        ·have:q=j:=by lia
         subst this
         exact px (h.elim (fun z=>.inl (mono2 _ z)) (fun z=>.inr (mono2 _ z)))
       ·rintro σ G2 ⟨kv3,v11',rfl,fr2,dc2,mono2,pb2⟩
        refine ⟨kv3,_,_,_,_,_,_,rfl,fr2,⟨dc2.at_,by have:=dc2.le;lia,dc2.ok⟩,?_⟩
        refine o.grow pf mono1 mono2 (fun u w' h h2=>?_) (fun j hj h=>pb2 j (by lia) h) kw
        refine pe1 u w' ?_ h2
        rw [hxl]
        exact h
     ·rintro σ G ⟨kvs,v6,v7,v8,v9,v10,v11,rfl,fr,dc,kw⟩
      rw [kI] at kw
      have all:∀x:Int,0<=x->x<(Jc ls:Int)->kn kvs x:=fun x x0 x1=>by
       obtain ⟨i,hi,e⟩:=Mc.mp (o.all x x0 x1)
       exact kw i x (by lia) (by simp [hi,e])
      refine ⟨_,rfl,_,rfl,by lia,by lia,Zhe (lo:=0) (n:=((Jc ls:Nat):Int).toNat) (Kt (Zv (by lia))) (fun i zs G'=>Zi G G'/\zs=(List.range i).map fun (x:Nat)=>V.int (gg (x:Int))) ⟨Zi.refl _,rfl⟩
       (fun i zs G' q=>by rw [q.2];simp) (fun i zs G' hi q=>?_) (fun zs G' q D hD=>?_)⟩
      ·obtain ⟨sq',rfl⟩:=q
       refine lcG ?_
       have kx:=all (i:Int) (by lia) (by lia)
       have dg:=UN.k (k:=Sum.inl (0+(i:Int))) (sq' _ _ dc.at_)
       rw [show (0:Int)+(i:Int)=(i:Int) by lia,dc.val kx] at dg
       refine ⟨_,rfl,_,rfl,dA,.int (gg (i:Int)),rfl,?_,sq',?_⟩
       ·rw [show (0:Int)+(i:Int)=(i:Int) by lia];exact dg
       ·rw [KN,kP];rfl
      ·obtain ⟨sq',rfl⟩:=q
       have sf:Zi H (upd G' D (.lst ((List.range ((Jc ls:Nat):Int).toNat).map fun (x:Nat)=>V.int (gg (x:Int))))):=fun c u e=>(sq'.step hD) c u (keepT fr c u (s03 c u e))
       refine k _ _ sf (.inr ⟨e,_,tr,.inr ⟨D,T',L,rfl,t0,o,rfl,?_,?_⟩⟩)
       ·cases z:H D with
        | none=>rfl
        | some u=>
         have:=(sq' _ _ (keepT fr _ _ (s03 _ _ z)))
         rw [hD] at this
         cases this
       ·rw [Zc,kI,hgg]
        rfl
    ·have t1:¬ZfW (fl (Z0 (YZ ls)) T') / 2=0:=t0
     refine Z7 (fun _=>?_) (fun hc=>absurd ?_ hc)
     ·exact k .non H2 s2 (.inr ⟨e,_,tr,.inl ⟨by simpa using t0,rfl⟩⟩)
     ·show (!decide (V.int (ZfW (fl (Z0 (YZ ls)) T') / 2)=V.int 0))=true
      rw [Kn (fun z=>t1 (V.int.inj z))]
      rfl
   ·refine Z7 (fun _=>?_) (fun hc=>absurd ?_ hc)
    ·refine Zbt (k .non H2 s2 (.inr ⟨e,_,tr,.inl ⟨fun z=>len1 ?_,rfl⟩⟩))
     have:=Ks List.length z
     simpa using this
    ·show (!decide (V.int (ys.length:Int)=V.int 1))=true
     rw [Kn (fun z=>len1 (by have:=V.int.inj z;lia))]
     rfl
theorem gK:Zi0 "born" = 2/\Zi0 "cross" = 0/\Zi0 "end" = -2:=⟨by decide +kernel,by decide +kernel,by decide +kernel⟩
theorem wkS {ls:List (Str×Int)}{n:Int} (h:Wk ls n):Zdk ls=n:=by
 induction h with
 | nil=>rfl
 | born _ _ _ ih=>rw [Zb7,ih,gK.1]
 | cross _ _ _ ih=>rw [Zb7,ih,gK.2.1];lia
 | fin _ _ _ ih=>rw [Zb7,ih,gK.2.2];lia
theorem Zlf {A A':List (Str×Int)}{n:Int} (ha:Wk A n) (ha':Wk A' n) {X:List (Str×Int)}{m:Int} (h:Wk X m):∀B,X=A++B->Wk (A'++B) m:=by
 have base:∀{X:List (Str×Int)}{m:Int},Wk X m->X=A->Wk (A' ++ []) m:=fun {X m} hx e=>by
  subst e
  have e1:=wkS hx
  have e2:=wkS ha
  rw [qh]
  rw [show m=n by lia]
  exact ha'
 have spl:∀{ls B:List (Str×Int)}{p:Str×Int},ls ++ [p]=A++B->(B = []/\ls ++ [p]=A) ∨ ∃B',B=B' ++ [p]/\ls=A++B':=fun {ls B p} e=>by
  rcases List.eq_nil_or_concat B with z | ⟨B',q,z⟩
  rotate_left
  rw [List.concat_eq_append] at z
  rotate_left
  ·subst z
   exact .inl ⟨rfl,by simpa using e⟩
  ·subst z
   rw [<- Kc] at e
   obtain ⟨e1,e2⟩:=List.append_inj' e rfl
   have e2:p=q:=by simpa using e2
   subst e2
   exact .inr ⟨B',rfl,e1⟩
 induction h with
 | nil=>
  intro B e
  obtain ⟨e1,e2⟩:=List.append_eq_nil_iff.mp e.symm
  subst e2
  exact base .nil e1.symm
 | @born ls n' k h h0 h1 ih=>
  intro B e
  rcases spl e with ⟨z,y⟩ | ⟨B',z,y⟩
  ·subst z;exact base (.born h h0 h1) y
  ·rw [z,<- Kc];exact .born (ih B' y) h0 h1
 | @cross ls n' k h h0 h1 ih=>
  intro B e
  rcases spl e with ⟨z,y⟩ | ⟨B',z,y⟩
  ·subst z;exact base (.cross h h0 h1) y
  ·rw [z,<- Kc];exact .cross (ih B' y) h0 h1
 | @fin ls n' k h h0 h1 ih=>
  intro B e
  rcases spl e with ⟨z,y⟩ | ⟨B',z,y⟩
  ·subst z;exact base (.fin h h0 h1) y
  ·rw [z,<- Kc];exact .fin (ih B' y) h0 h1
def crl (b c:Int):List (Str×Int):=[("born", b),("cross", c),("end", b)]
theorem Zni {ls:List (Str×Int)}{t:Nat}{b c:Int} (hW:Wk ls 0) (hb0:0<=b) (hb1:b<=Zdk (ls.take t)) (hc0:0<=c) (hc1:c<=Zdk (ls.take t)):Wk (ls.take t++crl b c++ls.drop t) 0:=by
 obtain ⟨n,hn⟩:=W0 hW t
 have en:=wkS hn
 rw [en] at hb1 hc1
 have w1:=Wk.born (k:=b) hn hb0 hb1
 have w2:=Wk.cross (k:=c) w1 hc0 (by lia)
 have w3:=Wk.fin (k:=b) w2 hb0 (by lia)
 have e:ls.take t ++ [(("born" : Str),b)] ++ [(("cross" : Str),c)] ++ [(("end" : Str),b)]=ls.take t++crl b c:=by simp [crl]
 rw [e,show n+2-2=n by lia] at w3
 exact Zlf hn w3 hW (ls.drop t) (KW t ls).symm
theorem ZhT:∀ls:List (Str×Int),(∀p∈ls,Kd p.1)->2*(((ls.map fun p=>V.str p.1).countP fun z=>eqV z (.str "born"):Nat):Int)-2*(((ls.map fun p=>V.str p.1).countP fun z=>eqV z (.str "end"):Nat):Int)=Zdk ls
 | [],_=>rfl
 | p::r,h=>by
  have ih:=ZhT r fun q hq=>h q (kQ _ hq)
  have gk:=gK
  have e:Zdk (p::r)=Zi0 p.1+Zdk r:=by unfold Zdk;simp
  have eqs:∀x y:Str,eqV (V.str x) (V.str y)=decide (x=y):=fun x y=>by
   unfold eqV
   by_cases z:x=y<;>simp [z]
  rw [k7,XC,XC,e,<- ih,eqs,eqs]
  rcases h p kK with z | z | z
  ·rw [z,gk.1]
   simp [show ¬(("born" : Str) = "end") by decide +kernel]
   lia
  ·rw [z,gk.2.1]
   simp [show ¬(("cross" : Str) = "end") by decide +kernel,show ¬(("cross" : Str) = "born") by decide +kernel]
  ·rw [z,gk.2.2]
   simp [show ¬(("end" : Str) = "born") by decide +kernel]
   lia
theorem Ziv {H:Hp}{xs:List V}{ls:List (Str×Int)} (h:ZE H xs ls):∀t,ZE H (xs.take t) (ls.take t):=by
 induction h with
 | nil=>intro t;rw [Mu,Mu];exact .nil
 | cons a _ ih=>
  intro t
  cases t with
  | zero=>exact .nil
  | succ n=>exact .cons a (ih n)
theorem Ziu {H:Hp}{xs:List V}{ls:List (Str×Int)} (h:ZE H xs ls):∀t,ZE H (xs.drop t) (ls.drop t):=by
 induction h with
 | nil=>intro t;rw [List.drop_nil,List.drop_nil];exact .nil
 | cons a b ih=>
  intro t
  cases t with
  | zero=>exact .cons a b
  | succ n=>exact ih n
theorem Yo {H H':Hp}{b:Addr} (s:Zi H H') (x:Bag H b):Bag H' b:=let ⟨g,r,h,e⟩:=x;⟨g,r,h,s _ _ e⟩
theorem lay {G:Hp}{c:Addr}{o:HO} (fc:G c=none):∃G',upd G c o=G'/\Zi G G'/\G' c=some o:=⟨_,rfl,Zi.laid fc,Zc⟩
theorem ZmV (xs:List V) (k:Nat):WB xs (some (k:Int)) none=xs.drop k:=by
 unfold WB
 rw [HT.Zbz,HT.Zax]
 by_cases h:k<=xs.length
 ·rw [KR h,kJ (by rw [KD];lia)]
 ·rw [KL (by lia),Nat.sub_self,List.take_zero,Ta (by lia)]
inductive Crl (M:Nat):List (Str×Int)->Prop
 | base {ls:List (Str×Int)} (h:nX ls<=M):Crl M ls
 | curl {a b:List (Str×Int)}{p q:Int} (h:Crl M (a++b)) (w:Wk (a++b) 0) (hq:q=p+1∨p=q+1):Crl M (a++crl p q++b)
def ZeL:Sp:=fun vs H Q _=>∃(b l0:Addr) (m:Int) (ls0:List (Str×Int)) (M:Nat),vs = [.ref b,.ref l0,.int m]/\Bag H b/\Drw H l0 ls0/\l0≠b/\ls0.length<=40/\nX ls0<=13/\Crl M ls0/\0<=m/\m<=3 /\ ∀(l:Addr) (H':Hp) (ls:List (Str×Int)),H l=none->Bag H' b->Jh b H H'->Drw H' l ls->nX ls<=13->Crl M ls->Q (.ref l) H'
theorem Zit (ls:List (Str×Int)):((ls.map fun p=>V.str p.1).countP fun z=>eqV z (.str "cross"))=nX ls:=by
 unfold nX
 rw [List.countP_map]
 refine List.countP_congr fun p _=>?_
 simp [eqV]
abbrev Wd:Stmt:=top 43
theorem Ya:Zy ["_law_bag_here", "_law_letters", "_law_most", "_law_found", "_law_turn", "_law_t", "_law_words", "_law_many", "_law_k", "_law_three"] ["_law_bag_here", "_law_letters", "_law_most"] (Zj Wd):={}
theorem ZiM {f:Addr}{fd:FuncData} (F:Yy K "_law_curled" "_law_curled" Wd f fd) (Zu:Ys P w K mg base 1 "_law_take" ["_law_bag_here", "_law_many"] Za0) (Yt:mg "list" = none) (ZR:mg "range" = none) (Yn:mg "len" = none) (Gu:mg "max" = none):
  Yf P w K mg base Wy 2 f fd ["_law_bag_here", "_law_letters", "_law_most"] ZeL:=by
 refine F.ok Ya (fun vs H Q E h=>?_) (fun cdv A outer s H vs Q E hr h=>?_)
 ·obtain ⟨b,l0,m,ls0,M,rfl,_⟩:=h
  rfl
 ·obtain ⟨b,l0,m,ls0,M,rfl,hbag,dr,l0b,len0,nx0,cr0,m0,m3,k⟩:=h
  refine ⟨_,(Zd (Zn (i:=3) Ya.nd rfl (Or.inl rfl) (Yr (JJ (K:=K) rfl) (by rfl) Yt XR (Za (pv 1) Zb)))
   (Zd (Yi k8 rfl (YI (by rfl) ZR (Za (Zq Zu hr (Za (pv 0) (Za (Zl ZA (pv 2) Ze) Zb))) Zb)) (Zk (i:=4) Ya.nd rfl (Or.inl rfl)) (Zd (Zn (i:=5) Ya.nd rfl (Or.inl rfl) (Zq Zu hr (Za (pv 0) (Za (Zl ZA (Zx (YA (K:=K) rfl) (by rfl) Yn qa (Za (pv 3) Zb)) Ze) Zb))))
   (Zd (Zea (i:=6) Ya.nd rfl (Or.inl rfl) (Ls:=["_law_letter"]) (Fs:=[]) (fi:=[]) (Z6.of (show YE ["_law_bag_here", "_law_letters", "_law_most", "_law_found", "_law_turn", "_law_t", "_law_words", "_law_many", "_law_k", "_law_three"] (Zj Wd) _ [] []=true by decide +kernel)) rfl (ZV (K:=K) rfl (pv 3)) (fun cl C s3 H3 ex=>⟨(Zk (i:=0) (show ((["_law_letter"]:List Str)++([]:List Str)).Nodup by decide +kernel) rfl (Or.inl rfl)),YN,(Zz (Yl (K:=K) rfl) (pv 0) Ze (fun _ _=>rfl))⟩))
   (Zd (Zn (i:=7) Ya.nd rfl (Or.inl rfl) (Zl YT (Zl WD Ze (Z9 (K:=K) rfl (Yw kH Xi Xj (Zaq (K:=K) rfl) (Ym (YV (K:=K) rfl) (pv 6) Je (Yb (pv 5))) (Za ZG Zb)))) (Zl WD Ze (Z9 (K:=K) rfl (Yw kH Xi Xj (Zaq (K:=K) rfl) (Ym (YV (K:=K) rfl) (pv 6) Je (Yb (pv 5))) (Za ZG Zb))))))
   (Zd (Zn (i:=8) Ya.nd rfl (Or.inl rfl) (Zq Zu hr (Za (pv 0) (Za (Zx (W6 rfl) (by rfl) Gu Mj (Za Ze (Za (pv 7) Zb))) Zb))))
   (Zd (Zn (i:=9) Ya.nd rfl (Or.inl rfl) (ZD (Za (ZH (Za ZG (Za (pv 8) Zb))) (Za (ZH (Za ZG (Za (Zl ZA (pv 8) Ze) Zb))) (Za (ZH (Za ZG (Za (pv 8) Zb))) Zb)))))
   (ZlW (ZW (Zt Yp (Zq Zu hr (Za (pv 0) (Za Ze Zb))) Ze (Zs _)) (Zg (Zn (i:=9) Ya.nd rfl (Or.inl rfl) (ZD (Za (ZH (Za ZG (Za (Zl ZA (pv 8) Ze) Zb))) (Za (ZH (Za ZG (Za (pv 8) Zb))) (Za (ZH (Za ZG (Za (Zl ZA (pv 8) Ze) Zb))) Zb)))))) ZJ)
   (Zg (ZW (PW.pt (GI (Zjr Gm Gm Ze (pv 7) Ze) (GI (Zt Gm (Z9 (K:=K) rfl (Yw kH Xi Xj (Zaq (K:=K) rfl) (pv 6) (Za ZG Zb))) Ze (Zs _)) (Uh (Zt Gm (Z9 (K:=K) rfl (Yw kH Xi Xj (Zaq (K:=K) rfl) (pv 6) (Za ZG Zb))) Ze (Zs _)))))) (Zg (Zn (i:=3) Ya.nd rfl (Or.inl rfl) (Zl WK (Zl WK (Ym (YV (K:=K) rfl) (pv 3) Je (Yb (pv 5))) (pv 9)) (Ym (YV (K:=K) rfl) (pv 3) (Yb (pv 5)) Je)))) ZJ)))))))))
   (Zg (Zw (pv 3))))),?_⟩
  obtain ⟨xs0,hl0,hL0,hW0,hlen0⟩:=dr
  refine ⟨_,rfl,l0,xs0,rfl,.inl (Zr.of hl0),fun l hl=>?_⟩
  have s1:=Zi.laid (o:=.lst xs0) hl
  have el1:upd H l (.lst xs0) l=some (.lst xs0):=Zc
  generalize upd H l (.lst xs0)=H1 at *
  have bg1:=Yo s1 hbag
  have nb:∀{c:Addr},H c=none->c≠b:=fun {c} h z=>by
   obtain ⟨_,_,_,e⟩:=hbag
   rw [z,e] at h
   cases h
  refine ⟨_,rfl,_,rfl,_,_,rfl,rfl,b,_,rfl,bg1,by lia,by lia,fun d H2 d0 d1 bg2 f2=>?_⟩
  refine ⟨_,rfl,by lia,by lia,Jt (n:=d.toNat) (fun i σ G=>∃(lA:Addr) (xs:List V) (ls:List (Str×Int)) (v4 v5 v6 v7 v8 v9:Option V),σ = [some (.ref b),some (.ref l0),some (.int m),some (.ref lA),v4,v5,v6,v7,v8,v9]/\Bag G b/\Jh b H G/\H lA=none/\G lA=some (.lst xs)/\ZE G xs ls/\Wk ls 0/\ls.length<=40+3*i/\nX ls<=13/\Crl M ls)
   ⟨l,xs0,ls0,none,none,none,none,none,none,rfl,bg2,s1.frm.trans f2,hl,f2 _ _ el1 (nb hl),(hL0.same s1).frm f2 bg1,hW0,by lia,nx0,cr0⟩ ?_ ?_⟩
  ·rintro i σ G hi ⟨lA,xs,ls,v4,v5,v6,v7,v8,v9,rfl,bg,fr,flA,hG,hL,hW,hlen,hnx,hcr⟩
   have hxl:=hL.len
   have i3:i<4:=by lia
   have nlb:=nb flA
   refine ⟨_,rfl,_,rfl,lA,_,rfl,.inl (Zr.of hG),_,_,rfl,rfl,b,_,rfl,bg,by lia,by lia,fun t' G1 e0 e1 bg1' f1=>?_⟩
   obtain ⟨t,rfl⟩:=kF e0
   have hG1:=f1 _ _ hG nlb
   have hL1:=hL.frm f1 bg
   have tl:t<=ls.length:=by lia
   refine ⟨_,rfl,lA,rfl,⟨_,Zr.of hG1⟩,Jg (K:=K) (a:=lA) (xs:=xs) (Kt (Zv (by lia))) (fun j zs G'=>Zi G1 G'/\zs=(ls.take j).map fun p=>V.str p.1) ⟨Zi.refl _,rfl⟩
    (fun j zs G' q=>by rw [q.2,ke,kM];exact Nat.min_le_left _ _) (fun j zs G' q=>Zr.of (q.1 _ _ hG1)) (fun j x zs G' hx q=>?_) (fun zs G' q wA hwA=>?_)⟩
   ·obtain ⟨sq,rfl⟩:=q
    obtain ⟨p,ta,hp,rfl,hta⟩:=hL1.get hx
    refine lcG ⟨_,rfl,ta,_,_,_,rfl,rfl,YX.of (sq _ _ hta),Zo (j:=0) rfl,sq,?_⟩
    rw [Y9 (ns:=ls) _ hp]
   obtain ⟨sq,rfl⟩:=q
   rw [hxl,kJ (ki _)]
   have s2:Zi G1 (upd G' wA (.lst (ls.map fun p=>V.str p.1))):=sq.step hwA
   have ew:(upd G' wA (.lst (ls.map fun p=>V.str p.1))) wA=some (.lst (ls.map fun p=>V.str p.1)):=Zc
   generalize upd G' wA (.lst (ls.map fun p=>V.str p.1))=G2 at *
   have fs:∀r:List (Str×Int),(r.map fun p=>V.str p.1).all WL=true:=fun r=>by
    rw [qO]
    intro x hx
    obtain ⟨p,_,rfl⟩:=K7.mp hx
    rfl
   have ect:WB (ls.map fun p=>V.str p.1) none (some (t:Int))=(ls.take t).map fun p=>V.str p.1:=by
    rw [ZkL (xs:=ls.map fun p=>V.str p.1) (t:=t) (by rw [ke];exact tl),qX]
   refine ⟨_,rfl,_,rfl,_,rfl,wA,_,rfl,Zr.of ew,fun c1 hc1=>?_⟩
   rw [ect]
   obtain ⟨G3,z,s3,e3⟩:=lay (o:=.lst ((ls.take t).map fun p=>V.str p.1)) hc1
   rw [z];clear z
   refine ⟨.inl ⟨rfl,_,Zr.of e3⟩,c1,_,_,rfl,rfl,Zr.of e3,rfl,fs _,_,_,rfl,rfl,.inl ⟨by decide,by decide⟩,?_⟩
   refine ⟨_,rfl,_,rfl,_,rfl,wA,_,rfl,Zr.of (s3 _ _ ew),fun c2 hc2=>?_⟩
   rw [ect]
   obtain ⟨G4,z,s4,e4⟩:=lay (o:=.lst ((ls.take t).map fun p=>V.str p.1)) hc2
   rw [z];clear z
   refine ⟨.inl ⟨rfl,_,Zr.of e4⟩,c2,_,_,rfl,rfl,Zr.of e4,rfl,fs _,_,_,rfl,rfl,.inl ⟨by decide,by decide⟩,_,_,rfl,rfl,?_⟩
   have cs:=ZhT (ls.take t) fun p hp=>hW.kd p (List.mem_of_mem_take hp)
   obtain ⟨mm,hm⟩:∃mm,mm=Zdk (ls.take t):=⟨_,rfl⟩
   dsimp only
   rw [cs,<- hm]
   have m120:mm<=1000:=by
    rw [hm]
    obtain ⟨n,hn⟩:=W0 hW t
    have:=Zbr hn
    rw [wkS hn]
    rw [kM] at this
    lia
   have s14:Zi G1 G4:=(s2.trans s3).trans s4
   have bg4:=Yo s14 bg1'
   refine ⟨_,rfl,_,rfl,_,_,rfl,b,_,rfl,bg4,(by split<;>lia),(by split<;>lia),fun kk G5 k0 k1 bg5 f5=>?_⟩
   have hG5:=f5 _ _ (s14 _ _ hG1) nlb
   have hL5:ZE G5 xs ls:=(hL1.same s14).frm f5 bg4
   have fr5:Jh b H G5:=((fr.trans f1).trans s14.frm).trans f5
   have nwb:wA≠b:=fun z=>by
    obtain ⟨_,_,_,e⟩:=Yo sq bg1'
    rw [z,e] at hwA
    cases hwA
   have ew5:=f5 _ _ (s4 _ _ (s3 _ _ ew)) nwb
   have three:∀{X X1 X2 X3 X4:Hp}{u1 u2 u3 cA:Addr}{p q:Int},Zi X X1->X1 u1=some (.tup [.str "born", .int p])->Zi X1 X2->X2 u2=some (.tup [.str "cross", .int q])->Zi X2 X3->X3 u3=some (.tup [.str "end", .int p])->Zi X3 X4->X4 cA=some (.lst [.ref u1,.ref u2,.ref u3])->ZE X4 [.ref u1,.ref u2,.ref u3] (crl p q):=fun a1 b1 a2 b2 a3 b3 a4 b4=>
    .cons ⟨_,rfl,a4 _ _ (a3 _ _ (a2 _ _ b1))⟩ (.cons ⟨_,rfl,a4 _ _ (a3 _ _ b2)⟩ (.cons ⟨_,rfl,a4 _ _ b3⟩ .nil))
   refine ⟨_,rfl,(by show 2<=sizeLine;decide),fun u1 hu1=>?_⟩
   obtain ⟨X1,z,a1,b1⟩:=lay (o:=.tup [.str "born", .int kk]) hu1
   rw [z];clear z
   refine ⟨_,rfl,_,_,rfl,rfl,(by show 2<=sizeLine;decide),fun u2 hu2=>?_⟩
   obtain ⟨X2,z,a2,b2⟩:=lay (o:=.tup [.str "cross", .int (kk+1)]) hu2
   rw [z];clear z
   refine ⟨_,rfl,(by show 2<=sizeLine;decide),fun u3 hu3=>?_⟩
   obtain ⟨X3,z,a3,b3⟩:=lay (o:=.tup [.str "end", .int kk]) hu3
   rw [z];clear z
   refine ⟨(by show 3<=sizeLine;decide),fun cA hcA=>?_⟩
   obtain ⟨X4,z,a4,b4⟩:=lay (o:=.lst [.ref u1,.ref u2,.ref u3]) hcA
   rw [z];clear z
   have L4:=three a1 b1 a2 b2 a3 b3 a4 b4
   have s54:=((a1.trans a2).trans a3).trans a4
   refine ⟨fun σ G=>∃(cA:Addr) (ts:List V) (p q:Int),σ = [some (.ref b),some (.ref l0),some (.int m),some (.ref lA),some (.int (0+(i:Int))),some (.int (t:Nat)),some (.ref wA),some (.int mm),some (.int kk),some (.ref cA)]/\Bag G b/\Jh b H G/\G lA=some (.lst xs)/\ZE G xs ls/\G wA=some (.lst (ls.map fun p=>V.str p.1))/\G cA=some (.lst ts)/\ZE G ts (crl p q)/\0<=p/\p<=kk+1/\0<=q/\q<=kk+1/\(q=p+1∨p=q+1),?_,?_⟩
   ·refine ⟨_,rfl,b,2,rfl,Yo s54 bg5,by decide,by decide,fun sd Y sd0 sd1 bgY fY=>⟨rfl,_,rfl,?_⟩⟩
    have ncb:cA≠b:=fun z=>by
     obtain ⟨_,_,_,e⟩:=Yo ((a1.trans a2).trans a3) bg5
     rw [z,e] at hcA
     cases hcA
    have frY:Jh b H Y:=(fr5.trans s54.frm).trans fY
    have hLY:ZE Y xs ls:=(hL5.same s54).frm fY (Yo s54 bg5)
    have hGY:=fY _ _ (s54 _ _ hG5) nlb
    have ewY:=fY _ _ (s54 _ _ ew5) nwb
    refine Z7 (fun _=>?_) (fun _=>?_)
    ·refine ⟨_,rfl,_,_,rfl,rfl,(by show 2<=sizeLine;decide),fun w1 hw1=>?_⟩
     obtain ⟨Y1,z,c1',d1'⟩:=lay (o:=.tup [.str "born", .int (kk+1)]) hw1
     rw [z];clear z
     refine ⟨_,rfl,(by show 2<=sizeLine;decide),fun w2 hw2=>?_⟩
     obtain ⟨Y2,z,c2',d2'⟩:=lay (o:=.tup [.str "cross", .int kk]) hw2
     rw [z];clear z
     refine ⟨_,rfl,_,_,rfl,rfl,(by show 2<=sizeLine;decide),fun w3 hw3=>?_⟩
     obtain ⟨Y3,z,c3',d3'⟩:=lay (o:=.tup [.str "end", .int (kk+1)]) hw3
     rw [z];clear z
     refine ⟨(by show 3<=sizeLine;decide),fun cB hcB=>?_⟩
     obtain ⟨Y4,z,c4',d4'⟩:=lay (o:=.lst [.ref w1,.ref w2,.ref w3]) hcB
     rw [z];clear z
     have sY:=((c1'.trans c2').trans c3').trans c4'
     exact ⟨cB,_,_,_,rfl,Yo sY bgY,frY.trans sY.frm,sY _ _ hGY,hLY.same sY,sY _ _ ewY,d4',three c1' d1' c2' d2' c3' d3' c4' d4',by lia,by lia,by lia,by lia,by lia⟩
    ·exact ⟨cA,_,_,_,rfl,bgY,frY,hGY,hLY,ewY,fY _ _ b4 ncb,L4.frm fY (Yo s54 bg5),by lia,by lia,by lia,by lia,by lia⟩
   ·rintro σ Y ⟨cA,ts,p,q,rfl,bgY,frY,hGY,hLY,ewY,ecY,lcY,p0,p1,q0,q1,pq⟩
    refine ⟨_,rfl,_,_,rfl,rfl,_,rfl,Z7 (fun h1=>?_) (fun h1=>?_)⟩
    rotate_left
    ·refine ⟨_,rfl,WN (WN ?_)⟩
     exact ⟨lA,xs,ls,_,_,_,_,_,_,rfl,bgY,frY,flA,hGY,hLY,hW,by lia,hnx,hcr⟩
    have m1:0<mm:=kE h1
    refine ⟨_,_,rfl,rfl,_,rfl,Z7 (fun h2=>?_) (fun h2=>?_)⟩
    rotate_left
    ·refine WN ?_
     exact ⟨lA,xs,ls,_,_,_,_,_,_,rfl,bgY,frY,flA,hGY,hLY,hW,by lia,hnx,hcr⟩
    refine ⟨_,rfl,.inl ⟨rfl,_,Zr.of ewY⟩,wA,_,_,rfl,rfl,Zr.of ewY,rfl,fs _,_,_,rfl,rfl,_,rfl,Z7 (fun h3=>?_) (fun h3=>?_)⟩
    rotate_left
    ·refine WN ?_
     exact ⟨lA,xs,ls,_,_,_,_,_,_,rfl,bgY,frY,flA,hGY,hLY,hW,by lia,hnx,hcr⟩
    refine ⟨_,rfl,.inl ⟨rfl,_,Zr.of ewY⟩,wA,_,_,rfl,rfl,Zr.of ewY,rfl,fs _,_,_,rfl,rfl,_,rfl,Z7 (fun h4=>?_) (fun h4=>?_)⟩
    rotate_left
    ·exact ⟨lA,xs,ls,_,_,_,_,_,_,rfl,bgY,frY,flA,hGY,hLY,hW,by lia,hnx,hcr⟩
    have h4:(((ls.map fun p=>V.str p.1).countP fun z=>eqV z (.str "cross"):Nat):Int)<12:=kE h4
    rw [Zit] at h4
    have k1':kk<mm:=by revert k1;split<;>lia
    refine ⟨_,rfl,_,rfl,_,rfl,lA,_,rfl,Zr.of hGY,fun f1 hf1=>?_⟩
    rw [ZkL (xs:=xs) (t:=t) (by lia)]
    obtain ⟨Z1,z,g1,j1⟩:=lay (o:=.lst (xs.take t)) hf1
    rw [z];clear z
    have lct:=lcY.len
    refine ⟨_,rfl,f1,cA,_,_,rfl,rfl,j1,g1 _ _ ecY,(by rw [kM,lct,Kg];show min t xs.length+3<=_;lia),fun f2 hf2=>?_⟩
    obtain ⟨Z2,z,g2,j2⟩:=lay (o:=.lst (xs.take t++ts)) hf2
    rw [z];clear z
    have g12:=g1.trans g2
    refine ⟨_,rfl,_,rfl,_,rfl,lA,_,rfl,Zr.of (g12 _ _ hGY),fun f3 hf3=>?_⟩
    rw [ZmV]
    obtain ⟨Z3,z,g3,j3⟩:=lay (o:=.lst (xs.drop t)) hf3
    rw [z];clear z
    refine ⟨f2,f3,_,_,rfl,rfl,g3 _ _ j2,j3,(by rw [kj,kM,KD,lct,Kg];show min t xs.length+3+(xs.length-t)<=_;lia),fun f4 hf4=>?_⟩
    obtain ⟨Z4,z,g4,j4⟩:=lay (o:=.lst (xs.take t++ts++xs.drop t)) hf4
    rw [z];clear z
    have g14:=(g12.trans g3).trans g4
    have bgZ:=Yo g14 bgY
    refine ⟨f4,_,ls.take t++crl p q++ls.drop t,_,_,_,_,_,_,rfl,bgZ,frY.trans g14.frm,?_,j4,?_,Zni hW p0 (by rw [<- hm];lia) q0 (by rw [<- hm];lia),?_,?_,.curl (by rw [KW];exact hcr) (by rw [KW];exact hW) pq⟩
    ·exact frY.free bgY ((g12.trans g3).free hf4)
    ·exact (((Ziv hLY t).append lcY).append (Ziu hLY t)).same g14
    ·rw [kj,kj,kM,KD];show min t ls.length+3+_<=_;lia
    ·have e:nX (ls.take t)+nX (ls.drop t)=nX ls:=by rw [<- J6,KW]
     have ec:nX (crl p q)=1:=rfl
     rw [J6,J6,ec]
     lia
  ·rintro σ G ⟨lA,xs,ls,v4,v5,v6,v7,v8,v9,rfl,bg,fr,flA,hG,hL,hW,hlen,hnx,hcr⟩
   exact ⟨_,rfl,k lA G ls flA bg fr ⟨xs,hG,hL,hW,by lia⟩ hnx hcr⟩
theorem Zmm {ls:List (Str×Int)} (hW:Wk ls 0):∀d i,i+d<=ls.length->(rb (ls.take i)).2<=(rb (ls.take (i+d))).2
 | 0,i,_=>qE _
 | d+1,i,h=>by
  refine MZ (Zmm hW d i (by lia)) ?_
  have hq:ls[i+d]? = some ls[i+d]:=by simp [show i+d<ls.length by lia]
  obtain ⟨tk,c⟩:=Zd9 hW hq
  show _<=(rb (ls.take (i+d+1))).2
  rw [tk,YF]
  generalize hp:ls[i+d]=p at c
  obtain ⟨px,pk⟩:=p
  rcases c with ⟨e,_⟩ | ⟨e,_⟩ | ⟨e,_⟩
  ·have e:px = "born" := e
   subst e
   rw [Wi]
   show _<=(rb (ls.take (i+d))).2+2
   lia
  ·have e:px = "cross" := e
   subst e
   rw [JL]
   exact qE _
  ·have e:px = "end" := e
   subst e
   rw [Gz]
   exact qE _
theorem ZhR {ls:List (Str×Int)} (hW:Wk ls 0) {t:Nat} (ht:t<=ls.length) {x:Int} (hx:x∈rowAt ls t):0<=x/\x<(Jc ls:Int):=by
 obtain ⟨h0,h1,h2⟩:=Zbq hW t ht
 have a:=YM.mp (h2.mem_iff.mp (Xx _ hx))
 obtain ⟨g0,g1,g2⟩:=Zbq hW ls.length (ki _)
 have e:rowAt ls ls.length = []:=by
  unfold rowAt
  rw [kJ (ki _)]
  have:=U5 hW
  exact qf.mp (by lia)
 rw [e,Xq] at g2
 have hl:=g2.length_eq
 rw [Ub,Ua] at hl
 have le:=Zmm hW (ls.length-t) t (by lia)
 rw [show t+(ls.length-t)=ls.length by lia] at le
 have hn:Jc ls=(rb (ls.take ls.length)).2.toNat:=hl
 rw [hn]
 lia
theorem Zg2 {ls:List (Str×Int)} (hW:Wk ls 0) {t:Nat}{q:Str×Int} (hq:ls[t]? = some q) (hb:q.1 ≠ "born"):(0<=(YW ls t).1/\(YW ls t).1<(Jc ls:Int))/\(0<=(YW ls t).2/\(YW ls t).2<(Jc ls:Int)):=by
 obtain ⟨k0,k1,pe⟩:=Zgf hW hq hb
 have ht:t<ls.length:=(kC.mp hq).1
 rw [pe]
 refine ⟨ZhR hW (Kt ht) ?_,ZhR hW (Kt ht) ?_⟩
 ·show (rowAt ls t).getD q.2.toNat 0∈_
  rw [show (rowAt ls t).getD q.2.toNat 0=(rowAt ls t)[q.2.toNat]'(by lia) by simp [show q.2.toNat<(rowAt ls t).length by lia]]
  exact Nv _
 ·show (rowAt ls t).getD (q.2.toNat+1) 0∈_
  rw [show (rowAt ls t).getD (q.2.toNat+1) 0=(rowAt ls t)[q.2.toNat+1]'k1 by simp [k1]]
  exact Nv _
theorem Zav {ls:List (Str×Int)}{i:Nat}{q:Str×Int} (hq:ls[i]? = some q) {pr:Str->Bool}:isK ls pr i=pr q.1:=by
 unfold isK
 rw [hq]
 cases h:pr q.1<;>simp [h]
abbrev UA:Str->Bool:=fun x=>!decide (x = "born")
def HG (sc:Int) (ls:List (Str×Int)) (g:Int->Int):Prop:=(sc=1/\g=fun _=>0)∨(sc≠1 /\ ∃T L,GL (Jl (YZ ls)) (Jc ls) [T]/\Zad (Z0 (YZ ls)) T=0/\One (YZ ls) (Jc ls) T L/\g=hgt (Z0 (YZ ls)) T)
theorem thV.hg {sc:Int}{ls:List (Str×Int)}{zs:List V} (h:thV sc ls zs):∃g,HG sc ls g/\zs=(tab (Jc ls) g).map V.int:=by
 rcases h with ⟨a,e⟩ | ⟨a,T,L,b,c,d,e⟩
 ·exact ⟨fun _=>0,.inl ⟨a,rfl⟩,by rw [e,Za7]⟩
 ·exact ⟨hgt (Z0 (YZ ls)) T,.inr ⟨a,T,L,b,c,d,rfl⟩,by rw [e,Za7]⟩
theorem HG.uniq {sc:Int}{ls:List (Str×Int)}{g g':Int->Int} (a:HG sc ls g) (b:HG sc ls g'):g=g':=by
 rcases a with ⟨e,rfl⟩ | ⟨ne,T,L,tr,_,_,rfl⟩
 ·rcases b with ⟨_,rfl⟩ | ⟨ne,_⟩
  ·rfl
  ·exact absurd e ne
 ·rcases b with ⟨e,_⟩ | ⟨_,T',L',tr',_,_,rfl⟩
  ·exact absurd e ne
  ·have:=tr.uniq tr'
   cases this
   rfl
def dfs (g:Int->Int) (ls:List (Str×Int)) (ns:List Int):List Int:=ns.map fun t=>g (YW ls t.toNat).1-g (YW ls t.toNat).2
def ZmH (C:Addr):Sp:=fun vs H Q E=>∃(l:Addr) (sc:Int) (xs:List V) (ls:List (Str×Int)),vs = [.ref l,.int sc]/\H l=some (.lst xs)/\ZE H xs ls/\ls.length<=60/\Wk ls 0 /\
 (∀(p:Addr) (H':Hp) (g:Int->Int),H p=none->Zi H H'->HG sc ls g->H' p=some (.lst ((dfs g ls (Yd ls UA ls.length)).map V.int))->Q (.ref p) H') /\
 (∀(H':Hp) (ts:List (List Int)),Zi H H'->sc≠1->GL (Jl (YZ ls)) (Jc ls) ts->ts.map (Zad (Z0 (YZ ls))) ≠ [0]->E (.ref C) none H')
abbrev JW:Stmt:=top 22
theorem UH:Zy ["drawing", "scale", "heights"] ["drawing", "scale"] (Zj JW):={}
theorem Zn0 {f Yh:Addr}{fd:FuncData} (F:Yy K "name_heights" "name_heights" JW f fd) (J3:ZiR P w K mg base 8 "thread_heights" ["drawing", "scale"] (Znv Yh)) (Y8:Ys P w K mg base 2 "pairs_ahead" ["drawing", "numbers"] ZcL)
  (Wa:Ys P w K mg base 1 "names_of" ["drawing"] (Za5 UA)):Yf P w K mg base (CX1 P w) 9 f fd ["drawing", "scale"] (ZmH Yh):=by
 refine F.okX UH (fun vs H Q E h=>?_) (fun cdv A outer s H vs Q E hr h=>?_)
 ·obtain ⟨l,sc,xs,ls,rfl,_⟩:=h
  rfl
 ·obtain ⟨l,sc,xs,ls,rfl,hl,hL,hlen,hW,k,kx⟩:=h
  have n120:=J8 hlen
  refine ⟨_,(Zd (Zn (i:=2) UH.nd rfl (Or.inr rfl) (Zim J3 (hr.mono (by decide)) Zob (Za (pv 0) (Za (pv 1) Zb))))
   (Zg (Zw (Gi (Ls:=["upper", "lower"]) (Fs:=["heights"]) (fi:=[2]) (Z6.of (show YE ["drawing", "scale", "heights"] (Zj JW) _ ["heights"] [2]=true by decide +kernel)) rfl (ZV (K:=K) rfl (Zq Y8 hr (Za (pv 0) (Za (Zq Wa hr (Za (pv 0) Zb)) Zb)))) (fun cl C s3 H3 ex=>⟨(ZY (K:=K) (n:=2) rfl rfl (Zm (Zk (i:=0) (show ((["upper", "lower"]:List Str)++(["heights"]:List Str)).Nodup by decide +kernel) rfl (Or.inl rfl)) (Zm (Zk (i:=1) (show ((["upper", "lower"]:List Str)++(["heights"]:List Str)).Nodup by decide +kernel) rfl (Or.inl rfl)) ZQ))),YN,(Zl YT (Zz (Zp (K:=K) rfl) (pv 2) (pv 0) (fun _ _=>rfl)) (Zz (Zp (K:=K) rfl) (pv 2) (pv 1) (fun _ _=>rfl)))⟩))))),?_⟩
  refine ⟨_,rfl,_,rfl,l,sc,xs,ls,rfl,hl,hL,hlen,hW,fun p H1 zs fp s1 ep tv=>?_,kx⟩
  obtain ⟨g,hg,rfl⟩:=tv.hg
  refine ⟨_,rfl,_,rfl,l,xs,ls,rfl,s1 l _ hl,hL.same s1,hlen,hW.kd,fun nA H2 fn s2 en=>?_⟩
  have s12:=s1.trans s2
  have mem:∀t∈Yd ls UA ls.length,0<=t /\ ∃q,ls[t.toNat]? = some q/\q.1 ≠ "born" := fun t ht=>by
   obtain ⟨a,_,q,hq,z⟩:=Zgm ht
   exact ⟨a,q,hq,by simpa using z⟩
  refine ⟨l,nA,xs,ls,Yd ls UA ls.length,rfl,s12 l _ hl,hL.same s12,hlen,hW,en,k9 (Wq _ _ _) hlen,mem,fun pA H3 ys fp' s3 ep' pv=>?_⟩
  have yl:=pv.len
  have s13:=s12.trans s3
  have ll:=Wq ls UA ls.length
  rw [ke] at yl
  have ep3:=s3 _ _ (s2 _ _ ep)
  refine ⟨pA,rfl,⟨_,Zr.of ep'⟩,Jg (K:=K) (a:=pA) (xs:=ys) (Kt (Zv (by lia))) (fun i zs G=>Zi H3 G/\zs=(dfs g ls ((Yd ls UA ls.length).take i)).map V.int) ⟨Zi.refl _,rfl⟩
   (fun i zs G q=>by rw [q.2,ke];unfold dfs;rw [ke,kM];lia) (fun i zs G q=>Zr.of (q.1 pA _ ep')) (fun i x zs G hx q=>?_) (fun zs G q D hD=>?_)⟩
  ·obtain ⟨sG,rfl⟩:=q
   obtain ⟨⟨u,lw⟩,t,hp,rfl,ht⟩:=pv.get hx
   rw [kz] at hp
   obtain ⟨tt,ht1,ht2⟩:=Kf.mp hp
   obtain ⟨t0,q,hq,hb⟩:=mem tt (kY ht1)
   have dm:=Zg2 hW hq hb
   rw [ht2] at dm
   refine ⟨t,_,rfl,YX.of (sG _ _ ht),rfl,_,_,rfl,_,_,rfl,rfl,?_⟩
   refine lcT ?_
   refine ⟨_,rfl,_,rfl,p,_,_,_,rfl,rfl,Zr.of (sG _ _ ep3),ZaB g dm.1.1 dm.1.2,_,rfl,_,rfl,p,_,_,_,rfl,rfl,Zr.of (sG _ _ ep3),ZaB g dm.2.1 dm.2.2,_,_,rfl,rfl,sG,?_⟩
   unfold dfs
   rw [Y9 (ns:=Yd ls UA ls.length) _ ht1,kP,ht2]
   rfl
  obtain ⟨sG,rfl⟩:=q
  rw [yl,kJ (ki _)]
  exact k D _ g ((s13.trans sG).free hD) ((s13.trans sG).step hD) hg Zc
def lnV (sc:Int) (ls:List (Str×Int)) (H H':Hp) (v:V):Prop:=(∃p g,HG sc ls g/\v = .ref p/\H p=none/\H' p=some (.lst ((dfs g ls (Yd ls UA ls.length)).map V.int)))∨(v = .non/\sc≠1 /\ ∃ts,GL (Jl (YZ ls)) (Jc ls) ts/\ts.map (Zad (Z0 (YZ ls))) ≠ [0])
def ZhD:Sp:=fun vs H Q _=>∃(l:Addr) (sc:Int) (xs:List V) (ls:List (Str×Int)),vs = [.ref l,.int sc]/\(sc=0∨sc=1)/\H l=some (.lst xs)/\ZE H xs ls/\ls.length<=60/\Wk ls 0 /\
 ∀(v:V) (H':Hp),Zi H H'->lnV sc ls H H' v->Q v H'
theorem ZjR {sc:Int}{ls:List (Str×Int)}{H H':Hp}{v:V} (h:lhV sc ls H H' v):(∃p g,HG sc ls g/\v = .ref p/\H p=none/\H' p=some (.lst ((tab (Jc ls) g).map V.int)))∨(v = .non/\sc≠1 /\ ∃ts,GL (Jl (YZ ls)) (Jc ls) ts/\ts.map (Zad (Z0 (YZ ls))) ≠ [0]):=by
 rcases h with ⟨e,p,rfl,fp,ep⟩ | ⟨ne,ts,tr,⟨z,rfl⟩ | ⟨p,T,L,rfl,t0,o,rfl,fp,ep⟩⟩
 ·exact .inl ⟨p,fun _=>0,.inl ⟨e,rfl⟩,rfl,fp,by rw [ep,Za7]⟩
 ·exact .inr ⟨rfl,ne,ts,tr,z⟩
 ·exact .inl ⟨p,hgt (Z0 (YZ ls)) T,.inr ⟨ne,T,L,tr,t0,o,rfl⟩,rfl,fp,by rw [ep,Za7]⟩
theorem HG.atEnd {sc:Int}{ls:List (Str×Int)}{g:Int->Int} (h:HG sc ls g) (hsc:sc=0∨sc=1) (hW:Wk ls 0) {i:Nat}{q:Str×Int} (hq:ls[i]? = some q) (he:q.1 = "end"):g (YW ls i).1-g (YW ls i).2=1-sc:=by
 rcases h with ⟨e,rfl⟩ | ⟨ne,T,L,_,_,o,rfl⟩
 ·rw [e];rfl
 ·have s0:sc=0:=hsc.elim id fun z=>absurd z ne
  have hi:i<ls.length:=(kC.mp hq).1
  have mem:YW ls i∈YZ ls:=by
   unfold YZ Jk
   refine K7.mpr ⟨(i:Int),?_,by simp⟩
   unfold Yd
   refine K6.mpr ⟨i,K9.mpr hi,?_⟩
   rw [Zav hq,kh]
   rw [he]
   unfold GW
   simp
  have dm:=Zg2 hW hq (fun z=>by rw [z] at he;exact absurd he (by decide +kernel))
  have:=o.ends (u:=(YW ls i).1) (l:=(YW ls i).2) mem dm.1
  rw [s0,this]
  lia
theorem Zgh {g:Int->Int}{ls:List (Str×Int)}{i:Nat}{q:Str×Int} (hq:ls[i]? = some q) (hb:q.1 ≠ "born"):(dfs g ls (Yd ls UA i)).map V.int ++ [V.int (g (YW ls i).1-g (YW ls i).2)]=(dfs g ls (Yd ls UA (i+1))).map V.int:=by
 have kk:=Zav hq (pr:=UA)
 rw [W3,kk,kh (by simpa using hb)]
 unfold dfs
 simp
theorem ZjB {g:Int->Int}{ls:List (Str×Int)}{i:Nat}{q:Str×Int} (hq:ls[i]? = some q) (hb:q.1 = "born"):dfs g ls (Yd ls UA i)=dfs g ls (Yd ls UA (i+1)):=by
 have kk:=Zav hq (pr:=UA)
 rw [W3,kk,kg (by simp [hb]),qh]
abbrev Jz:Stmt:=top 40
theorem ZP:Zy ["_law_drawing_here", "_law_scale", "_law_known", "_law_rows_here", "_law_found", "_law_t", "_law_letter", "_law_one", "_law_other"] ["_law_drawing_here", "_law_scale"] (Zj Jz):={}
theorem ZmI {f:Addr}{fd:FuncData} (F:Yy K "_law_name_heights" "_law_name_heights" Jz f fd) (Gq:Ys P w K mg base 3 "_law_heights" ["_law_drawing_here", "_law_scale"] ZmT) (YK:Ys P w K mg base 1 "_law_rows" ["_law_drawing_here"] UY)
  (ZC:mg "enumerate" = none):Yf P w K mg base Wy 4 f fd ["_law_drawing_here", "_law_scale"] ZhD:=by
 refine F.ok ZP (fun vs H Q E h=>?_) (fun cdv A outer s H vs Q E hr h=>?_)
 ·obtain ⟨l,sc,xs,ls,rfl,_⟩:=h
  rfl
 ·obtain ⟨l,sc,xs,ls,rfl,hsc,hl,hL,hlen,hW,k⟩:=h
  have n120:=J8 hlen
  have hxl:=hL.len
  refine ⟨_,(Zd (Zn (i:=2) ZP.nd rfl (Or.inl rfl) (Zq Gq hr (Za (pv 0) (Za (pv 1) Zb))))
   (Zd (ZW (Zt ZnJ (pv 2) Zam (Zs _)) (Zg (Zw Zam)) ZJ)
   (Zd (Zn (i:=3) ZP.nd rfl (Or.inl rfl) (Zq YK hr (Za (pv 0) Zb)))
   (Zd (Zn (i:=4) ZP.nd rfl (Or.inl rfl) (ZD Zb))
   (Zd (Yi k8 rfl (Wg (K:=K) rfl (by rfl) ZC (Za (pv 0) Zb)) (ZY (K:=K) (n:=2) rfl rfl (Zm (Zk (i:=5) ZP.nd rfl (Or.inl rfl)) (Zm (Zk (i:=6) ZP.nd rfl (Or.inl rfl)) ZQ))) (Zg (ZW (Zt Yp (Zz (Yl (K:=K) rfl) (pv 6) Ze (fun _ _=>rfl)) ZG (Zs _)) (Zd (Yj (Ym (YV (K:=K) rfl) (Zz (Zp (K:=K) rfl) (pv 3) (pv 5) (fun _ _=>rfl)) (Yb (Zz (Yl (K:=K) rfl) (pv 6) Ze (fun _ _=>rfl))) (Yb (Zl ZA (Zz (Yl (K:=K) rfl) (pv 6) Ze (fun _ _=>rfl)) Ze))) (ZcB (K:=K) (n:=2) rfl rfl (Zm (Zk (i:=7) ZP.nd rfl (Or.inl rfl)) (Zm (Zk (i:=8) ZP.nd rfl (Or.inl rfl)) ZQ))))
   (Zg (ZZ (Z9 (K:=K) rfl (Yw kH kR kS ZN (pv 4) (Za (Zl YT (Zz (Zp (K:=K) rfl) (pv 2) (pv 7) (fun _ _=>rfl)) (Zz (Zp (K:=K) rfl) (pv 2) (pv 8) (fun _ _=>rfl))) Zb)))))) (Zg (ZW (Zt Yp (Zz (Yl (K:=K) rfl) (pv 6) Ze (fun _ _=>rfl)) ZG (Zs _)) (Zg (ZZ (Z9 (K:=K) rfl (Yw kH kR kS ZN (pv 4) (Za (Zl YT Ze (pv 1)) Zb))))) ZJ)))))
   (Zg (Zw (pv 4)))))))),?_⟩
  refine ⟨_,rfl,_,rfl,l,sc,xs,ls,rfl,hl,hL,hlen,hW,fun v H1 s1 lv=>?_⟩
  rcases ZjR lv with ⟨p,g,hg,rfl,fp,ep⟩ | ⟨rfl,ne,hts⟩
  rotate_left
  ·refine ⟨_,rfl,rfl,_,rfl,Zbt ?_⟩
   exact k _ H1 s1 (.inr ⟨rfl,ne,hts⟩)
  refine ⟨_,rfl,rfl,_,rfl,WN ?_⟩
  refine ⟨_,rfl,l,xs,ls,rfl,s1 l _ hl,hL.same s1,hlen,hW,fun R H2 ys fR s2 eR rv ap ndr=>?_⟩
  refine ⟨(by show 0<=sizeLine;decide),fun fA hfA=>?_⟩
  have s12:=s1.trans s2
  have s3:Zi H2 (upd H2 fA (.lst [])):=Zi.laid hfA
  have e3:(upd H2 fA (.lst [])) fA=some (.lst []):=Zc
  have fH:H fA=none:=s12.free hfA
  generalize upd H2 fA (.lst [])=H3 at *
  have hl2:=s12 _ _ hl
  have hL2:=hL.same s12
  refine ⟨_,rfl,l,rfl,⟨_,Zr.of (s3 _ _ hl2)⟩,Zaw (K:=K) (a:=l) (xs:=xs) (fun i σ G=>∃(v5 v6 v7 v8:Option V),σ = [some (.ref l),some (.int sc),some (.ref p),some (.ref R),some (.ref fA),v5,v6,v7,v8]/\Zi H2 G/\G fA=some (.lst ((dfs g ls (Yd ls UA i)).map V.int)))
   ⟨none,none,none,none,rfl,s3,e3⟩ (fun i σ G _ ⟨_,_,_,_,_,sm,_⟩=>Zr.of (sm l _ hl2)) ?_ ?_⟩
  ·rintro i x pa σ G hx ⟨v5,v6,v7,v8,rfl,sm,eF⟩ hp
   obtain ⟨⟨qx,qk⟩,ta,hq,rfl,hta⟩:=hL2.get hx
   have hi:i<ls.length:=(kC.mp hq).1
   have sp:Zi G (upd G pa (.tup [.int i,.ref ta])):=Zi.laid hp
   have epa:(upd G pa (.tup [.int i,.ref ta])) pa=some (.tup [.int i,.ref ta]):=Zc
   generalize upd G pa (.tup [.int i,.ref ta])=G0 at *
   have sg0:=sm.trans sp
   have eF0:=sp _ _ eF
   have hta':=sg0 ta _ hta
   have short:((dfs g ls (Yd ls UA i)).map V.int).length<sizeLine:=by
    rw [ke]
    unfold dfs
    rw [ke]
    have:=Wq ls UA i
    exact Zv (by lia)
   refine ⟨pa,_,rfl,YX.of epa,rfl,_,_,rfl,_,_,rfl,rfl,?_⟩
   refine ⟨_,rfl,ta,_,_,_,rfl,rfl,YX.of hta',Zo (j:=0) rfl,rfl,_,rfl,?_⟩
   refine Z7 (fun hc=>?_) (fun hc=>?_)
   ·have e:qx = "cross" := V.str.inj (kE hc)
    subst e
    have nb:(("cross" : Str),qk).1 ≠ "born" := show ("cross" : Str) ≠ "born" by decide +kernel
    obtain ⟨k0,k1,pe⟩:=Zgf hW hq nb
    have dm:=Zg2 hW hq nb
    have sn:=Zgh (g:=g) hq nb
    obtain ⟨kn,rfl⟩:=kF (show 0<=qk from k0)
    simp only [kI] at k1 pe
    obtain ⟨ra,hra,hrr⟩:=rv.at (Zay ls (i:=i) (n:=ls.length+1) (by lia))
    obtain ⟨u,hu⟩:∃u,u=(rowAt ls i).getD kn 0:=⟨_,rfl⟩
    obtain ⟨w',hw⟩:∃w',w'=(rowAt ls i).getD (kn+1) 0:=⟨_,rfl⟩
    rw [<- hu,<- hw] at pe
    rw [pe] at dm sn
    refine ⟨_,rfl,_,rfl,R,_,_,_,rfl,rfl,Zr.of (sg0 R _ eR),Zo hra,_,rfl,ta,_,_,_,rfl,rfl,YX.of hta',Zo (j:=1) rfl,_,rfl,_,rfl,ta,_,_,_,rfl,rfl,YX.of hta',Zo (j:=1) rfl,_,_,rfl,rfl,_,rfl,ra,_,rfl,Zr.of (sg0 ra _ hrr),fun cA hcA=>?_⟩
    rw [Ze1 k1,<- hu,<- hw]
    have s4:Zi G0 (upd G0 cA (.lst [.int u,.int w'])):=Zi.laid hcA
    have e4:(upd G0 cA (.lst [.int u,.int w'])) cA=some (.lst [.int u,.int w']):=Zc
    generalize upd G0 cA (.lst [.int u,.int w'])=G1 at *
    refine ⟨cA,_,rfl,Zr.of e4,rfl,_,_,rfl,_,_,rfl,rfl,?_⟩
    have ep1:=s4 _ _ (sg0 _ _ (s2 _ _ ep))
    have eF1:=s4 _ _ eF0
    refine ⟨_,rfl,.inl ⟨rfl,_,Zr.of eF1⟩,_,rfl,_,rfl,p,_,_,_,rfl,rfl,Zr.of ep1,ZaB g dm.1.1 dm.1.2,_,rfl,_,rfl,p,_,_,_,rfl,rfl,Zr.of ep1,ZaB g dm.2.1 dm.2.2,_,_,rfl,rfl,fA,_,_,rfl,rfl,eF1,short,?_⟩
    refine ⟨_,_,_,_,rfl,(sg0.trans s4).put hfA,?_⟩
    rw [Zc,sn]
   ·have nc:¬qx = "cross" := fun z=>hc (kG (Ks V.str z))
    refine ⟨_,rfl,ta,_,_,_,rfl,rfl,YX.of hta',Zo (j:=0) rfl,rfl,_,rfl,?_⟩
    refine Z7 (fun hc2=>?_) (fun hc2=>?_)
    ·have e:qx = "end" := V.str.inj (kE hc2)
     subst e
     have nb:(("end" : Str),qk).1 ≠ "born" := show ("end" : Str) ≠ "born" by decide +kernel
     have sn:=Zgh (g:=g) hq nb
     rw [hg.atEnd hsc hW hq rfl] at sn
     refine ⟨_,rfl,.inl ⟨rfl,_,Zr.of eF0⟩,_,rfl,_,_,rfl,rfl,fA,_,_,rfl,rfl,eF0,short,?_⟩
     refine ⟨_,_,_,_,rfl,sg0.put hfA,?_⟩
     rw [Zc,sn]
    ·have ne2:¬qx = "end" := fun z=>hc2 (kG (Ks V.str z))
     have b:qx = "born" := by
      rcases hW.kd _ (kY hq) with z | z | z
      ·exact z
      ·exact absurd z nc
      ·exact absurd z ne2
     refine ⟨_,_,_,_,rfl,sg0,?_⟩
     rw [eF0,ZjB hq b]
  ·rintro σ G ⟨v5,v6,v7,v8,rfl,sm,eF⟩
   rw [hxl] at eF
   exact ⟨_,rfl,k _ G (s12.trans sm) (.inl ⟨fA,g,hg,rfl,fH,eF⟩)⟩
def ZeX:Sp:=fun vs H Q _=>∃(b:Addr) (n:Int),vs = [.ref b,.int n]/\Bag H b/\2<=n/\n<=12 /\ ∀(l:Addr) (H':Hp) (ls:List (Str×Int)),H l=none->Bag H' b->Jh b H H'->Drw H' l ls->nX ls<=13->Crl n.toNat ls->Q (.ref l) H'
theorem Zgr {H:Hp}{t:Addr}{q:Str×Int} (h:H t=some (.tup [.str q.1,.int q.2])):∀n:Nat,ZE H (List.replicate n (V.ref t)) (List.replicate n q)
 | 0=>.nil
 | n+1=>.cons ⟨t,rfl,h⟩ (Zgr h n)
theorem Zju (n:Nat) (k:Int):nX (List.replicate n ((("cross" : Str),k):Str×Int))=n:=by
 unfold nX
 rw [List.countP_replicate,kh (by show decide (("cross" : Str)=("cross" : Str))=true;decide)]
abbrev Ur:Stmt:=top 44
theorem JE:Zy ["_law_bag_here", "_law_most", "_law_way", "_law_letters", "_law_turn"] ["_law_bag_here", "_law_most"] (Zj Ur):={}
theorem ZjM {f:Addr}{fd:FuncData} (F:Yy K "_law_front" "_law_front" Ur f fd) (Zu:Ys P w K mg base 1 "_law_take" ["_law_bag_here", "_law_many"] Za0) (Za3:Ys P w K mg base 3 "_law_any" ["_law_bag_here", "_law_most"] Zc6) (JN:Ys P w K mg base 2 "_law_plat" ["_law_bag_here", "_law_most"] Zc6)
  (GG:Ys P w K mg base 2 "_law_curled" ["_law_bag_here", "_law_letters", "_law_most"] ZeL) (ZR:mg "range" = none) (Yn:mg "len" = none) (Gu:mg "max" = none) (ZaL:mg "min" = none):
  Yf P w K mg base Wy 4 f fd ["_law_bag_here", "_law_most"] ZeX:=by
 refine F.ok JE (fun vs H Q E h=>?_) (fun cdv A outer s H vs Q E hr h=>?_)
 ·obtain ⟨b,n,rfl,_⟩:=h
  rfl
 ·obtain ⟨b,n,rfl,hbag,n2,n12,k⟩:=h
  refine ⟨_,(Zd (Zn (i:=2) JE.nd rfl (Or.inl rfl) (Zq Zu hr (Za (pv 0) (Za Ze Zb))))
   (Zd (ZW (Zt Yp (pv 2) Ze (Zs _)) (Zg (Zw (Zq Za3 hr (Za (pv 0) (Za (pv 1) Zb))))) ZJ)
   (Zd (ZW (Zt Yp (pv 2) Ze (Zs _)) (Zg (Zw (Zq JN hr (Za (pv 0) (Za (pv 1) Zb))))) ZJ)
   (Zd (Zn (i:=3) JE.nd rfl (Or.inl rfl) (Zl WK (ZD (Za (ZH (Za ZG (Za Ze Zb))) (Za (ZH (Za ZG (Za Ze Zb))) Zb))) (Zl ZaZ (ZD (Za (ZH (Za ZG (Za Ze Zb))) Zb)) (Zl ZA Ze (Zq Zu hr (Za (pv 0) (Za (pv 1) Zb)))))))
   (Zd (ZW (Zt Yp (pv 2) Ze (Zs _)) (Zd (Zn (i:=3) JE.nd rfl (Or.inl rfl) (ZD (Za (ZH (Za ZG (Za Ze Zb))) (Za (ZH (Za ZG (Za Ze Zb))) (Za (ZH (Za ZG (Za Ze Zb))) Zb)))))
   (Zd (Yi k8 rfl (YI (by rfl) ZR (Za (Zl ZA Ze (Zq Zu hr (Za (pv 0) (Za (Zx (W6 rfl) (by rfl) Gu Mj (Za Ze (Za (Zl YT (pv 1) Ze) Zb))) Zb)))) Zb)) (Zk (i:=4) JE.nd rfl (Or.inl rfl)) (Zg (ZZ (Z9 (K:=K) rfl (Yw kH kR kS ZN (pv 3) (Za (ZH (Za ZG (Za (Zz (Zp (K:=K) rfl) (ZD (Za Ze (Za Ze (Za Ze Zb)))) (Zl Gg (Zq Zu hr (Za (pv 0) (Za Ze Zb))) Ze) (fun _ _=>rfl)) Zb))) Zb))))))
   (Zg (Zw (Zl WK (pv 3) (ZD (Za (ZH (Za ZG (Za Ze Zb))) (Za (ZH (Za ZG (Za Ze Zb))) (Za (ZH (Za ZG (Za Ze Zb))) Zb))))))))) ZJ)
   (Zg (Zw (Zq GG hr (Za (pv 0) (Za (Zl WK (pv 3) (ZD (Za (ZH (Za ZG (Za Ze Zb))) (Za (ZH (Za ZG (Za Ze Zb))) Zb)))) (Za (Zx (W6 rfl) (by rfl) Gu Mj (Za Ze (Za (Zx (Zaz rfl) (by rfl) ZaL boot_min (Za Ze (Za (Zl YT Ze (Zx (YA (K:=K) rfl) (by rfl) Yn qa (Za (pv 3) Zb))) Zb))) Zb))) Zb))))))))))),?_⟩
  have nb:∀{c:Addr},H c=none->c≠b:=fun {c} h z=>by
   obtain ⟨_,_,_,e⟩:=hbag
   rw [z,e] at h
   cases h
  refine ⟨_,rfl,b,5,rfl,hbag,by decide,by decide,fun wy H1 w0 w1 bg1 f1=>?_⟩
  refine ⟨_,rfl,rfl,_,rfl,Z7 (fun _=>?_) (fun _=>?_)⟩
  ·exact ⟨_,rfl,_,rfl,b,n,rfl,bg1,by lia,by lia,fun l H2 ls hl bg2 f2 dr nx=>k l H2 ls (f1.free bg1 hl) bg2 (f1.trans f2) dr (by lia) (.base (by lia))⟩
  refine ⟨_,rfl,rfl,_,rfl,Z7 (fun _=>?_) (fun _=>?_)⟩
  ·exact ⟨_,rfl,_,rfl,b,n,rfl,bg1,by lia,by lia,fun l H2 ls hl bg2 f2 dr nx=>k l H2 ls (f1.free bg1 hl) bg2 (f1.trans f2) dr (by lia) (.base (by lia))⟩
  refine ⟨(by show 2<=sizeLine;decide),fun t1 h1=>?_⟩
  obtain ⟨X1,z,a1,b1⟩:=lay (o:=.tup [.str "born", .int 0]) h1
  rw [z];clear z
  refine ⟨(by show 2<=sizeLine;decide),fun t2 h2=>?_⟩
  obtain ⟨X2,z,a2,b2⟩:=lay (o:=.tup [.str "born", .int 2]) h2
  rw [z];clear z
  refine ⟨(by show 2<=sizeLine;decide),fun c1 h3=>?_⟩
  obtain ⟨X3,z,a3,b3⟩:=lay (o:=.lst [.ref t1,.ref t2]) h3
  rw [z];clear z
  refine ⟨(by show 2<=sizeLine;decide),fun t3 h4=>?_⟩
  obtain ⟨X4,z,a4,b4⟩:=lay (o:=.tup [.str "cross", .int 1]) h4
  rw [z];clear z
  refine ⟨(by show 1<=sizeLine;decide),fun c2 h5=>?_⟩
  obtain ⟨X5,z,a5,b5⟩:=lay (o:=.lst [.ref t3]) h5
  rw [z];clear z
  have s15:=(((a1.trans a2).trans a3).trans a4).trans a5
  have bg5:=Yo s15 bg1
  have nb5:∀{c:Addr}{G:Hp},Bag G b->G c=none->c≠b:=fun {c G} h e z=>by
   obtain ⟨_,_,_,q⟩:=h
   rw [z,q] at e
   cases e
  have n1:c1≠b:=nb5 (Yo (a1.trans a2) bg1) h3
  have n2':c2≠b:=nb5 (Yo (((a1.trans a2).trans a3).trans a4) bg1) h5
  have L3:ZE X5 [.ref t1,.ref t2] [("born", 0),("born", 2)]:=.cons ⟨t1,rfl,a5 _ _ (a4 _ _ (a3 _ _ (a2 _ _ b1)))⟩ (.cons ⟨t2,rfl,a5 _ _ (a4 _ _ (a3 _ _ b2))⟩ .nil)
  have L4:∀m:Nat,ZE X5 (List.replicate m (V.ref t3)) (List.replicate m ((("cross" : Str),1):Str×Int)):=fun m=>Zgr (a5 _ _ b4) m
  refine ⟨_,rfl,_,rfl,b,n,rfl,bg5,by lia,by lia,fun d H2 d0 d1 bg2 f2=>⟨_,_,rfl,rfl,?_⟩⟩
  obtain ⟨mm,hmm⟩:∃mm:Nat,mm=(1+d).toNat:=⟨_,rfl⟩
  refine ⟨c2,_,_,rfl,rfl,f2 _ _ b5 n2',by lia,by lia,(by rw [<- hmm,Kg];simp;lia),fun c3 h6=>?_⟩
  rw [<- hmm,List.flatten_replicate_singleton]
  obtain ⟨X6,z,a6,b6⟩:=lay (o:=.lst (List.replicate mm (V.ref t3))) h6
  rw [z];clear z
  refine ⟨c1,c3,_,_,rfl,rfl,a6 _ _ (f2 _ _ (a5 _ _ (a4 _ _ b3)) n1),b6,(by rw [KA,Kg];show 2+mm<=_;lia),fun c4 h7=>?_⟩
  obtain ⟨X7,z,a7,b7⟩:=lay (o:=.lst ([.ref t1,.ref t2]++List.replicate mm (V.ref t3))) h7
  rw [z];clear z
  have s27:=a6.trans a7
  have bg7:=Yo s27 bg2
  have f17:Jh b H X7:=((f1.trans s15.frm).trans f2).trans s27.frm
  have L7:ZE X7 ([.ref t1,.ref t2]++List.replicate mm (V.ref t3)) (([("born", 0),("born", 2)]:List (Str×Int))++List.replicate mm ((("cross" : Str),1):Str×Int)):=((L3.frm f2 bg5).append ((L4 mm).frm f2 bg5)).same s27
  refine ⟨_,rfl,rfl,_,rfl,Z7 (fun _=>?_) (fun _=>?_)⟩
  ·refine ⟨(by show 2<=sizeLine;decide),fun u1 e1=>?_⟩
   obtain ⟨Y1,z,g1,j1⟩:=lay (o:=.tup [.str "born", .int 0]) e1
   rw [z];clear z
   refine ⟨(by show 2<=sizeLine;decide),fun u2 e2=>?_⟩
   obtain ⟨Y2,z,g2,j2⟩:=lay (o:=.tup [.str "born", .int 2]) e2
   rw [z];clear z
   refine ⟨(by show 2<=sizeLine;decide),fun u3 e3=>?_⟩
   obtain ⟨Y3,z,g3,j3⟩:=lay (o:=.tup [.str "born", .int 4]) e3
   rw [z];clear z
   refine ⟨(by show 3<=sizeLine;decide),fun l e4=>?_⟩
   obtain ⟨Y4,z,g4,j4⟩:=lay (o:=.lst [.ref u1,.ref u2,.ref u3]) e4
   rw [z];clear z
   have sY:=((g1.trans g2).trans g3).trans g4
   have bgY:=Yo sY bg7
   have fl:H l=none:=f17.free bg7 (((g1.trans g2).trans g3).free e4)
   have hlb:=nb fl
   have LY:ZE Y4 [.ref u1,.ref u2,.ref u3] [("born", 0),("born", 2),("born", 4)]:=.cons ⟨u1,rfl,g4 _ _ (g3 _ _ (g2 _ _ j1))⟩ (.cons ⟨u2,rfl,g4 _ _ (g3 _ _ j2)⟩ (.cons ⟨u3,rfl,g4 _ _ j3⟩ .nil))
   have WY:Wk [("born", 0),("born", 2),("born", 4)] 6:=Wk.born (k:=4) (Wk.born (k:=2) (Wk.born (k:=0) .nil (by decide) (by decide)) (by decide) (by decide)) (by decide) (by decide)
   refine ⟨_,rfl,_,rfl,_,_,rfl,rfl,_,_,rfl,b,_,rfl,bgY,(by split<;>lia),(by split<;>lia),fun d2 H3 d20 d21 bg3 f3=>⟨_,_,rfl,rfl,?_⟩⟩
   have d2n:d2<=11:=by revert d21;split<;>lia
   have d2m:2+d2<=n:=by revert d21;split<;>lia
   refine ⟨_,rfl,by lia,by lia,Jt (n:=(2+d2).toNat) (fun i σ G=>∃(xs:List V) (ls:List (Str×Int)) (v4:Option V),σ = [some (.ref b),some (.int n),some (.int wy),some (.ref l),v4]/\Bag G b/\Jh b H G/\G l=some (.lst xs)/\ZE G xs ls/\Wk ls 6/\ls.length<=3+i/\nX ls<=i)
    ⟨_,_,_,rfl,bg3,(f17.trans sY.frm).trans f3,f3 _ _ j4 hlb,LY.frm f3 bgY,WY,ki _,ki _⟩ ?_ ?_⟩
   ·rintro i σ G hi ⟨xs,ls,v4,rfl,bg,fr4,hG,hL,hW,hlen,hx⟩
    have hxl:=hL.len
    refine ⟨_,rfl,.inl ⟨rfl,_,Zr.of hG⟩,(by show 3<=sizeLine;decide),fun q1 hq1=>?_⟩
    obtain ⟨Z1,z,r1,o1⟩:=lay (o:=.lst [.int 1,.int 3,.int 2]) hq1
    rw [z];clear z
    have bgZ:=Yo r1 bg
    refine ⟨_,rfl,b,7,rfl,bgZ,by decide,by decide,fun e Z2 e0 e1' bgZ2 fZ=>⟨_,_,rfl,rfl,(by show (0:Int)<3;decide),?_⟩⟩
    have nq:q1≠b:=nb5 bg hq1
    obtain ⟨jj,hjj⟩:∃jj:Nat,e % 3=(jj:Int):=⟨(e % 3).toNat,by lia⟩
    have jj3:jj<3:=by lia
    dsimp only
    rw [hjj]
    obtain ⟨kk,hkk,k0,k4⟩:∃kk:Int,([V.int 1,.int 3,.int 2]:List V)[jj]? = some (.int kk)/\0<=kk/\kk<=4:=by
     match jj,jj3 with
     | 0,_=>exact ⟨_,rfl,by decide,by decide⟩
     | 1,_=>exact ⟨_,rfl,by decide,by decide⟩
     | 2,_=>exact ⟨_,rfl,by decide,by decide⟩
    refine ⟨q1,_,_,_,rfl,rfl,Zr.of (fZ _ _ o1 nq),Zo hkk,(by show 2<=sizeLine;decide),fun t ht=>?_⟩
    obtain ⟨c1',c2',c3',c4',c5'⟩:=Wm "cross" kk (fr4.trans r1.frm) bgZ (r1 _ _ hG) (hL.same r1) hlb fl fZ bgZ2 ht
    refine ⟨l,_,_,rfl,rfl,c1',Zv (by lia),?_⟩
    exact ⟨xs ++ [.ref t],ls ++ [((("cross" : Str),kk):Str×Int)],_,rfl,c2',c3',c4',c5',Wk.cross hW k0 (by lia),by rw [kj,Kj];lia,by rw [Zab];lia⟩
   ·rintro σ G ⟨xs,ls,v4,rfl,bg,fr4,hG,hL,hW,hlen,hx⟩
    have hxl:=hL.len
    refine ⟨_,rfl,(by show 2<=sizeLine;decide),fun w1' e1'=>?_⟩
    obtain ⟨Z1,z,r1,o1⟩:=lay (o:=.tup [.str "end", .int 0]) e1'
    rw [z];clear z
    refine ⟨(by show 2<=sizeLine;decide),fun w2' e2'=>?_⟩
    obtain ⟨Z2,z,r2,o2⟩:=lay (o:=.tup [.str "end", .int 0]) e2'
    rw [z];clear z
    refine ⟨(by show 2<=sizeLine;decide),fun w3' e3'=>?_⟩
    obtain ⟨Z3,z,r3,o3⟩:=lay (o:=.tup [.str "end", .int 0]) e3'
    rw [z];clear z
    refine ⟨(by show 3<=sizeLine;decide),fun w4' e4'=>?_⟩
    obtain ⟨Z4,z,r4,o4⟩:=lay (o:=.lst [.ref w1',.ref w2',.ref w3']) e4'
    rw [z];clear z
    have sZ:=((r1.trans r2).trans r3).trans r4
    refine ⟨l,w4',_,_,rfl,rfl,sZ _ _ hG,o4,(by rw [hxl,Kg];show ls.length+3<=_;lia),fun w5 e5=>?_⟩
    obtain ⟨Z5,z,r5,o5⟩:=lay (o:=.lst (xs ++ [.ref w1',.ref w2',.ref w3'])) e5
    rw [z];clear z
    have sZ5:=sZ.trans r5
    have LE:ZE Z5 [.ref w1',.ref w2',.ref w3'] (List.replicate 3 ((("end" : Str),0):Str×Int)):=.cons ⟨w1',rfl,r5 _ _ (r4 _ _ (r3 _ _ (r2 _ _ o1)))⟩ (.cons ⟨w2',rfl,r5 _ _ (r4 _ _ (r3 _ _ o2))⟩ (.cons ⟨w3',rfl,r5 _ _ (r4 _ _ o3)⟩ .nil))
    refine k w5 Z5 (ls++List.replicate 3 ((("end" : Str),0):Str×Int)) (fr4.free bg (sZ.free e5)) (Yo sZ5 bg) (fr4.trans sZ5.frm) ⟨_,o5,(hL.same sZ5).append LE,?_,?_⟩ ?_ (.base ?_)
    ·have:=ZcC 3 hW 3 (ki _)
     simpa using this
    ·rw [kj,KA];lia
    ·rw [J6]
     have:nX (List.replicate 3 ((("end" : Str),0):Str×Int))=0:=rfl
     lia
    ·rw [J6]
     have:nX (List.replicate 3 ((("end" : Str),0):Str×Int))=0:=rfl
     lia
  ·refine ⟨_,rfl,_,rfl,(by show 2<=sizeLine;decide),fun w1' e1'=>?_⟩
   obtain ⟨Z1,z,r1,o1⟩:=lay (o:=.tup [.str "end", .int 0]) e1'
   rw [z];clear z
   refine ⟨(by show 2<=sizeLine;decide),fun w2' e2'=>?_⟩
   obtain ⟨Z2,z,r2,o2⟩:=lay (o:=.tup [.str "end", .int 0]) e2'
   rw [z];clear z
   refine ⟨(by show 2<=sizeLine;decide),fun w4' e4'=>?_⟩
   obtain ⟨Z4,z,r4,o4⟩:=lay (o:=.lst [.ref w1',.ref w2']) e4'
   rw [z];clear z
   have sZ:=(r1.trans r2).trans r4
   have l7:([V.ref t1,.ref t2]++List.replicate mm (V.ref t3)).length=2+mm:=by rw [kj,KA];rfl
   refine ⟨c4,w4',_,_,rfl,rfl,sZ _ _ b7,o4,(by rw [l7,Kg];show 2+mm+2<=_;lia),fun w5 e5=>?_⟩
   obtain ⟨Z5,z,r5,o5⟩:=lay (o:=.lst ([.ref t1,.ref t2]++List.replicate mm (V.ref t3) ++ [.ref w1',.ref w2'])) e5
   rw [z];clear z
   have sZ5:=sZ.trans r5
   have LE:ZE Z5 [.ref w1',.ref w2'] (List.replicate 2 ((("end" : Str),0):Str×Int)):=.cons ⟨w1',rfl,r5 _ _ (r4 _ _ (r2 _ _ o1))⟩ (.cons ⟨w2',rfl,r5 _ _ (r4 _ _ o2)⟩ .nil)
   have bgZ:=Yo sZ5 bg7
   have f0:H w5=none:=f17.free bg7 (sZ.free e5)
   have WX:∀m:Nat,Wk (([("born", 0),("born", 2)]:List (Str×Int))++List.replicate m ((("cross" : Str),1):Str×Int)) 4:=fun m=>by
    induction m with
    | zero=>exact Wk.born (k:=2) (Wk.born (k:=0) .nil (by decide) (by decide)) (by decide) (by decide)
    | succ m ih=>rw [qC,<- Kc];exact Wk.cross ih (by decide) (by decide)
   refine ⟨_,rfl,c4,_,rfl,.inl (Zr.of (sZ5 _ _ b7)),_,_,rfl,rfl,_,_,rfl,_,_,rfl,?_⟩
   rw [l7]
   refine ⟨b,w5,_,([("born", 0),("born", 2)]:List (Str×Int))++List.replicate mm ((("cross" : Str),1):Str×Int)++List.replicate 2 ((("end" : Str),0):Str×Int),n.toNat,rfl,bgZ,⟨_,o5,(L7.same sZ5).append LE,?_,?_⟩,nb f0,?_,?_,.base ?_,?_,?_,fun l G ls hl bg fr dr nx cr=>k l G ls ((f17.trans sZ5.frm).free bgZ hl) bg ((f17.trans sZ5.frm).trans fr) dr nx cr⟩
   ·have:=ZcC 2 (WX mm) 2 (ki _)
    simpa using this
   ·rw [kj,kj,KA,KA];show 2+mm+2<=60;lia
   ·rw [kj,kj,KA,KA];show 2+mm+2<=40;lia
   ·rw [J6,J6,Zju]
    have e1:nX (List.replicate 2 ((("end" : Str),0):Str×Int))=0:=rfl
    have e2:nX ([("born", 0),("born", 2)]:List (Str×Int))=0:=rfl
    lia
   ·rw [J6,J6,Zju]
    have e1:nX (List.replicate 2 ((("end" : Str),0):Str×Int))=0:=rfl
    have e2:nX ([("born", 0),("born", 2)]:List (Str×Int))=0:=rfl
    lia
   ·split<;>(try split)<;>lia
   ·split<;>(try split)<;>lia
def Zdj:Sp:=fun vs H Q _=>∃(l:Addr) (ls:List (Str×Int)),vs = [.ref l]/\Drw H l ls /\ ∀(p:Addr) (H':Hp) (scs:List Int),Zi H H'->H p=none->H' p=some (.lst (scs.map V.int))->scs.length<=2->(∀sc∈scs,(sc=0∨sc=1) /\ ∃g,HG sc ls g)->Q (.ref p) H'
abbrev Wf:Stmt:=top 45
theorem Zdc:Zy ["_law_drawing_here"] ["_law_drawing_here"] (Zj Wf):={}
theorem ZiZ {f:Addr}{fd:FuncData} (F:Yy K "_law_scales" "_law_scales" Wf f fd) (Ye:Ys P w K mg base 4 "_law_name_heights" ["_law_drawing_here", "_law_scale"] ZhD):Yf P w K mg base Wy 5 f fd ["_law_drawing_here"] Zdj:=by
 refine F.ok Zdc (fun vs H Q E h=>?_) (fun cdv A outer s H vs Q E hr h=>?_)
 ·obtain ⟨l,ls,rfl,_⟩:=h
  rfl
 ·obtain ⟨l,ls,rfl,⟨xs,hl,hL,hW,hlen⟩,k⟩:=h
  refine ⟨_,(Zg (Zw (Gi (Ls:=["_law_scale"]) (Fs:=["_law_drawing_here"]) (fi:=[0]) (Z6.of (show YE ["_law_drawing_here"] (Zj Wf) _ ["_law_drawing_here"] [0]=true by decide +kernel)) rfl (ZV (K:=K) rfl (ZD (Za Ze (Za Ze Zb)))) (fun cl C s3 H3 ex=>⟨(Zk (i:=0) (show ((["_law_scale"]:List Str)++(["_law_drawing_here"]:List Str)).Nodup by decide +kernel) rfl (Or.inl rfl)),(ZcP (Zt Zio (Zq Ye hr (Za (pv 1) (Za (pv 0) Zb))) Zam (Zs _))),(pv 0)⟩)))),?_⟩
  refine ⟨(by show 2<=sizeLine;decide),fun D hD=>?_⟩
  obtain ⟨G0,z,s0,e0⟩:=lay (o:=.lst [.int 0,.int 1]) hD
  rw [z];clear z
  refine ⟨D,rfl,⟨_,Zr.of e0⟩,Jg (K:=K) (a:=D) (xs:=[.int 0,.int 1]) (by show 2<=sizeLine;decide) (fun i zs G=>Zi G0 G /\ ∃scs:List Int,zs=scs.map V.int/\scs.length<=i /\ ∀sc∈scs,(sc=0∨sc=1) /\ ∃g,HG sc ls g) ⟨Zi.refl _,[],rfl,ki _,fun _ h=>(nomatch h)⟩
   (fun i zs G ⟨_,scs,e,l,_⟩=>by rw [e,ke];exact l) (fun i zs G x=>Zr.of (x.1 _ _ e0)) (fun i y zs G hy x=>?_) (fun zs G x p hp=>?_)⟩
  ·obtain ⟨sG,scs,rfl,ln,al⟩:=x
   obtain ⟨sc,rfl,hsc⟩:∃sc:Int,y = .int sc/\(sc=0∨sc=1):=by
    match i,hy with
    | 0,h=>exact ⟨0,(kX h).symm,.inl rfl⟩
    | 1,h=>exact ⟨1,(kX h).symm,.inr rfl⟩
   have s2:=s0.trans sG
   refine ⟨_,rfl,_,rfl,l,sc,xs,ls,rfl,hsc,s2 _ _ hl,hL.same s2,hlen,hW,fun v G' s' lv=>⟨rfl,_,rfl,?_⟩⟩
   rcases lv with ⟨p,g,hg,rfl,_,_⟩ | ⟨rfl,_,_⟩
   ·refine Zbt ⟨_,rfl,sG.trans s',scs ++ [sc],by simp,by rw [kj];show _+1<=_;lia,fun x hx=>?_⟩
    rcases Ku.mp hx with h | h
    ·exact al x h
    ·rw [kZ.mp h];exact ⟨hsc,g,hg⟩
   ·exact WN ⟨sG.trans s',scs,rfl,by lia,al⟩
  ·obtain ⟨sG,scs,rfl,ln,al⟩:=x
   exact k p _ scs (s0.trans (sG.step hp)) (s0.free (sG.free hp)) Zc ln al
theorem HG.told {sc:Int}{ls:List (Str×Int)}{g:Int->Int}{H H':Hp}{v:V} (h:HG sc ls g) (lv:lnV sc ls H H' v):∃p,v = .ref p/\H p=none/\H' p=some (.lst ((dfs g ls (Yd ls UA ls.length)).map V.int)):=by
 rcases lv with ⟨p,g',hg,rfl,fp,e⟩ | ⟨_,ne,ts,tr,z⟩
 ·have:=h.uniq hg
  subst this
  exact ⟨p,rfl,fp,e⟩
 ·exfalso
  rcases h with ⟨e,_⟩ | ⟨_,T,L,tr',t0,_⟩
  ·exact ne e
  ·have:=tr.uniq tr'
   rw [this] at z
   exact z (by rw [MJ,t0])
def Zd1 (ls:List (Str×Int)) (i m:Nat):List Int:=(List.range' i m).filterMap fun i=>if isK ls UA i=true then some (i:Int) else none
theorem Zef (ls:List (Str×Int)) (i m:Nat):Zd1 ls i (m+1)=(if isK ls UA i=true then [(i:Int)] else [])++Zd1 ls (i+1) m:=by
 unfold Zd1
 rw [List.range'_succ,qJ]
 split
 ·rename_i h
  split at h
  ·cases h
  ·rename_i q;rw [kg q];rfl
 ·rename_i h
  split at h
  ·rename_i q;cases h;rw [kh q];rfl
  ·cases h
def UJ (g:Int->Int) (ls:List (Str×Int)) (i:Nat):Option Int:=if isK ls UA i=true then some (g (YW ls i).1-g (YW ls i).2) else none
def oI:Option Int->V
 | some i=>.int i
 | none=>.non
def lhL (g:Int->Int) (ls:List (Str×Int)) (n:Nat):List V:=(List.range n).map fun i=>oI (UJ g ls i)
def ZgR:Sp:=fun vs H Q _=>∃(l:Addr) (sc:Int) (ls:List (Str×Int)) (g:Int->Int),vs = [.ref l,.int sc]/\(sc=0∨sc=1)/\Drw H l ls/\HG sc ls g /\ ∀(p:Addr) (H':Hp),Zi H H'->H p=none->H' p=some (.lst (lhL g ls ls.length))->Q (.ref p) H'
abbrev Ja:Stmt:=top 46
theorem Yu:Zy ["_law_drawing_here", "_law_scale", "_law_known", "_law_found", "_law_letter"] ["_law_drawing_here", "_law_scale"] (Zj Ja):={}
theorem ZlG {f:Addr}{fd:FuncData} (F:Yy K "_law_letter_heights" "_law_letter_heights" Ja f fd) (Ye:Ys P w K mg base 4 "_law_name_heights" ["_law_drawing_here", "_law_scale"] ZhD) (Yt:mg "list" = none):Yf P w K mg base Wy 5 f fd ["_law_drawing_here", "_law_scale"] ZgR:=by
 refine F.ok Yu (fun vs H Q E h=>?_) (fun cdv A outer s H vs Q E hr h=>?_)
 ·obtain ⟨l,sc,ls,g,rfl,_⟩:=h
  rfl
 ·obtain ⟨l,sc,ls,g,rfl,hsc,⟨xs,hl,hL,hW,hlen⟩,hg,k⟩:=h
  refine ⟨_,(Zd (Zn (i:=2) Yu.nd rfl (Or.inl rfl) (Yr (JJ (K:=K) rfl) (by rfl) Yt XR (Za (Zq Ye hr (Za (pv 0) (Za (pv 1) Zb))) Zb)))
   (Zd (Zn (i:=3) Yu.nd rfl (Or.inl rfl) (ZD Zb))
   (Zd (Yi k8 rfl (ZV (K:=K) rfl (pv 0)) (Zk (i:=4) Yu.nd rfl (Or.inl rfl)) (Zg (ZW (Zt Yp (Zz (Yl (K:=K) rfl) (pv 4) Ze (fun _ _=>rfl)) ZG (Zs _)) (Zg (ZZ (Z9 (K:=K) rfl (Yw kH kR kS ZN (pv 3) (Za Zam Zb))))) (Zg (ZZ (Z9 (K:=K) rfl (Yw kH kR kS ZN (pv 3) (Za (Z9 (K:=K) rfl (Yw kH Tc Td Zds (pv 2) (Za Ze Zb))) Zb))))))))
   (Zg (Zw (pv 3)))))),?_⟩
  refine ⟨_,rfl,_,rfl,l,sc,xs,ls,rfl,hsc,hl,hL,hlen,hW,fun v H1 s1 lv=>?_⟩
  obtain ⟨p,rfl,fp,ep⟩:=hg.told lv
  refine ⟨p,_,rfl,.inl (Zr.of ep),fun kn hkn=>?_⟩
  obtain ⟨H2,z,s2,e2⟩:=lay (o:=.lst ((dfs g ls (Yd ls UA ls.length)).map V.int)) hkn
  rw [z];clear z
  refine ⟨(by show 0<=sizeLine;exact Km _),fun q hq=>?_⟩
  obtain ⟨H3,z,s3,e3⟩:=lay (o:=.lst []) hq
  rw [z];clear z
  have s03:=(s1.trans s2).trans s3
  have fk:H kn=none:=s1.free hkn
  have fq:H q=none:=(s1.trans s2).free hq
  have kq:kn≠q:=Zf e2 hq
  have hxl:=hL.len
  have e0:(dfs g ls (Yd ls UA ls.length))=dfs g ls (Zd1 ls 0 (ls.length-0)):=by
   unfold Yd Zd1
   rw [List.range_eq_range',M7]
  rw [e0] at e2
  refine ⟨_,rfl,l,rfl,⟨_,Zr.of (s03 _ _ hl)⟩,JD (K:=K) (a:=l) (xs:=xs) (fun i σ G=>∃v4:Option V,σ = [some (.ref l),some (.int sc),some (.ref kn),some (.ref q),v4]/\Zi H G/\G kn=some (.lst ((dfs g ls (Zd1 ls i (ls.length-i))).map V.int))/\G q=some (.lst (lhL g ls i))) ⟨_,rfl,s03,s3 _ _ e2,e3⟩ (fun i σ G _ ⟨_,_,s,_⟩=>Zr.of (s _ _ hl)) ?_ ?_⟩
  ·rintro i x σ G hx ⟨v4,rfl,sG,ek,eq⟩
   obtain ⟨pq,ta,hp,rfl,hta⟩:=(hL.same sG).get hx
   have hi:i<ls.length:=(kC.mp hp).1
   have kk:=Zav hp (pr:=UA)
   have lq:(lhL g ls i).length=i:=by simp [lhL]
   have em:ls.length-i=(ls.length-(i+1))+1:=by lia
   have putq:∀{G':Hp}{o:HO},Zi H G'->Zi H (upd G' q o):=fun s c o e=>by rw [Zh (Zf e fq)];exact s c o e
   have putk:∀{G':Hp}{o:HO},Zi H G'->Zi H (upd G' kn o):=fun s c o e=>by rw [Zh (Zf e fk)];exact s c o e
   refine ⟨_,rfl,ta,_,_,_,rfl,rfl,YX.of hta,Zo (j:=0) rfl,rfl,_,rfl,Z7 (fun hb=>?_) (fun hb=>?_)⟩
   ·have eb:pq.1 = "born" := by
     have:=kE hb
     injection this
    have kf:isK ls UA i=false:=by rw [kk,eb];decide
    refine ⟨_,rfl,.inl ⟨rfl,_,Zr.of eq⟩,q,_,_,rfl,rfl,eq,(by rw [lq,Kg];lia),?_⟩
    refine ⟨_,rfl,putq sG,?_,?_⟩
    ·rw [Zh kq,ek,em,Zef,kf]
     rfl
    ·rw [Zc]
     unfold lhL
     rw [KN,kP]
     show some (HO.lst (_ ++ [V.non]))=some (HO.lst (_ ++ [oI (UJ g ls i)]))
     have:UJ g ls i=none:=by unfold UJ;rw [kf];rfl
     rw [this]
     rfl
   ·have kt:isK ls UA i=true:=by
     rw [kk]
     unfold UA
     simp
     intro z
     rw [z] at hb
     exact hb (kG rfl)
    have el:Zd1 ls i (ls.length-i)=(i:Int)::Zd1 ls (i+1) (ls.length-(i+1)):=by rw [em,Zef,kt];rfl
    rw [el] at ek
    have ek':G kn=some (.lst (V.int (g (YW ls i).1-g (YW ls i).2)::(dfs g ls (Zd1 ls (i+1) (ls.length-(i+1)))).map V.int)):=by
     rw [ek]
     unfold dfs
     rw [k7,k7]
     simp
    refine ⟨_,rfl,.inl ⟨rfl,_,Zr.of eq⟩,_,rfl,.inl ⟨rfl,_,Zr.of ek'⟩,kn,_,0,0,_,rfl,rfl,ek',by decide,by decide,N8 (by decide) (by simp),rfl,?_⟩
    have eq2:(upd G kn (.lst (((V.int (g (YW ls i).1-g (YW ls i).2))::(dfs g ls (Zd1 ls (i+1) (ls.length-(i+1)))).map V.int).eraseIdx 0))) q=some (.lst (lhL g ls i)):=by rw [Zh (Ko kq)];exact eq
    refine ⟨q,_,_,rfl,rfl,eq2,(by rw [lq,Kg];lia),?_⟩
    refine ⟨_,rfl,putq (putk sG),?_,?_⟩
    ·rw [Zh kq,Zc]
     rfl
    ·rw [Zc]
     unfold lhL
     rw [KN,kP]
     show some (HO.lst (_ ++ [V.int _]))=some (HO.lst (_ ++ [oI (UJ g ls i)]))
     have:UJ g ls i=some (g (YW ls i).1-g (YW ls i).2):=by unfold UJ;rw [kt];rfl
     rw [this]
     rfl
  ·rintro σ G ⟨v4,rfl,sG,ek,eq⟩
   rw [hxl] at eq
   exact ⟨_,rfl,k q G sG fq eq⟩
def PtL (ps:List Int):Prop:=∀(i:Nat) (x:Int),ps[i]? = some x -> ∃j:Nat,x=(j:Int)/\ps[j]? = some (i:Int)/\j≠i
def Uj (k:Nat) (x:Int):Int:=if x>=(k:Int) then x+2 else x
def dnE (k:Nat) (x:Int):Int:=if x>(k:Int) then x-2 else x
def Gr (k:Nat) (x:Int):Int:=if x=(k:Int) then (k:Int)+1 else if x=(k:Int)+1 then (k:Int) else x
def JU (ps:List Int) (k:Nat):List Int:=(ps.map (Uj k)).take k ++ [(k:Int)+1,(k:Int)]++(ps.map (Uj k)).drop k
def Zak (ps:List Int) (k:Nat):List Int:=(ps.take k++ps.drop (k+2)).map (dnE k)
theorem Zaj (ps:List Int) (k:Nat):(JU ps k).length=ps.length+2:=by
 unfold JU;simp;lia
theorem Zfn {ps:List Int}{k:Nat} (h:k+1<ps.length):(Zak ps k).length+2=ps.length:=by
 unfold Zak;simp;lia
theorem WT {ps:List Int}{k:Nat} (hk:k<=ps.length) (i:Nat):(JU ps k)[i]? = if i<k then ps[i]?.map (Uj k) else if i=k then some ((k:Int)+1) else if i=k+1 then some (k:Int) else ps[i-2]?.map (Uj k):=by
 unfold JU
 have l1:((ps.map (Uj k)).take k).length=k:=by simp;lia
 by_cases h1:i<k
 ·rw [kh h1,Kc,qj (by lia),MK,kh h1,kz]
 ·rw [kg h1,Kc,KO (by lia),l1]
  by_cases h2:i=k
  ·rw [kh h2,h2,Nat.sub_self];rfl
  ·rw [kg h2]
   by_cases h3:i=k+1
   ·rw [kh h3,h3,show k+1-k=1 by lia];rfl
   ·rw [kg h3,KO (by show 2<=_;lia),XM,kz]
    congr 2
    show k+(i-k-2)=i-2
    lia
theorem PtL.born {ps:List Int}{k:Nat} (h:PtL ps) (hk:k<=ps.length):PtL (JU ps k):=by
 intro i x e
 rw [WT hk] at e
 have old:∀(i':Nat) (y:Int),ps[i']? = some y -> ∃j:Nat,Uj k y=(j:Int)/\(JU ps k)[j]? = some (Uj k (i':Int))/\(j:Int)≠Uj k (i':Int):=fun i' y e'=>by
  obtain ⟨j,rfl,e2,ne⟩:=h i' y e'
  unfold Uj
  by_cases hj:k<=j
  ·refine ⟨j+2,by rw [kh (by lia)];rfl,?_,?_⟩
   ·rw [WT hk,kg (by lia),kg (by lia),kg (by lia),TY,e2]
    rfl
   ·split<;>lia
  ·refine ⟨j,by rw [kg (by lia)],?_,?_⟩
   ·rw [WT hk,kh (by lia),e2]
    rfl
   ·split<;>lia
 by_cases h1:i<k
 ·rw [kh h1] at e
  obtain ⟨y,e',rfl⟩:=Kf.mp e
  obtain ⟨j,a,b,c⟩:=old i y e'
  have:Uj k (i:Int)=(i:Int):=by unfold Uj;rw [kg (by lia)]
  rw [this] at b c
  exact ⟨j,a,b,by lia⟩
 rw [kg h1] at e
 by_cases h2:i=k
 ·rw [kh h2] at e
  injection e with e
  refine ⟨k+1,by lia,?_,by lia⟩
  rw [WT hk,kg (by lia),kg (by lia),kh rfl,h2]
 rw [kg h2] at e
 by_cases h3:i=k+1
 ·rw [kh h3] at e
  injection e with e
  refine ⟨k,by lia,?_,by lia⟩
  rw [WT hk,kg (by lia),kh rfl,h3]
  rfl
 rw [kg h3] at e
 obtain ⟨y,e',rfl⟩:=Kf.mp e
 obtain ⟨j,a,b,c⟩:=old (i-2) y e'
 have:Uj k ((i-2:Nat):Int)=(i:Int):=by unfold Uj;rw [kh (by lia)];lia
 rw [this] at b c
 exact ⟨j,a,b,by lia⟩
theorem ZdA {ps:List Int}{k:Nat} (hk:k+1<ps.length) (i:Nat):(Zak ps k)[i]? = (if i<k then ps[i]? else ps[i+2]?).map (dnE k):=by
 unfold Zak
 rw [kz]
 congr 1
 by_cases h1:i<k
 ·rw [kh h1,qj (by simp;lia),MK,kh h1]
 ·rw [kg h1,KO (by simp;lia),XM]
  congr 1
  simp
  lia
theorem PtL.ended {ps:List Int}{k:Nat} (h:PtL ps) (e0:ps[k]? = some ((k:Int)+1)):PtL (Zak ps k):=by
 obtain ⟨j0,j1,e1,_⟩:=h k _ e0
 have:j0=k+1:=by lia
 subst this
 have hk:k+1<ps.length:=(kC.mp e1).1
 have old:∀(i':Nat) (y:Int),i'≠k->i'≠k+1->ps[i']? = some y -> ∃j:Nat,dnE k y=(j:Int)/\(Zak ps k)[j]? = some (dnE k (i':Int))/\(j:Int)≠dnE k (i':Int):=fun i' y n1 n2 e'=>by
  obtain ⟨j,rfl,e2,ne⟩:=h i' y e'
  have m1:j≠k:=fun z=>by subst z;rw [e0] at e2;injection e2;lia
  have m2:j≠k+1:=fun z=>by subst z;rw [e1] at e2;injection e2;lia
  unfold dnE
  by_cases hj:k<j
  ·refine ⟨j-2,by rw [kh (by lia)];lia,?_,?_⟩
   ·rw [ZdA hk,kg (by lia),show j-2+2=j by lia,e2]
    rfl
   ·split<;>lia
  ·refine ⟨j,by rw [kg (by lia)],?_,?_⟩
   ·rw [ZdA hk,kh (by lia),e2]
    rfl
   ·split<;>lia
 intro i x e
 rw [ZdA hk] at e
 obtain ⟨y,e',rfl⟩:=Kf.mp e
 by_cases h1:i<k
 ·rw [kh h1] at e'
  obtain ⟨j,a,b,c⟩:=old i y (by lia) (by lia) e'
  have:dnE k (i:Int)=(i:Int):=by unfold dnE;rw [kg (by lia)]
  rw [this] at b c
  exact ⟨j,a,b,by lia⟩
 ·rw [kg h1] at e'
  obtain ⟨j,a,b,c⟩:=old (i+2) y (by lia) (by lia) e'
  have:dnE k ((i+2:Nat):Int)=(i:Int):=by unfold dnE;rw [kh (by lia)];lia
  rw [this] at b c
  exact ⟨j,a,b,by lia⟩
def Ze9:Sp:=fun vs H Q _=>∃(v:V) (k:Nat) (ps:List Int),vs = [v,.int k]/\Jn H v ps/\ps.length<=200 /\ ∀(v':V) (H':Hp),Zi H H'->Jn H' v' (JU ps k)->Q v' H'
abbrev JH:Stmt:=top 25
theorem GV:Zy ["partners", "k", "moved"] ["partners", "k"] (Zj JH):={}
theorem Zjx {f:Addr}{fd:FuncData} (F:Yy K "partners_born" "partners_born" JH f fd) (WU:mg "tuple" = none):Yf P w K mg base Wy 1 f fd ["partners", "k"] Ze9:=by
 refine F.ok GV (fun vs H Q E h=>?_) (fun cdv A outer s H vs Q E hr h=>?_)
 ·obtain ⟨v,k,ps,rfl,_⟩:=h
  rfl
 ·obtain ⟨v,k,ps,rfl,⟨a,rfl,ha⟩,hlen,q⟩:=h
  refine ⟨_,(Zd (Zn (i:=2) GV.nd rfl (Or.inl rfl) (Yr U2 (by rfl) WU boot_tuple (Za (Gi (Ls:=["one"]) (Fs:=["k"]) (fi:=[1]) (Z6.of (show YE ["partners", "k", "moved"] (Zj JH) _ ["k"] [1]=true by decide +kernel)) rfl (ZhZ (K:=K) rfl (pv 0)) (fun cl C s3 H3 ex=>⟨(Zk (i:=0) (show ((["one"]:List Str)++(["k"]:List Str)).Nodup by decide +kernel) rfl (Or.inl rfl)),YN,(UX (Zt Zk1 (pv 0) (pv 1) (Zs _)) (Zl ZA (pv 0) Ze) (pv 0))⟩)) Zb)))
   (Zg (Zw (Zl ZcQ (Zl ZcQ (Ym (Zby (K:=K) rfl) (pv 2) Je (Yb (pv 1))) (ZH (Za (Zl ZA (pv 1) Ze) (Za (pv 1) Zb)))) (Ym (Zby (K:=K) rfl) (pv 2) (Yb (pv 1)) Je))))),?_⟩
  refine ⟨_,rfl,a,rfl,⟨_,YX.of ha⟩,ZjN (K:=K) (a:=a) (xs:=ps.map V.int) (by rw [ke,Kg];lia) (fun i zs G=>G=H/\zs=((ps.map (Uj k)).take i).map V.int) ⟨rfl,rfl⟩ (fun i zs G x=>by rw [x.2,ke,kM];lia) (fun i zs G x=>by rw [x.1];exact YX.of ha) (fun i y zs G hy x=>?_) (fun zs G x p hp=>?_)⟩
  ·obtain ⟨rfl,rfl⟩:=x
   obtain ⟨n,hn,rfl⟩:∃n,ps[i]? = some n/\y=V.int n:=by
    rw [kz] at hy
    obtain ⟨n,h1,h2⟩:=Kf.mp hy
    exact ⟨n,h1,h2.symm⟩
   have hi:i<ps.length:=(kC.mp hn).1
   have st:((ps.map (Uj k)).take (i+1)).map V.int=((ps.map (Uj k)).take i).map V.int ++ [V.int (Uj k n)]:=by
    rw [Kh,kz,hn,kP]
    rfl
   refine ⟨_,rfl,_,rfl,_,_,rfl,rfl,_,rfl,Z7 (fun c=>?_) (fun c=>?_)⟩
   ·refine ⟨_,rfl,_,_,rfl,rfl,rfl,?_⟩
    rw [st]
    unfold Uj
    rw [kh (kE c)]
   ·refine ⟨_,rfl,rfl,?_⟩
    rw [st]
    unfold Uj
    rw [kg (fun z=>c (kG z))]
  ·obtain ⟨rfl,rfl⟩:=x
   rw [ke,kJ (by rw [ke];exact ki _)]
   obtain ⟨G1,z,s1,e1⟩:=lay (o:=.lst ((ps.map (Uj k)).map V.int)) hp
   rw [z];clear z
   refine ⟨p,_,rfl,e1,fun m hm=>?_⟩
   obtain ⟨G2,z,s2,e2⟩:=lay (o:=.tup ((ps.map (Uj k)).map V.int)) hm
   rw [z];clear z
   refine ⟨_,rfl,_,rfl,_,rfl,Zj6 ⟨m,rfl,e2⟩ fun v1 G3 s3 w1=>?_⟩
   refine ⟨_,rfl,_,_,rfl,rfl,_,rfl,(by show 2<=sizeLine;decide),fun t ht=>?_⟩
   obtain ⟨G4,z,s4,e4⟩:=lay (o:=.tup [.int ((k:Int)+1),.int k]) ht
   rw [z];clear z
   have wl:∀{G G':Hp}{v:V}{x:List Int},Zi G G'->Jn G v x->Jn G' v x:=fun s ⟨b,e,h⟩=>⟨b,e,s _ _ h⟩
   refine ZbH (b:=[(k:Int)+1,(k:Int)]) (wl s4 w1) ⟨t,rfl,e4⟩ (by rw [Kg];simp;lia) fun v2 G5 s5 w2=>?_
   refine ⟨_,rfl,_,rfl,_,rfl,?_⟩
   dsimp only [Zao]
   refine Zk8 rfl ⟨m,rfl,s5 _ _ (s4 _ _ (s3 _ _ e2))⟩ fun v3 G6 s6 w3=>?_
   refine ZbH (wl s6 w2) w3 (by rw [Kg];simp;lia) fun v4 G7 s7 w4=>?_
   exact q v4 G7 ((((((s1.trans s2).trans s3).trans s4).trans s5).trans s6).trans s7) w4
def ZgU:Sp:=fun vs H Q _=>∃(v:V) (k:Nat) (ps:List Int),vs = [v,.int k]/\Jn H v ps/\ps.length<=200 /\ ∀(v':V) (H':Hp),Zi H H'->Jn H' v' (Zak ps k)->Q v' H'
abbrev Jx:Stmt:=top 26
theorem Gv:Zy ["partners", "k", "left"] ["partners", "k"] (Zj Jx):={}
theorem Zmg {f:Addr}{fd:FuncData} (F:Yy K "partners_ended" "partners_ended" Jx f fd) (WU:mg "tuple" = none):Yf P w K mg base Wy 1 f fd ["partners", "k"] ZgU:=by
 refine F.ok Gv (fun vs H Q E h=>?_) (fun cdv A outer s H vs Q E hr h=>?_)
 ·obtain ⟨v,k,ps,rfl,_⟩:=h
  rfl
 ·obtain ⟨v,k,ps,rfl,wv,hlen,q⟩:=h
  refine ⟨_,(Zd (Zn (i:=2) Gv.nd rfl (Or.inl rfl) (Zl ZcQ (Ym (Zby (K:=K) rfl) (pv 0) Je (Yb (pv 1))) (Ym (Zby (K:=K) rfl) (pv 0) (Yb (Zl ZA (pv 1) Ze)) Je)))
   (Zg (Zw (Yr U2 (by rfl) WU boot_tuple (Za (Gi (Ls:=["one"]) (Fs:=["k"]) (fi:=[1]) (Z6.of (show YE ["partners", "k", "left"] (Zj Jx) _ ["k"] [1]=true by decide +kernel)) rfl (ZhZ (K:=K) rfl (pv 2)) (fun cl C s3 H3 ex=>⟨(Zk (i:=0) (show ((["one"]:List Str)++(["k"]:List Str)).Nodup by decide +kernel) rfl (Or.inl rfl)),YN,(UX (Zt Zbj (pv 0) (pv 1) (Zs _)) (Zl YT (pv 0) Ze) (pv 0))⟩)) Zb))))),?_⟩
  have wl:∀{G G':Hp}{v:V}{x:List Int},Zi G G'->Jn G v x->Jn G' v x:=fun s ⟨b,e,h⟩=>⟨b,e,s _ _ h⟩
  refine ⟨_,rfl,_,rfl,_,rfl,?_⟩
  dsimp only [Zao]
  refine Zj6 wv fun v1 G1 s1 w1=>?_
  refine ⟨_,rfl,_,rfl,_,_,rfl,rfl,_,rfl,?_⟩
  dsimp only [Zao]
  refine Zk8 (k:=k+2) (by push_cast;rfl) (wl s1 wv) fun v2 G2 s2 w2=>?_
  refine ZbH (wl s2 w1) w2 (by rw [Kg];simp;lia) fun v3 G3 s3 ⟨a,ev3,ha⟩=>?_
  subst ev3
  obtain ⟨L,eL⟩:∃L,ps.take k++ps.drop (k+2)=L:=⟨_,rfl⟩
  have lL:L.length<=200:=by rw [<- eL];simp;lia
  rw [eL] at ha
  refine ⟨_,rfl,a,rfl,⟨_,YX.of ha⟩,ZjN (K:=K) (a:=a) (xs:=L.map V.int) (by rw [ke,Kg];lia) (fun i zs G=>G=G3/\zs=((L.map (dnE k)).take i).map V.int) ⟨rfl,rfl⟩ (fun i zs G x=>by rw [x.2,ke,kM];lia) (fun i zs G x=>by rw [x.1];exact YX.of ha) (fun i y zs G hy x=>?_) (fun zs G x p hp=>?_)⟩
  ·obtain ⟨rfl,rfl⟩:=x
   obtain ⟨n,hn,rfl⟩:∃n,L[i]? = some n/\y=V.int n:=by
    rw [kz] at hy
    obtain ⟨n,h1,h2⟩:=Kf.mp hy
    exact ⟨n,h1,h2.symm⟩
   have st:((L.map (dnE k)).take (i+1)).map V.int=((L.map (dnE k)).take i).map V.int ++ [V.int (dnE k n)]:=by
    rw [Kh,kz,hn,kP]
    rfl
   refine ⟨_,rfl,_,rfl,_,_,rfl,rfl,_,rfl,Z7 (fun c=>?_) (fun c=>?_)⟩
   ·refine ⟨_,rfl,_,_,rfl,rfl,rfl,?_⟩
    rw [st]
    unfold dnE
    rw [kh (kE c)]
   ·refine ⟨_,rfl,rfl,?_⟩
    rw [st]
    unfold dnE
    rw [kg (fun z=>c (kG z))]
  ·obtain ⟨rfl,rfl⟩:=x
   rw [ke,kJ (by rw [ke];exact ki _)]
   obtain ⟨G4,z,s4,e4⟩:=lay (o:=.lst ((L.map (dnE k)).map V.int)) hp
   rw [z];clear z
   refine ⟨p,_,rfl,e4,fun m hm=>?_⟩
   obtain ⟨G5,z,s5,e5⟩:=lay (o:=.tup ((L.map (dnE k)).map V.int)) hm
   rw [z];clear z
   refine q (.ref m) G5 ((((s1.trans s2).trans s3).trans s4).trans s5) ⟨m,rfl,?_⟩
   rw [e5]
   unfold Zak
   rw [eL]
def Jy (ps:List Int) (k:Nat):List Int:=((ps.map (Gr k)).set k ((ps.map (Gr k)).getD (k+1) 0)).set (k+1) ((ps.map (Gr k)).getD k 0)
structure ZbZ (ps:List Int) (k a b:Nat):Prop where
 pt:PtL ps
 ea:ps[k]? = some (a:Int)
 eb:ps[k+1]? = some (b:Int)
 ne:a≠k+1
theorem ZbZ.facts {ps:List Int}{k a b:Nat} (h:ZbZ ps k a b):ps[a]? = some (k:Int)/\ps[b]? = some ((k:Int)+1)/\a≠k/\b≠k+1/\b≠k/\a≠b/\a<ps.length/\b<ps.length/\k+1<ps.length:=by
 obtain ⟨j,e1,e2,n1⟩:=h.pt k _ h.ea
 obtain ⟨j',e3,e4,n2⟩:=h.pt (k+1) _ h.eb
 have:j=a:=by lia
 subst this
 have:j'=b:=by lia
 subst this
 have nb:j'≠k:=fun z=>by
  subst z
  rw [e2.symm.trans (by rfl)] at e2
  have:=h.ea.symm.trans e4
  injection this with this
  exact h.ne (by lia)
 have nab:j≠j':=fun z=>by
  subst z
  have:=e2.symm.trans e4
  injection this with this
  lia
 exact ⟨e2,by rw [e4];rfl,n1,n2,nb,nab,(kC.mp e2).1,(kC.mp e4).1,(kC.mp h.eb).1⟩
theorem Zdf (ps:List Int) (k:Nat):(Jy ps k).length=ps.length:=by unfold Jy;simp
theorem WR {ps:List Int}{k a b:Nat} (h:ZbZ ps k a b) (i:Nat):(Jy ps k)[i]? = if i=k+1 then some (a:Int) else if i=k then some (b:Int) else ps[i]?.map (Gr k):=by
 obtain ⟨fa,fb,n1,n2,n3,n4,l1,l2,l3⟩:=h.facts
 have ma:(ps.map (Gr k)).getD k 0=(a:Int):=by
  rw [Ke,kz,h.ea]
  show Gr k a=_
  unfold Gr
  have:=h.ne
  rw [kg (by lia),kg (by lia)]
 have mb:(ps.map (Gr k)).getD (k+1) 0=(b:Int):=by
  rw [Ke,kz,h.eb]
  show Gr k b=_
  unfold Gr
  rw [kg (by lia),kg (by lia)]
 unfold Jy
 rw [ma,mb,KZ,KG,ke,KZ,ke,kz]
 by_cases h1:i=k+1
 ·rw [kh h1,kh h1.symm,kh (by lia)]
 ·rw [kg h1,kg (Ko h1)]
  by_cases h2:i=k
  ·rw [kh h2,kh h2.symm,kh (by lia)]
  ·rw [kg h2,kg (Ko h2)]
theorem ZbZ.kept {ps:List Int}{k a b:Nat} (h:ZbZ ps k a b):PtL (Jy ps k):=by
 obtain ⟨fa,fb,n1,n2,n3,n4,l1,l2,l3⟩:=h.facts
 have nn:=h.ne
 intro i x e
 rw [WR h] at e
 by_cases h1:i=k+1
 ·rw [kh h1] at e
  injection e with e
  refine ⟨a,e.symm,?_,by lia⟩
  rw [WR h,kg (by lia),kg (by lia),fa,h1]
  show some (Gr k k)=_
  unfold Gr
  rw [kh rfl]
  rfl
 rw [kg h1] at e
 by_cases h2:i=k
 ·rw [kh h2] at e
  injection e with e
  refine ⟨b,e.symm,?_,by lia⟩
  rw [WR h,kg (by lia),kg (by lia),fb,h2]
  show some (Gr k ((k:Int)+1))=_
  unfold Gr
  rw [kg (by lia),kh rfl]
 rw [kg h2] at e
 obtain ⟨y,e',rfl⟩:=Kf.mp e
 obtain ⟨j,rfl,e2,n⟩:=h.pt i y e'
 unfold Gr
 by_cases c1:j=k
 ·subst c1
  rw [kh rfl]
  refine ⟨j+1,by rfl,?_,by lia⟩
  rw [WR h,kh rfl,<- h.ea,e2]
 by_cases c2:j=k+1
 ·subst c2
  rw [kg (by lia),kh (by rfl)]
  refine ⟨k,by rfl,?_,by lia⟩
  rw [WR h,kg (by lia),kh rfl,<- h.eb,e2]
 rw [kg (by lia),kg (by lia)]
 refine ⟨j,rfl,?_,n⟩
 rw [WR h,kg c2,kg c1,e2]
 show some (Gr k i)=_
 unfold Gr
 rw [kg (by lia),kg (by lia)]
theorem ZlX {ps:List Int}{k a b:Nat} (h:ZbZ ps k a b):(((ps.set k (b:Int)).set (k+1) (a:Int)).set b (k:Int)).set a ((k:Int)+1)=Jy ps k:=by
 obtain ⟨fa,fb,n1,n2,n3,n4,l1,l2,l3⟩:=h.facts
 have nn:=h.ne
 refine T7 fun i=>?_
 rw [WR h,KZ,KG,KG,KG,KZ,KG,KG,KZ,KG,KZ]
 by_cases c1:a=i
 ·subst c1
  rw [kh rfl,kh l1,kg (by lia),kg (by lia),fa]
  show _=some (Gr k k)
  unfold Gr
  rw [kh rfl]
 rw [kg c1]
 by_cases c2:b=i
 ·subst c2
  rw [kh rfl,kh l2,kg (by lia),kg (by lia),fb]
  show _=some (Gr k ((k:Int)+1))
  unfold Gr
  rw [kg (by lia),kh rfl]
 rw [kg c2]
 by_cases c3:i=k+1
 ·rw [kh c3,kh c3.symm,kh l3]
 rw [kg c3,kg (Ko c3)]
 by_cases c4:i=k
 ·rw [kh c4,kh c4.symm,kh (by lia)]
 rw [kg c4,kg (Ko c4)]
 cases e:ps[i]? with
 | none=>rfl
 | some y=>
  show _=some (Gr k y)
  obtain ⟨j,rfl,e2,n⟩:=h.pt i y e
  unfold Gr
  rw [kg (fun z=>?_),kg (fun z=>?_)]
  ·have:j=k+1:=by lia
   subst this
   have:=e2.symm.trans h.eb
   injection this with this
   lia
  ·have:j=k:=by lia
   subst this
   have:=e2.symm.trans h.ea
   injection this with this
   lia
abbrev WE:Stmt:=top 27
theorem GZ:Zy ["partners", "k", "row"] ["partners", "k"] (Zj WE):={}
def Ze7:Sp:=fun vs H Q _=>∃(v:V) (k a b:Nat) (ps:List Int),vs = [v,.int k]/\Jn H v ps/\ps.length<=200/\ZbZ ps k a b /\ ∀(v':V) (H':Hp),Zi H H'->Jn H' v' (Jy ps k)->Q v' H'
theorem Zjz {f:Addr}{fd:FuncData} (F:Yy K "partners_kept" "partners_kept" WE f fd) (WU:mg "tuple" = none) (Yt:mg "list" = none):Yf P w K mg base Wy 1 f fd ["partners", "k"] Ze7:=by
 refine F.ok GZ (fun vs H Q E h=>?_) (fun cdv A outer s H vs Q E hr h=>?_)
 ·obtain ⟨v,k,a,b,ps,rfl,_⟩:=h
  rfl
 ·obtain ⟨v,k,a,b,ps,rfl,⟨pa,rfl,hpa⟩,hlen,tb,q⟩:=h
  refine ⟨_,(Zd (Zn (i:=2) GZ.nd rfl (Or.inl rfl) (Yr (JJ (K:=K) rfl) (by rfl) Yt XR (Za (pv 0) Zb)))
   (Zd (Yj (ZH (Za (Zz (Zp (K:=K) rfl) (pv 2) (Zl ZA (pv 1) Ze) (fun _ _=>rfl)) (Za (Zz (Zp (K:=K) rfl) (pv 2) (pv 1) (fun _ _=>rfl)) Zb))) (ZY (K:=K) (n:=2) rfl rfl (Zm (Yv (pv 2) (pv 1) set_list) (Zm (Yv (pv 2) (Zl ZA (pv 1) Ze) set_list) ZQ))))
   (Zd (Yj (pv 1) (Yv (pv 2) (Zz (Zp (K:=K) rfl) (pv 2) (pv 1) (fun _ _=>rfl)) set_list))
   (Zd (Yj (Zl ZA (pv 1) Ze) (Yv (pv 2) (Zz (Zp (K:=K) rfl) (pv 2) (Zl ZA (pv 1) Ze) (fun _ _=>rfl)) set_list))
   (Zg (Zw (Yr U2 (by rfl) WU boot_tuple (Za (pv 2) Zb)))))))),?_⟩
  obtain ⟨fa,fb,n1,n2,n3,n4,l1,l2,l3⟩:=tb.facts
  have nn:=tb.ne
  refine ⟨_,rfl,pa,_,rfl,.inr (YX.of hpa),fun l hl=>?_⟩
  obtain ⟨G1,z,s1,e1⟩:=lay (o:=.lst (ps.map V.int)) hl
  rw [z];clear z
  have g1:(ps.map V.int)[k+1]? = some (V.int b):=by rw [kz,tb.eb];rfl
  have g0:(ps.map V.int)[k]? = some (V.int a):=by rw [kz,tb.ea];rfl
  have kc:(k:Int)+1=((k+1:Nat):Int):=by push_cast;rfl
  refine ⟨_,rfl,_,rfl,_,_,rfl,rfl,l,_,_,_,rfl,rfl,Zr.of e1,(by rw [kc];exact Zo g1),_,rfl,_,rfl,l,_,_,_,rfl,rfl,Zr.of e1,Zo g0,(by show 2<=sizeLine;decide),fun t ht=>?_⟩
  obtain ⟨G2,z,s2,e2⟩:=lay (o:=.tup [.int b,.int a]) ht
  rw [z];clear z
  have ntl:t≠l:=Zf e1 ht |>.symm
  have sl2:=s2 _ _ e1
  have put:∀{G:Hp}{o:HO},Zi H G->Zi H (upd G l o):=fun s c o e=>by rw [Zh (Zf e hl)];exact s c o e
  have sH2:=s1.trans s2
  generalize eX1:(ps.map V.int).set k (V.int b)=X1
  generalize eX2:X1.set (k+1) (V.int a)=X2
  generalize eX3:X2.set b (V.int k)=X3
  generalize eX4:X3.set a (V.int ((k:Int)+1))=X4
  have m0:(ps.map V.int).length=ps.length:=ke ..
  have m1:X1.length=ps.length:=by rw [<- eX1,KG,m0]
  have m2:X2.length=ps.length:=by rw [<- eX2,KG,m1]
  have m3:X3.length=ps.length:=by rw [<- eX3,KG,m2]
  have i2:X2[k]? = some (V.int b):=by
   rw [<- eX2,KZ,kg (by lia),<- eX1,KZ,kh rfl,kh (by lia)]
  have i3:X3[k+1]? = some (V.int a):=by
   rw [<- eX3,KZ,kg (by lia),<- eX2,KZ,kh rfl,kh (by lia)]
  have x4:X4=(Jy ps k).map V.int:=by
   rw [<- ZlX tb,<- eX4,<- eX3,<- eX2,<- eX1,qL,qL,qL,qL]
  refine ⟨t,_,rfl,YX.of e2,rfl,_,_,rfl,_,rfl,_,rfl,l,_,_,k,rfl,rfl,sl2,Y5 (by lia),?_⟩
  rw [eX1]
  refine ⟨_,_,rfl,_,rfl,_,rfl,_,_,rfl,rfl,l,_,_,k+1,rfl,rfl,Zc,(by rw [kc];exact Y5 (by lia)),?_⟩
  rw [eX2,Jv]
  refine ⟨rfl,_,rfl,_,rfl,_,rfl,_,rfl,l,_,_,_,rfl,rfl,Zr.of Zc,Zo i2,l,_,_,b,rfl,rfl,Zc,Y5 (by lia),?_⟩
  rw [eX3,Jv]
  refine ⟨_,rfl,_,_,rfl,rfl,_,rfl,_,rfl,_,rfl,_,_,rfl,rfl,l,_,_,_,rfl,rfl,Zr.of Zc,(by rw [kc];exact Zo i3),l,_,_,a,rfl,rfl,Zc,Y5 (by lia),?_⟩
  rw [eX4,Jv]
  refine ⟨_,rfl,l,_,rfl,Zc,fun m hm=>?_⟩
  exact q (.ref m) _ ((put sH2).trans (Zi.laid hm)) ⟨m,rfl,by rw [Zc,x4]⟩
theorem Zmt {x y:Nat}{l:List Int} (p:l.Perm [(x:Int),(y:Int)]) (s:l.Pairwise (· <= ·)):l = [((min x y:Nat):Int),((max x y:Nat):Int)]:=by
 refine ZaT (p.trans ?_) s (by simp;lia)
 rcases Nat.le_total x y with h | h
 ·rw [KR h,qc h]
 ·rw [KL h,qi h]
  exact List.Perm.swap ..
theorem ZhL {α:Type}{a b x y:α} (h:[a,b].Perm [x,y]):(a=x/\b=y)∨(a=y/\b=x):=by
 have h1:a ∈ [x,y]:=h.mem_iff.mp kK
 rcases kL.mp h1 with e | e
 ·subst e
  have:=TZ h
  exact .inl ⟨rfl,Tr.mp this⟩
 ·have e:=kZ.mp e
  subst e
  have:=TZ (h.trans (List.Perm.swap ..))
  exact .inr ⟨rfl,Tr.mp this⟩
def W8 (k a b:Nat):Bool:=(decide (min k a<min (k+1) b)&&decide (min (k+1) b<max k a)&&decide (max k a<max (k+1) b))||(decide (min (k+1) b<min k a)&&decide (min k a<max (k+1) b)&&decide (max (k+1) b<max k a))
def ZgC:Sp:=fun vs H Q _=>∃(v:V) (k a b:Nat) (ps:List Int),vs = [v,.int k]/\Jn H v ps/\ps.length<=200/\ZbZ ps k a b /\ ∀(H':Hp),Zi H H'->Q (.bl (W8 k a b)) H'
abbrev Uc:Stmt:=top 28
theorem GJ:Zy ["partners", "k", "first", "second"] ["partners", "k"] (Zj Uc):={}
theorem ZlU {f:Addr}{fd:FuncData} (F:Yy K "is_tangled" "is_tangled" Uc f fd) (YS:mg "sorted" = none):Yf P w K mg base Wy 1 f fd ["partners", "k"] ZgC:=by
 refine F.ok GJ (fun vs H Q E h=>?_) (fun cdv A outer s H vs Q E hr h=>?_)
 ·obtain ⟨v,k,a,b,ps,rfl,_⟩:=h
  rfl
 ·obtain ⟨v,k,a,b,ps,rfl,⟨pa,rfl,hpa⟩,hlen,tb,q⟩:=h
  refine ⟨_,(Zd (Yj (Zx (ZdZ (K:=K) rfl hr.units) (by rfl) YS Tq (Za (ZD (Za (Zx (Zbi (K:=K) rfl) (by rfl) YS Tq (Za (ZD (Za (pv 1) (Za (Zz (Yl (K:=K) rfl) (pv 0) (pv 1) (fun _ _=>rfl)) Zb))) Zb)) (Za (Zx (Zbi (K:=K) rfl) (by rfl) YS Tq (Za (ZD (Za (Zl ZA (pv 1) Ze) (Za (Zz (Yl (K:=K) rfl) (pv 0) (Zl ZA (pv 1) Ze) (fun _ _=>rfl)) Zb))) Zb)) Zb))) Zb)) (ZcB (K:=K) (n:=2) rfl rfl (Zm (Zk (i:=2) GJ.nd rfl (Or.inl rfl)) (Zm (Zk (i:=3) GJ.nd rfl (Or.inl rfl)) ZQ))))
   (Zg (Zw (ZjL Gm Gm (Zz (Zp (K:=K) rfl) (pv 3) Ze (fun _ _=>rfl)) (Zz (Zp (K:=K) rfl) (pv 2) Ze (fun _ _=>rfl)) (Zz (Zp (K:=K) rfl) (pv 3) Ze (fun _ _=>rfl)))))),?_⟩
  obtain ⟨fa,fb,n1,n2,n3,n4,l1,l2,l3⟩:=tb.facts
  have nn:=tb.ne
  have g1:(ps.map V.int)[k+1]? = some (V.int b):=by rw [kz,tb.eb];rfl
  have g0:(ps.map V.int)[k]? = some (V.int a):=by rw [kz,tb.ea];rfl
  have kc:(k:Int)+1=((k+1:Nat):Int):=by push_cast;rfl
  refine ⟨_,rfl,_,rfl,_,rfl,pa,_,_,_,rfl,rfl,YX.of hpa,Zo g0,(by show 2<=sizeLine;decide),fun d1 hd1=>?_⟩
  obtain ⟨G1,z,s1,e1⟩:=lay (o:=.lst [.int k,.int a]) hd1
  rw [z];clear z
  refine ⟨d1,[(k:Int),(a:Int)],rfl,Zr.of e1,(by show 2<64;decide),fun r1 ns1 hr1 p1 o1=>?_⟩
  have:=Zmt p1 o1
  subst this
  obtain ⟨G2,z,s2,e2⟩:=lay (o:=.lst ([((min k a:Nat):Int),((max k a:Nat):Int)].map V.int)) hr1
  rw [z];clear z
  refine ⟨_,rfl,_,_,rfl,rfl,_,rfl,_,rfl,_,_,rfl,rfl,pa,_,_,_,rfl,rfl,YX.of (s2 _ _ (s1 _ _ hpa)),(by rw [kc];exact Zo g1),(by show 2<=sizeLine;decide),fun d2 hd2=>?_⟩
  obtain ⟨G3,z,s3,e3⟩:=lay (o:=.lst [.int ((k:Int)+1),.int b]) hd2
  rw [z];clear z
  refine ⟨d2,[((k+1:Nat):Int),(b:Int)],rfl,Zr.of (by rw [e3,kc];rfl),(by show 2<64;decide),fun r2 ns2 hr2 p2 o2=>?_⟩
  have:=Zmt p2 o2
  subst this
  obtain ⟨G4,z,s4,e4⟩:=lay (o:=.lst ([((min (k+1) b:Nat):Int),((max (k+1) b:Nat):Int)].map V.int)) hr2
  rw [z];clear z
  refine ⟨(by show 2<=sizeLine;decide),fun d3 hd3=>?_⟩
  obtain ⟨G5,z,s5,e5⟩:=lay (o:=.lst [.ref r1,.ref r2]) hd3
  rw [z];clear z
  refine ⟨d3,_,[_,_],rfl,Zr.of e5,.cons ⟨r1,rfl,s5 _ _ (s4 _ _ (s3 _ _ e2))⟩ (.cons ⟨r2,rfl,s5 _ _ e4⟩ .nil),rfl,fun l zs vs fl pz pv lr rise=>?_⟩
  have lz:=pz.length_eq
  have lv:=pv.length_eq
  match zs,vs,lz,lv,pv,lr,rise with
  | [z1,z2],[v1,v2],_,_,pv,.cons ⟨c1,ez1,hc1⟩ (.cons ⟨c2,ez2,hc2⟩ .nil),rise=>
  subst ez1 ez2
  obtain ⟨G6,z,s6,e6⟩:=lay (o:=.lst [.ref c1,.ref c2]) fl
  rw [z];clear z
  have hc1:=s6 _ _ hc1
  have hc2:=s6 _ _ hc2
  have sH:=((((s1.trans s2).trans s3).trans s4).trans s5).trans s6
  have lx:lexLt v2 v1=false:=by
   have:=qu.mp rise
   exact this.1 _ kK
  refine ⟨l,_,rfl,Zr.of e6,rfl,_,_,rfl,_,_,rfl,rfl,?_⟩
  rcases ZhL pv with ⟨e,e'⟩ | ⟨e,e'⟩<;>subst e e'
  ·have dn:(min k a)≠(min (k+1) b):=by lia
   have lo:min k a<min (k+1) b:=by
    rw [L2.lexLt,kg (by lia)] at lx
    have:=ML lx
    lia
   refine ⟨_,rfl,c2,_,_,_,rfl,rfl,Zr.of hc2,Zo (j:=0) rfl,_,rfl,c1,_,_,_,rfl,rfl,Zr.of hc1,Zo (j:=1) rfl,_,_,rfl,rfl,_,rfl,Z7 (fun c=>?_) (fun c=>?_)⟩
   ·refine ⟨_,rfl,c2,_,_,_,rfl,rfl,Zr.of hc2,Zo (j:=1) rfl,_,_,rfl,rfl,?_⟩
    have e:W8 k a b=decide (((max k a:Nat):Int)<((max (k+1) b:Nat):Int)):=by
     have c:=kE c
     rw [qH,Kk]
     unfold W8
     simp only [Xr,Kw,Kk]
     lia
    have q':=q _ sH
    rw [e] at q'
    exact q'
   ·have e:W8 k a b=false:=by
     have c:¬_:=fun z=>c (kG z)
     rw [Bool.eq_false_iff]
     unfold W8
     simp only [Xr,Kw,Kk,ne_eq]
     lia
    rw [e] at q
    exact q _ sH
  ·have dn:(min k a)≠(min (k+1) b):=by lia
   have lo:min (k+1) b<min k a:=by
    rw [L2.lexLt,kg (by lia)] at lx
    have:=ML lx
    lia
   refine ⟨_,rfl,c2,_,_,_,rfl,rfl,Zr.of hc2,Zo (j:=0) rfl,_,rfl,c1,_,_,_,rfl,rfl,Zr.of hc1,Zo (j:=1) rfl,_,_,rfl,rfl,_,rfl,Z7 (fun c=>?_) (fun c=>?_)⟩
   ·refine ⟨_,rfl,c2,_,_,_,rfl,rfl,Zr.of hc2,Zo (j:=1) rfl,_,_,rfl,rfl,?_⟩
    have e:W8 k a b=decide (((max (k+1) b:Nat):Int)<((max k a:Nat):Int)):=by
     have c:=kE c
     rw [qH,Kk]
     unfold W8
     simp only [Xr,Kw,Kk]
     lia
    have q':=q _ sH
    rw [e] at q'
    exact q'
   ·have e:W8 k a b=false:=by
     have c:¬_:=fun z=>c (kG z)
     rw [Bool.eq_false_iff]
     unfold W8
     simp only [Xr,Kw,Kk,ne_eq]
     lia
    rw [e] at q
    exact q _ sH
def ZoU (H:Hp) (v:V) (r:List Int×Bool):Prop:=∃(t:Addr) (x:V),v = .ref t/\H t=some (.tup [x,.bl r.2])/\Jn H x r.1
def Wn (ps:List Int) (q:Str×Int) (h:Option Int):List (List Int×Bool):=
 if q.1 = "born" then [(JU ps q.2.toNat,false)]
 else if decide (ps.getD q.2.toNat 0=q.2+1) != decide (q.1 = "end") then []
 else if q.1 = "end" then [(Zak ps q.2.toNat,false)]
 else (Jy ps q.2.toNat,false)::(if h=some 0/\W8 q.2.toNat (ps.getD q.2.toNat 0).toNat (ps.getD (q.2.toNat+1) 0).toNat=false then [(ps,true)] else [])
def Ze0:Sp:=fun vs H Q _=>∃(v:V) (t:Addr) (q:Str×Int) (h:Option Int) (ps:List Int),vs = [v,.ref t,oI h]/\Jn H v ps/\H t=some (.tup [.str q.1,.int q.2])/\ps.length<=200/\PtL ps/\0<=q.2 /\
 (q.1 ≠ "born" -> q.2+1<ps.length)/\((q.1 = "cross")->h≠none)/\(q.1 = "born" ∨ q.1 = "end" ∨ q.1 = "cross") /\ ∀(p:Addr) (xs:List V) (H':Hp),Zi H H'->H' p=some (.lst xs)->Paired (ZoU H') xs (Wn ps q h)->Q (.ref p) H'
abbrev ZbR:Stmt:=top 29
theorem Ud:Zy ["partners", "letter", "height", "kind", "k", "found"] ["partners", "letter", "height"] (Zj ZbR):={}
theorem Zme {f:Addr}{fd:FuncData} (F:Yy K "ways_on" "ways_on" ZbR f fd) (Wz:Ys P w K mg base 1 "partners_born" ["partners", "k"] Ze9) (J4:Ys P w K mg base 1 "partners_ended" ["partners", "k"] ZgU) (WA:Ys P w K mg base 1 "partners_kept" ["partners", "k"] Ze7) (Uk:Ys P w K mg base 1 "is_tangled" ["partners", "k"] ZgC):Yf P w K mg base Wy 2 f fd ["partners", "letter", "height"] Ze0:=by
 refine F.ok Ud (fun vs H Q E h=>?_) (fun cdv A outer s H vs Q E hr h=>?_)
 ·obtain ⟨v,t,q,h,ps,rfl,_⟩:=h
  rfl
 ·obtain ⟨v,t,q,h,ps,rfl,wv,ht,hlen,pt,k0,hk,hh,hq,k⟩:=h
  refine ⟨_,(Zd (Yj (pv 1) (ZY (K:=K) (n:=2) rfl rfl (Zm (Zk (i:=3) Ud.nd rfl (Or.inl rfl)) (Zm (Zk (i:=4) Ud.nd rfl (Or.inl rfl)) ZQ))))
   (Zd (ZW (Zt Yp (pv 3) ZG (Zs _)) (Zg (Zw (ZD (Za (ZH (Za (Zq Wz hr (Za (pv 0) (Za (pv 4) Zb))) (Za Gk Zb))) Zb)))) ZJ)
   (Zd (ZW (Zt Zeo (YQ Yp (Zz (Yl (K:=K) rfl) (pv 0) (pv 4) (fun _ _=>rfl)) (Zl ZA (pv 4) Ze) (Zs _)) (YQ Yp (pv 3) ZG (Zs _)) (Zs _)) (Zg (Zw (ZD Zb))) ZJ)
   (Zd (ZW (Zt Yp (pv 3) ZG (Zs _)) (Zg (Zw (ZD (Za (ZH (Za (Zq J4 hr (Za (pv 0) (Za (pv 4) Zb))) (Za Gk Zb))) Zb)))) ZJ)
   (Zd (Zn (i:=5) Ud.nd rfl (Or.inl rfl) (ZD (Za (ZH (Za (Zq WA hr (Za (pv 0) (Za (pv 4) Zb))) (Za Gk Zb))) Zb)))
   (Zd (ZW (PW.pt (GI (Zt Yp (pv 2) Ze (Zs _)) (Uh (ZaY (GC (Zq Uk hr (Za (pv 0) (Za (pv 4) Zb)))))))) (Zg (ZZ (Z9 (K:=K) rfl (Yw kH kR kS ZN (pv 5) (Za (ZH (Za (pv 0) (Za Gk Zb))) Zb))))) ZJ)
   (Zg (Zw (pv 5))))))))),?_⟩
  obtain ⟨kd,kk⟩:=q
  obtain ⟨pa,rfl,hpa⟩:=wv
  dsimp only at ht k0 hk hh hq k
  obtain ⟨n,rfl⟩:=kF k0
  have wv:Jn H (.ref pa) ps:=⟨pa,rfl,hpa⟩
  refine ⟨_,rfl,t,_,rfl,YX.of ht,rfl,_,_,rfl,_,_,rfl,rfl,?_⟩
  refine ⟨_,rfl,rfl,_,rfl,Z7 (fun hb=>?_) (fun hb=>?_)⟩
  ·have eb:kd = "born" := by
    have:=kE hb
    injection this
   refine ⟨_,rfl,_,rfl,_,n,ps,rfl,wv,hlen,fun v1 H1 s1 w1=>⟨(by show 2<=sizeLine;decide),fun t1 f1=>?_⟩⟩
   obtain ⟨H2,z,s2,e2⟩:=lay (o:=.tup [v1,.bl false]) f1
   rw [z];clear z
   refine ⟨(by show 1<=sizeLine;decide),fun p fp=>?_⟩
   obtain ⟨H3,z,s3,e3⟩:=lay (o:=.lst [.ref t1]) fp
   rw [z];clear z
   refine k p _ H3 ((s1.trans s2).trans s3) e3 ?_
   obtain ⟨c,rfl,hc⟩:=w1
   unfold Wn
   rw [kh eb]
   exact .cons ⟨t1,_,rfl,s3 _ _ e2,c,rfl,s3 _ _ (s2 _ _ hc)⟩ .nil
  have nb:kd ≠ "born" := fun z=>hb (by rw [z];exact kG rfl)
  have hk:=hk nb
  obtain ⟨x,hx⟩:∃x,ps[n]? = some x:=⟨_,kU (by lia)⟩
  obtain ⟨a,rfl,ea,na⟩:=pt n x hx
  obtain ⟨y,hy⟩:∃y,ps[n+1]? = some y:=⟨_,kU (by lia)⟩
  obtain ⟨b,rfl,eb,nb'⟩:=pt (n+1) y hy
  have g0:(ps.map V.int)[n]? = some (V.int a):=by rw [kz,hx];rfl
  have gd:ps.getD n 0=(a:Int):=by rw [Ke,hx];rfl
  have gd1:ps.getD (n+1) 0=(b:Int):=by rw [Ke,hy];rfl
  have hq:kd = "end" ∨ kd = "cross" := hq.resolve_left nb
  have key:((!decide (V.bl (decide (V.int a=V.int ((n:Int)+1)))=V.bl (decide (V.str kd=V.str "end"))))=true) ↔ ((decide ((a:Int)=(n:Int)+1) != decide (kd = "end"))=true):=by
   simp only [V.int.injEq,V.str.injEq,V.bl.injEq]
   by_cases A:(a:Int)=(n:Int)+1<;>by_cases B:kd = "end" <;> simp [A,B]
  refine ⟨_,rfl,_,rfl,pa,_,_,_,rfl,rfl,YX.of hpa,Zo g0,_,rfl,_,_,rfl,rfl,rfl,_,rfl,rfl,rfl,_,rfl,Z7 (fun c=>?_) (fun c=>?_)⟩
  ·refine ⟨(by show 0<=sizeLine;exact Km _),fun p fp=>?_⟩
   refine k p _ _ (Zi.laid fp) Zc ?_
   have:Wn ps (kd,(n:Int)) h = []:=by
    unfold Wn
    dsimp only
    rw [kg nb,kI,gd,kh (key.mp c)]
   rw [this]
   exact .nil
  have c:¬((decide ((a:Int)=(n:Int)+1) != decide (kd = "end"))=true):=fun z=>c (key.mpr z)
  have c':(a=n+1 ↔ kd = "end"):=by
   by_cases A:(a:Int)=(n:Int)+1<;>by_cases B:kd = "end" <;> simp [A,B] at c ⊢<;>lia
  refine ⟨_,rfl,rfl,_,rfl,Z7 (fun he=>?_) (fun he=>?_)⟩
  ·have ee:kd = "end" := by
    have:=kE he
    injection this
   refine ⟨_,rfl,_,rfl,_,n,ps,rfl,wv,hlen,fun v1 H1 s1 w1=>⟨(by show 2<=sizeLine;decide),fun t1 f1=>?_⟩⟩
   obtain ⟨H2,z,s2,e2⟩:=lay (o:=.tup [v1,.bl false]) f1
   rw [z];clear z
   refine ⟨(by show 1<=sizeLine;decide),fun p fp=>?_⟩
   obtain ⟨H3,z,s3,e3⟩:=lay (o:=.lst [.ref t1]) fp
   rw [z];clear z
   refine k p _ H3 ((s1.trans s2).trans s3) e3 ?_
   obtain ⟨c1,rfl,hc⟩:=w1
   have:Wn ps (kd,(n:Int)) h = [(Zak ps n,false)]:=by
    unfold Wn
    dsimp only
    rw [kg nb,kI,gd,kg c,kh ee]
   rw [this]
   exact .cons ⟨t1,_,rfl,s3 _ _ e2,c1,rfl,s3 _ _ (s2 _ _ hc)⟩ .nil
  have ne:kd ≠ "end" := fun z=>he (by rw [z];exact kG rfl)
  have ec:kd = "cross" := hq.resolve_left ne
  have tb:ZbZ ps n a b:=⟨pt,hx,hy,fun z=>ne (c'.mp z)⟩
  obtain ⟨hh0,rfl⟩:∃i,h=some i:=by
   cases h with
   | none=>exact absurd rfl (hh ec)
   | some i=>exact ⟨i,rfl⟩
  have wy:Wn ps (kd,(n:Int)) (some hh0)=(Jy ps n,false)::(if hh0=0/\W8 n a b=false then [(ps,true)] else []):=by
   unfold Wn
   dsimp only
   rw [kg nb,kI,gd,gd1,kI,kI,kg c,kg ne]
   simp
  rw [wy] at k
  refine ⟨_,rfl,_,rfl,_,n,a,b,ps,rfl,wv,hlen,tb,fun v1 H1 s1 ⟨c1,ev1,hc⟩=>⟨(by show 2<=sizeLine;decide),fun t1 f1=>?_⟩⟩
  subst ev1
  obtain ⟨H2,z,s2,e2⟩:=lay (o:=.tup [.ref c1,.bl false]) f1
  rw [z];clear z
  refine ⟨(by show 1<=sizeLine;decide),fun p fp=>?_⟩
  obtain ⟨H3,z,s3,e3⟩:=lay (o:=.lst [.ref t1]) fp
  rw [z];clear z
  have s03:=(s1.trans s2).trans s3
  have fpH:H p=none:=(s1.trans s2).free fp
  have hc3:=s3 _ _ (s2 _ _ hc)
  have e23:=s3 _ _ e2
  have one:∀{G:Hp},Zi H3 G->(¬(hh0=0/\W8 n a b=false))->Q (.ref p) G:=fun sG no=>by
   refine k p _ _ (s03.trans sG) (sG _ _ e3) ?_
   rw [kg no]
   exact .cons ⟨t1,_,rfl,sG _ _ e23,c1,rfl,sG _ _ hc3⟩ .nil
  refine ⟨_,rfl,rfl,_,rfl,Z7 (fun h0=>?_) (fun h0=>?_)⟩
  ·have h0:hh0=0:=by
    have:=kE h0
    injection this
   refine ⟨_,rfl,_,rfl,_,n,a,b,ps,rfl,⟨pa,rfl,s03 _ _ hpa⟩,hlen,tb,fun H4 s4=>⟨_,rfl,Z7 (fun tt=>?_) (fun tt=>?_)⟩⟩
   ·have tf:W8 n a b=false:=by simpa using tt
    have e34:=s4 _ _ e3
    refine ⟨_,rfl,.inl ⟨rfl,_,Zr.of e34⟩,_,rfl,(by show 2<=sizeLine;decide),fun t2 f2=>?_⟩
    obtain ⟨H5,z,s5,e5⟩:=lay (o:=.tup [.ref pa,.bl true]) f2
    rw [z];clear z
    refine ⟨p,_,_,rfl,rfl,s5 _ _ e34,(by show 1<sizeLine;decide),?_⟩
    have sH5:Zi H H5:=(s03.trans s4).trans s5
    have put:Zi H (upd H5 p (.lst ([.ref t1] ++ [.ref t2]))):=fun c o e=>by rw [Zh (Zf e fpH)];exact sH5 c o e
    have n1:t1≠p:=fun z=>by rw [z] at e2;rw [e2] at fp;cases fp
    have n2:t2≠p:=fun z=>by rw [z,e34] at f2;cases f2
    have n3:c1≠p:=fun z=>by rw [z] at hc;rw [s2 _ _ hc] at fp;cases fp
    have n4:pa≠p:=fun z=>by rw [z,fpH] at hpa;cases hpa
    refine ⟨_,rfl,k p _ _ put Zc ?_⟩
    rw [kh ⟨h0,tf⟩]
    refine .cons ⟨t1,_,rfl,?_,c1,rfl,?_⟩ (.cons ⟨t2,_,rfl,?_,pa,rfl,?_⟩ .nil)
    ·rw [Zh n1];exact s5 _ _ (s4 _ _ e23)
    ·rw [Zh n3];exact s5 _ _ (s4 _ _ hc3)
    ·rw [Zh n2];exact e5
    ·rw [Zh n4];exact sH5 _ _ hpa
   ·exact ⟨_,rfl,one s4 fun z=>tt (by rw [z.2];rfl)⟩
  ·exact WN ⟨_,rfl,one (Zi.refl _) fun z=>h0 (by rw [z.1];rfl)⟩
def WH (ps:List Int) (q:Str×Int):Option (List Int):=
 if q.1 = "born" then some (JU ps q.2.toNat)
 else if decide (ps.getD q.2.toNat 0=q.2+1) != decide (q.1 = "end") then none
 else if q.1 = "end" then some (Zak ps q.2.toNat)
 else some (Jy ps q.2.toNat)
def Ze2:Sp:=fun vs H Q _=>∃(l:Addr) (k a b:Nat) (ps:List Int),vs = [.ref l,.int k]/\H l=some (.lst (ps.map V.int))/\ps.length<=200/\ZbZ ps k a b/\Q (.bl (!W8 k a b)) H
abbrev WJ:Stmt:=top 47
theorem J7:Zy ["_law_partners", "_law_k", "_law_low", "_law_high", "_law_there", "_law_far"] ["_law_partners", "_law_k"] (Zj WJ):={}
theorem ZkW {f:Addr}{fd:FuncData} (F:Yy K "_law_is_apart" "_law_is_apart" WJ f fd) (ZaL:mg "min" = none) (Gu:mg "max" = none):Yf P w K mg base Wy 1 f fd ["_law_partners", "_law_k"] Ze2:=by
 refine F.ok J7 (fun vs H Q E h=>?_) (fun cdv A outer s H vs Q E hr h=>?_)
 ·obtain ⟨l,k,a,b,ps,rfl,_⟩:=h
  rfl
 ·obtain ⟨l,k,a,b,ps,rfl,hl,hlen,tb,q⟩:=h
  refine ⟨_,(Zd (ZkO (i:=2) (j:=3) rfl J7.nd rfl rfl (by decide) (by rfl) (by rfl) (Za (Zx (Zaz rfl) (by rfl) ZaL boot_min (Za (pv 1) (Za (Zz (Zp (K:=K) rfl) (pv 0) (pv 1) (fun _ _=>rfl)) Zb))) (Za (Zx (W6 rfl) (by rfl) Gu Mj (Za (pv 1) (Za (Zz (Zp (K:=K) rfl) (pv 0) (pv 1) (fun _ _=>rfl)) Zb))) Zb)) (by rfl))
   (Zd (ZkO (i:=4) (j:=5) rfl J7.nd rfl rfl (by decide) (by rfl) (by rfl) (Za (Zx (Zaz rfl) (by rfl) ZaL boot_min (Za (Zl ZA (pv 1) Ze) (Za (Zz (Zp (K:=K) rfl) (pv 0) (Zl ZA (pv 1) Ze) (fun _ _=>rfl)) Zb))) (Za (Zx (W6 rfl) (by rfl) Gu Mj (Za (Zl ZA (pv 1) Ze) (Za (Zz (Zp (K:=K) rfl) (pv 0) (Zl ZA (pv 1) Ze) (fun _ _=>rfl)) Zb))) Zb)) (by rfl))
   (Zg (Zw (Zik (YQ Gm (pv 3) (pv 4) (Zs _)) (Zik (YQ Gm (pv 5) (pv 2) (Zs _)) (Zik (Zc9 (YQ Gm (pv 2) (pv 4) (Zs _)) (ZaU (YQ Gm (pv 5) (pv 3) (Zs _)))) (ZaU (Zc9 (YQ Gm (pv 4) (pv 2) (Zs _)) (ZaU (YQ Gm (pv 3) (pv 5) (Zs _)))))))))))),?_⟩
  obtain ⟨fa,fb,n1,n2,n3,n4,l1,l2,l3⟩:=tb.facts
  have nn:=tb.ne
  have g1:(ps.map V.int)[k+1]? = some (V.int b):=by rw [kz,tb.eb];rfl
  have g0:(ps.map V.int)[k]? = some (V.int a):=by rw [kz,tb.ea];rfl
  have kc:(k:Int)+1=((k+1:Nat):Int):=by push_cast;rfl
  refine ⟨_,rfl,_,rfl,_,rfl,l,_,_,_,rfl,rfl,Zr.of hl,Zo g0,_,_,rfl,_,rfl,_,rfl,_,rfl,l,_,_,_,rfl,rfl,Zr.of hl,Zo g0,_,_,rfl,_,_,rfl,?_⟩
  refine ⟨_,rfl,_,_,rfl,rfl,_,rfl,_,rfl,_,_,rfl,rfl,l,_,_,_,rfl,rfl,Zr.of hl,(by rw [kc];exact Zo g1),_,_,rfl,_,rfl,_,_,rfl,rfl,_,rfl,_,rfl,_,_,rfl,rfl,l,_,_,_,rfl,rfl,Zr.of hl,(by rw [kc];exact Zo g1),_,_,rfl,_,_,rfl,?_⟩
  obtain ⟨lo,elo⟩:∃lo:Int,(if (a:Int)<(k:Int) then (a:Int) else k)=lo:=⟨_,rfl⟩
  obtain ⟨hi,ehi⟩:∃hi:Int,(if (a:Int)>(k:Int) then (a:Int) else k)=hi:=⟨_,rfl⟩
  obtain ⟨th,eth⟩:∃th:Int,(if (b:Int)<(k:Int)+1 then (b:Int) else (k:Int)+1)=th:=⟨_,rfl⟩
  obtain ⟨fr,efr⟩:∃fr:Int,(if (b:Int)>(k:Int)+1 then (b:Int) else (k:Int)+1)=fr:=⟨_,rfl⟩
  rw [elo,ehi,eth,efr]
  have f1:lo=((min k a:Nat):Int):=by rw [<- elo];split<;>lia
  have f2:hi=((max k a:Nat):Int):=by rw [<- ehi];split<;>lia
  have f3:th=((min (k+1) b:Nat):Int):=by rw [<- eth];split<;>lia
  have f4:fr=((max (k+1) b:Nat):Int):=by rw [<- efr];split<;>lia
  have res:∀x:Bool,(x=true ↔ ¬W8 k a b=true)->Q (.bl x) H:=fun x hx=>by
   have:x = !W8 k a b:=by
    cases x<;>cases h:W8 k a b<;>simp [h] at hx ⊢
   rw [this];exact q
  have tg:W8 k a b=true ↔ (lo<th/\th<hi/\hi<fr)∨(th<lo/\lo<fr/\fr<hi):=by
   unfold W8
   simp only [Xr,Kw,Kk]
   lia
  refine ⟨_,rfl,_,rfl,_,_,rfl,rfl,_,rfl,Z7 (fun c1=>?_) (fun c1=>?_)⟩
  ·have c1:=kE c1
   exact res true (by rw [tg];simp;lia)
  have c1:¬hi<th:=fun z=>c1 (kG z)
  refine ⟨_,rfl,_,rfl,_,_,rfl,rfl,_,rfl,Z7 (fun c2=>?_) (fun c2=>?_)⟩
  ·have c2:=kE c2
   exact res true (by rw [tg];simp;lia)
  have c2:¬fr<lo:=fun z=>c2 (kG z)
  refine ⟨_,rfl,_,rfl,_,_,rfl,rfl,_,rfl,Z7 (fun c3=>?_) (fun c3=>?_)⟩
  ·have c3:=kE c3
   refine ⟨_,rfl,_,rfl,_,_,rfl,rfl,_,rfl,Z7 (fun c4=>?_) (fun c4=>?_)⟩
   ·have c4:=kE c4
    exact res true (by rw [tg];simp;lia)
   have c4:¬fr<hi:=fun z=>c4 (kG z)
   refine ⟨_,rfl,_,rfl,_,_,rfl,rfl,_,rfl,Z7 (fun c5=>?_) (fun c5=>?_)⟩
   ·have c5:=kE c5
    lia
   ·exact res false (by rw [tg];simp;lia)
  have c3:¬lo<th:=fun z=>c3 (kG z)
  refine ⟨_,rfl,WN ?_⟩
  refine ⟨_,rfl,_,rfl,_,_,rfl,rfl,_,rfl,Z7 (fun c5=>?_) (fun c5=>?_)⟩
  ·have c5:=kE c5
   refine ⟨_,rfl,_,rfl,_,_,rfl,rfl,?_⟩
   refine res _ (by rw [tg,Kk];lia)
  ·exact res false (by rw [tg];have c5:¬th<lo:=fun z=>c5 (kG z);simp;lia)
def Zfy:Sp:=fun vs H Q _=>∃(l t:Addr) (q:Str×Int) (ps:List Int),vs = [.ref l,.ref t]/\H l=some (.lst (ps.map V.int))/\H t=some (.tup [.str q.1,.int q.2])/\ps.length<=200/\PtL ps/\0<=q.2 /\
 (q.1 ≠ "born" -> q.2+1<ps.length)/\(q.1 = "born" ∨ q.1 = "end" ∨ q.1 = "cross")/\(WH ps q=none -> ∀H',Zi H H'->Q .non H') /\ ∀(r:List Int) (p:Addr) (H':Hp),WH ps q=some r->Zi H H'->H p=none->H' p=some (.lst (r.map V.int))->Q (.ref p) H'
abbrev YJ:Stmt:=top 48
theorem YC:Zy ["_law_partners", "_law_letter", "_law_word", "_law_k", "_law_found"] ["_law_partners", "_law_letter"] (Zj YJ):={}
theorem Zjs {f:Addr}{fd:FuncData} (F:Yy K "_law_moved_on" "_law_moved_on" YJ f fd) (Zbv:mg "int" = none):Yf P w K mg base Wy 1 f fd ["_law_partners", "_law_letter"] Zfy:=by
 refine F.ok YC (fun vs H Q E h=>?_) (fun cdv A outer s H vs Q E hr h=>?_)
 ·obtain ⟨l,t,q,ps,rfl,_⟩:=h
  rfl
 ·obtain ⟨l,t,q,ps,rfl,hl,ht,hlen,pt,k0,hk,hq,kN,k⟩:=h
  refine ⟨_,(Zd (Yj (pv 1) (ZY (K:=K) (n:=2) rfl rfl (Zm (Zk (i:=2) YC.nd rfl (Or.inl rfl)) (Zm (Zk (i:=3) YC.nd rfl (Or.inr rfl)) ZQ))))
   (Zd (ZW (Zt Yp (pv 2) ZG (Zs _)) (Zd (Zea (i:=4) YC.nd rfl (Or.inl rfl) (Ls:=["_law_one"]) (Fs:=["_law_k"]) (fi:=[3]) (Z6.of (show YE ["_law_partners", "_law_letter", "_law_word", "_law_k", "_law_found"] (Zj YJ) _ ["_law_k"] [3]=true by decide +kernel)) rfl (ZV (K:=K) rfl (pv 0)) (fun cl C s3 H3 ex=>⟨(Zk (i:=0) (show ((["_law_one"]:List Str)++(["_law_k"]:List Str)).Nodup by decide +kernel) rfl (Or.inl rfl)),YN,(Zl ZA (pv 0) (Zl WD Ze (Yr ZaA (by rfl) Zbv boot_int (Za (YQ Zk1 (pv 0) (pv 1) (Zs _)) Zb))))⟩))
   (Zg (Zw (Zl WK (Zl WK (Ym (YV (K:=K) rfl) (pv 4) Je (Yb (pv 3))) (ZD (Za (Zl ZA (pv 3) Ze) (Za (pv 3) Zb)))) (Ym (YV (K:=K) rfl) (pv 4) (Yb (pv 3)) Je))))) ZJ)
   (Zd (ZW (Zt Zeo (YQ Yp (Zz (Zp (K:=K) rfl) (pv 0) (pv 3) (fun _ _=>rfl)) (Zl ZA (pv 3) Ze) (Zs _)) (YQ Yp (pv 2) ZG (Zs _)) (Zs _)) (Zg (Zw Zam)) ZJ)
   (Zd (ZW (Zt Yp (pv 2) ZG (Zs _)) (Zd (Zea (i:=4) YC.nd rfl (Or.inl rfl) (Ls:=["_law_one"]) (Fs:=["_law_k"]) (fi:=[3]) (Z6.of (show YE ["_law_partners", "_law_letter", "_law_word", "_law_k", "_law_found"] (Zj YJ) _ ["_law_k"] [3]=true by decide +kernel)) rfl (ZV (K:=K) rfl (pv 0)) (fun cl C s3 H3 ex=>⟨(Zk (i:=0) (show ((["_law_one"]:List Str)++(["_law_k"]:List Str)).Nodup by decide +kernel) rfl (Or.inl rfl)),YN,(Zl YT (pv 0) (Zl WD Ze (Yr ZaA (by rfl) Zbv boot_int (Za (YQ Zbj (pv 0) (pv 1) (Zs _)) Zb))))⟩))
   (Zg (Zw (Zl WK (Ym (YV (K:=K) rfl) (pv 4) Je (Yb (pv 3))) (Ym (YV (K:=K) rfl) (pv 4) (Yb (Zl ZA (pv 3) Ze)) Je))))) ZJ)
   (Zd (Zea (i:=4) YC.nd rfl (Or.inl rfl) (Ls:=["_law_one"]) (Fs:=["_law_k"]) (fi:=[3]) (Z6.of (show YE ["_law_partners", "_law_letter", "_law_word", "_law_k", "_law_found"] (Zj YJ) _ ["_law_k"] [3]=true by decide +kernel)) rfl (ZV (K:=K) rfl (pv 0)) (fun cl C s3 H3 ex=>⟨(Zk (i:=0) (show ((["_law_one"]:List Str)++(["_law_k"]:List Str)).Nodup by decide +kernel) rfl (Or.inl rfl)),YN,(Zl YT (Zl ZA (pv 0) (Yr ZaA (by rfl) Zbv boot_int (Za (YQ Yp (pv 0) (pv 1) (Zs _)) Zb))) (Yr ZaA (by rfl) Zbv boot_int (Za (YQ Yp (pv 0) (Zl ZA (pv 1) Ze) (Zs _)) Zb)))⟩))
   (Zd (Yj (ZH (Za (Zz (Zp (K:=K) rfl) (pv 4) (Zl ZA (pv 3) Ze) (fun _ _=>rfl)) (Za (Zz (Zp (K:=K) rfl) (pv 4) (pv 3) (fun _ _=>rfl)) Zb))) (ZY (K:=K) (n:=2) rfl rfl (Zm (Yv (pv 4) (pv 3) set_list) (Zm (Yv (pv 4) (Zl ZA (pv 3) Ze) set_list) ZQ))))
   (Zg (Zw (pv 4))))))))),?_⟩
  obtain ⟨kd,kk⟩:=q
  dsimp only at ht k0 hk hq
  obtain ⟨n,rfl⟩:=kF k0
  refine ⟨_,rfl,t,_,rfl,YX.of ht,rfl,_,_,rfl,_,_,rfl,rfl,?_⟩
  refine ⟨_,rfl,rfl,_,rfl,Z7 (fun hb=>?_) (fun hb=>?_)⟩
  ·have eb:kd = "born" := by
    have:=kE hb
    injection this
   have mv:WH ps (kd,(n:Int))=some (JU ps n):=by unfold WH;rw [kh eb];rfl
   refine ⟨_,rfl,l,rfl,⟨_,Zr.of hl⟩,Jg (K:=K) (a:=l) (xs:=ps.map V.int) (by rw [ke,Kg];lia) (fun i zs G=>G=H/\zs=((ps.map (Uj n)).take i).map V.int) ⟨rfl,rfl⟩ (fun i zs G x=>by rw [x.2,ke,kM];lia) (fun i zs G x=>by rw [x.1];exact Zr.of hl) (fun i y zs G hy x=>?_) (fun zs G x p hp=>?_)⟩
   ·obtain ⟨rfl,rfl⟩:=x
    obtain ⟨m,hm,rfl⟩:∃m,ps[i]? = some m/\y=V.int m:=by
     rw [kz] at hy
     obtain ⟨m,h1,h2⟩:=Kf.mp hy
     exact ⟨m,h1,h2.symm⟩
    have st:((ps.map (Uj n)).take (i+1)).map V.int=((ps.map (Uj n)).take i).map V.int ++ [V.int (Uj n m)]:=by
     rw [Kh,kz,hm,kP]
     rfl
    refine ⟨_,rfl,_,rfl,_,rfl,_,_,rfl,rfl,.inr ⟨_,rfl,_,_,rfl,rfl,.inl ⟨by decide,by decide⟩,_,_,rfl,rfl,rfl,?_⟩⟩
    have val:m+2*(if decide ((n:Int)<=m)=true then 1 else 0)=Uj n m:=by
     unfold Uj
     by_cases c:(n:Int)<=m
     ·rw [kG c,kh rfl,kh c];rfl
     ·rw [Kn c,kg (by decide),kg (by lia)];lia
    rw [st,<- val]
   ·obtain ⟨rfl,rfl⟩:=x
    rw [ke,kJ (by rw [ke];exact ki _)]
    obtain ⟨G1,z,s1,e1⟩:=lay (o:=.lst ((ps.map (Uj n)).map V.int)) hp
    rw [z];clear z
    refine ⟨_,rfl,_,rfl,_,rfl,p,_,rfl,Zr.of e1,fun d1 h1=>?_⟩
    rw [ZcH]
    obtain ⟨G2,z,s2,e2⟩:=lay (o:=.lst (((ps.map (Uj n)).map V.int).take n)) h1
    rw [z];clear z
    refine ⟨_,rfl,_,_,rfl,rfl,_,rfl,(by show 2<=sizeLine;decide),fun d2 h2=>?_⟩
    obtain ⟨G3,z,s3,e3⟩:=lay (o:=.lst [.int ((n:Int)+1),.int n]) h2
    rw [z];clear z
    refine ⟨d1,d2,_,_,rfl,rfl,s3 _ _ e2,e3,(by rw [Kg];simp;lia),fun d3 h3=>?_⟩
    obtain ⟨G4,z,s4,e4⟩:=lay (o:=.lst (((ps.map (Uj n)).map V.int).take n ++ [.int ((n:Int)+1),.int n])) h3
    rw [z];clear z
    refine ⟨_,rfl,_,rfl,_,rfl,?_⟩
    dsimp only [Zao]
    refine ⟨p,_,rfl,Zr.of (s4 _ _ (s3 _ _ (s2 _ _ e1))),fun d4 h4=>?_⟩
    rw [ZcN]
    obtain ⟨G5,z,s5,e5⟩:=lay (o:=.lst (((ps.map (Uj n)).map V.int).drop n)) h4
    rw [z];clear z
    refine ⟨d3,d4,_,_,rfl,rfl,s5 _ _ e4,e5,(by rw [Kg];simp;lia),fun d5 h5=>?_⟩
    have sA:=(((s1.trans s2).trans s3).trans s4).trans s5
    refine k _ d5 _ mv (sA.trans (Zi.laid h5)) (sA.free h5) ?_
    rw [Zc]
    unfold JU
    simp
  have nb:kd ≠ "born" := fun z=>hb (by rw [z];exact kG rfl)
  have hk:=hk nb
  obtain ⟨x,hx⟩:∃x,ps[n]? = some x:=⟨_,kU (by lia)⟩
  obtain ⟨a,rfl,ea,na⟩:=pt n x hx
  have g0:(ps.map V.int)[n]? = some (V.int a):=by rw [kz,hx];rfl
  have gd:ps.getD n 0=(a:Int):=by rw [Ke,hx];rfl
  have hq:kd = "end" ∨ kd = "cross" := hq.resolve_left nb
  have key:((!decide (V.bl (decide (V.int a=V.int ((n:Int)+1)))=V.bl (decide (V.str kd=V.str "end"))))=true) ↔ ((decide ((a:Int)=(n:Int)+1) != decide (kd = "end"))=true):=by
   simp only [V.int.injEq,V.str.injEq,V.bl.injEq]
   by_cases A:(a:Int)=(n:Int)+1<;>by_cases B:kd = "end" <;> simp [A,B]
  refine ⟨_,rfl,_,rfl,l,_,_,_,rfl,rfl,Zr.of hl,Zo g0,_,rfl,_,_,rfl,rfl,rfl,_,rfl,rfl,rfl,_,rfl,Z7 (fun c=>?_) (fun c=>?_)⟩
  ·refine kN ?_ H (Zi.refl _)
   unfold WH
   dsimp only
   rw [kg nb,kI,gd,kh (key.mp c)]
  have c:¬((decide ((a:Int)=(n:Int)+1) != decide (kd = "end"))=true):=fun z=>c (key.mpr z)
  refine ⟨_,rfl,rfl,_,rfl,Z7 (fun he=>?_) (fun he=>?_)⟩
  ·have ee:kd = "end" := by
    have:=kE he
    injection this
   have mv:WH ps (kd,(n:Int))=some (Zak ps n):=by
    unfold WH
    dsimp only
    rw [kg nb,kI,gd,kg c,kh ee]
   refine ⟨_,rfl,l,rfl,⟨_,Zr.of hl⟩,Jg (K:=K) (a:=l) (xs:=ps.map V.int) (by rw [ke,Kg];lia) (fun i zs G=>G=H/\zs=((ps.map (dnE n)).take i).map V.int) ⟨rfl,rfl⟩ (fun i zs G x=>by rw [x.2,ke,kM];lia) (fun i zs G x=>by rw [x.1];exact Zr.of hl) (fun i y zs G hy x=>?_) (fun zs G x p hp=>?_)⟩
   ·obtain ⟨rfl,rfl⟩:=x
    obtain ⟨m,hm,rfl⟩:∃m,ps[i]? = some m/\y=V.int m:=by
     rw [kz] at hy
     obtain ⟨m,h1,h2⟩:=Kf.mp hy
     exact ⟨m,h1,h2.symm⟩
    have st:((ps.map (dnE n)).take (i+1)).map V.int=((ps.map (dnE n)).take i).map V.int ++ [V.int (dnE n m)]:=by
     rw [Kh,kz,hm,kP]
     rfl
    refine ⟨_,rfl,_,rfl,_,rfl,_,_,rfl,rfl,.inr ⟨_,rfl,_,_,rfl,rfl,.inl ⟨by decide,by decide⟩,_,_,rfl,rfl,rfl,?_⟩⟩
    have val:m-2*(if decide ((n:Int)<m)=true then 1 else 0)=dnE n m:=by
     unfold dnE
     by_cases c:(n:Int)<m
     ·rw [kG c,kh rfl,kh c];rfl
     ·rw [Kn c,kg (by decide),kg (by lia)];lia
    rw [st,<- val]
   ·obtain ⟨rfl,rfl⟩:=x
    rw [ke,kJ (by rw [ke];exact ki _)]
    obtain ⟨G1,z,s1,e1⟩:=lay (o:=.lst ((ps.map (dnE n)).map V.int)) hp
    rw [z];clear z
    refine ⟨_,rfl,_,rfl,_,rfl,p,_,rfl,Zr.of e1,fun d1 h1=>?_⟩
    rw [ZcH]
    obtain ⟨G2,z,s2,e2⟩:=lay (o:=.lst (((ps.map (dnE n)).map V.int).take n)) h1
    rw [z];clear z
    refine ⟨_,rfl,_,rfl,_,_,rfl,rfl,_,rfl,?_⟩
    dsimp only [Zao]
    refine ⟨p,_,rfl,Zr.of (s2 _ _ e1),fun d4 h4=>?_⟩
    rw [show (n:Int)+2=((n+2:Nat):Int) by push_cast;rfl,ZcN]
    obtain ⟨G5,z,s5,e5⟩:=lay (o:=.lst (((ps.map (dnE n)).map V.int).drop (n+2))) h4
    rw [z];clear z
    refine ⟨d1,d4,_,_,rfl,rfl,s5 _ _ e2,e5,(by rw [Kg];simp;lia),fun d5 h5=>?_⟩
    have sA:=(s1.trans s2).trans s5
    refine k _ d5 _ mv (sA.trans (Zi.laid h5)) (sA.free h5) ?_
    rw [Zc]
    unfold Zak
    simp
  have ne:kd ≠ "end" := fun z=>he (by rw [z];exact kG rfl)
  have mv:WH ps (kd,(n:Int))=some (Jy ps n):=by
   unfold WH
   dsimp only
   rw [kg nb,kI,gd,kg c,kg ne]
  refine ⟨_,rfl,l,rfl,⟨_,Zr.of hl⟩,Jg (K:=K) (a:=l) (xs:=ps.map V.int) (by rw [ke,Kg];lia) (fun i zs G=>G=H/\zs=((ps.map (Gr n)).take i).map V.int) ⟨rfl,rfl⟩ (fun i zs G x=>by rw [x.2,ke,kM];lia) (fun i zs G x=>by rw [x.1];exact Zr.of hl) (fun i y zs G hy x=>?_) (fun zs G x p hp=>?_)⟩
  ·obtain ⟨rfl,rfl⟩:=x
   obtain ⟨m,hm,rfl⟩:∃m,ps[i]? = some m/\y=V.int m:=by
    rw [kz] at hy
    obtain ⟨m,h1,h2⟩:=Kf.mp hy
    exact ⟨m,h1,h2.symm⟩
   have st:((ps.map (Gr n)).take (i+1)).map V.int=((ps.map (Gr n)).take i).map V.int ++ [V.int (Gr n m)]:=by
    rw [Kh,kz,hm,kP]
    rfl
   refine ⟨_,rfl,_,rfl,_,rfl,rfl,.inr ⟨_,rfl,_,_,rfl,rfl,_,rfl,_,rfl,_,_,rfl,rfl,rfl,.inr ⟨_,rfl,_,_,rfl,rfl,rfl,?_⟩⟩⟩
   have val:m+(if decide (V.int m=V.int n)=true then 1 else 0)-(if decide (V.int m=V.int ((n:Int)+1))=true then 1 else 0)=Gr n m:=by
    unfold Gr
    simp only [V.int.injEq,Kk]
    by_cases c1:m=(n:Int)
    ·rw [kh c1,kh c1,kg (by lia)];lia
    ·rw [kg c1,kg c1]
     by_cases c2:m=(n:Int)+1
     ·rw [kh c2,kh c2];lia
     ·rw [kg c2,kg c2];lia
   rw [st,<- val]
  ·obtain ⟨rfl,rfl⟩:=x
   rw [ke,kJ (by rw [ke];exact ki _)]
   obtain ⟨G1,z,s1,e1⟩:=lay (o:=.lst ((ps.map (Gr n)).map V.int)) hp
   rw [z];clear z
   generalize eM:ps.map (Gr n)=M at *
   have lM:M.length=ps.length:=by rw [<- eM,ke]
   have kc:(n:Int)+1=((n+1:Nat):Int):=by push_cast;rfl
   have g1:(M.map V.int)[n+1]? = some (V.int (M.getD (n+1) 0)):=by
    rw [kz,Ke,kU (by lia)];rfl
   have g0:(M.map V.int)[n]? = some (V.int (M.getD n 0)):=by
    rw [kz,Ke,kU (by lia)];rfl
   refine ⟨_,rfl,_,rfl,_,_,rfl,rfl,p,_,_,_,rfl,rfl,Zr.of e1,(by rw [kc];exact Zo g1),_,rfl,_,rfl,p,_,_,_,rfl,rfl,Zr.of e1,Zo g0,(by show 2<=sizeLine;decide),fun t2 h2=>?_⟩
   obtain ⟨G2,z,s2,e2⟩:=lay (o:=.tup [.int (M.getD (n+1) 0),.int (M.getD n 0)]) h2
   rw [z];clear z
   have put:∀{G':Hp}{o:HO},Zi G G'->Zi G (upd G' p o):=fun s c o e=>by rw [Zh (Zf e hp)];exact s c o e
   refine ⟨t2,_,rfl,YX.of e2,rfl,_,_,rfl,_,rfl,_,rfl,p,_,_,n,rfl,rfl,s2 _ _ e1,Y5 (by rw [ke];lia),?_⟩
   refine ⟨_,_,rfl,_,rfl,_,rfl,_,_,rfl,rfl,p,_,_,n+1,rfl,rfl,Zc,(by rw [kc];exact Y5 (by rw [KG,ke];lia)),?_⟩
   rw [Jv]
   refine ⟨rfl,_,rfl,k _ p _ mv (put (s1.trans s2)) hp ?_⟩
   rw [Zc]
   unfold Jy
   rw [eM,qL,qL]
def ZbK (ps:List Int) (k:Nat):Bool:=W8 k (ps.getD k 0).toNat (ps.getD (k+1) 0).toNat
def YD (q:Str×Int) (z:Bool) (t:Nat) (r:List Int×List Int):List (List Int×List Int):=
 match WH r.2 q with
 | none=>[]
 | some ps=>(r.1,ps)::(if q.1 = "cross" /\ z=true/\ZbK r.2 q.2.toNat=false then [(r.1 ++ [(t:Int)],r.2)] else [])
def ZO (ls:List (Str×Int)) (z:Nat->Bool):Nat->List (List Int×List Int)
 | 0=>[([],[])]
 | i+1=>match ls[i]? with
  | none=>ZO ls z i
  | some q=>(ZO ls z i).flatMap (YD q (z i) i)
def Zke (q:Str×Int) (n m:Int):Prop:=0<=q.2/\((q.1 = "born" /\ q.2<=n/\m=n+2)∨(q.1 = "cross" /\ q.2+1<n/\m=n)∨(q.1 = "end" /\ q.2+1<n/\m=n-2))
theorem ZcE {l:List (Str×Int)}{p:Str×Int}{m:Int} (h:Wk (l ++ [p]) m):∃n,Wk l n/\Zke p n m:=by
 generalize hq:l ++ [p]=q at h
 cases h with
 | nil=>exact absurd hq (by simp)
 | born h h0 h1=>obtain ⟨rfl,rfl⟩:=GO hq;exact ⟨_,h,h0,.inl ⟨rfl,h1,rfl⟩⟩
 | cross h h0 h1=>obtain ⟨rfl,rfl⟩:=GO hq;exact ⟨_,h,h0,.inr (.inl ⟨rfl,h1,rfl⟩)⟩
 | fin h h0 h1=>obtain ⟨rfl,rfl⟩:=GO hq;exact ⟨_,h,h0,.inr (.inr ⟨rfl,h1,rfl⟩)⟩
theorem ZbO {l:List (Str×Int)}{n m:Int} (a:Wk l n) (b:Wk l m):n=m:=(U5 a).symm.trans (U5 b)
theorem ZfD {ps:List Int}{n:Nat} (pt:PtL ps) (hn:n+1<ps.length) (ne:ps.getD n 0≠(n:Int)+1):ZbZ ps n (ps.getD n 0).toNat (ps.getD (n+1) 0).toNat:=by
 obtain ⟨x,hx⟩:∃x,ps[n]? = some x:=⟨_,kU (by lia)⟩
 obtain ⟨a,rfl,ea,na⟩:=pt n x hx
 obtain ⟨y,hy⟩:∃y,ps[n+1]? = some y:=⟨_,kU (by lia)⟩
 obtain ⟨b,rfl,eb,nb⟩:=pt (n+1) y hy
 have gd:ps.getD n 0=(a:Int):=by rw [Ke,hx];rfl
 have gd1:ps.getD (n+1) 0=(b:Int):=by rw [Ke,hy];rfl
 rw [gd] at ne
 rw [gd,gd1,kI,kI]
 exact ⟨pt,hx,hy,fun z=>ne (by lia)⟩
theorem Zk0 {ps r:List Int}{q:Str×Int}{n m:Int} (pt:PtL ps) (hl:(ps.length:Int)=n) (ft:Zke q n m) (h:WH ps q=some r):PtL r/\(r.length:Int)=m:=by
 obtain ⟨kd,k⟩:=q
 obtain ⟨k0,ft⟩:=ft
 dsimp only at k0 ft
 obtain ⟨k,rfl⟩:=kF k0
 unfold WH at h
 dsimp only at h
 rw [kI] at h
 rcases ft with ⟨rfl,f1,rfl⟩ | ⟨rfl,f1,rfl⟩ | ⟨rfl,f1,rfl⟩
 ·rw [kh rfl] at h
  injection h with h
  subst h
  exact ⟨pt.born (by lia),by rw [Zaj];lia⟩
 ·rw [kg (by decide)] at h
  split at h
  ·cases h
  ·rename_i c
   rw [kg (by decide)] at h
   injection h with h
   subst h
   have ne:ps.getD k 0≠(k:Int)+1:=fun z=>c (by rw [kG z];rfl)
   exact ⟨(ZfD pt (by lia) ne).kept,by rw [Zdf];lia⟩
 ·rw [kg (by decide)] at h
  split at h
  ·cases h
  ·rename_i c
   rw [kh rfl] at h
   injection h with h
   subst h
   have e:ps.getD k 0=(k:Int)+1:=by
    by_cases z:ps.getD k 0=(k:Int)+1
    ·exact z
    ·exact absurd (by rw [Kn z];rfl) c
   have hx:ps[k]? = some ((k:Int)+1):=by
    rw [<- e,Ke,kU (by lia)];rfl
   have:=Zfn (ps:=ps) (k:=k) (by lia)
   exact ⟨pt.ended hx,by lia⟩
theorem Zbf {ls:List (Str×Int)}{z:Nat->Bool}{n0:Int} (hW:Wk ls n0):∀i,i<=ls.length -> ∃n,Wk (ls.take i) n /\ ∀r∈ZO ls z i,PtL r.2/\(r.2.length:Int)=n
 | 0,_=>⟨0,by simpa using Wk.nil,fun r hr=>by
   rw [kZ.mp hr]
   exact ⟨fun i x e=>by simp at e,rfl⟩⟩
 | i+1,h=>by
  obtain ⟨n,wn,al⟩:=Zbf hW i (by lia)
  obtain ⟨q,hq⟩:∃q,ls[i]? = some q:=⟨_,kU (by lia)⟩
  obtain ⟨m,wm⟩:=W0 hW (i+1)
  refine ⟨m,wm,fun r hr=>?_⟩
  rw [Kh,hq] at wm
  obtain ⟨n',wn',ft⟩:=ZcE (show Wk (ls.take i ++ [q]) m from wm)
  have:=ZbO wn wn'
  subst this
  rw [ZO,hq] at hr
  obtain ⟨r0,h0,hr⟩:=Kz.mp hr
  obtain ⟨p0,l0⟩:=al r0 h0
  unfold YD at hr
  cases hm:WH r0.2 q with
  | none=>rw [hm] at hr;cases hr
  | some ps=>
   rw [hm] at hr
   rcases kL.mp hr with rfl | hr
   ·exact Zk0 p0 l0 ft hm
   ·split at hr
    ·rename_i c
     rw [kZ.mp hr]
     refine ⟨p0,?_⟩
     rcases ft.2 with ⟨e,_⟩ | ⟨_,_,e⟩ | ⟨e,_⟩
     ·exact absurd (e.symm.trans c.1) (by decide)
     ·rw [e];exact l0
     ·exact absurd (e.symm.trans c.1) (by decide)
    ·cases hr
theorem Zau {α β:Type} (f:α -> List β) (c:Nat):∀l:List α,(∀x∈l,(f x).length<=c)->(l.flatMap f).length<=l.length*c
 | [],_=>by simp
 | x::l,h=>by
  rw [K0,kj,KJ,Nat.succ_mul]
  have h1:=h x kK
  have h2:=Zau f c l fun y hy=>h y (kQ _ hy)
  lia
theorem ZaC {ls:List (Str×Int)}{z:Nat->Bool}:∀i,i<=ls.length->(ZO ls z i).length<=2 ^ nX (ls.take i)
 | 0,_=>by simp [ZO,nX]
 | i+1,h=>by
  have ih:=ZaC (ls:=ls) (z:=z) i (by lia)
  obtain ⟨q,hq⟩:∃q,ls[i]? = some q:=⟨_,kU (by lia)⟩
  rw [ZO,hq,Kh,hq]
  have e:nX (ls.take i ++ [q])=nX (ls.take i)+(if q.1=("cross" : Str) then 1 else 0):=by
   unfold nX
   rw [MI,List.countP_singleton]
   by_cases c:q.1=("cross" : Str)<;>simp [c]
  show _<=2 ^ nX (ls.take i ++ [q])
  rw [e]
  by_cases c:q.1=("cross" : Str)
  ·rw [kh c,Nat.pow_succ]
   refine k9 (Zau _ 2 _ fun r _=>?_) (Mk 2 ih)
   unfold YD
   split
   ·simp
   ·split<;>simp
  ·rw [kg c,XD]
   refine k9 (Zau _ 1 _ fun r _=>?_) (by lia)
   unfold YD
   split
   ·simp
   ·rw [kg (fun z=>c z.1)];simp
theorem Zfk (ls:List (Str×Int)) (i:Nat):nX (ls.take i)<=nX ls:=by
 unfold nX
 exact List.Sublist.countP_le (List.take_sublist i ls)
theorem U4 {ls:List (Str×Int)}{z:Nat->Bool}:∀i,∀r∈ZO ls z i,r.1.length<=i
 | 0,r,hr=>by rw [kZ.mp hr];exact ki _
 | i+1,r,hr=>by
  rw [ZO] at hr
  split at hr
  ·have:=U4 i r hr;lia
  ·obtain ⟨r0,h0,hr⟩:=Kz.mp hr
   have ih:=U4 i r0 h0
   unfold YD at hr
   split at hr
   ·cases hr
   ·rcases kL.mp hr with rfl | hr
    ·exact k9 ih (qz _)
    ·split at hr
     ·rw [kZ.mp hr]
      rw [kj,Kj];lia
     ·cases hr
theorem Zgz (q:Str×Int) (z:Bool) (t:Nat) (r:List Int×List Int):(YD q z t r).length<=2:=by
 unfold YD
 split
 ·simp
 ·split<;>simp
def sm:Nat->(Nat->Nat)->Nat
 | 0,_=>0
 | n+1,f=>sm n f+f n
theorem Jj:∀(n:Nat) {f g:Nat->Nat},(∀i,i<n->f i=g i)->sm n f=sm n g
 | 0,_,_,_=>rfl
 | n+1,f,g,h=>by rw [sm,sm,Jj n fun i hi=>h i (by lia),h n (by lia)]
theorem Zbb:∀(n:Nat) {f g:Nat->Nat},(∀i,i<n->f i<=g i)->sm n f<=sm n g
 | 0,_,_,_=>ki _
 | n+1,f,g,h=>Nat.add_le_add (Zbb n fun i hi=>h i (by lia)) (h n (by lia))
theorem ZcV:∀(n:Nat) (f g:Nat->Nat),sm n (fun i=>f i+g i)=sm n f+sm n g
 | 0,_,_=>rfl
 | n+1,f,g=>by rw [sm,sm,sm,ZcV n f g];lia
theorem ZcM:∀(n:Nat),sm n (fun _=>0)=0
 | 0=>rfl
 | n+1=>by rw [sm,ZcM n]
def uq (k i:Nat):Nat:=if i<k then i else i+2
theorem ZhV {k i:Nat} (h:i<k):uq k i=i:=kh h
theorem ZhF {k i:Nat} (h:k<=i):uq k i=i+2:=kg (by lia)
theorem Zll {k i j:Nat}:uq k i<uq k j ↔ i<j:=by unfold uq;split<;>split<;>lia
theorem ZdB (k:Nat) (g:Nat->Nat):∀m,sm (k+m+2) g=sm (k+m) (fun i=>g (uq k i))+(g k+g (k+1))
 | 0=>by
  show sm k g+g k+g (k+1)=sm k (fun i=>g (uq k i))+(g k+g (k+1))
  rw [Jj k (f:=fun i=>g (uq k i)) (g:=g) fun i hi=>by rw [ZhV hi]]
  lia
 | m+1=>by
  have e:=ZdB k g m
  show sm (k+m+2) g+g (k+m+2)=sm (k+m) _+g (uq k (k+m))+_
  rw [e,ZhF (by lia)]
  lia
def sg (k i:Nat):Nat:=if i=k then k+1 else if i=k+1 then k else i
theorem ZfA (k:Nat) (g:Nat->Nat):∀m,sm (k+2+m) (fun i=>g (sg k i))=sm (k+2+m) g
 | 0=>by
  show sm k _+g (sg k k)+g (sg k (k+1))=sm k g+g k+g (k+1)
  rw [Jj k (f:=fun i=>g (sg k i)) (g:=g) fun i hi=>by rw [sg,kg (by lia),kg (by lia)],sg,kh rfl,sg,kg (by lia),kh rfl]
  lia
 | m+1=>by
  have e:=ZfA k g m
  show sm (k+2+m) (fun i=>g (sg k i))+g (sg k (k+2+m))=sm (k+2+m) g+g (k+2+m)
  rw [e,sg,kg (by lia),kg (by lia)]
theorem Zhp {x:Nat} (c:Nat):∀n,x<n->sm n (fun i=>if i=x then c else 0)=c
 | 0,h=>by lia
 | n+1,h=>by
  rw [sm]
  by_cases e:n=x
  ·rw [kh e,Jj n (g:=fun _=>0) fun i hi=>kg (by lia),ZcM];lia
  ·rw [kg e,Zhp c n (by lia),XD]
def Tg (x y px py:Nat):Prop:=x<y/\y<px/\px<py
instance (x y px py:Nat):Decidable (Tg x y px py):=inferInstanceAs (Decidable (_/\_))
def tg (x y px py:Nat):Nat:=if Tg x y px py then 1 else 0
def iX (n:Nat) (p:Nat->Nat):Nat:=sm n fun x=>sm n fun y=>tg x y (p x) (p y)
def dl (x0 y0 x y:Nat):Nat:=if x=x0 then (if y=y0 then 1 else 0) else 0
theorem Zku {x0 y0 n:Nat} (hx:x0<n) (hy:y0<n):sm n (fun x=>sm n fun y=>dl x0 y0 x y)=1:=by
 rw [Jj n (g:=fun x=>if x=x0 then 1 else 0) fun x _=>?_,Zhp 1 n hx]
 by_cases e:x=x0
 ·rw [kh e,Jj n (g:=fun y=>if y=y0 then 1 else 0) fun y _=>by rw [dl,kh e],Zhp 1 n hy]
 ·rw [kg e,Jj n (g:=fun _=>0) fun y _=>by rw [dl,kg e],ZcM]
theorem Zmz {k a b x y:Nat}:tg (uq k x) (uq k y) (uq k a) (uq k b)=tg x y a b:=by
 unfold tg
 have e:Tg (uq k x) (uq k y) (uq k a) (uq k b) ↔ Tg x y a b:=by unfold Tg;simp only [Zll]
 by_cases h:Tg x y a b
 ·rw [kh h,kh (e.mpr h)]
 ·rw [kg h,kg fun z=>h (e.mp z)]
theorem ZoE {k n:Nat}{p q:Nat->Nat} (hk:k<=n) (h:∀i,i<n->q (uq k i)=uq k (p i)):iX n p<=iX (n+2) q:=by
 obtain ⟨m,rfl⟩:=Xk hk
 unfold iX
 rw [ZdB]
 refine k9 (Zbb _ fun x hx=>?_) (Xb _ _)
 rw [ZdB]
 refine k9 (Zbb _ fun y hy=>?_) (Xb _ _)
 rw [h x hx,h y hy,Zmz]
 exact ki _
theorem Zog {k n:Nat}{p q:Nat->Nat} (hk:k<=n) (h:∀i,i<n->q (uq k i)=uq k (p i)) (h0:q k=k+1) (h1:q (k+1)=k):iX (n+2) q<=iX n p:=by
 have z1:∀y,tg k y (q k) (q y)=0:=fun y=>kg (by unfold Tg;lia)
 have z2:∀y,tg (k+1) y (q (k+1)) (q y)=0:=fun y=>kg (by unfold Tg;lia)
 have z3:∀x,tg x k (q x) (q k)=0:=fun x=>kg (by unfold Tg;lia)
 have z4:∀x,tg x (k+1) (q x) (q (k+1))=0:=fun x=>kg (by unfold Tg;lia)
 obtain ⟨m,rfl⟩:=Xk hk
 unfold iX
 rw [ZdB,Jj _ (g:=fun _=>0) fun y _=>z1 y,Jj _ (g:=fun _=>0) fun y _=>z2 y,ZcM]
 refine Zbb _ fun x hx=>?_
 rw [ZdB,z3,z4]
 refine Zbb _ fun y hy=>?_
 rw [h x hx,h y hy,Zmz]
 exact ki _
theorem ZlM (k:Nat):sg k k=k+1:=kh rfl
theorem Zia (k:Nat):sg k (k+1)=k:=by rw [sg,kg (Nat.succ_ne_self k),kh rfl]
theorem Zca {k x:Nat} (h1:x≠k) (h2:x≠k+1):sg k x=x:=by rw [sg,kg h1,kg h2]
theorem Zjv {k u v:Nat} (h:u<v) (n:¬(u=k/\v=k+1)):sg k u<sg k v:=by
 by_cases c1:u=k
 ·subst c1
  rw [ZlM,Zca (by lia) (by lia)];lia
 ·by_cases c2:u=k+1
  ·subst c2
   rw [Zia,Zca (by lia) (by lia)];lia
  ·rw [Zca c1 c2]
   by_cases c3:v=k
   ·subst c3;rw [ZlM];lia
   ·by_cases c4:v=k+1
    ·subst c4;rw [Zia];lia
    ·rw [Zca c3 c4];exact h
theorem Zh0 {k n:Nat}{p q:Nat->Nat} (hk:k+1<n) (h:∀i,i<n->q (sg k i)=sg k (p i)):iX n q=sm n fun x=>sm n fun y=>tg (sg k x) (sg k y) (sg k (p x)) (sg k (p y)):=by
 obtain ⟨m,rfl⟩:∃m,n=k+2+m:=⟨n-(k+2),by lia⟩
 unfold iX
 rw [<- ZfA k]
 refine Jj _ fun x hx=>?_
 rw [<- ZfA k]
 refine Jj _ fun y hy=>?_
 rw [h x hx,h y hy]
structure Two (n k a b:Nat) (p:Nat->Nat):Prop where
 hk:k+1<n
 ha:a<n
 hb:b<n
 a1:a≠k
 a2:a≠k+1
 b1:b≠k
 b2:b≠k+1
 ab:a≠b
 inv:∀i,i<n->p (p i)=i
 pk:p k=a
 pk1:p (k+1)=b
theorem Two.pa {n k a b:Nat}{p:Nat->Nat} (T:Two n k a b p):p a=k:=by rw [<- T.pk];exact T.inv k (Nat.lt_of_succ_lt T.hk)
theorem Two.pb {n k a b:Nat}{p:Nat->Nat} (T:Two n k a b p):p b=k+1:=by rw [<- T.pk1];exact T.inv (k+1) T.hk
theorem Two.near {n k a b:Nat}{p:Nat->Nat} (T:Two n k a b p) {x y:Nat} (hx:x<n) (hy:y<n) (h:Tg x y (p x) (p y)) (h':¬Tg (sg k x) (sg k y) (sg k (p x)) (sg k (p y))):
  (x=k/\y=k+1/\k+1<a/\a<b)∨(x=b/\y=k/\b<k/\k+1<a)∨(x=a/\y=b/\a<b/\b<k):=by
 obtain ⟨h1,h2,h3⟩:=h
 by_cases c1:x=k/\y=k+1
 ·obtain ⟨rfl,rfl⟩:=c1
  rw [T.pk] at h2 h3
  rw [T.pk1] at h3
  exact .inl ⟨rfl,rfl,h2,h3⟩
 by_cases c2:y=k/\p x=k+1
 ·obtain ⟨rfl,e⟩:=c2
  have ex:x=b:=by rw [<- T.inv x hx,e,T.pk1]
  subst ex
  rw [e,T.pk] at h3
  exact .inr (.inl ⟨rfl,rfl,h1,h3⟩)
 by_cases c3:p x=k/\p y=k+1
 ·obtain ⟨e,e'⟩:=c3
  have ex:x=a:=by rw [<- T.inv x hx,e,T.pk]
  have ey:y=b:=by rw [<- T.inv y hy,e',T.pk1]
  subst ex ey
  rw [e] at h2
  exact .inr (.inr ⟨rfl,rfl,h1,h2⟩)
 exact absurd ⟨Zjv h1 c1,Zjv h2 c2,Zjv h3 c3⟩ h'
theorem Two.lowA {n k a b:Nat}{p:Nat->Nat} (T:Two n k a b p):p (min k a)=max k a/\sg k (min k a)=min (k+1) a/\sg k (max k a)=max (k+1) a:=by
 have h1:=T.a1
 have h2:=T.a2
 by_cases c:a<k
 ·rw [KL (by lia),qi (by lia),KL (by lia),qi (by lia),ZlM,Zca h1 h2]
  exact ⟨T.pa,rfl,rfl⟩
 ·rw [KR (by lia),qc (by lia),KR (by lia),qc (by lia),ZlM,Zca h1 h2]
  exact ⟨T.pk,rfl,rfl⟩
theorem Two.lowB {n k a b:Nat}{p:Nat->Nat} (T:Two n k a b p):p (min (k+1) b)=max (k+1) b/\sg k (min (k+1) b)=min k b/\sg k (max (k+1) b)=max k b:=by
 have h1:=T.b1
 have h2:=T.b2
 by_cases c:b<k
 ·rw [KL (by lia),qi (by lia),KL (by lia),qi (by lia),Zia,Zca h1 h2]
  exact ⟨T.pb,rfl,rfl⟩
 ·rw [KR (by lia),qc (by lia),KR (by lia),qc (by lia),Zia,Zca h1 h2]
  exact ⟨T.pk1,rfl,rfl⟩
theorem Zjk {k a b:Nat} (a1:a≠k) (a2:a≠k+1) (b1:b≠k) (b2:b≠k+1) (ab:a≠b)
  (t1:¬(min k a<min (k+1) b/\min (k+1) b<max k a/\max k a<max (k+1) b)) (t2:¬(min (k+1) b<min k a/\min k a<max (k+1) b/\max (k+1) b<max k a)):
  (min (k+1) a<min k b->Tg (min (k+1) a) (min k b) (max (k+1) a) (max k b))/\(min k b<min (k+1) a->Tg (min k b) (min (k+1) a) (max k b) (max (k+1) a)):=by
 unfold Tg
 have ha:a<k∨k+1<a:=by lia
 have hb:b<k∨k+1<b:=by lia
 rcases ha with ha | ha<;>rcases hb with hb | hb
 ·rw [KL (by lia),KL (by lia),qi (by lia),qi (by lia)] at t1 t2
  rw [KL (by lia),KL (by lia),qi (by lia),qi (by lia)]
  lia
 ·rw [KL (by lia),KR (by lia),qi (by lia),qc (by lia)]
  lia
 ·rw [KR (by lia),KL (by lia),qc (by lia),qi (by lia)]
  lia
 ·rw [KR (by lia),KR (by lia),qc (by lia),qc (by lia)] at t1 t2
  rw [KR (by lia),KR (by lia),qc (by lia),qc (by lia)]
  lia
theorem Two.tng {n k a b:Nat}{p q:Nat->Nat} (T:Two n k a b p) (h:∀i,i<n->q (sg k i)=sg k (p i)):iX n p<=iX n q+1:=by
 obtain ⟨x0,y0,hx0,hy0,h0⟩:∃x0 y0,x0<n/\y0<n/\((min k a<min (k+1) b/\x0=min k a/\y0=min (k+1) b)∨(min (k+1) b<min k a/\x0=min (k+1) b/\y0=min k a)):=by
  have:=T.hk;have:=T.ha;have:=T.hb;have:=T.a1;have:=T.a2;have:=T.b1;have:=T.b2;have:=T.ab
  by_cases c:min k a<min (k+1) b
  ·exact ⟨_,_,by lia,by lia,.inl ⟨c,rfl,rfl⟩⟩
  ·exact ⟨_,_,by lia,by lia,.inr ⟨by lia,rfl,rfl⟩⟩
 rw [Zh0 T.hk h,<- Zku hx0 hy0,<- ZcV]
 refine Zbb _ fun x hx=>?_
 rw [<- ZcV]
 refine Zbb _ fun y hy=>?_
 have key:Tg x y (p x) (p y)->Tg (sg k x) (sg k y) (sg k (p x)) (sg k (p y))∨(x=x0/\y=y0):=fun h=>by
  by_cases h':Tg (sg k x) (sg k y) (sg k (p x)) (sg k (p y))
  ·exact .inl h'
  ·refine .inr ?_
   rcases T.near hx hy h h' with z | z | z<;>clear h h'<;>lia
 unfold tg dl
 by_cases c:Tg x y (p x) (p y)
 ·rw [kh c]
  rcases key c with z | ⟨z1,z2⟩
  ·rw [kh z];exact Xb _ _
  ·rw [kh z1,kh z2];exact Nat.le_add_left _ _
 ·rw [kg c];exact Km _
theorem Two.apart {n k a b:Nat}{p q:Nat->Nat} (T:Two n k a b p) (h:∀i,i<n->q (sg k i)=sg k (p i)) (t:W8 k a b=false):iX n p+1<=iX n q:=by
 have t':¬(min k a<min (k+1) b/\min (k+1) b<max k a/\max k a<max (k+1) b) /\ ¬(min (k+1) b<min k a/\min k a<max (k+1) b/\max (k+1) b<max k a):=by
  unfold W8 at t
  rw [Bool.or_eq_false_iff] at t
  refine ⟨fun z=>?_,fun z=>?_⟩
  ·rw [kG z.1,kG z.2.1,kG z.2.2] at t;exact absurd t.1 (by decide)
  ·rw [kG z.1,kG z.2.1,kG z.2.2] at t;exact absurd t.2 (by decide)
 obtain ⟨x0,y0,hx0,hy0,h0⟩:∃x0 y0,x0<n/\y0<n/\((min (k+1) a<min k b/\x0=min k a/\y0=min (k+1) b)∨(min k b<min (k+1) a/\x0=min (k+1) b/\y0=min k a)):=by
  have:=T.hk;have:=T.ha;have:=T.hb;have:=T.a1;have:=T.a2;have:=T.b1;have:=T.b2;have:=T.ab
  by_cases c:min (k+1) a<min k b
  ·exact ⟨_,_,by lia,by lia,.inl ⟨c,rfl,rfl⟩⟩
  ·exact ⟨_,_,by lia,by lia,.inr ⟨by lia,rfl,rfl⟩⟩
 rw [Zh0 T.hk h,<- Zku hx0 hy0]
 unfold iX
 rw [<- ZcV]
 refine Zbb _ fun x hx=>?_
 rw [<- ZcV]
 refine Zbb _ fun y hy=>?_
 have key1:Tg x y (p x) (p y)->Tg (sg k x) (sg k y) (sg k (p x)) (sg k (p y)):=fun h=>by
  by_cases h':Tg (sg k x) (sg k y) (sg k (p x)) (sg k (p y))
  ·exact h'
  ·exfalso
   obtain ⟨t1,t2⟩:=t'
   rcases T.near hx hy h h' with z | z | z<;>clear h h' h0 t<;>lia
 have key2:x=x0/\y=y0->Tg (sg k x) (sg k y) (sg k (p x)) (sg k (p y)) /\ ¬Tg x y (p x) (p y):=fun ⟨e1,e2⟩=>by
  obtain ⟨A1,A2,A3⟩:=T.lowA
  obtain ⟨B1,B2,B3⟩:=T.lowB
  obtain ⟨s1,s2⟩:=Zjk T.a1 T.a2 T.b1 T.b2 T.ab t'.1 t'.2
  subst e1 e2
  rcases h0 with ⟨h0,rfl,rfl⟩ | ⟨h0,rfl,rfl⟩
  ·rw [A1,B1,A2,A3,B2,B3]
   exact ⟨s1 h0,t'.1⟩
  ·rw [A1,B1,A2,A3,B2,B3]
   exact ⟨s2 h0,t'.2⟩
 unfold tg dl
 by_cases d:x=x0/\y=y0
 ·rw [kg (key2 d).2,kh d.1,kh d.2,kh (key2 d).1];exact ki _
 ·have e:(if x=x0 then if y=y0 then 1 else 0 else 0)=0:=by
   by_cases c:x=x0
   ·rw [kh c,kg fun z=>d ⟨c,z⟩]
   ·rw [kg c]
  rw [e,XD]
  by_cases c:Tg x y (p x) (p y)
  ·rw [kh c,kh (key1 c)];exact ki _
  ·rw [kg c];exact Km _
def fb:Nat->Nat
 | 0=>0
 | 1=>1
 | n+2=>fb (n+1)+fb n
theorem Zn9:∀n,fb n<=fb (n+1)
 | 0=>Km _
 | n+1=>Xb _ _
theorem ZgB {m n:Nat} (h:m<=n):fb m<=fb n:=by
 obtain ⟨d,rfl⟩:=Xk h
 clear h
 induction d with
 | zero=>exact ki _
 | succ d ih=>exact k9 ih (Zn9 _)
def pV (ps:List Int) (i:Nat):Nat:=(ps.getD i 0).toNat
def iQ (ps:List Int):Nat:=iX ps.length (pV ps)
theorem Gx {ps:List Int}{i j:Nat} (h:ps[i]? = some ((j:Nat):Int)):pV ps i=j:=by
 unfold pV
 rw [Ke,h]
 rfl
theorem ZhB {ps:List Int} (pt:PtL ps) {i:Nat} (hi:i<ps.length):∃j:Nat,ps[i]? = some (j:Int)/\ps[j]? = some (i:Int)/\j≠i:=by
 obtain ⟨j,e,h1,h2⟩:=pt i _ (kU hi)
 exact ⟨j,by rw [kU hi,e],h1,h2⟩
theorem Zov (k j:Nat):Uj k (j:Int)=((uq k j:Nat):Int):=by
 unfold Uj uq
 by_cases c:j<k
 ·rw [kg (by lia),kh c]
 ·rw [kh (by lia),kg c];lia
theorem Zlg {ps:List Int}{k:Nat} (pt:PtL ps) (hk:k<=ps.length):iQ ps<=iQ (JU ps k):=by
 unfold iQ
 rw [Zaj]
 refine ZoE hk fun i hi=>?_
 obtain ⟨j,e,_,_⟩:=ZhB pt hi
 rw [Gx e]
 refine Gx ?_
 rw [WT hk,<- Zov]
 by_cases c:i<k
 ·rw [ZhV c,kh c,e];rfl
 ·rw [ZhF (by lia),kg (by lia),kg (by lia),kg (by lia),TY,e];rfl
theorem ZnD {ps:List Int}{k:Nat} (pt:PtL ps) (hk:k+1<ps.length) (e0:ps[k]? = some ((k:Int)+1)):iQ ps<=iQ (Zak ps k):=by
 have e0':ps[k]? = some (((k+1:Nat):Nat):Int):=e0
 have e1:ps[k+1]? = some ((k:Nat):Int):=by
  obtain ⟨j,x1,x2,_⟩:=pt k _ e0
  have:j=k+1:=by lia
  subst this
  exact x2
 have ln:=Zfn hk
 unfold iQ
 rw [<- ln]
 refine Zog (by lia) (fun i hi=>?_) (Gx e0') (Gx e1)
 have hu:uq k i<ps.length:=by unfold uq;split<;>lia
 obtain ⟨j,e,e2,_⟩:=ZhB pt hu
 have nk:j≠k:=fun z=>by
  subst z
  rw [e0'] at e2
  injection e2 with e2
  have:uq j i=j+1:=by lia
  unfold uq at this
  split at this<;>lia
 have nk1:j≠k+1:=fun z=>by
  subst z
  rw [e1] at e2
  injection e2 with e2
  have:uq k i=k:=by lia
  unfold uq at this
  split at this<;>lia
 obtain ⟨j',e3⟩:∃j',j=uq k j':=by
  by_cases c:j<k
  ·exact ⟨j,(ZhV c).symm⟩
  ·exact ⟨j-2,by rw [ZhF (by lia)];lia⟩
 rw [Gx e,e3]
 congr 1
 refine (Gx ?_).symm
 rw [ZdA hk]
 have:(if i<k then ps[i]? else ps[i+2]?)=ps[uq k i]?:=by unfold uq;split<;>rfl
 rw [this,e,qq]
 congr 1
 unfold dnE
 by_cases c:j'<k
 ·rw [ZhV c] at e3;rw [kg (by lia)];lia
 ·rw [ZhF (by lia)] at e3;rw [kh (by lia)];lia
theorem ZlJ {ps:List Int}{k a b:Nat} (h:ZbZ ps k a b):Two ps.length k a b (pV ps):=by
 obtain ⟨f1,f2,f3,f4,f5,f6,f7,f8,f9⟩:=h.facts
 exact ⟨f9,f7,f8,f3,h.ne,f5,f4,f6,fun i hi=>by
  obtain ⟨j,e,e2,_⟩:=ZhB h.pt hi
  rw [Gx e,Gx e2],Gx h.ea,Gx h.eb⟩
theorem Znt (k j:Nat):Gr k (j:Int)=((sg k j:Nat):Int):=by
 unfold Gr sg
 by_cases c:j=k
 ·rw [kh (by lia),kh c];rfl
 ·rw [kg (by lia),kg c]
  by_cases d:j=k+1
  ·rw [kh (by lia),kh d]
  ·rw [kg (by lia),kg d]
theorem ZhY {ps:List Int}{k a b:Nat} (h:ZbZ ps k a b):∀i,i<ps.length->pV (Jy ps k) (sg k i)=sg k (pV ps i):=fun i hi=>by
 obtain ⟨f1,f2,f3,f4,f5,f6,f7,f8,f9⟩:=h.facts
 refine Gx ?_
 rw [WR h]
 by_cases c:i=k
 ·subst c
  rw [Gx h.ea,sg,kh rfl,kh rfl,sg,kg f3,kg h.ne]
 by_cases d:i=k+1
 ·subst d
  have z:sg k (k+1)=k:=by rw [sg,kg (by lia),kh rfl]
  rw [z,kg (by lia),kh rfl,Gx h.eb,sg,kg f5,kg f4]
 obtain ⟨j,e,_,_⟩:=ZhB h.pt hi
 have z:sg k i=i:=by rw [sg,kg c,kg d]
 rw [z,kg d,kg c,e,Gx e,qq,Znt]
theorem ZjU (ps:List Int) (k:Nat):WH ps (("born" : Str),(k:Int))=some (JU ps k):=by unfold WH;rw [kh rfl];rfl
theorem ZiJ (ps:List Int) (k:Nat):WH ps (("cross" : Str),(k:Int))=if ps.getD k 0=(k:Int)+1 then none else some (Jy ps k):=by
 unfold WH
 dsimp only
 rw [kg (by decide),kI]
 by_cases c:ps.getD k 0=(k:Int)+1
 ·rw [kh c,kh (by rw [kG c];rfl)]
 ·rw [kg c,kg (by rw [Kn c];exact fun z=>kO z),kg (by decide)]
theorem Zmi (ps:List Int) (k:Nat):WH ps (("end" : Str),(k:Int))=if ps.getD k 0=(k:Int)+1 then some (Zak ps k) else none:=by
 unfold WH
 dsimp only
 rw [kg (by decide),kI]
 by_cases c:ps.getD k 0=(k:Int)+1
 ·rw [kh c,kg (by rw [kG c];exact fun z=>kO z),kh rfl]
 ·rw [kg c,kh (by rw [Kn c];rfl)]
abbrev LZ:=List ((Str×Int)×Bool)
def cW:LZ->List Int->Nat
 | [],_=>1
 | e::L,ps=>match WH ps e.1 with
  | none=>0
  | some r=>cW L r+(if e.1.1 = "cross" /\ e.2=true/\ZbK ps e.1.2.toNat=false then cW L ps else 0)
def Fwd:Int->List (Str×Int)->Prop
 | n,[]=>n=0
 | n,q::L=>∃m,Zke q n m/\Fwd m L
theorem cw_born (ps : List Int) (k : Nat) (z : Bool) (L : LZ) : cW ((((("born" : Str), (k : Int)) : Str × Int), z) :: L) ps = cW L (JU ps k) := by
 rw [cW, ZjU]
 dsimp only
 rw [kg (fun z => absurd z.1 (by decide)), XD]
theorem cw_cross (ps : List Int) (k : Nat) (z : Bool) (L : LZ) : cW ((((("cross" : Str), (k : Int)) : Str × Int), z) :: L) ps = if ps.getD k 0 = (k : Int) + 1 then 0 else cW L (Jy ps k) + (if z = true /\ ZbK ps k = false then cW L ps else 0) := by
 rw [cW, ZiJ]
 by_cases c : ps.getD k 0 = (k : Int) + 1
 ·rw [kh c, kh c]
 ·rw [kg c, kg c]
  dsimp only
  congr 1
  by_cases d : z = true /\ ZbK ps k = false
  ·rw [kh d, kh ⟨rfl, d⟩]
  ·rw [kg d, kg fun x => d x.2]
theorem cw_end (ps : List Int) (k : Nat) (z : Bool) (L : LZ) : cW ((((("end" : Str), (k : Int)) : Str × Int), z) :: L) ps = if ps.getD k 0 = (k : Int) + 1 then cW L (Zak ps k) else 0 := by
 rw [cW, Zmi]
 by_cases c : ps.getD k 0 = (k : Int) + 1
 ·rw [kh c, kh c]
  dsimp only
  rw [kg (fun z => absurd z.1 (by decide)), XD]
 ·rw [kg c, kg c]
theorem Zh3 {ps:List Int}{i:Nat}{x:Int} (h:ps[i]? = some x):ps.getD i 0=x:=by rw [Ke,h];rfl
theorem Zh9 {ps:List Int}{i:Nat}{x:Int} (hi:i<ps.length) (h:ps.getD i 0=x):ps[i]? = some x:=by
 rw [Ke,kU hi] at h
 rw [kU hi]
 exact Ks some h
theorem cw_fb : ∀ (L : LZ) {ps : List Int} {n : Int}, PtL ps -> (ps.length : Int) = n -> Fwd n (L.map (·.1)) -> cW L ps <= fb (nX (L.map (·.1)) + 1 - iQ ps)
 | [], ps, n, pt, hl, fw => by
  have e : n = 0 := fw
  have : ps = [] := qf.mp (by lia)
  subst this
  exact ki _
 | ((kd, k), z) :: L, ps, n, pt, hl, fw => by
  obtain ⟨m, ⟨k0, ft⟩, fw⟩ := fw
  dsimp only at k0 ft
  obtain ⟨k, rfl⟩ := kF k0
  have nx : nX ((((kd, (k : Int)), z) :: L).map (·.1)) = nX (L.map (·.1)) + if kd = ("cross" : Str) then 1 else 0 := by
   unfold nX
   rw [k7, XC]
   by_cases c : kd = ("cross" : Str) <;> simp [c]
  rw [nx]
  rcases ft with ⟨rfl, f1, rfl⟩ | ⟨rfl, f1, rfl⟩ | ⟨rfl, f1, rfl⟩
  ·rw [cw_born, kg (by decide)]
   have hk : k <= ps.length := by lia
   have h1 := cw_fb L (pt.born hk) (by rw [Zaj]; lia) fw
   have := Zlg pt hk
   exact k9 h1 (ZgB (by lia))
  ·rw [cw_cross, kh (show ("cross" : Str) = "cross" from rfl)]
   split
   ·exact Km _
   ·rename_i ne
    have tb := ZfD pt (by lia) ne
    have T := ZlJ tb
    have kl : (Jy ps k).length = ps.length := Zdf _ _
    have h1 : iQ ps <= iQ (Jy ps k) + 1 := by unfold iQ; rw [kl]; exact T.tng (ZhY tb)
    have c1 := cw_fb L tb.kept (by rw [kl]; exact hl) fw
    split
    ·rename_i d
     have h2 : iQ ps + 1 <= iQ (Jy ps k) := by unfold iQ; rw [kl]; exact T.apart (ZhY tb) d.2
     have c2 := cw_fb L pt hl fw
     by_cases d : iQ ps <= nX (L.map (·.1))
     ·obtain ⟨e, he⟩ := Xk d
      have e1 : nX (L.map (·.1)) + 1 + 1 - iQ ps = e + 2 := by lia
      have e2 : nX (L.map (·.1)) + 1 - iQ ps = e + 1 := by lia
      have e3 : fb (nX (L.map (·.1)) + 1 - iQ (Jy ps k)) <= fb e := ZgB (by lia)
      rw [e1, fb]
      rw [e2] at c2
      lia
     ·have e1 : nX (L.map (·.1)) + 1 - iQ (Jy ps k) = 0 := by lia
      have e2 : nX (L.map (·.1)) + 1 - iQ ps = 0 := by lia
      rw [e1] at c1
      rw [e2] at c2
      have : fb 0 = 0 := rfl
      lia
    ·exact k9 c1 (ZgB (by lia))
  ·rw [cw_end, kg (show ¬ ("end" : Str) = "cross" by decide)]
   split
   ·rename_i e
    have hx := Zh9 (by lia) e
    have hk : k + 1 < ps.length := by lia
    have h1 := cw_fb L (pt.ended hx) (by have := Zfn hk; lia) fw
    have := ZnD pt hk hx
    exact k9 h1 (ZgB (by lia))
   ·exact Km _
theorem Zmw (k:Nat) (x:Int):dnE k (Uj k x)=x:=by
 unfold dnE Uj
 split<;>split<;>lia
theorem Zkm {ps:List Int}{k:Nat} (hk:k<=ps.length):Zak (JU ps k) k=ps:=by
 refine T7 fun i=>?_
 rw [ZdA (by rw [Zaj];lia)]
 by_cases c:i<k
 ·rw [kh c,WT hk,kh c,Option.map_map,show dnE k ∘ Uj k=id from funext (Zmw k),Option.map_id,id]
 ·rw [kg c,WT hk,kg (by lia),kg (by lia),kg (by lia),TY,Option.map_map,show dnE k ∘ Uj k=id from funext (Zmw k),Option.map_id,id]
theorem cw_curl {ps : List Int} {p q : Int} {z1 z2 z3 : Bool} {L : LZ} (pt : PtL ps) (p0 : 0 <= p) (q0 : 0 <= q) (hp : p <= ps.length) (hq : q <= ps.length) (h : q = p + 1 ∨ p = q + 1) :
  cW ((((("born" : Str), p) : Str × Int), z1) :: (((("cross" : Str), q) : Str × Int), z2) :: (((("end" : Str), p) : Str × Int), z3) :: L) ps <= cW L ps := by
 obtain ⟨p, rfl⟩ := kF p0
 obtain ⟨q, rfl⟩ := kF q0
 have hp' : p <= ps.length := by lia
 have at_ := WT (ps := ps) hp'
 have e0 : (JU ps p)[p]? = some ((p : Int) + 1) := by rw [at_, kg (by lia), kh rfl]
 have e1 : (JU ps p)[p + 1]? = some (p : Int) := by rw [at_, kg (by lia), kg (by lia), kh rfl]
 have ln := Zaj ps p
 rw [cw_born, cw_cross]
 split
 ·exact Km _
 ·rename_i ne
  have tb := ZfD (pt.born hp') (by lia) ne
  have k0 : cW ((((("end" : Str), (p : Int)) : Str × Int), z3) :: L) (Jy (JU ps p) q) = 0 := by
   rw [cw_end, kg]
   intro z
   have z := Zh9 (by rw [Zdf]; lia) z
   rw [WR tb] at z
   rcases h with h | h
   ·have : q = p + 1 := by lia
    subst this
    rw [kg (by lia), kg (by lia), e0, qq, Gr, kh (by lia)] at z
    injection z
    lia
   ·have : p = q + 1 := by lia
    subst this
    rw [kh rfl] at z
    injection z with z
    have e2 : (JU ps (q + 1))[q]? = ps[q]?.map (Uj (q + 1)) := by rw [at_, kh (by lia)]
    obtain ⟨x, hx⟩ : ∃ x, ps[q]? = some x := ⟨_, kU (by lia)⟩
    rw [hx, qq] at e2
    rw [Zh3 e2] at z
    unfold Uj at z
    split at z <;> lia
  rw [k0, NQ]
  split
  ·rw [cw_end, kh (Zh3 e0), Zkm hp']
   exact ki _
  ·exact Km _
theorem cw_ins {p q : Int} {z1 z2 z3 : Bool} {b : LZ} (h : q = p + 1 ∨ p = q + 1) : ∀ (a : LZ) {ps : List Int} {n : Int}, PtL ps -> (ps.length : Int) = n ->
  Fwd n ((a ++ ([(((("born" : Str), p) : Str × Int), z1), (((("cross" : Str), q) : Str × Int), z2), (((("end" : Str), p) : Str × Int), z3)] ++ b)).map (·.1)) ->
  cW (a ++ ([(((("born" : Str), p) : Str × Int), z1), (((("cross" : Str), q) : Str × Int), z2), (((("end" : Str), p) : Str × Int), z3)] ++ b)) ps <= cW (a ++ b) ps
 | [], ps, n, pt, hl, fw => by
  obtain ⟨m1, ⟨k1, f1⟩, m2, ⟨k2, f2⟩, _⟩ := fw
  dsimp only at k1 f1 k2 f2
  rcases f1 with ⟨_, g1, g2⟩ | ⟨x, _⟩ | ⟨x, _⟩
  ·rcases f2 with ⟨x, _⟩ | ⟨_, g3, g4⟩ | ⟨x, _⟩
   ·exact absurd x (by decide)
   ·exact cw_curl pt k1 k2 (by lia) (by lia) h
   ·exact absurd x (by decide)
  ·exact absurd x (by decide)
  ·exact absurd x (by decide)
 | e :: a, ps, n, pt, hl, fw => by
  obtain ⟨m, ft, fw⟩ := fw
  show cW (e :: (a ++ _)) ps <= cW (e :: (a ++ b)) ps
  rw [cW, cW]
  split
  ·exact ki _
  ·rename_i r hm
   obtain ⟨pr, lr⟩ := Zk0 pt hl ft hm
   refine Nat.add_le_add (cw_ins h a pr lr fw) ?_
   split
   ·rename_i d
    obtain ⟨_, ft⟩ := ft
    rcases ft with ⟨x, _⟩ | ⟨_, _, x⟩ | ⟨x, _⟩
    ·exact absurd (x.symm.trans d.1) (by decide)
    ·subst x
     exact cw_ins h a pt hl fw
    ·exact absurd (x.symm.trans d.1) (by decide)
   ·exact ki _
theorem Zhn:∀(b:List (Str×Int)) {a:List (Str×Int)}{n:Int},Wk (a++b) 0->Wk a n->Fwd n b
 | [],a,n,h,g=>by rw [qh] at h;exact ZbO g h
 | q::b,a,n,h,g=>by
  have e:a++q::b=a ++ [q]++b:=by simp
  rw [e] at h
  obtain ⟨m,wm⟩:=W0 h (a.length+1)
  rw [show (a ++ [q]++b).take (a.length+1)=a ++ [q] by rw [qD (by simp)];exact kJ (by simp)] at wm
  obtain ⟨n',wn',ft⟩:=ZcE wm
  have:=ZbO g wn'
  subst this
  exact ⟨m,ft,Zhn b h wm⟩
theorem ZcF:∀(ls:List (Str×Int)) (zs:List Bool),zs.length=ls.length->(ls.zip zs).map (·.1)=ls:=fun ls zs h=>List.map_fst_zip (by lia)
theorem Zl1 {M:Nat}{ls:List (Str×Int)} (h:Crl M ls):Wk ls 0 -> ∀zs:List Bool,zs.length=ls.length->cW (ls.zip zs) []<=fb (M+1):=by
 induction h with
 | base h=>
  intro w zs hz
  have:=cw_fb (List.zip _ zs) (ps:=[]) (n:=0) (fun i x e=>by simp at e) rfl (by rw [ZcF _ _ hz];exact Zhn _ (a:=[]) w .nil)
  rw [ZcF _ _ hz] at this
  exact k9 this (ZgB (by lia))
 | @curl a b p q h w0 hq ih=>
  intro w zs hz
  have hc:(crl p q).length=3:=rfl
  rw [kj,kj,hc] at hz
  obtain ⟨za,zr,rfl,la⟩:∃za zr,zs=za++zr/\za.length=a.length:=⟨zs.take a.length,zs.drop a.length,(KW _ _).symm,by rw [kM];lia⟩
  rw [kj] at hz
  match zr,hz with
  | z1::z2::z3::zb,hz=>
   have lb:zb.length=b.length:=by simp only [KJ] at hz;lia
   have e:(a++crl p q++b).zip (za++z1::z2::z3::zb)=a.zip za++([(((("born" : Str),p):Str×Int),z1),(((("cross" : Str),q):Str×Int),z2),(((("end" : Str),p):Str×Int),z3)]++b.zip zb):=by
    rw [Kc,List.zip_append la.symm]
    rfl
   have m:(a.zip za++([(((("born" : Str),p):Str×Int),z1),(((("cross" : Str),q):Str×Int),z2),(((("end" : Str),p):Str×Int),z3)]++b.zip zb)).map (·.1)=a++crl p q++b:=by
    rw [kP,kP,ZcF _ _ la,ZcF _ _ lb,Kc]
    rfl
   rw [e]
   refine k9 (cw_ins hq (a.zip za) (ps:=[]) (n:=0) (fun i x e=>by simp at e) rfl (by rw [m];exact Zhn _ (a:=[]) w .nil)) ?_
   rw [<- List.zip_append la.symm]
   exact ih w0 _ (by rw [kj,kj];lia)
  | [],hz=>simp at hz;lia
  | [_],hz=>simp at hz;lia
  | [_,_],hz=>simp at hz;lia
theorem cw_step (q : Str × Int) (z : Bool) (t : Nat) (L : LZ) (r : List Int × List Int) : ((YD q z t r).map fun x => cW L x.2).sum = cW ((q, z) :: L) r.2 := by
 rw [cW]
 unfold YD
 dsimp only
 cases WH r.2 q with
 | none => rfl
 | some ps =>
  dsimp only
  split <;> simp
theorem Zgg {α β:Type} (f:α -> List β) (g:β -> Nat) (k:α -> Nat) (h:∀x,((f x).map g).sum=k x):∀l:List α,((l.flatMap f).map g).sum=(l.map k).sum
 | []=>rfl
 | x::l=>by rw [K0,kP,Tz,h,Zgg f g k h l,k7,Nn]
theorem Zei {ls:List (Str×Int)}{z:Nat->Bool}:∀i,i<=ls.length->((ZO ls z i).map fun r=>cW ((ls.zip ((List.range ls.length).map z)).drop i) r.2).sum=cW (ls.zip ((List.range ls.length).map z)) []
 | 0,_=>by rw [ZO,Mg];simp
 | i+1,h=>by
  have hq:ls[i]? = some ls[i]:=kU (by lia)
  rw [<- Zei i (by lia),ZO,hq]
  have hi:i<(ls.zip ((List.range ls.length).map z)).length:=by rw [NZ,ke,qo];lia
  rw [KQ hi]
  have:(ls.zip ((List.range ls.length).map z))[i]=(ls[i],z i):=by simp
  rw [this]
  exact Zgg _ _ _ (fun r=>cw_step _ _ _ _ r) _
theorem ones:∀l:List (List Int×List Int),(l.map fun r=>cW [] r.2).sum=l.length
 | []=>rfl
 | r::l=>by rw [k7,Nn,ones l,KJ,cW];lia
theorem ZiL {M:Nat}{ls:List (Str×Int)}{z:Nat->Bool} (h:Crl M ls) (hW:Wk ls 0):(ZO ls z ls.length).length<=fb (M+1):=by
 have e:=Zei (ls:=ls) (z:=z) ls.length (ki _)
 have:=Zl1 h hW ((List.range ls.length).map z) (by rw [ke,qo])
 rw [<- e] at this
 rw [K8 (by rw [NZ,ke,qo];lia)] at this
 rw [ones] at this
 exact this
theorem ZmA {ls:List (Str×Int)}{z:Nat->Bool} (h:Crl 8 ls) (hW:Wk ls 0):(ZO ls z ls.length).length<64:=TL (ZiL h hW) (by decide)
theorem Ze5 {α β:Type}{F:α -> β -> Prop}:∀{l:List α}{m:List β}{i:Nat}{x:α},Paired F l m->l[i]? = some x -> ∃y,m[i]? = some y/\F x y
 | _,_,_,_,.nil,e=>by simp at e
 | _,_,0,_,.cons r _,e=>by simp at e;subst e;exact ⟨_,rfl,r⟩
 | _,_,i+1,_,.cons _ t,e=>by
  obtain ⟨y,h1,h2⟩:=Ze5 (i:=i) t (by simpa using e)
  exact ⟨y,by simpa using h1,h2⟩
theorem UK {α β:Type}{F:α -> β -> Prop}:∀{l:List α}{m:List β},Paired F l m->l.length=m.length
 | _,_,.nil=>rfl
 | _,_,.cons _ t=>Ks (· + 1) (UK t)
def Zc8 (H:Hp) (v:V) (r:List Int×List Int):Prop:=∃(t c p:Addr),v = .ref t/\H t=some (.tup [.ref c,.ref p])/\H c=some (.lst (r.1.map V.int))/\H p=some (.lst (r.2.map V.int))
def Gb (z:Addr) (H:Hp) (v:V) (r:List Int×List Int):Prop:=∃(t c p:Addr),v = .ref t/\H t=some (.tup [.ref c,.ref p])/\H c=some (.lst (r.1.map V.int))/\H p=some (.lst (r.2.map V.int))/\t≠z/\c≠z/\p≠z
theorem Gb.same {z:Addr}{H H':Hp} (s:Zi H H') {v:V}{r:List Int×List Int}:Gb z H v r->Gb z H' v r
 | ⟨t,c,p,e,h1,h2,h3,n⟩=>⟨t,c,p,e,s _ _ h1,s _ _ h2,s _ _ h3,n⟩
theorem Gb.upd {z:Addr}{H:Hp}{o:HO}{v:V}{r:List Int×List Int}:Gb z H v r->Gb z (L2.upd H z o) v r
 | ⟨t,c,p,e,h1,h2,h3,n1,n2,n3⟩=>⟨t,c,p,e,by rw [Zh n1];exact h1,by rw [Zh n2];exact h2,by rw [Zh n3];exact h3,n1,n2,n3⟩
theorem Gb.out {z:Addr}{H:Hp}{v:V}{r:List Int×List Int}:Gb z H v r->Zc8 H v r
 | ⟨t,c,p,e,h1,h2,h3,_⟩=>⟨t,c,p,e,h1,h2,h3⟩
theorem Zc8.same {H H':Hp} (s:Zi H H') {v:V}{r:List Int×List Int}:Zc8 H v r->Zc8 H' v r
 | ⟨t,c,p,e,h1,h2,h3⟩=>⟨t,c,p,e,s _ _ h1,s _ _ h2,s _ _ h3⟩
theorem Paired.snoc' {α β:Type}{F:α -> β -> Prop}{x:α}{y:β} (hxy:F x y):∀{l:List α}{m:List β},Paired F l m->Paired F (l ++ [x]) (m ++ [y])
 | _,_,.nil=>.cons hxy .nil
 | _,_,.cons r t=>.cons r (Paired.snoc' hxy t)
def Zff:Sp:=fun vs H Q _=>∃(l:Addr) (sc:Int) (ls:List (Str×Int)) (g:Int->Int),vs = [.ref l,.int sc]/\(sc=0∨sc=1)/\Drw H l ls/\HG sc ls g/\(nX ls<=13/\Crl 8 ls) /\ ∀(p:Addr) (H':Hp) (zs:List V) (vs:List (List Int)),Zi H H'->H p=none->H' p=some (.lst zs)->Zdg H' zs vs->vs.Perm ((ZO ls (fun i=>decide (UJ g ls i=some 0)) ls.length).map (·.1))->ZdU vs->Q (.ref p) H'
abbrev JG:Stmt:=top 49
theorem ZX:Zy ["_law_drawing_here", "_law_scale", "_law_parts", "_law_t", "_law_height", "_law_later", "_law_changed", "_law_partners", "_law_there"] ["_law_drawing_here", "_law_scale"] (Zj JG):={}
theorem ZkK {f:Addr}{fd:FuncData} (F:Yy K "_law_bandings" "_law_bandings" JG f fd) (Jb:Ys P w K mg base 5 "_law_letter_heights" ["_law_drawing_here", "_law_scale"] ZgR) (WG:Ys P w K mg base 1 "_law_moved_on" ["_law_partners", "_law_letter"] Zfy) (Wx:Ys P w K mg base 1 "_law_is_apart" ["_law_partners", "_law_k"] Ze2) (ZC:mg "enumerate" = none) (YS:mg "sorted" = none):Yf P w K mg base Wy 6 f fd ["_law_drawing_here", "_law_scale"] Zff:=by
 refine F.ok ZX (fun vs H Q E h=>?_) (fun cdv A outer s H vs Q E hr h=>?_)
 ·obtain ⟨l,sc,ls,g,rfl,_⟩:=h
  rfl
 ·obtain ⟨l,sc,ls,g,rfl,hsc,dr,hg,n13,k⟩:=h
  refine ⟨_,(Zd (Zn (i:=2) ZX.nd rfl (Or.inl rfl) (ZD (Za (ZH (Za (ZD Zb) (Za (ZD Zb) Zb))) Zb)))
   (Zd (Yi k8 rfl (Wg (K:=K) rfl (by rfl) ZC (Za (Zq Jb hr (Za (pv 0) (Za (pv 1) Zb))) Zb)) (ZY (K:=K) (n:=2) rfl rfl (Zm (Zk (i:=3) ZX.nd rfl (Or.inl rfl)) (Zm (Zk (i:=4) ZX.nd rfl (Or.inl rfl)) ZQ))) (Zd (Zn (i:=5) ZX.nd rfl (Or.inl rfl) (ZD Zb))
   (Zd (Yi k8 rfl (ZV (K:=K) rfl (pv 2)) (ZY (K:=K) (n:=2) rfl rfl (Zm (Zk (i:=6) ZX.nd rfl (Or.inl rfl)) (Zm (Zk (i:=7) ZX.nd rfl (Or.inl rfl)) ZQ))) (Zd (Zn (i:=8) ZX.nd rfl (Or.inl rfl) (Zq WG hr (Za (pv 7) (Za (Zz (Zp (K:=K) rfl) (pv 0) (pv 3) (fun _ _=>rfl)) Zb))))
   (Zg (ZW (Zt Zio (pv 8) Zam (Zs _)) (Zd (ZZ (Z9 (K:=K) rfl (Yw kH kR kS ZN (pv 5) (Za (ZH (Za (pv 6) (Za (pv 8) Zb))) Zb))))
   (Zg (ZW (PW.pt (GI (Zt Yp (Zz (Yl (K:=K) rfl) (Zz (Zp (K:=K) rfl) (pv 0) (pv 3) (fun _ _=>rfl)) Ze (fun _ _=>rfl)) ZG (Zs _)) (GI (Zt Yp (pv 4) Ze (Zs _)) (Uh (GC (Zq Wx hr (Za (pv 7) (Za (Zz (Yl (K:=K) rfl) (Zz (Zp (K:=K) rfl) (pv 0) (pv 3) (fun _ _=>rfl)) Ze (fun _ _=>rfl)) Zb)))))))) (Zg (ZZ (Z9 (K:=K) rfl (Yw kH kR kS ZN (pv 5) (Za (ZH (Za (Zl WK (pv 6) (ZD (Za (pv 3) Zb))) (Za (pv 7) Zb))) Zb))))) ZJ))) ZJ))))
   (Zg (Zn (i:=2) ZX.nd rfl (Or.inl rfl) (pv 5))))))
   (Zg (Zw (Zx (ZdF (K:=K) rfl hr.units) (by rfl) YS Tq (Za (Gi (Ls:=["_law_changed", "_law_partners"]) (Fs:=[]) (fi:=[]) (Z6.of (show YE ["_law_drawing_here", "_law_scale", "_law_parts", "_law_t", "_law_height", "_law_later", "_law_changed", "_law_partners", "_law_there"] (Zj JG) _ [] []=true by decide +kernel)) rfl (ZV (K:=K) rfl (pv 2)) (fun cl C s3 H3 ex=>⟨(ZY (K:=K) (n:=2) rfl rfl (Zm (Zk (i:=0) (show ((["_law_changed", "_law_partners"]:List Str)++([]:List Str)).Nodup by decide +kernel) rfl (Or.inl rfl)) (Zm (Zk (i:=1) (show ((["_law_changed", "_law_partners"]:List Str)++([]:List Str)).Nodup by decide +kernel) rfl (Or.inl rfl)) ZQ))),YN,(pv 0)⟩)) Zb)))))),?_⟩
  obtain ⟨xs,hl,hL,hW,hlen⟩:=id dr
  have hxl:=hL.len
  refine ⟨(by show 0<=sizeLine;exact Km _),fun c0 f0=>?_⟩
  obtain ⟨H1,z,s1,e1⟩:=lay (o:=.lst []) f0
  rw [z];clear z
  refine ⟨(by show 0<=sizeLine;exact Km _),fun p0 f1=>?_⟩
  obtain ⟨H2,z,s2,e2⟩:=lay (o:=.lst []) f1
  rw [z];clear z
  refine ⟨(by show 2<=sizeLine;decide),fun t0 f2=>?_⟩
  obtain ⟨H3,z,s3,e3⟩:=lay (o:=.tup [.ref c0,.ref p0]) f2
  rw [z];clear z
  refine ⟨(by show 1<=sizeLine;decide),fun pr0 f3=>?_⟩
  obtain ⟨H4,z,s4,e4⟩:=lay (o:=.lst [.ref t0]) f3
  rw [z];clear z
  have s04:=((s1.trans s2).trans s3).trans s4
  refine ⟨_,rfl,_,rfl,l,sc,ls,g,rfl,hsc,⟨xs,s04 _ _ hl,hL.same s04,hW,hlen⟩,hg,fun hp H5 s5 fh eh=>?_⟩
  have s05:=s04.trans s5
  obtain ⟨zf,ezf⟩:∃zf:Nat->Bool,zf=fun i=>decide (UJ g ls i=some 0):=⟨_,rfl⟩
  rw [<- ezf] at k
  have few:∀i,i<=ls.length->(ZO ls zf i).length<=8192:=fun i hi=>by
   refine k9 (ZaC i hi) (k9 (Ts (by decide) (k9 (Zfk ls i) n13.1)) (by decide))
  have ll:(lhL g ls ls.length).length=ls.length:=by simp [lhL]
  refine ⟨hp,rfl,⟨_,Zr.of eh⟩,Zaw (K:=K) (a:=hp) (xs:=lhL g ls ls.length) (fun i σ G=>∃(pr:Addr) (ys:List V) (v3 v4 v5 v6 v7 v8:Option V),σ = [some (.ref l),some (.int sc),some (.ref pr),v3,v4,v5,v6,v7,v8]/\Zi H5 G/\G pr=some (.lst ys)/\Paired (Zc8 G) ys (ZO ls zf i))
   ⟨pr0,_,_,_,_,_,_,_,rfl,Zi.refl _,s5 _ _ e4,.cons ⟨t0,c0,p0,rfl,s5 _ _ (s4 _ _ e3),s5 _ _ (s4 _ _ (s3 _ _ (s2 _ _ e1))),s5 _ _ (s4 _ _ (s3 _ _ e2))⟩ .nil⟩ (fun i σ G _ ⟨_,_,_,_,_,_,_,_,_,s',_⟩=>Zr.of (s' _ _ eh)) ?_ ?_⟩
  ·rintro i x pe σ G hx ⟨pr,ys,v3,v4,v5,v6,v7,v8,rfl,sG,epr,hy⟩ fpe
   have hi:i<ls.length:=by have:=(kC.mp hx).1;lia
   have ex:x=oI (UJ g ls i):=by
    unfold lhL at hx
    rw [kz,List.getElem?_range hi] at hx
    exact (kX hx).symm
   subst ex
   obtain ⟨xt,hxt⟩:∃xt,xs[i]? = some xt:=⟨_,kU (by lia)⟩
   obtain ⟨q,ta,hq,rfl,hta⟩:=hL.get hxt
   obtain ⟨n,wn,al⟩:=Zbf (z:=zf) hW i (by lia)
   have fit:∃m,Zke q n m:=by
    obtain ⟨m,wm⟩:=W0 hW (i+1)
    rw [Kh,hq] at wm
    obtain ⟨n',wn',ft⟩:=ZcE (show Wk (ls.take i ++ [q]) m from wm)
    rw [ZbO wn wn']
    exact ⟨m,ft⟩
   obtain ⟨m,ft⟩:=fit
   have n2:=Zbr wn
   have tl:(ls.take i).length=i:=by rw [kM];lia
   have psz:ZO ls zf (i+1)=(ZO ls zf i).flatMap (YD q (zf i) i):=by rw [ZO,hq]
   refine ⟨pe,_,rfl,YX.of Zc,rfl,_,_,rfl,_,_,rfl,rfl,?_⟩
   obtain ⟨G1,z,sg1,eg1⟩:=lay (o:=.tup [.int (i:Int),oI (UJ g ls i)]) fpe
   rw [z];clear z
   refine ⟨(by show 0<=sizeLine;exact Km _),fun lt flt=>?_⟩
   obtain ⟨G2,z,sg2,eg2⟩:=lay (o:=.lst []) flt
   rw [z];clear z
   have yl:=UK hy
   have epr1:=sg1 _ _ epr
   have sH1:Zi H G1:=(s05.trans sG).trans sg1
   refine ⟨_,rfl,pr,rfl,⟨_,Zr.of (sg2 _ _ epr1)⟩,JD (K:=K) (a:=pr) (xs:=ys) (fun j σ G'=>∃(zs:List V) (v6 v7 v8:Option V),σ = [some (.ref l),some (.int sc),some (.ref pr),some (.int (i:Int)),some (oI (UJ g ls i)),some (.ref lt),v6,v7,v8]/\Zi G1 G'/\G' lt=some (.lst zs)/\Paired (Gb lt G') zs (((ZO ls zf i).take j).flatMap (YD q (zf i) i)))
    ⟨_,_,_,_,rfl,sg2,eg2,.nil⟩ (fun j σ G' _ ⟨_,_,_,_,_,s',_⟩=>Zr.of (s' _ _ epr1)) ?_ ?_⟩
   ·rintro j y σ G' hyj ⟨zs,v6,v7,v8,rfl,sG',elt,hz⟩
    obtain ⟨r,hr',hy'⟩:=Ze5 hy hyj
    obtain ⟨t,c,p,rfl,hpt,hpc,hpp⟩:=Zc8.same (sg1.trans sG') hy'
    have rm:r∈ZO ls zf i:=kY hr'
    obtain ⟨ptr,lr⟩:=al r rm
    have chl:=U4 i r rm
    have stj:((ZO ls zf i).take (j+1)).flatMap (YD q (zf i) i)=((ZO ls zf i).take j).flatMap (YD q (zf i) i)++YD q (zf i) i r:=by
     rw [Kh,hr',Xa]
     simp
    have zl:=UK hz
    have zb:zs.length<=16384:=by
     rw [zl]
     refine k9 (Zau _ 2 _ fun r _=>Zgz _ _ _ r) ?_
     have:=few i (by lia)
     rw [kM]
     lia
    have nel:∀{a:Addr}{o:HO},G1 a=some o->a≠lt:=fun e z=>by rw [z,flt] at e;cases e
    have sHG:=sH1.trans sG'
    have hl':=sHG _ _ hl
    have hta':=sHG _ _ hta
    obtain ⟨t1',c1',p1',e1',k1,k2,k3⟩:=Zc8.same sg1 hy'
    cases e1'
    have kk:=sG' _ _ k1
    rw [hpt] at kk
    injection kk with kk
    injection kk with kk
    injection kk with kk kk2
    injection kk with kk
    injection kk2 with kk2
    injection kk2 with kk2
    subst kk kk2
    have nt:=nel k1
    have nc:=nel k2
    have np:=nel k3
    refine ⟨t,_,rfl,YX.of hpt,rfl,_,_,rfl,_,_,rfl,rfl,?_⟩
    refine ⟨_,rfl,_,rfl,_,rfl,l,_,_,_,rfl,rfl,Zr.of hl',Zo hxt,p,ta,q,r.2,rfl,hpp,hta',by lia,ptr,ft.1,?_,?_,fun en H' s'=>?_,fun r' pp H' er s' fpp epp=>?_⟩
    ·intro nb
     rcases ft.2 with ⟨e,_⟩ | ⟨_,e,_⟩ | ⟨_,e,_⟩
     ·exact absurd e nb
     ·lia
     ·lia
    ·rcases ft.2 with ⟨e,_⟩ | ⟨e,_⟩ | ⟨e,_⟩
     ·exact .inl e
     ·exact .inr (.inr e)
     ·exact .inr (.inl e)
    ·refine ⟨_,rfl,rfl,_,rfl,WN ?_⟩
     refine ⟨zs,_,_,_,rfl,sG'.trans s',s' _ _ elt,?_⟩
     have:YD q (zf i) i r = []:=by unfold YD;rw [en]
     rw [stj,this,qh]
     exact L2.Paired.imp' (fun _ _ h=>h.same s') hz
    ·refine ⟨_,rfl,rfl,_,rfl,Zbt ?_⟩
     have elt':=s' _ _ elt
     refine ⟨_,rfl,.inl ⟨rfl,_,Zr.of elt'⟩,_,rfl,_,rfl,(by show 2<=sizeLine;decide),fun t1 ft1=>?_⟩
     obtain ⟨K1,z,sk1,ek1⟩:=lay (o:=.tup [.ref c,.ref pp]) ft1
     rw [z];clear z
     have ek2:=sk1 _ _ elt'
     refine ⟨lt,_,_,rfl,rfl,ek2,(by rw [Kg];lia),?_⟩
     have fl1:G1 lt=none:=flt
     have sK1:Zi G1 K1:=(sG'.trans s').trans sk1
     have put:∀{G:Hp}{o:HO},Zi G1 G->Zi G1 (upd G lt o):=fun s c o e=>by rw [Zh (Zf e fl1)];exact s c o e
     have n1:t1≠lt:=fun z=>by rw [z,elt'] at ft1;cases ft1
     have n2':pp≠lt:=fun z=>by rw [z,elt] at fpp;cases fpp
     have pv1:Gb lt K1 (.ref t1) (r.1,r'):=⟨t1,c,pp,rfl,ek1,sk1 _ _ (s' _ _ hpc),sk1 _ _ epp,n1,nc,n2'⟩
     have hz1:Paired (Gb lt K1) (zs ++ [.ref t1]) (((ZO ls zf i).take j).flatMap (YD q (zf i) i) ++ [(r.1,r')]):=Paired.snoc' pv1 (L2.Paired.imp' (fun _ _ h=>h.same (s'.trans sk1)) hz)
     obtain ⟨K2,eK2⟩:∃K2,upd K1 lt (.lst (zs ++ [.ref t1]))=K2:=⟨_,rfl⟩
     rw [eK2]
     have sK2:Zi G1 K2:=by rw [<- eK2];exact put sK1
     have elt2:K2 lt=some (.lst (zs ++ [.ref t1])):=by rw [<- eK2];exact Zc
     have hz2:Paired (Gb lt K2) (zs ++ [.ref t1]) (((ZO ls zf i).take j).flatMap (YD q (zf i) i) ++ [(r.1,r')]):=by rw [<- eK2];exact L2.Paired.imp' (fun _ _ h=>h.upd) hz1
     have sHK:=sH1.trans sK2
     have hlK:=sHK _ _ hl
     have htK:=sHK _ _ hta
     have stE:YD q (zf i) i r=(r.1,r')::(if q.1 = "cross" /\ zf i=true/\ZbK r.2 q.2.toNat=false then [(r.1 ++ [(i:Int)],r.2)] else []):=by unfold YD;rw [er]
     have one:∀{G3:Hp},Zi K2 G3->(¬(q.1 = "cross" /\ zf i=true/\ZbK r.2 q.2.toNat=false))->Paired (Gb lt G3) (zs ++ [.ref t1]) (((ZO ls zf i).take (j+1)).flatMap (YD q (zf i) i)):=fun s3 no=>by
      rw [stj,stE,kg no]
      exact L2.Paired.imp' (fun _ _ h=>h.same s3) hz2
     refine ⟨_,rfl,_,rfl,l,_,_,_,rfl,rfl,Zr.of hlK,Zo hxt,ta,_,_,_,rfl,rfl,YX.of htK,Zo (j:=0) rfl,rfl,_,rfl,Z7 (fun cc=>?_) (fun cc=>?_)⟩
     case refine_2=>
      refine WN ⟨_,_,_,_,rfl,sK2,elt2,one (Zi.refl _) fun z=>cc ?_⟩
      rw [z.1]
      exact kG rfl
     have ec:q.1 = "cross" := by
      have:=kE cc
      injection this
     have kt:isK ls UA i=true:=by rw [Zav hq (pr:=UA),ec];decide
     have hgs:UJ g ls i=some (g (YW ls i).1-g (YW ls i).2):=by unfold UJ;rw [kt];rfl
     obtain ⟨hh,ehh⟩:∃hh,g (YW ls i).1-g (YW ls i).2=hh:=⟨_,rfl⟩
     rw [ehh] at hgs
     have zi:zf i=decide (hh=0):=by rw [ezf];simp [hgs]
     rw [hgs]
     refine ⟨_,rfl,rfl,_,rfl,Z7 (fun c2=>?_) (fun c2=>?_)⟩
     case refine_2=>
      refine WN ⟨_,_,_,_,rfl,sK2,elt2,one (Zi.refl _) fun z=>c2 ?_⟩
      have:=z.2.1
      rw [zi] at this
      rw [kE this]
      exact kG rfl
     have h0:hh=0:=by
      have:=kE c2
      injection this
     obtain ⟨kd,kk'⟩:=q
     dsimp only at ec ft hta htK er stE one stj psz
     obtain ⟨k0',ft2⟩:=ft
     dsimp only at k0' ft2
     obtain ⟨kn,rfl⟩:=kF k0'
     have knl:kn+1<r.2.length:=by
      rcases ft2 with ⟨e,_⟩ | ⟨_,e,_⟩ | ⟨e,_⟩
      ·exact absurd (e.symm.trans ec) (by decide)
      ·lia
      ·exact absurd (e.symm.trans ec) (by decide)
     have ne:r.2.getD kn 0≠(kn:Int)+1:=fun z=>by
      unfold WH at er
      dsimp only at er
      rw [kI,z,ec,kg (by decide),kh (by rw [kG rfl];rfl)] at er
      cases er
     have tb:=ZfD ptr knl ne
     have hpK:=(sG'.trans (s'.trans sk1))
     have hppK:K2 p=some (.lst (r.2.map V.int)):=sK2 _ _ k3
     have hpcK:K2 c=some (.lst (r.1.map V.int)):=sK2 _ _ k2
     refine ⟨_,rfl,_,rfl,_,rfl,l,_,_,_,rfl,rfl,Zr.of hlK,Zo hxt,ta,_,_,_,rfl,rfl,YX.of htK,Zo (j:=1) rfl,p,kn,_,_,r.2,rfl,hppK,by lia,tb,_,rfl,Z7 (fun c3=>?_) (fun c3=>?_)⟩
     case refine_2=>
      refine ⟨_,_,_,_,rfl,sK2,elt2,one (Zi.refl _) fun z=>c3 ?_⟩
      have z2:=z.2.2
      rw [kI] at z2
      unfold ZbK at z2
      rw [z2]
      rfl
     have tq:ZbK r.2 kn=false:=by
      unfold ZbK
      simpa using c3
     refine ⟨_,rfl,.inl ⟨rfl,_,Zr.of elt2⟩,_,rfl,_,rfl,(by show 1<=sizeLine;decide),fun d1 fd1=>?_⟩
     obtain ⟨K3,z,sk3,ek3⟩:=lay (o:=.lst [.int (i:Int)]) fd1
     rw [z];clear z
     refine ⟨c,d1,_,_,rfl,rfl,sk3 _ _ hpcK,ek3,(by rw [Kg,ke];show r.1.length+1<=_;lia),fun d2 fd2=>?_⟩
     obtain ⟨K4,z,sk4,ek4⟩:=lay (o:=.lst (r.1.map V.int ++ [.int (i:Int)])) fd2
     rw [z];clear z
     refine ⟨_,rfl,(by show 2<=sizeLine;decide),fun t2 ft2'=>?_⟩
     obtain ⟨K5,z,sk5,ek5⟩:=lay (o:=.tup [.ref d2,.ref p]) ft2'
     rw [z];clear z
     have s25:=(sk3.trans sk4).trans sk5
     have elt5:=s25 _ _ elt2
     have m1:t2≠lt:=fun z=>by rw [z,(sk3.trans sk4) _ _ elt2] at ft2';cases ft2'
     have m2:d2≠lt:=fun z=>by rw [z,sk3 _ _ elt2] at fd2;cases fd2
     refine ⟨lt,_,_,rfl,rfl,elt5,(by rw [Kg,kj];show zs.length+1<_;lia),?_⟩
     refine ⟨_,_,_,_,rfl,put (sK2.trans s25),Zc,?_⟩
     rw [stj,stE,kh ⟨ec,by rw [zi,h0];rfl,by rw [kI];exact tq⟩]
     have pv2:Gb lt K5 (.ref t2) (r.1 ++ [(i:Int)],r.2):=⟨t2,d2,p,rfl,ek5,by rw [sk5 _ _ ek4,kP];rfl,s25 _ _ hppK,m1,m2,np⟩
     have h5:=Paired.snoc' pv2 (L2.Paired.imp' (fun _ _ h=>h.same s25) hz2)
     rw [Kc _ [(r.1,r')]] at h5
     exact L2.Paired.imp' (fun _ _ h=>Gb.upd h) h5
   ·rintro σ G' ⟨zs,v6,v7,v8,rfl,sG',elt,hz⟩
    refine ⟨_,rfl,lt,zs,_,_,_,_,_,_,rfl,(sG.trans sg1).trans sG',elt,?_⟩
    rw [psz,yl,qP] at *
    exact L2.Paired.imp' (fun _ _ h=>h.out) hz
  ·rintro σ G ⟨pr,ys,v3,v4,v5,v6,v7,v8,rfl,sG,epr,hy⟩
   rw [ll] at hy
   have yl:=UK hy
   have fw:=few ls.length (ki _)
   have vl6:(ZO ls zf ls.length).length<64:=ZmA n13.2 hW
   refine ⟨_,rfl,pr,rfl,⟨_,Zr.of epr⟩,Jg (K:=K) (a:=pr) (xs:=ys) (by rw [Kg];lia) (fun j zs G'=>G'=G/\Zdg G zs (((ZO ls zf ls.length).take j).map (·.1))) ⟨rfl,.nil⟩ (fun j zs G' x=>by rw [UK x.2,ke,kM];lia) (fun j zs G' x=>by rw [x.1];exact Zr.of epr) (fun j y zs G' hyj x=>?_) (fun zs G' x p hp=>?_)⟩
   ·obtain ⟨rfl,hz⟩:=x
    obtain ⟨r,hr',t,c,p,rfl,hpt,hpc,hpp⟩:=Ze5 hy hyj
    refine ⟨t,_,rfl,YX.of hpt,rfl,_,_,rfl,_,_,rfl,rfl,?_⟩
    refine ⟨_,rfl,rfl,?_⟩
    rw [Kh,hr',kP]
    exact Paired.snoc' ⟨c,rfl,hpc⟩ hz
   ·obtain ⟨rfl,hz⟩:=x
    rw [yl,qP] at hz
    have sp:Zi G' (upd G' p (.lst zs)):=Zi.laid hp
    refine ⟨p,_,_,rfl,Zr.of Zc,L2.Paired.imp' (fun _ _ ⟨a,e,h⟩=>⟨a,e,sp _ _ h⟩) hz,(by rw [UK hz,ke];exact vl6),fun d zs' vs' fd pz pv lr rise=>?_⟩
    have s0:Zi H (upd G' p (.lst zs)):=(s05.trans sG).trans sp
    refine k d _ zs' vs' (s0.trans (Zi.laid fd)) (s0.free fd) Zc (L2.Paired.imp' (fun _ _ ⟨a,e,h⟩=>⟨a,e,Zi.laid fd _ _ h⟩) lr) pv rise
abbrev DL:=List (List Int×List (List Int))
def Yq (L:DL):List (List Int×List Int):=L.flatMap fun r=>r.2.map fun ch=>(ch,r.1)
def Ue:DL->List Int->List (List Int)->DL
 | [],k,n=>[(k,n)]
 | r::L,k,n=>if r.1=k then (k,n)::L else r::Ue L k n
def GX:DL->List Int->List (List Int)
 | [],_=>[]
 | r::L,k=>if r.1=k then r.2 else GX L k
theorem Zem (k:List Int) (n:List (List Int)):∀(L:DL),∀x,x∈(Ue L k n).map (·.1) ↔ x=k∨x∈L.map (·.1)
 | [],x=>by simp [Ue]
 | r::L,x=>by
  unfold Ue
  split
  ·rename_i c;subst c;simp
  ·rw [k7,kL,Zem k n L x,k7,kL]
   constructor
   ·rintro (h | h | h)
    ·exact .inr (.inl h)
    ·exact .inl h
    ·exact .inr (.inr h)
   ·rintro (h | h | h)
    ·exact .inr (.inl h)
    ·exact .inl h
    ·exact .inr (.inr h)
theorem Zda (k:List Int) (n:List (List Int)):∀{L:DL},(L.map (·.1)).Nodup->((Ue L k n).map (·.1)).Nodup
 | [],_=>by simp [Ue]
 | r::L,nd=>by
  rw [k7,Kx] at nd
  unfold Ue
  split
  ·rename_i c
   rw [k7,Kx]
   rw [c] at nd
   exact nd
  ·rename_i c
   rw [k7,Kx,Zem]
   exact ⟨fun z=>z.elim c nd.1,Zda k n nd.2⟩
theorem Zh7 (k:List Int) {n:List (List Int)} (hn:n ≠ []):∀{L:DL},(∀r∈L,r.2 ≠ []) -> ∀r∈Ue L k n,r.2 ≠ []
 | [],_,r,hr=>by rw [kZ.mp hr];exact hn
 | r0::L,h,r,hr=>by
  unfold Ue at hr
  split at hr
  ·rcases kL.mp hr with rfl | hr
   ·exact hn
   ·exact h r (kQ _ hr)
  ·rcases kL.mp hr with rfl | hr
   ·exact h r kK
   ·exact Zh7 k hn (fun x hx=>h x (kQ _ hx)) r hr
theorem Zee (k:List Int) (more:List (List Int)):∀(L:DL),(Yq (Ue L k (GX L k++more))).Perm (Yq L++more.map fun ch=>(ch,k))
 | []=>by simp [Ue,GX,Yq]
 | r::L=>by
  unfold Ue GX
  by_cases c:r.1=k
  ·rw [kh c,kh c]
   unfold Yq
   rw [K0,K0,kP,c,Kc,Kc]
   exact qp _ Xv
  ·rw [kg c,kg c]
   unfold Yq
   rw [K0,K0,Kc]
   exact qp _ (Zee k more L)
theorem Zis:∀{L:DL},(∀r∈L,r.2 ≠ [])->L.length<=(Yq L).length
 | [],_=>Km _
 | r::L,h=>by
  unfold Yq
  rw [K0,kj,ke,KJ]
  have h1:=Zis (L:=L) fun x hx=>h x (kQ _ hx)
  have h2:0<r.2.length:=List.length_pos_iff.mpr (h r kK)
  unfold Yq at h1
  lia
theorem ZhN (k:List Int):∀L:DL,(GX L k).length<=(Yq L).length
 | []=>Km _
 | r::L=>by
  unfold GX Yq
  rw [K0,kj,ke]
  split
  ·lia
  ·have:=ZhN k L
   unfold Yq at this
   lia
def ZbV (t:Nat) (chs:List (List Int)) (w:List Int×Bool):List (List Int×List Int):=(if w.2=true then chs.map fun ch=>ch ++ [(t:Int)] else chs).map fun ch=>(ch,w.1)
theorem Zib (ps:List Int) (q:Str×Int) (h:Option Int) (hq:q.1 = "born" ∨ q.1 = "end" ∨ q.1 = "cross"):Wn ps q h=match WH ps q with
  | none=>[]
  | some r=>(r,false)::(if q.1 = "cross" /\ h=some 0/\ZbK ps q.2.toNat=false then [(ps,true)] else []):=by
 unfold Wn WH
 by_cases c1:q.1 = "born"
 ·rw [kh c1,kh c1]
  dsimp only
  rw [kg (fun z=>absurd (c1.symm.trans z.1) (by decide))]
 ·rw [kg c1,kg c1]
  by_cases c2:(decide (ps.getD q.2.toNat 0=q.2+1) != decide (q.1 = "end"))=true
  ·rw [kh c2,kh c2]
  ·rw [kg c2,kg c2]
   by_cases c3:q.1 = "end"
   ·rw [kh c3,kh c3]
    dsimp only
    rw [kg (fun z=>absurd (c3.symm.trans z.1) (by decide))]
   ·rw [kg c3,kg c3]
    have c4:q.1 = "cross" := (hq.resolve_left c1).resolve_left c3
    dsimp only
    unfold ZbK
    congr 1
    by_cases c5:h=some 0/\W8 q.2.toNat (ps.getD q.2.toNat 0).toNat (ps.getD (q.2.toNat+1) 0).toNat=false
    ·rw [kh c5,kh ⟨c4,c5⟩]
    ·rw [kg c5,kg (fun z=>c5 z.2)]
theorem Zmo {α β:Type} (f g:α -> β) (c:Prop) [Decidable c]:∀l:List α,(l.flatMap fun x=>f x::(if c then [g x] else [])).Perm (l.map f++if c then l.map g else [])
 | []=>by simp
 | x::l=>by
  have ih:=Zmo f g c l
  rw [K0,k7]
  by_cases h:c
  ·rw [kh h,kh h] at *
   rw [k7]
   refine List.Perm.cons _ ?_
   refine (List.Perm.cons _ ih).trans ?_
   exact List.perm_middle.symm
  ·rw [kg h,kg h] at *
   exact List.Perm.cons _ ih
theorem ZiQ (ps:List Int) (q:Str×Int) (h:Option Int) (t:Nat) (hq:q.1 = "born" ∨ q.1 = "end" ∨ q.1 = "cross") (chs:List (List Int)):
  ((Wn ps q h).flatMap (ZbV t chs)).Perm ((chs.map fun ch=>(ch,ps)).flatMap (YD q (decide (h=some 0)) t)):=by
 rw [Zib ps q h hq,List.flatMap_map]
 unfold YD
 dsimp only
 cases hm:WH ps q with
 | none=>simp
 | some r=>
  dsimp only
  refine List.Perm.symm ?_
  refine ((Zmo (fun ch=>((ch,r):List Int×List Int)) (fun ch=>(ch ++ [(t:Int)],ps)) (q.1 = "cross" /\ decide (h=some 0)=true/\ZbK ps q.2.toNat=false) chs).trans ?_)
  rw [K0]
  refine List.Perm.of_eq ?_
  unfold ZbV
  by_cases c:q.1 = "cross" /\ h=some 0/\ZbK ps q.2.toNat=false
  ·rw [kh c,kh ⟨c.1,kG c.2.1,c.2.2⟩]
   simp
  ·rw [kg c,kg (fun z=>c ⟨z.1,kE z.2.1,z.2.2⟩)]
   simp
def W7 (G:Hp) (kv:List Key×V) (r:List Int×List (List Int)):Prop:=kv.1=kW r.1 /\ ∃(a:Addr) (ws:List V),kv.2 = .ref a/\G a=some (.lst ws)/\Words G ws r.2
theorem W7.mono {G G':Hp} (h1:∀a ws,G a=some (.lst ws)->G' a=some (.lst ws)) (h2:∀a ws,G a=some (.tup ws)->G' a=some (.tup ws)) {kv:List Key×V}{r:List Int×List (List Int)}:W7 G kv r->W7 G' kv r
 | ⟨e,a,ws,e2,h,w⟩=>⟨e,a,ws,e2,h1 _ _ h,L2.Paired.imp' (fun _ _ ⟨b,e,h⟩=>⟨b,e,h2 _ _ h⟩) w⟩
theorem ZcR {G:Hp}{k:List Int}:∀{kvs:List (List Key×V)}{L:DL},Paired (W7 G) kvs L->(Jo kvs (kW k)=none/\GX L k = []) ∨ ∃(a:Addr) (ws:List V),Jo kvs (kW k)=some (.ref a)/\G a=some (.lst ws)/\Words G ws (GX L k)
 | _,_,.nil=>.inl ⟨rfl,rfl⟩
 | _,_,.cons (a:=kv) (b:=r) ⟨e,a,ws,e2,h,w⟩ t=>by
  by_cases c:r.1=k
  ·refine .inr ⟨a,ws,?_,h,?_⟩
   ·rw [YO (by rw [e,c]),e2]
   ·unfold GX;rw [kh c];exact w
  ·have:=ZcR (k:=k) t
   rw [YL (by rw [e];exact fun z=>c (Zg0 z))]
   unfold GX
   rw [kg c]
   exact this
theorem ZiS {p:List Key×V}{r:List (List Key×V)}{k:List Key}{v:V} (e:¬p.1=k):putK (p::r) k v=p::putK r k v:=by
 unfold putK
 rw [qW,Kn e,Bool.false_or]
 split
 ·rw [k7,kg e]
 ·rfl
theorem Zf7 {G:Hp}{k:List Int}{p:Addr}{ws:List V}{n:List (List Int)} (hp:G p=some (.lst ws)) (hw:Words G ws n):∀{kvs:List (List Key×V)}{L:DL},(L.map (·.1)).Nodup->Paired (W7 G) kvs L->Paired (W7 G) (putK kvs (kW k) (.ref p)) (Ue L k n)
 | _,_,_,.nil=>.cons ⟨rfl,p,ws,rfl,hp,hw⟩ .nil
 | kv::kvs,r::L,nd,.cons ⟨e,a,ws',e2,h,w⟩ t=>by
  rw [k7,Kx] at nd
  by_cases c:r.1=k
  ·have e1:kv.1=kW k:=by rw [e,c]
   have un:∀{kvs:List (List Key×V)}{L:DL},Paired (W7 G) kvs L->k∉L.map (·.1)->kvs.map (fun x=>if x.1=kW k then (x.1,V.ref p) else x)=kvs:=fun {kvs L} t hk=>by
    induction t with
    | nil=>rfl
    | cons r0 t ih=>
     rw [k7,kL,not_or] at hk
     rw [k7,ih hk.2,kg (by rw [r0.1];exact fun z=>hk.1 (Zg0 z).symm)]
   unfold putK Ue
   rw [kh c,kh (by rw [qW,kG e1,MY]),k7,kh e1,un t (by rw [<- c];exact nd.1)]
   exact .cons ⟨e1,p,ws,rfl,hp,hw⟩ t
  ·rw [ZiS (by rw [e];exact fun z=>c (Zg0 z))]
   unfold Ue
   rw [kg c]
   exact .cons ⟨e,a,ws',e2,h,w⟩ (Zf7 hp hw nd.2 t)
def ZoF (K:PySem.W.Frag) (sp:Sp):TS:=
 ZfK (Zcz (ZfR sp [] E0 (U6 (JC 0) (U6 (JC 1) Zbm))) (JX 2))
  (ZfK (Zcz (ZkC (ZkP Zbm) (Zk2 (U6 (ZkP Zbm) Zbm))) (JX 3))
   (ZfK
    (Zlr (ZkT K (U6 (JC 0) Zbm)) (ZkI K 2 (Zdm (JX 4) (Zdm (JX 5) ZlH)))
     (ZfK (Zcz Zkh (JX 6))
      (ZfK
       (Zlr (Zj8 (JC 3)) (ZkI K 2 (Zdm (JX 7) (Zdm (JX 8) ZlH)))
        (Zlr
         (Zgc K
          (ZfR Ze0 [] E0 (U6 (JC 7) (U6 (JC 5) (U6 (ZkH (JC 2) (JC 4)) Zbm)))))
         (ZkI K 2 (Zdm (JX 9) (Zdm (JX 10) ZlH)))
         (ZfK
          (Zcz
           (tIf (tB (JC 10))
            (tLc [Str.ofString "one"].length [4] (Zgc K (JC 8)) (JX 0) Zd3
             (tOp Zkg (JC 0) (ZkP (U6 (JC 1) Zbm))))
            (JC 8))
           (JX 11))
          (Zcz (tOp Znx (Zfe (JC 6) (JC 9) (Zk2 Zbm)) (JC 11)) (Zjf (JC 6) (JC 9) Zgw)))))
       (Zcz (JC 6) (JX 3)))))
    (Zoj
     (tLc [Str.ofString "one"].length []
      (Zgc K (tCB (Ze8 K) (U6 (Zfe (JC 3) (ZkP Zbm) (Zk2 Zbm)) Zbm))) (JX 0) Zd3
      (tCB
       (fun xs H Q=>
        ∃p ys,
         xs = [V.ref p] /\
          (Zr K H p ys∨YX K H p ys) /\ ∀(l:Addr),H l=none->Q (V.ref l) (upd H l (HO.lst ys)))
       (U6 (JC 0) Zbm))))))
def Zlb:Sp:=fun vs H Q _=>∃(l:Addr) (sc:Int) (ls:List (Str×Int)) (g:Int->Int),vs = [.ref l,.int sc]/\(sc=0∨sc=1)/\Drw H l ls/\HG sc ls g /\ ∀(p:Addr) (H':Hp) (kvs:List (Key×V)),Zi H H'->H p=none->H' p=some (.dK kvs)->(∀t:Nat,t<ls.length->Jo kvs (Sum.inl (t:Int))=(UJ g ls t).map V.int)->Q (.ref p) H'
def Znz:Sp:=fun vs H Q _=>∃(l:Addr) (sc:Int) (ls:List (Str×Int)) (g:Int->Int),vs = [.ref l,.int sc]/\(sc=0∨sc=1)/\Drw H l ls/\HG sc ls g/\(nX ls<=13/\Crl 8 ls) /\ ∀(p:Addr) (H':Hp) (as:List Addr) (ws:List (List Int)),Zi H H'->H p=none->H' p=some (.lst (as.map V.ref))->as.Nodup->(∀a∈as,H a=none/\a≠p)->Paired (fun a w=>H' a=some (.lst (w.map V.int))) as ws->ws.Perm ((ZO ls (fun i=>decide (UJ g ls i=some 0)) ls.length).map (·.1))->ZdU ws->Q (.ref p) H'
theorem ZoA {G:Hp}{b:Addr}{k:List Int} (h:G b=some (.tup ((kW k).map kV))):Jn G (.ref b) k:=⟨b,rfl,by rw [h,Zox]⟩
theorem Zcc:∀{L:DL}{r:List Int×List (List Int)},r∈L->r.2.length<=(Yq L).length
 | r0::L,r,h=>by
  unfold Yq
  rw [K0,kj,ke]
  rcases kL.mp h with rfl | h
  ·lia
  ·have:=Zcc h
   unfold Yq at this
   lia
theorem Zfl (L:DL) (j:Nat):(Yq (L.take j)).length<=(Yq L).length:=by
 have:Yq L=Yq (L.take j)++Yq (L.drop j):=by
  unfold Yq
  rw [<- Xa,KW]
 rw [this,kj]
 lia
theorem Zkj (ps:List Int) (q:Str×Int) (h:Option Int) (hq:q.1 = "born" ∨ q.1 = "end" ∨ q.1 = "cross"):(Wn ps q h).length<=2:=by
 rw [Zib ps q h hq]
 split
 ·simp
 ·split<;>simp
theorem ZjA {H:Hp}{Q:VK} (l:Addr) (sc:Int) (ls:List (Str×Int)) (g:Int->Int) (hsc:sc=0∨sc=1) (dr:Drw H l ls) (hg:HG sc ls g) (n13:nX ls<=13/\Crl 8 ls)
  (k:∀(p:Addr) (H':Hp) (as:List Addr) (ws:List (List Int)),Zi H H'->H p=none->H' p=some (.lst (as.map V.ref))->as.Nodup->(∀a∈as,H a=none/\a≠p)->Paired (fun a w=>H' a=some (.lst (w.map V.int))) as ws->ws.Perm ((ZO ls (fun i=>decide (UJ g ls i=some 0)) ls.length).map (·.1))->ZdU ws->Q (.ref p) H'):
  ZoF K Zlb { nx:=fun x H'=>Q V.non H',rt:=Q } (L2.start [Str.ofString "drawing", Str.ofString "scale", Str.ofString "heights", Str.ofString "begun", Str.ofString "t", Str.ofString "letter", Str.ofString "behind", Str.ofString "partners", Str.ofString "lists", Str.ofString "then", Str.ofString "changed", Str.ofString "more"] [.ref l,.int sc]) H:=by
 obtain ⟨xs,hl,hL,hW,hlen⟩:=id dr
 have hxl:=hL.len
 refine ⟨_,rfl,_,rfl,l,sc,ls,g,rfl,hsc,dr,hg,fun hp H1 kvh s1 fh eh vh=>?_⟩
 refine fun bg0 fb=>?_
 obtain ⟨H2,z,s2,e2⟩:=lay (o:=.dT []) fb
 rw [z];clear z
 refine ⟨(by show 0<=sizeLine;exact Km _),fun e0 fe0=>?_⟩
 obtain ⟨H3,z,s3,e3⟩:=lay (o:=.tup []) fe0
 rw [z];clear z
 refine ⟨(by show 0<=sizeLine;exact Km _),fun e1 fe1=>?_⟩
 obtain ⟨H4,z,s4,e4⟩:=lay (o:=.tup []) fe1
 rw [z];clear z
 refine ⟨(by show 1<=sizeLine;decide),fun l1 fl1=>?_⟩
 obtain ⟨H5,z,s5,e5⟩:=lay (o:=.lst [.ref e1]) fl1
 rw [z];clear z
 have b5:=s5 _ _ (s4 _ _ (s3 _ _ e2))
 refine ⟨b5,e0,[],rfl,s5 _ _ (s4 _ _ e3),?_⟩
 obtain ⟨G0,eG0⟩:∃G0,upd H5 bg0 (.dT [([],.ref l1)])=G0:=⟨_,rfl⟩
 rw [eG0]
 have s15:Zi H1 H5:=((s2.trans s3).trans s4).trans s5
 have sG0:Zi H1 G0:=fun c o e=>by rw [<- eG0,Zh (Zf e fb)];exact s15 c o e
 have n1:l1≠bg0:=Wr e5 b5 (fun z=>nomatch z)
 have n2:e1≠bg0:=Wr (s5 _ _ e4) b5 (fun z=>nomatch z)
 have g1:G0 l1=some (.lst [.ref e1]):=by rw [<- eG0,Zh n1];exact e5
 have g2:G0 e1=some (.tup []):=by rw [<- eG0,Zh n2];exact s5 _ _ e4
 have g3:G0 bg0=some (.dT [([],.ref l1)]):=by rw [<- eG0];exact Zc
 obtain ⟨zf,ezf⟩:∃zf:Nat->Bool,zf=fun i=>decide (UJ g ls i=some 0):=⟨_,rfl⟩
 rw [<- ezf] at k
 have few:∀i,i<=ls.length->(ZO ls zf i).length<=8192:=fun i hi=>by
  refine k9 (ZaC i hi) (k9 (Ts (by decide) (k9 (Zfk ls i) n13.1)) (by decide))
 have hl1:=s1 _ _ hl
 refine ⟨_,rfl,l,rfl,⟨_,Zr.of (sG0 _ _ hl1)⟩,Zaw (K:=K) (a:=l) (xs:=xs) (fun i σ G=>∃(bg:Addr) (kvs:List (List Key×V)) (L:DL) (v4 v5 v6 v7 v8 v9 v10 v11:Option V),σ = [some (.ref l),some (.int sc),some (.ref hp),some (.ref bg),v4,v5,v6,v7,v8,v9,v10,v11]/\Zi H1 G/\H1 bg=none/\G bg=some (.dT kvs)/\Paired (W7 G) kvs L/\(L.map (·.1)).Nodup/\(∀r∈L,r.2 ≠ [])/\(Yq L).Perm (ZO ls zf i))
  ⟨bg0,_,[([],[[]])],_,_,_,_,_,_,_,_,rfl,sG0,fb,g3,.cons ⟨rfl,l1,_,rfl,g1,.cons ⟨e1,rfl,g2⟩ .nil⟩ .nil,by simp,by simp,XY _⟩ (fun i σ G _ ⟨_,_,_,_,_,_,_,_,_,_,_,_,s',_⟩=>Zr.of (s' _ _ hl1)) ?_ ?_⟩
 ·rintro i x pe σ G hx ⟨bg,kvs,L,v4,v5,v6,v7,v8,v9,v10,v11,rfl,sG,fbg,ebg,hB,nd,ne,pm⟩ fpe
  obtain ⟨q,ta,hq,rfl,hta⟩:=hL.get hx
  have hi:i<ls.length:=(kC.mp hq).1
  obtain ⟨n,wn,al⟩:=Zbf (z:=zf) hW i (by lia)
  obtain ⟨m,ft⟩:∃m,Zke q n m:=by
   obtain ⟨m,wm⟩:=W0 hW (i+1)
   rw [Kh,hq] at wm
   obtain ⟨n',wn',ft⟩:=ZcE (show Wk (ls.take i ++ [q]) m from wm)
   rw [ZbO wn wn']
   exact ⟨m,ft⟩
  have n2:=Zbr wn
  have tl:(ls.take i).length=i:=by rw [kM];lia
  have psz:ZO ls zf (i+1)=(ZO ls zf i).flatMap (YD q (zf i) i):=by rw [ZO,hq]
  have kq:q.1 = "born" ∨ q.1 = "end" ∨ q.1 = "cross" := by
   rcases ft.2 with ⟨e,_⟩ | ⟨e,_⟩ | ⟨e,_⟩
   ·exact .inl e
   ·exact .inr (.inr e)
   ·exact .inr (.inl e)
  refine ⟨pe,_,rfl,YX.of Zc,rfl,_,_,rfl,_,_,rfl,rfl,?_⟩
  obtain ⟨G1,z,sg1,eg1⟩:=lay (o:=.tup [.int (i:Int),.ref ta]) fpe
  rw [z];clear z
  refine fun bh fbh=>?_
  obtain ⟨G2,z,sg2,eg2⟩:=lay (o:=.dT []) fbh
  rw [z];clear z
  have ebg2:=sg2 _ _ (sg1 _ _ ebg)
  have nbb:bg≠bh:=Zf (sg1 _ _ ebg) fbh
  refine ⟨_,rfl,bg,kvs,rfl,ebg2,fun o=>?_⟩
  obtain ⟨G3,eG3⟩:∃G3,upd G2 bg (.frz o (.dT kvs))=G3:=⟨_,rfl⟩
  rw [eG3]
  have fr3:Jh bg G2 G3:=by rw [<- eG3];exact Jh.upd
  have sH2:Zi H1 G2:=(sG.trans sg1).trans sg2
  have sH3:Zi H1 G3:=fun c u e=>fr3 c u (sH2 c u e) (Zf e fbg)
  have ebg3:G3 bg=some (.frz o (.dT kvs)):=by rw [<- eG3];exact Zc
  have ebh3:G3 bh=some (.dT []):=fr3 _ _ eg2 (Ko nbb)
  have fbhH:H1 bh=none:=(sG.trans sg1).free fbh
  have hB3:Paired (W7 G3) kvs L:=L2.Paired.imp' (fun _ _ h=>h.mono (fun a ws e=>fr3 a _ (sg2 _ _ (sg1 _ _ e)) (Wr e ebg (fun z=>nomatch z))) (fun a ws e=>fr3 a _ (sg2 _ _ (sg1 _ _ e)) (Wr e ebg (fun z=>nomatch z)))) hB
  have kl:=UK hB
  have zi:zf i=decide (UJ g ls i=some 0):=by rw [ezf]
  have lim:∀{X:List (List Int×List Int)}{T:DL} , True:=fun {_ _}=>trivial
  refine ZiV (d:=bg) (o:=o) (kvs:=kvs) (fun j σ G'=>∃(kb:List (List Key×V)) (B:DL) (v7 v8 v9 v10 v11:Option V),σ = [some (.ref l),some (.int sc),some (.ref hp),some (.ref bg),some (.int (i:Int)),some (.ref ta),some (.ref bh),v7,v8,v9,v10,v11]/\Jh bh G3 G'/\G' bh=some (.dT kb)/\Paired (W7 G') kb B/\(B.map (·.1)).Nodup/\(∀r∈B,r.2 ≠ [])/\(Yq B).Perm ((Yq (L.take j)).flatMap (YD q (zf i) i)))
   ⟨[],[],_,_,_,_,_,rfl,Jh.refl _ _,ebh3,.nil,by simp,by simp,XY _⟩ (fun j σ G' _ ⟨_,_,_,_,_,_,_,_,f',_⟩=>f' _ _ ebg3 nbb) ?_ ?_
  ·rintro j kk xv t b σ G' hkv ⟨kb,B,v7,v8,v9,v10,v11,rfl,f',ebh,hBB,ndB,neB,pmB⟩ ftt htb
   obtain ⟨r,hr',ek,al0,ws,exv,hws,hww⟩:=Ze5 hB3 hkv
   dsimp only at ek exv
   subst ek exv
   have rm:r∈L:=kY hr'
   obtain ⟨ch0,hch0⟩:∃ch,ch∈r.2:=T3 _ (ne r rm)
   have inp:(ch0,r.1)∈ZO ls zf i:=pm.mem_iff.mp (Kz.mpr ⟨r,rm,K7.mpr ⟨ch0,hch0,rfl⟩⟩)
   obtain ⟨ptr,lr⟩:=al _ inp
   dsimp only at ptr lr
   refine ⟨t,_,rfl,YX.of Zc,rfl,_,_,rfl,_,_,rfl,rfl,?_⟩
   obtain ⟨G4,z,sg4,eg4⟩:=lay (o:=.tup [.ref b,.ref al0]) ftt
   rw [z];clear z
   have f4:Jh bh G3 G4:=f'.trans sg4.frm
   have hp4:G4 hp=some (.dK kvh):=f4 _ _ (sH3 _ _ eh) (Zf eh fbhH)
   have ta4:G4 ta=some (.tup [.str q.1,.int q.2]):=f4 _ _ (sH3 _ _ (s1 _ _ hta)) (Zf (s1 _ _ hta) fbhH)
   refine ⟨_,rfl,_,rfl,_,rfl,hp,rfl,.inl ⟨_,.inl hp4⟩,_,rfl,_,.inl ⟨kvh,.inl (i:Int),.inl hp4,rfl,rfl⟩,?_⟩
   rw [vh i hi]
   refine ⟨.ref b,ta,q,UJ g ls i,r.1,(by cases UJ g ls i<;>rfl),ZoA (sg4 _ _ htb),ta4,by lia,ptr,ft.1,?_,?_,kq,fun p ys H6 s6 e6 pw=>?_⟩
   ·intro nb
    rcases ft.2 with ⟨e,_⟩ | ⟨_,e,_⟩ | ⟨_,e,_⟩
    ·exact absurd e nb
    ·lia
    ·lia
   ·intro ec z
    have kt:isK ls UA i=true:=by rw [Zav hq (pr:=UA),ec];decide
    unfold UJ at z
    rw [kt] at z
    cases z
   have ebh6:H6 bh=some (.dT kb):=s6 _ _ (sg4 _ _ ebh)
   have nl:∀{a:Addr}{w:List V},G3 a=some (.lst w)->a≠bh:=fun e=>Wr e ebh3 (fun z=>nomatch z)
   have nt:∀{a:Addr}{w:List V},G3 a=some (.tup w)->a≠bh:=fun e=>Wr e ebh3 (fun z=>nomatch z)
   have al6:H6 al0=some (.lst ws):=s6 _ _ (f4 _ _ hws (nl hws))
   have ww6:Words H6 ws r.2:=L2.Paired.imp' (fun _ _ ⟨c,e,h⟩=>⟨c,e,s6 _ _ (f4 _ _ h (nt h))⟩) hww
   have hB6:Paired (W7 H6) kb B:=L2.Paired.imp' (fun _ _ h=>h.mono (fun a w e=>s6 _ _ (sg4 _ _ e)) (fun a w e=>s6 _ _ (sg4 _ _ e))) hBB
   have f6:Jh bh G3 H6:=f4.trans s6.frm
   have fle:=Zfl L j
   have pml:=pm.length_eq
   have fw:=few i (by lia)
   have rle:=Zcc rm
   have w2:=Zkj r.1 q (UJ g ls i) kq
   have bl:((Yq (L.take j)).flatMap (YD q (zf i) i)).length<=16384:=k9 (Zau _ 2 _ fun x _=>Zgz _ _ _ x) (by lia)
   have wxl:∀w:List Int×Bool,(ZbV i r.2 w).length=r.2.length:=fun w=>by unfold ZbV;split<;>simp
   have stj:((Yq (L.take (j+1))).flatMap (YD q (zf i) i))=((Yq (L.take j)).flatMap (YD q (zf i) i))++((r.2.map fun ch=>(ch,r.1)).flatMap (YD q (zf i) i)):=by
    rw [Kh,hr']
    unfold Yq
    rw [Xa,Xa]
    simp
   refine ⟨p,rfl,⟨_,Zr.of e6⟩,JD (K:=K) (a:=p) (xs:=ys) (fun m σ G''=>∃(kb:List (List Key×V)) (B:DL) (v9 v10 v11:Option V),σ = [some (.ref l),some (.int sc),some (.ref hp),some (.ref bg),some (.int (i:Int)),some (.ref ta),some (.ref bh),some (.ref b),some (.ref al0),v9,v10,v11]/\Jh bh H6 G''/\G'' bh=some (.dT kb)/\Paired (W7 G'') kb B/\(B.map (·.1)).Nodup/\(∀r∈B,r.2 ≠ [])/\(Yq B).Perm ((Yq (L.take j)).flatMap (YD q (zf i) i)++((Wn r.1 q (UJ g ls i)).take m).flatMap (ZbV i r.2)))
    ⟨kb,B,_,_,_,rfl,Jh.refl _ _,ebh6,hB6,ndB,neB,by rw [List.take_zero];simpa using pmB⟩ (fun m σ G'' _ ⟨_,_,_,_,_,_,f',_⟩=>Zr.of (f' _ _ e6 (Wr e6 ebh6 (fun z=>nomatch z)))) ?_ ?_⟩
   ·rintro m y σ G'' hym ⟨kb,B,v9,v10,v11,rfl,f7,eb7,hB7,nd7,ne7,pm7⟩
    obtain ⟨⟨th,c⟩,hw',t',x',rfl,ht',tb',ex',htb'⟩:=Ze5 pw hym
    dsimp only at ht' htb'
    subst ex'
    have nl6:∀{a:Addr}{w:List V},H6 a=some (.lst w)->a≠bh:=fun e=>Wr e ebh6 (fun z=>nomatch z)
    have nt6:∀{a:Addr}{w:List V},H6 a=some (.tup w)->a≠bh:=fun e=>Wr e ebh6 (fun z=>nomatch z)
    have ht7:=f7 _ _ ht' (nt6 ht')
    have htb7:=f7 _ _ htb' (nt6 htb')
    have al7:=f7 _ _ al6 (nl6 al6)
    have ww7:Words G'' ws r.2:=L2.Paired.imp' (fun _ _ ⟨c,e,h⟩=>⟨c,e,f7 _ _ h (nt6 h)⟩) ww6
    have fbl:(Yq B).length<=32768:=by
     rw [pm7.length_eq,kj]
     have h1:(((Wn r.1 q (UJ g ls i)).take m).flatMap (ZbV i r.2)).length<=2*8192:=by
      refine k9 (Zau _ 8192 _ fun w _=>?_) (Mk _ ?_)
      ·rw [wxl];lia
      ·rw [kM];lia
     lia
    have fin:∀(D:Ends) (mr:Addr) (wm:List V) (chs:List (List Int)) (G7:Hp),Zi G'' G7->G7 mr=some (.lst wm)->Words G7 wm chs->chs.length<=8192 ->
      (∀(kb':List (List Key×V)) (G8:Hp),Jh bh H6 G8->G8 bh=some (.dT kb')->Paired (W7 G8) kb' (Ue B th (GX B th++chs))->D.nx [some (.ref l),some (.int sc),some (.ref hp),some (.ref bg),some (.int (i:Int)),some (.ref ta),some (.ref bh),some (.ref b),some (.ref al0),some (.ref tb'),some (.bl c),some (.ref mr)] G8) ->
      Zcz (tOp Znx (Zfe (JC 6) (JC 9) (Zk2 Zbm)) (JC 11)) (Zjf (JC 6) (JC 9) Zgw) D [some (.ref l),some (.int sc),some (.ref hp),some (.ref bg),some (.int (i:Int)),some (.ref ta),some (.ref bh),some (.ref b),some (.ref al0),some (.ref tb'),some (.bl c),some (.ref mr)] G7:=by
     intro D mr wm chs G7 s7 emr hwm lc kD
     have eb8:=s7 _ _ eb7
     refine ⟨_,rfl,bh,rfl,.inr ⟨_,.inl eb8⟩,_,rfl,(by show 0<=sizeLine;exact Km _),fun dl fdl=>?_⟩
     obtain ⟨G9,z,s9,e9⟩:=lay (o:=.lst []) fdl
     rw [z];clear z
     have s79:=s7.trans s9
     have eb9:=s79 _ _ eb7
     have tb9:G9 tb'=some (.tup ((kW th).map kV)):=by rw [Zox];exact s79 _ _ htb7
     have hB9:Paired (W7 G9) kb B:=L2.Paired.imp' (fun _ _ h=>h.mono (fun a w e=>s79 _ _ e) (fun a w e=>s79 _ _ e)) hB7
     have wm9:Words G9 wm chs:=Words.same s9 hwm
     have kbl:=UK hB9
     have fge:=Zis ne7
     have vle:=ZhN th B
     have wml:=UK hwm
     have put:∀(old:List V),Words G9 old (GX B th) -> ∀np,G9 np=none->D.nx [some (.ref l),some (.int sc),some (.ref hp),some (.ref bg),some (.int (i:Int)),some (.ref ta),some (.ref bh),some (.ref b),some (.ref al0),some (.ref tb'),some (.bl c),some (.ref mr)] (upd (upd G9 np (.lst (old++wm))) bh (.dT (putK kb (kW th) (.ref np)))):=fun old ho np fnp=>by
      obtain ⟨G10,z,s10,e10⟩:=lay (o:=.lst (old++wm)) fnp
      rw [z];clear z
      have eb10:=s10 _ _ eb9
      have app:∀{a b:List V}{x y:List (List Int)},Words G10 a x->Words G10 b y->Words G10 (a++b) (x++y):=fun {a b x y} h1 h2=>by
       induction h1 with
       | nil=>exact h2
       | cons r _ ih=>exact .cons r ih
      have p10:=Zf7 (k:=th) e10 (app (Words.same s10 ho) (Words.same s10 wm9)) nd7 (L2.Paired.imp' (fun _ _ h=>h.mono (fun a w e=>s10 _ _ e) (fun a w e=>s10 _ _ e)) hB9)
      refine kD _ _ ?_ Zc (L2.Paired.imp' (fun _ _ h=>h.mono (fun a w e=>?_) (fun a w e=>?_)) p10)
      ·exact (f7.trans (s79.trans s10).frm).trans Jh.upd
      ·rw [Zh (Wr e eb10 (fun z=>nomatch z))];exact e
      ·rw [Zh (Wr e eb10 (fun z=>nomatch z))];exact e
     have tb10:∀{np:Addr}{w:List V},G9 np=none->(upd G9 np (.lst w)) tb'=some (.tup ((kW th).map kV)):=fun h=>Zi.laid h _ _ tb9
     have eb10:∀{np:Addr}{w:List V},G9 np=none->(upd G9 np (.lst w)) bh=some (.dT kb):=fun h=>Zi.laid h _ _ eb9
     rcases ZcR (k:=th) hB9 with ⟨hv,hva⟩ | ⟨a1,ws1,hv,ha1,hw1⟩
     ·refine ⟨none,.inr ⟨kb,kW th,tb',.inl eb9,rfl,tb9,hv.symm⟩,_,rfl,dl,mr,[],wm,rfl,rfl,e9,s9 _ _ emr,(by rw [Kg];simp;lia),fun np fnp=>?_⟩
      refine ⟨_,rfl,_,rfl,bh,_,rfl,.inr ⟨kb,kW th,tb',eb10 fnp,rfl,tb10 fnp,(by rw [Kg];lia),rfl⟩,put [] (by rw [hva];exact .nil) np fnp⟩
     ·refine ⟨some (.ref a1),.inr ⟨kb,kW th,tb',.inl eb9,rfl,tb9,hv.symm⟩,_,rfl,a1,mr,ws1,wm,rfl,rfl,ha1,s9 _ _ emr,(by have:=UK hw1;rw [Kg];lia),fun np fnp=>?_⟩
      refine ⟨_,rfl,_,rfl,bh,_,rfl,.inr ⟨kb,kW th,tb',eb10 fnp,rfl,tb10 fnp,(by rw [Kg];lia),rfl⟩,put ws1 hw1 np fnp⟩
    have stm:((Wn r.1 q (UJ g ls i)).take (m+1)).flatMap (ZbV i r.2)=((Wn r.1 q (UJ g ls i)).take m).flatMap (ZbV i r.2)++ZbV i r.2 (th,c):=by
     rw [Kh,hw',Xa]
     simp
    have don:∀(chs:List (List Int)),chs ≠ []->chs.map (fun ch=>(ch,th))=ZbV i r.2 (th,c)->((Ue B th (GX B th++chs)).map (·.1)).Nodup/\(∀r∈Ue B th (GX B th++chs),r.2 ≠ [])/\(Yq (Ue B th (GX B th++chs))).Perm ((Yq (L.take j)).flatMap (YD q (zf i) i)++((Wn r.1 q (UJ g ls i)).take (m+1)).flatMap (ZbV i r.2)):=fun chs hne he=>by
     refine ⟨Zda _ _ nd7,Zh7 _ (by simp [hne]) ne7,?_⟩
     refine (Zee th chs B).trans ?_
     rw [stm,<- Kc,he]
     exact XZ _ pm7
    refine ⟨t',_,rfl,YX.of ht7,rfl,_,_,rfl,_,_,rfl,rfl,?_⟩
    refine ⟨_,rfl,_,rfl,Z7 (fun cc=>?_) (fun cc=>?_)⟩
    ·have chl:∀ch∈r.2,ch.length<=i:=fun ch hc=>U4 i (ch,r.1) (pm.mem_iff.mp (Kz.mpr ⟨r,rm,K7.mpr ⟨ch,hc,rfl⟩⟩))
     have wsl:=UK ww7
     refine ⟨_,rfl,al0,rfl,⟨_,Zr.of al7⟩,Jg (K:=K) (a:=al0) (xs:=ws) (by rw [Kg];lia) (fun n zs G7=>Zi G'' G7/\Words G7 zs ((r.2.map fun ch=>ch ++ [(i:Int)]).take n)) ⟨Zi.refl _,.nil⟩ (fun n zs G7 x=>by rw [UK x.2,kM];lia) (fun n zs G7 x=>Zr.of (x.1 _ _ al7)) (fun n y zs G7 hy x=>?_) (fun zs G7 x D hD=>?_)⟩
     ·obtain ⟨s7,hz⟩:=x
      obtain ⟨ch,hch,wch⟩:=Ze5 ww7 hy
      have cl:=chl ch (kY hch)
      refine ⟨_,rfl,_,rfl,(by show 1<=sizeLine;decide),fun tt ftt'=>?_⟩
      obtain ⟨G9,z,s9,e9⟩:=lay (o:=.tup [.int (i:Int)]) ftt'
      rw [z];clear z
      refine ZbH (b:=[(i:Int)]) (Jn.same (s7.trans s9) wch) ⟨tt,rfl,e9⟩ (by rw [Kg];show ch.length+1<=_;lia) fun v G10 s10 w10=>⟨(s7.trans s9).trans s10,?_⟩
      rw [Kh,kz,hch]
      exact Paired.snoc' w10 (Words.same (s9.trans s10) hz)
     ·obtain ⟨s7,hz⟩:=x
      rw [wsl,kJ (by rw [ke];exact ki _)] at hz
      refine fin _ D zs _ _ (s7.trans (Zi.laid hD)) Zc (Words.same (Zi.laid hD) hz) (by rw [ke];lia) fun kb' G8 f8 e8 p8=>?_
      obtain ⟨d1,d2,d3⟩:=don (r.2.map fun ch=>ch ++ [(i:Int)]) (by simp [ne r rm]) (by unfold ZbV;rw [kh cc])
      exact ⟨kb',_,_,_,_,rfl,f8,e8,p8,d1,d2,d3⟩
    ·refine ⟨_,rfl,fin _ al0 ws r.2 G'' (Zi.refl _) al7 ww7 (by lia) fun kb' G8 f8 e8 p8=>?_⟩
     obtain ⟨d1,d2,d3⟩:=don r.2 (ne r rm) (by unfold ZbV;rw [kg cc])
     exact ⟨kb',_,_,_,_,rfl,f8,e8,p8,d1,d2,d3⟩
   ·rintro σ G'' ⟨kb,B,v9,v10,v11,rfl,f7,eb7,hB7,nd7,ne7,pm7⟩
    refine ⟨kb,B,_,_,_,_,_,rfl,f6.trans f7,eb7,hB7,nd7,ne7,?_⟩
    have yl:=UK pw
    rw [yl,qP] at pm7
    rw [stj]
    refine pm7.trans (qp _ ?_)
    rw [zi]
    exact ZiQ r.1 q (UJ g ls i) i kq r.2
  ·rintro σ G' ⟨kb,B,v7,v8,v9,v10,v11,rfl,f',ebh,hBB,ndB,neB,pmB⟩
   refine ⟨_,rfl,bh,kb,B,_,_,_,_,_,_,_,_,rfl,fun c u e=>f' c u (sH3 c u e) (Zf e fbhH),fbhH,ebh,hBB,ndB,neB,?_⟩
   rw [kl,qP] at pmB
   rw [psz]
   exact pmB.trans (pm.flatMap_right _)
 ·rintro σ G ⟨bg,kvs,L,v4,v5,v6,v7,v8,v9,v10,v11,rfl,sG,fbg,ebg,hB,nd,ne,pm⟩
  rw [hxl] at pm
  obtain ⟨n,wn,al⟩:=Zbf (z:=zf) hW ls.length (ki _)
  rw [qP] at wn
  have n0:=ZbO wn hW
  subst n0
  have ky:∀r∈L,r.1 = []:=fun r rm=>by
   obtain ⟨ch,hc⟩:=T3 _ (ne r rm)
   have:=(al _ (pm.mem_iff.mp (Kz.mpr ⟨r,rm,K7.mpr ⟨ch,hc,rfl⟩⟩))).2
   exact To (by dsimp only at this;lia)
  have fl:Yq L=(GX L []).map fun ch=>(ch,[]):=by
   match L,ky,nd with
   | [],_,_=>rfl
   | [r],ky,_=>simp [Yq,GX,ky r kK]
   | r::r'::L,ky,nd=>
    have h1:=ky r kK
    have h2:=ky r' (kQ _ kK)
    rw [k7,k7,Kx] at nd
    exact absurd (by rw [h1,h2];exact kK) nd.1
  have pv0:(GX L []).Perm ((ZO ls zf ls.length).map (·.1)):=by
   have:=(pm.map (·.1))
   rw [fl,NO] at this
   simpa [Function.comp_def] using this
  have vl6:(ZO ls zf ls.length).length<64:=ZmA n13.2 hW
  have vl:(GX L []).length<=8192:=by
   have h1:=pv0.length_eq
   rw [ke] at h1
   have:=few ls.length (ki _)
   lia
  refine ⟨_,rfl,bg,rfl,.inr ⟨_,.inl ebg⟩,(by show 0<=sizeLine;exact Km _),fun e6 fe6=>?_⟩
  obtain ⟨G1,z,sg1,eg1⟩:=lay (o:=.tup []) fe6
  rw [z];clear z
  refine ⟨(by show 0<=sizeLine;exact Km _),fun dl fdl=>?_⟩
  obtain ⟨G2,z,sg2,eg2⟩:=lay (o:=.lst []) fdl
  rw [z];clear z
  have s02:=sg1.trans sg2
  have hB2:Paired (W7 G2) kvs L:=L2.Paired.imp' (fun _ _ h=>h.mono (fun a w e=>s02 _ _ e) (fun a w e=>s02 _ _ e)) hB
  obtain ⟨p0,yw,o0,hget,eo,ep0,wyw⟩:∃(p0:Addr) (yw:List V) (o0:Option V),Jo kvs (kW [])=o0/\o0.getD (.ref dl) = .ref p0/\G2 p0=some (.lst yw)/\Words G2 yw (GX L []):=by
   rcases ZcR (k:=[]) hB2 with ⟨hv,hva⟩ | ⟨a1,ws1,hv,ha1,hw1⟩
   ·exact ⟨dl,[],none,hv,rfl,eg2,by rw [hva];exact .nil⟩
   ·exact ⟨a1,ws1,_,hv,rfl,ha1,hw1⟩
  refine ⟨o0,.inr ⟨kvs,kW [],e6,.inl (s02 _ _ ebg),rfl,sg2 _ _ eg1,hget.symm⟩,?_⟩
  rw [eo]
  refine ⟨p0,yw,_,rfl,Zr.of ep0,wyw,(by have h1:=UK wyw;have h2:=pv0.length_eq;rw [ke] at h2;lia),fun lz zs vs fz pz pv wz rise=>?_⟩
  obtain ⟨G3,z,sg3,eg3⟩:=lay (o:=.lst zs) fz
  rw [z];clear z
  have zl:=UK wz
  have vsl:=pv.length_eq
  have sA:Zi H G3:=(s1.trans sG).trans (s02.trans sg3)
  refine ⟨lz,rfl,⟨_,Zr.of eg3⟩,Jg (K:=K) (a:=lz) (xs:=zs) (by rw [Kg];lia) (fun n zs' G7=>∃as:List Addr,zs'=as.map V.ref/\Zi G3 G7/\as.Nodup/\(∀a∈as,G3 a=none)/\Paired (fun a w=>G7 a=some (.lst (w.map V.int))) as (vs.take n)) ⟨[],rfl,Zi.refl _,List.nodup_nil,fun _ h=>(nomatch h),.nil⟩ (fun n zs' G7 ⟨as,e,_,_,_,pa⟩=>by rw [e,ke,UK pa,kM];lia) (fun n zs' G7 ⟨_,_,s7,_⟩=>Zr.of (s7 _ _ eg3)) (fun n y zs' G7 hy x=>?_) (fun zs' G7 x D hD=>?_)⟩
  ·obtain ⟨as,rfl,s7,ndA,frA,pa⟩:=x
   obtain ⟨wd,hwd,cb,rfl,hcb⟩:=Ze5 wz hy
   refine ⟨_,rfl,cb,_,rfl,.inr (YX.of (s7 _ _ (sg3 _ _ hcb))),fun l' hl'=>⟨as ++ [l'],by simp,s7.trans (Zi.laid hl'),?_,?_,?_⟩⟩
   ·rw [qm]
    refine ⟨ndA,by simp,fun a ha b hb z=>?_⟩
    rw [kZ.mp hb] at z
    subst z
    obtain ⟨w',_,hw'⟩:=Paired.mem1 pa a ha
    rw [hw'] at hl'
    cases hl'
   ·intro a ha
    rcases Ku.mp ha with h | h
    ·exact frA a h
    ·rw [kZ.mp h];exact s7.free hl'
   ·rw [Kh,hwd]
    exact Paired.snoc' (F:=fun (a:Addr) (w:List Int)=>(upd G7 l' (.lst (wd.map V.int))) a=some (.lst (w.map V.int))) Zc (L2.Paired.imp' (fun a w h=>Zi.laid hl' _ _ h) pa)
  ·obtain ⟨as,rfl,s7,ndA,frA,pa⟩:=x
   rw [zl,qP] at pa
   refine k D _ as vs ((sA.trans s7).trans (Zi.laid hD)) ((sA.trans s7).free hD) Zc ndA (fun a ha=>⟨sA.free (frA a ha),fun z=>?_⟩) (L2.Paired.imp' (fun a w h=>Zi.laid hD _ _ h) pa) (pv.trans pv0) rise
   obtain ⟨w',_,hw'⟩:=Paired.mem1 pa a ha
   rw [z,hD] at hw'
   cases hw'
abbrev Gn:Stmt:=top 30
theorem Yg:Zy ["drawing", "scale", "heights", "begun", "t", "letter", "behind", "partners", "lists", "then", "changed", "more"] ["drawing", "scale"] (Zj Gn):={}
theorem Zn8 {fd:FuncData}{f:Addr} (F:Yy K "bandings" "bandings" Gn f fd) (JV:Ys P w K mg base 10 "heights_by_name" ["drawing", "scale"] Zlb) (ZbX:Ys P w K mg base 2 "ways_on" ["partners", "letter", "height"] Ze0) (ZC:mg "enumerate" = none) (YS:mg "sorted" = none) (Yt:mg "list" = none):Yf P w K mg base Wy 11 f fd ["drawing", "scale"] Znz:=by
 refine F.ok Yg (fun vs H Q E h=>?_) (fun cdv A outer s H vs Q E hr h=>?_)
 ·obtain ⟨l,sc,ls,g,rfl,_⟩:=h
  rfl
 ·obtain ⟨l,sc,ls,g,rfl,hsc,dr,hg,n13,k⟩:=h
  refine ⟨_,(Zd (Zn (i:=2) Yg.nd rfl (Or.inl rfl) (Zq JV hr (Za (pv 0) (Za (pv 1) Zb))))
   (Zd (Zn (i:=3) Yg.nd rfl (Or.inl rfl) (Zj1 (JF hr) (ZH Zb) (ZD (Za (ZH Zb) Zb))))
   (Zd (Yi k8 rfl (Wg (K:=K) rfl (by rfl) ZC (Za (pv 0) Zb)) (ZY (K:=K) (n:=2) rfl rfl (Zm (Zk (i:=4) Yg.nd rfl (Or.inr rfl)) (Zm (Zk (i:=5) Yg.nd rfl (Or.inl rfl)) ZQ))) (Zd (Zn (i:=6) Yg.nd rfl (Or.inl rfl) Zk5)
   (Zd (Yi k8 rfl (ZjV (pv 3)) (ZY (K:=K) (n:=2) rfl rfl (Zm (Zk (i:=7) Yg.nd rfl (Or.inl rfl)) (Zm (Zk (i:=8) Yg.nd rfl (Or.inl rfl)) ZQ))) (Zg (Yi k8 rfl (ZV (K:=K) rfl (Zq ZbX hr (Za (pv 7) (Za (pv 5) (Za (Zk4 (JF hr) (pv 2) (pv 4) ⟨rfl,rfl,rfl,rfl⟩) Zb))))) (ZY (K:=K) (n:=2) rfl rfl (Zm (Zk (i:=9) Yg.nd rfl (Or.inl rfl)) (Zm (Zk (i:=10) Yg.nd rfl (Or.inl rfl)) ZQ))) (Zd (Zn (i:=11) Yg.nd rfl (Or.inl rfl) (UX (GC (pv 10)) (Gi (Ls:=["one"]) (Fs:=["t"]) (fi:=[4]) (Z6.of (show YE ["drawing", "scale", "heights", "begun", "t", "letter", "behind", "partners", "lists", "then", "changed", "more"] (Zj Gn) _ ["t"] [4]=true by decide +kernel)) rfl (ZV (K:=K) rfl (pv 8)) (fun cl C s3 H3 ex=>⟨(Zk (i:=0) (show ((["one"]:List Str)++(["t"]:List Str)).Nodup by decide +kernel) rfl (Or.inl rfl)),YN,(Zl ZcQ (pv 0) (ZH (Za (pv 1) Zb)))⟩)) (pv 8)))
   (Zg (Yj (Zl WK (Zf4 (JF hr) (pv 6) (pv 9) (ZD Zb) ⟨rfl,rfl,rfl,rfl⟩) (pv 11)) (Yv (pv 6) (pv 9) (set_dict (JF hr)))))))))
   (Zg (Zn (i:=3) Yg.nd rfl (Or.inl rfl) (pv 6))))))
   (Zg (Zw (Gi (Ls:=["one"]) (Fs:=[]) (fi:=[]) (Z6.of (show YE ["drawing", "scale", "heights", "begun", "t", "letter", "behind", "partners", "lists", "then", "changed", "more"] (Zj Gn) _ [] []=true by decide +kernel)) rfl (ZV (K:=K) rfl (Zx (Zdy (K:=K) rfl hr.units) (by rfl) YS Tq (Za (Zf4 (JF hr) (pv 3) (ZH Zb) (ZD Zb) ⟨rfl,rfl,rfl,rfl⟩) Zb))) (fun cl C s3 H3 ex=>⟨(Zk (i:=0) (show ((["one"]:List Str)++([]:List Str)).Nodup by decide +kernel) rfl (Or.inl rfl)),YN,(Yr (JJ (K:=K) rfl) (by rfl) Yt XR (Za (pv 0) Zb))⟩))))))),?_⟩
  exact ZjA l sc ls g hsc dr hg n13 k
theorem ZoB {X:L2.Cx}:Passes (CX1 P w) X (fun _ _ _=>False):=fun _ _ _ _ _ _ _ c=>by
 obtain ⟨_,_,_,_,_,_,_,_,_,_,_,_,_,_,h⟩:=c
 exact h.elim
theorem Zkx (F:Int->V) (t:Int):∀(ns:List Int) (acc:List (Key×V)),Jo (Zan acc (ns.zip (ns.map F))) (Sum.inl t)=if t∈ns then some (F t) else Jo acc (Sum.inl t)
 | [],acc=>by simp [Zan]
 | n::ns,acc=>by
  show Jo (Zan (putK acc (Sum.inl n) (F n)) (ns.zip (ns.map F))) (Sum.inl t)=_
  rw [Zkx F t ns,Zdo]
  by_cases h1:t∈ns
  ·rw [kh h1,kh (kQ _ h1)]
  ·rw [kg h1]
   by_cases h2:t=n
   ·subst h2
    rw [kh rfl,kh kK]
   ·rw [kg (fun z=>h2 (by injection z)),kg (fun z=>by rcases kL.mp z with z | z;exact h2 z;exact h1 z)]
abbrev JZ:Stmt:=top 24
theorem ZaS:Zy ["drawing", "scale"] ["drawing", "scale"] (Zj JZ):={}
theorem Zok {f C:Addr}{fd:FuncData} (F:Yy K "heights_by_name" "heights_by_name" JZ f fd) (Wa:Ys P w K mg base 1 "names_of" ["drawing"] (Za5 UA)) (W9:ZiR P w K mg base 9 "name_heights" ["drawing", "scale"] (ZmH C)) (ZgY:mg "dict" = none) (Zew:mg "zip" = none):Yf P w K mg base Wy 10 f fd ["drawing", "scale"] Zlb:=by
 refine F.ok ZaS (fun vs H Q E h=>?_) (fun cdv A outer s H vs Q E hr h=>?_)
 ·obtain ⟨l,sc,ls,g,rfl,_⟩:=h
  rfl
 ·obtain ⟨l,sc,ls,g,rfl,hsc,⟨xs,hl,hL,hW,hlen⟩,hg,k⟩:=h
  refine ⟨_,(Zg (Zw (Zht (K:=K) rfl rfl (by rfl) ZgY (by rfl) Zew (Za (Zq Wa hr (Za (pv 0) Zb)) (Za (Zim W9 (hr.mono (by decide)) ZoB (Za (pv 0) (Za (pv 1) Zb))) Zb))))),?_⟩
  refine ⟨_,rfl,l,xs,ls,rfl,hl,hL,hlen,hW.kd,fun pn H1 fn s1 en=>?_⟩
  refine ⟨_,rfl,_,rfl,l,sc,xs,ls,rfl,s1 _ _ hl,hL.same s1,hlen,hW,fun ph H2 g' fh s2 hg' eh=>?_,fun H2 ts s2 n1 tr z=>?_⟩
  ·have:=hg.uniq hg'
   subst this
   have ll:(Yd ls UA ls.length).length<=60:=by
    unfold Yd
    refine k9 (Nd _ _) ?_
    rw [qo];exact hlen
   have ed:(dfs g ls (Yd ls UA ls.length)).map V.int=(Yd ls UA ls.length).map fun t=>V.int (g (YW ls t.toNat).1-g (YW ls t.toNat).2):=by
    unfold dfs;rw [NO];rfl
   rw [ed] at eh
   refine ⟨pn,ph,_,_,rfl,Zr.of (s2 _ _ en),Zr.of eh,by rw [ke],by lia,fun D hD=>?_⟩
   refine k D _ _ ((s1.trans s2).trans (Zi.laid hD)) ((s1.trans s2).free hD) Zc fun t ht=>?_
   rw [Zkx]
   have mm:((t:Int)∈Yd ls UA ls.length) ↔ isK ls UA t=true:=by
    unfold Yd
    rw [K6]
    constructor
    ·rintro ⟨a,_,h⟩
     split at h
     ·rename_i c
      have:a=t:=by injection h with h;lia
      rw [<- this];exact c
     ·cases h
    ·exact fun c=>⟨t,K9.mpr ht,by rw [kh c]⟩
   unfold UJ
   by_cases c:isK ls UA t=true
   ·rw [kh (mm.mpr c),kh c,kI];rfl
   ·rw [kg (fun z=>c (mm.mp z)),kg c];rfl
  ·rcases hg with ⟨e,_⟩ | ⟨_,T,L,tr',t0,_⟩
   ·exact n1 e
   ·have:=tr.uniq tr'
    rw [this] at z
    exact z (by rw [MJ,t0])
def ZlA (H:Hp) (a:Addr) (n:Nat) (W:Nat->List Int) (as:List Addr):Prop:=H a=some (.lst (as.map V.ref))/\as.length=n /\ ∀r p,as[r]? = some p->H p=some (.lst ((W r).map V.int))
theorem ZhC {H:Hp}{p q:Addr}{v:List Int} (h1:H p=some (.lst (v.map V.int))) (h2:H q=some (.lst (v.map V.int))):Eqv K H 60 (.ref p) (.ref q):=
 .lst (n:=59) (Zr.of h1) (Zr.of h2) rfl fun i x y e1 e2=>by
  rw [e1] at e2
  cases e2
  rw [kz] at e1
  obtain ⟨_,_,rfl⟩:=Kf.mp e1
  exact .flat rfl
def Zg6:Sp:=fun vs H Q _=>∃(a b:Addr) (n:Nat) (W:Nat->List Int) (as bs:List Addr),vs = [.ref a,.ref b]/\ZlA H a n W as/\ZlA H b n W bs/\n<=8192/\(∀r,(W r).length<=100)/\as.Nodup/\a∉as/\b∉as/\(∀p∈as,p∉bs) /\ ∀H',(∀c o,H c=some o->c∉as->H' c=some o)->Q (.bl true) H'
abbrev Za2:Stmt:=top 50
theorem Zcf:Zy ["_law_lists", "_law_due", "_law_at"] ["_law_lists", "_law_due"] (Zj Za2):={}
theorem ZlQ {f:Addr}{fd:FuncData} (F:Yy K "_law_own" "_law_own" Za2 f fd) (ZR:mg "range" = none) (Yn:mg "len" = none):Yf P w K mg base Wy 1 f fd ["_law_lists", "_law_due"] Zg6:=by
 refine F.ok Zcf (fun vs H Q E h=>?_) (fun cdv A outer s H vs Q E hr h=>?_)
 ·obtain ⟨a,b,n,W,as,bs,rfl,_⟩:=h
  rfl
 ·obtain ⟨a,b,n,W,as,bs,rfl,ta,tb,hn,hw,nd,na,nb,dis,k⟩:=h
  refine ⟨_,(Zd (Yi k8 rfl (YI (by rfl) ZR (Za (Zx (YA (K:=K) rfl) (by rfl) Yn qa (Za (pv 0) Zb)) Zb)) (Zk (i:=2) Zcf.nd rfl (Or.inl rfl)) (Zd (ZZ (Z9 (K:=K) rfl (Yw kH kR kS ZN (Zz (Zp (K:=K) rfl) (pv 0) (pv 2) (fun _ _=>rfl)) (Za Ze Zb))))
   (Zg (ZW (Zt (Zfx (K:=K) rfl hr.units) (Ym (YV (K:=K) rfl) (pv 0) (Yb (Zl ZA (pv 2) Ze)) Je) (Ym (YV (K:=K) rfl) (pv 1) (Yb (Zl ZA (pv 2) Ze)) Je) (Zs _)) (Zg (Zw Gk)) ZJ))))
   (Zg (Zw Gk))),?_⟩
  obtain ⟨ea,la,ra⟩:=id ta
  obtain ⟨eb,lb,rb⟩:=id tb
  have lra:(as.map V.ref).length=n:=by rw [ke,la]
  have lrb:(bs.map V.ref).length=n:=by rw [ke,lb]
  refine ⟨_,rfl,a,_,rfl,.inl (Zr.of ea),?_⟩
  rw [lra]
  refine ⟨n,rfl,by lia,by lia,Jt (n:=n) (fun i σ G=>∃v2:Option V,σ = [some (.ref a),some (.ref b),v2]/\(∀c o,H c=some o->c∉as->G c=some o) /\ ∀r p,i<=r->as[r]? = some p->G p=some (.lst ((W r).map V.int))) ⟨none,rfl,fun c o e _=>e,fun r p _ e=>ra r p e⟩ ?_ ?_⟩
  ·rintro i σ G hi ⟨v2,rfl,fr,rows⟩
   have hin:i<n:=by lia
   obtain ⟨q,hq⟩:∃q,as[i]? = some q:=⟨_,kU (by lia)⟩
   have atq:(as.map V.ref)[i]? = some (V.ref q):=by rw [kz,hq];rfl
   have eaG:=fr a _ ea na
   have eq:=rows i q (ki _) hq
   have nq:∀c,c∉as->c≠q:=fun c h z=>h (by rw [z];exact kY hq)
   rw [show (0:Int)+(i:Int)=((i:Nat):Int) by lia]
   refine ⟨_,rfl,_,rfl,a,_,_,_,rfl,rfl,Zr.of eaG,Zo atq,.inl ⟨rfl,_,Zr.of eq⟩,q,_,_,rfl,rfl,eq,by rw [ke,Kg];have:=hw i;lia,?_⟩
   have fr2:∀c o,H c=some o->c∉as->(upd G q (.lst ((W i).map V.int ++ [.int 99]))) c=some o:=fun c o e h=>by rw [Zh (nq c h)];exact fr c o e h
   have rows2:∀r p,i+1<=r->as[r]? = some p->(upd G q (.lst ((W i).map V.int ++ [.int 99]))) p=some (.lst ((W r).map V.int)):=fun r p h1 e=>by
    have ne:p≠q:=fun z=>by
     obtain ⟨h3,e3⟩:=kC.mp e
     obtain ⟨h4,e4⟩:=kC.mp hq
     have:=(List.getElem_inj nd).mp (e3.trans (z.trans e4.symm))
     lia
    rw [Zh ne]
    exact rows r p (by lia) e
   generalize upd G q (.lst ((W i).map V.int ++ [.int 99]))=G1 at *
   refine ⟨_,rfl,_,rfl,_,_,rfl,rfl,_,rfl,a,_,rfl,Zr.of (fr2 a _ ea na),fun c hc=>?_⟩
   have s1:=Zi.laid (o:=.lst (WB (as.map V.ref) (some ((i:Int)+1)) none)) hc
   refine ⟨_,rfl,_,rfl,_,_,rfl,rfl,_,rfl,b,_,rfl,Zr.of (s1 _ _ (fr2 b _ eb nb)),fun d hd=>?_⟩
   have s2:=s1.step (o:=.lst (WB (bs.map V.ref) (some ((i:Int)+1)) none)) hd
   have cut:∀xs:List Addr,WB (xs.map V.ref) (some ((i:Int)+1)) none=(xs.drop (i+1)).map V.ref:=fun xs=>by
    unfold WB
    rw [HT.Zbz,show (i:Int)+1=((i+1:Nat):Int) by lia,HT.Zax,qY]
    by_cases c:i+1<=xs.length
    ·rw [ke,KR c,kJ (by rw [KD,ke];lia)]
    ·rw [ke,KL (by lia),Ta (by rw [ke];lia),Ta (by rw [ke];lia)]
     simp
   refine ⟨c,d,_,_,rfl,rfl,Zr.of ((Zi.laid hd) _ _ Zc),Zr.of Zc,?_,fun j x y ex ey=>?_,_,rfl,WN ?_⟩
   ·rw [cut,cut,ke,ke,KD,KD,la,lb]
   ·rw [cut,kz,XM] at ex
    rw [cut,kz,XM] at ey
    obtain ⟨p,e1,rfl⟩:=Kf.mp ex
    obtain ⟨u,e2,rfl⟩:=Kf.mp ey
    have hu:u∉as:=fun h=>dis u h (kY e2)
    exact ZhC (v:=W (i+1+j)) (s2 _ _ (rows2 _ _ (by lia) e1)) (s2 _ _ (fr2 u _ (rb _ _ e2) hu))
   ·exact ⟨_,rfl,fun c o e h=>s2 _ _ (fr2 c o e h),fun r p h1 e=>s2 _ _ (rows2 r p h1 e)⟩
  ·rintro σ G ⟨v2,rfl,fr,rows⟩
   exact k _ fr
theorem Zgj:∀{a b:List (List Int)},a.Perm b->ZdU a->ZdU b->a=b
 | [],b,p,_,_=>(List.nil_perm.mp p).symm
 | x::a,[],p,_,_=>absurd p.symm.nil_eq (by simp)
 | x::a,y::b,p,ra,rb=>by
  have ha:=qu.mp ra
  have hb:=qu.mp rb
  have h1:L2.lexLt x y=false:=by
   rcases kL.mp (p.mem_iff.mp kK) with e | e
   ·rw [e];exact Za4 _
   ·exact hb.1 x e
  have h2:L2.lexLt y x=false:=by
   rcases kL.mp (p.mem_iff.mpr kK) with e | e
   ·rw [e];exact Za4 _
   ·exact ha.1 y e
  have:=Zd8 h1 h2
  subst this
  rw [Zgj (TZ p) ha.2 hb.2]
theorem Zdw {H:Hp}:∀{zs:List V}{vs:List (List Int)},Zdg H zs vs -> ∃bs:List Addr,zs=bs.map V.ref/\Paired (fun a w=>H a=some (.lst (w.map V.int))) bs vs
 | _,_,.nil=>⟨[],rfl,.nil⟩
 | _,_,.cons ⟨a,e,h⟩ t=>by
  obtain ⟨bs,e2,p⟩:=Zdw t
  exact ⟨a::bs,by rw [e,e2];rfl,.cons h p⟩
def ZgP:Sp:=fun vs H Q _=>∃(l:Addr) (sc:Int) (ls:List (Str×Int)) (g:Int->Int),vs = [.ref l,.int sc]/\(sc=0∨sc=1)/\Drw H l ls/\HG sc ls g/\(nX ls<=13/\Crl 8 ls) /\ ∀H',Zi H H'->Q (.bl true) H'
abbrev Gy:Stmt:=top 51
theorem JT:Zy ["_law_drawing_here", "_law_scale", "_law_due", "_law_handed", "_law_turn", "_law_told"] ["_law_drawing_here", "_law_scale"] (Zj Gy):={}
theorem Zld {fd:FuncData}{f:Addr} (F:Yy K "_law_good" "_law_good" Gy f fd) (Ww:Ys P w K mg base 6 "_law_bandings" ["_law_drawing_here", "_law_scale"] Zff) (ZaX:Ys P w K mg base 11 "bandings" ["drawing", "scale"] Znz) (Gd:Ys P w K mg base 2 "_law_numbers" ["_law_thing"] Zb5) (ZaV:Ys P w K mg base 1 "_law_own" ["_law_lists", "_law_due"] Zg6) (ZR:mg "range" = none) (Yk:mg "isinstance" = none) (Yt:mg "list" = none) (Zer:mg "all" = none):Yf P w K mg base Wy 12 f fd ["_law_drawing_here", "_law_scale"] ZgP:=by
 refine F.ok JT (fun vs H Q E h=>?_) (fun cdv A outer s H vs Q E hr h=>?_)
 ·obtain ⟨l,sc,ls,g,rfl,_⟩:=h
  rfl
 ·obtain ⟨l,sc,ls,g,rfl,hsc,dr,hg,n13,k⟩:=h
  refine ⟨_,(Zd (Zn (i:=2) JT.nd rfl (Or.inl rfl) (Zq Ww hr (Za (pv 0) (Za (pv 1) Zb))))
   (Zd (Zn (i:=3) JT.nd rfl (Or.inl rfl) (Yr (JJ (K:=K) rfl) (by rfl) Yt XR (Za (pv 0) Zb)))
   (Zd (Yi k8 rfl (YI (by rfl) ZR (Za Ze Zb)) (Zk (i:=4) JT.nd rfl (Or.inl rfl)) (Zd (Zn (i:=5) JT.nd rfl (Or.inl rfl) (Zq ZaX hr (Za (pv 3) (Za (pv 1) Zb))))
   (Zd (ZW (PW.pt (ZhJ (ZaY (GC (Zx (WQ (K:=K) rfl) (by rfl) Yk Tx (Za (pv 5) (Za (ZcI (v:=.ty "list") (by rfl) Yt XR rfl) Zb))))) (ZhJ (Zt (Zfx (K:=K) rfl hr.units) (pv 5) (pv 2) (Zs _)) (Zhq (ZaY (GC (Zx (Zd4 (K:=K) rfl rfl) (by rfl) Zer boot_all (Za (Gi (Ls:=["_law_one"]) (Fs:=[]) (fi:=[]) (Z6.of (show YE ["_law_drawing_here", "_law_scale", "_law_due", "_law_handed", "_law_turn", "_law_told"] (Zj Gy) _ [] []=true by decide +kernel)) rfl (ZV (K:=K) rfl (pv 5)) (fun cl C s3 H3 ex=>⟨(Zk (i:=0) (show ((["_law_one"]:List Str)++([]:List Str)).Nodup by decide +kernel) rfl (Or.inl rfl)),YN,(Zq Gd hr (Za (pv 0) Zb))⟩)) Zb)))))))) (Zg (Zw Gk)) ZJ)
   (Zd (ZW (Zt (Zfx (K:=K) rfl hr.units) (pv 3) (pv 0) (Zs _)) (Zg (Zw Gk)) ZJ)
   (Zd (ZW (ZaY (GC (Zq ZaV hr (Za (pv 5) (Za (pv 2) Zb))))) (Zg (Zw Gk)) ZJ)
   (Zg (ZZ (Z9 (K:=K) rfl (Yw kH kR kS ZN (pv 5) (Za Zam Zb))))))))))
   (Zg (Zw Gk))))),?_⟩
  obtain ⟨xs,hl,hL,hW,hlen⟩:=id dr
  refine ⟨_,rfl,_,rfl,l,sc,ls,g,rfl,hsc,dr,hg,n13,fun pd H1 zs vs s1 fd1 ed lz pv rise=>?_⟩
  obtain ⟨bs,rfl,pb⟩:=Zdw lz
  have vl:vs.length<=8192:=by
   have h1:=pv.length_eq
   rw [ke] at h1
   have h2:(ZO ls (fun i=>decide (UJ g ls i=some 0)) ls.length).length<=8192:=k9 (ZaC _ (ki _)) (k9 (Ts (by decide) (k9 (Zfk ls _) n13.1)) (by decide))
   lia
  have vw:∀w∈vs,w.length<=60:=fun w hw=>by
   obtain ⟨r,hr,e⟩:=K7.mp (pv.mem_iff.mp hw)
   have:=U4 _ r hr
   rw [<- e];lia
  obtain ⟨W,eW⟩:∃W:Nat->List Int,W=fun r=>vs.getD r []:=⟨_,rfl⟩
  have hW100:∀r,(W r).length<=100:=fun r=>by
   rw [eW]
   show (vs.getD r []).length<=100
   rw [Ke]
   cases h:vs[r]? with
   | none=>simp
   | some w=>have:=vw w (kY h);show w.length<=100;lia
  have getW:∀{r:Nat}{w:List Int},vs[r]? = some w->W r=w:=fun {r w} h=>by rw [eW];show vs.getD r []=w;rw [Ke,h];rfl
  refine ⟨_,rfl,l,_,rfl,.inl (Zr.of (s1 _ _ hl)),fun hd fhd=>?_⟩
  obtain ⟨H2,z,s2,e2⟩:=lay (o:=.lst xs) fhd
  rw [z];clear z
  have s02:=s1.trans s2
  refine ⟨2,rfl,by decide,by decide,Jt (n:=2) (fun i σ G=>∃v4 v5:Option V,σ = [some (.ref l),some (.int sc),some (.ref pd),some (.ref hd),v4,v5]/\Zi H2 G) ⟨_,_,rfl,Zi.refl _⟩ ?_ ?_⟩
  ·rintro i σ G hi ⟨v4,v5,rfl,sG⟩
   refine ⟨_,rfl,_,rfl,hd,sc,ls,g,rfl,hsc,⟨xs,sG _ _ e2,hL.same (s02.trans sG),hW,hlen⟩,hg,n13,fun pt H3 as ws s3 fpt ept nd fr pa pw rs=>?_⟩
   have:=Zgj (pw.trans pv.symm) rs rise
   subst this
   have s23:=sG.trans s3
   have ed3:=s23 _ _ (s2 _ _ ed)
   have la:=UK pa
   have lb:=UK pb
   have ta:ZlA H3 pt ws.length W as:=⟨ept,la,fun r p e=>by
    obtain ⟨w,h1,h2⟩:=Ze5 pa e
    rw [getW h1];exact h2⟩
   have tbb:ZlA H3 pd ws.length W bs:=⟨ed3,lb,fun r p e=>by
    obtain ⟨w,h1,h2⟩:=Ze5 pb e
    rw [getW h1];exact s23 _ _ (s2 _ _ h2)⟩
   refine ⟨_,rfl,_, "list", _,true,rfl,.lst ept,by rfl,true,rfl,WN ?_⟩
   refine ⟨_,rfl,_,rfl,pt,pd,_,_,rfl,rfl,Zr.of ept,Zr.of ed3,(by rw [ke,ke,la,lb]),fun j x y ex ey=>?_,_,rfl,WN ?_⟩
   ·rw [kz] at ex ey
    obtain ⟨p,e1,rfl⟩:=Kf.mp ex
    obtain ⟨u,e2',rfl⟩:=Kf.mp ey
    exact ZhC (v:=W j) (ta.2.2 _ _ e1) (tbb.2.2 _ _ e2')
   refine ⟨_,rfl,pt,rfl,⟨_,Zr.of ept⟩,Jg (K:=K) (a:=pt) (xs:=as.map V.ref) (by rw [ke,Kg];lia) (fun i ys G=>Zi H3 G/\ys=(List.replicate i true).map V.bl) ⟨Zi.refl _,rfl⟩ (fun i ys G p=>by rw [p.2];simp) (fun i ys G p=>Zr.of (p.1 _ _ ept)) (fun j x ys G hx p=>?_) (fun ys G p D hD=>?_)⟩
   ·obtain ⟨sm,rfl⟩:=p
    rw [kz] at hx
    obtain ⟨u,e1,rfl⟩:=Kf.mp hx
    refine ⟨_,rfl,u,W j,rfl,sm _ _ (ta.2.2 _ _ e1),by have:=hW100 j;lia,fun G' s'=>⟨sm.trans s',?_⟩⟩
    rw [qC,kP]
    rfl
   obtain ⟨sm,rfl⟩:=p
   have sD:=Zi.laid (o:=.lst ((List.replicate (as.map V.ref).length true).map V.bl)) hD
   have s3D:=sm.trans sD
   refine ⟨D,_,rfl,Zr.of Zc,_,rfl,?_⟩
   rw [show (List.replicate (as.map V.ref).length true).all id=true by simp]
   refine WN ?_
   generalize upd G D (.lst ((List.replicate (as.map V.ref).length true).map V.bl))=G4 at *
   have hd4:=s3D _ _ (s23 _ _ e2)
   have l4:=s3D _ _ (s23 _ _ (s02 _ _ hl))
   refine ⟨_,rfl,_,rfl,hd,l,_,_,rfl,rfl,Zr.of hd4,Zr.of l4,rfl,fun j x y a1 a2=>?_,_,rfl,WN ?_⟩
   ·rw [a1] at a2
    cases a2
    obtain ⟨_,t,_,rfl,_⟩:=hL.get a1
    exact .same
   have fH:∀a∈as,H2 a=none:=fun a ha=>sG.free (fr a ha).1
   refine ⟨_,rfl,_,rfl,pt,pd,ws.length,W,as,bs,rfl,⟨s3D _ _ ta.1,ta.2.1,fun r p e=>s3D _ _ (ta.2.2 r p e)⟩,⟨s3D _ _ tbb.1,tbb.2.1,fun r p e=>s3D _ _ (tbb.2.2 r p e)⟩,vl,hW100,nd,fun h=>(fr pt h).2 rfl,fun h=>?_,fun p hp hb=>?_,fun H5 f5=>⟨_,rfl,WN ?_⟩⟩
   ·have:=fH pd h
    rw [s2 _ _ ed] at this
    cases this
   ·obtain ⟨w,_,h2⟩:=Paired.mem1 pb p hb
    have:=fH p hp
    rw [s2 _ _ h2] at this
    cases this
   have ept5:=f5 _ _ (s3D _ _ ept) (fun h=>(fr pt h).2 rfl)
   refine ⟨_,rfl,.inl ⟨rfl,_,Zr.of ept5⟩,pt,_,_,rfl,rfl,ept5,(by rw [ke,Kg];lia),?_⟩
   refine ⟨_,_,rfl,fun c o e=>?_⟩
   have npt:H2 pt=none:=sG.free fpt
   rw [Zh (Zf e npt)]
   exact f5 c o (s3D _ _ (s23 _ _ e)) (fun h=>by rw [fH c h] at e;cases e)
  ·rintro σ G ⟨v4,v5,rfl,sG⟩
   exact k _ (s02.trans sG)
def ZhG (K:PySem.W.Frag):Sp:=fun vs H Q _=>∃(a:Addr) (ns:List Int),vs = [.ref a]/\Zr K H a (ns.map V.int)/\ns.length<=63 /\ ∀H',Q (.bl true) H'
abbrev Zes:Stmt:=top 52
theorem Zfs:Zy ["_law_script", "_law_k", "_law_drawing_here", "_law_scale"] ["_law_script"] (Zj Zes):={}
theorem ZmX {f:Addr}{fd:FuncData} (F:Yy K "law" "law" Zes f fd) (ZaR:Ys P w K mg base 1 "_law_bag" ["_law_script", "_law_at"] (ZkU K)) (Uy:Ys P w K mg base 4 "_law_front" ["_law_bag_here", "_law_most"] ZeX) (GK:Ys P w K mg base 5 "_law_scales" ["_law_drawing_here"] Zdj) (Wl:Ys P w K mg base 12 "_law_good" ["_law_drawing_here", "_law_scale"] ZgP)
  (ZR:mg "range" = none) (Yn:mg "len" = none) (Gu:mg "max" = none) (ZaL:mg "min" = none):Yf P w K mg base Wy 13 f fd ["_law_script"] (ZhG K):=by
 refine F.ok Zfs (fun vs H Q E h=>?_) (fun cdv A outer s H vs Q E hr h=>?_)
 ·obtain ⟨a,ns,rfl,_⟩:=h
  rfl
 ·obtain ⟨a,ns,rfl,hS,hlen,k⟩:=h
  refine ⟨_,(Zd (Yi k8 rfl (YI (by rfl) ZR (Za (Zx (W6 rfl) (by rfl) Gu Mj (Za Ze (Za (Zx (Zaz rfl) (by rfl) ZaL boot_min (Za Ze (Za (Zx (YA (K:=K) rfl) (by rfl) Yn qa (Za (pv 0) Zb)) Zb))) Zb))) Zb)) (Zk (i:=1) Zfs.nd rfl (Or.inl rfl)) (Zd (Zn (i:=2) Zfs.nd rfl (Or.inl rfl) (Zq Uy hr (Za (Zq ZaR hr (Za (pv 0) (Za (pv 1) Zb))) (Za Ze Zb))))
   (Zg (Yi k8 rfl (ZV (K:=K) rfl (Zq GK hr (Za (pv 2) Zb))) (Zk (i:=3) Zfs.nd rfl (Or.inl rfl)) (Zg (ZW (ZaY (GC (Zq Wl hr (Za (pv 2) (Za (pv 3) Zb))))) (Zg (Zw Gk)) ZJ))))))
   (Zg (Zw (Zc9 (Zq Wl hr (Za (ZD Zb) (Za Ze Zb))) (ZaU (Zq Wl hr (Za (ZD (Za (ZH (Za ZG (Za Ze Zb))) (Za (ZH (Za ZG (Za Ze Zb))) (Za (ZH (Za ZG (Za Ze Zb))) Zb)))) (Za Ze Zb)))))))),?_⟩
  refine ⟨_,rfl,a,_,rfl,.inl hS,_,_,rfl,_,_,rfl,_,rfl,?_,?_,Jt (fun i σ H'=>∃v1 v2 v3:Option V,σ = [some (.ref a),v1,v2,v3]/\Zi H H') ⟨none,none,none,rfl,Zi.refl _⟩ ?_ ?_⟩
  ·split<;>(try split)<;>lia
  ·rw [ke]
   split<;>(try split)<;>lia
  ·rintro i σ H0 hi ⟨v1,v2,v3,rfl,sm⟩
   have hi':i<1000:=by
    rw [ke] at hi
    revert hi
    split<;>(try split)<;>lia
   refine ⟨_,rfl,_,rfl,a,_,ns,rfl,sm.seq hS,by lia,by lia,fun b H1 hb s1 bg1=>?_⟩
   refine ⟨b,8,rfl,bg1,by decide,by decide,fun l H2 ls hl bg2 f2 dr nx cr=>?_⟩
   refine ⟨_,rfl,l,ls,rfl,dr,fun p H3 scs s3 fp ep sl hsc=>?_⟩
   refine ⟨p,rfl,⟨_,Zr.of ep⟩,JD (K:=K) (a:=p) (xs:=scs.map V.int) (fun j σ G=>∃v3:Option V,σ = [some (.ref a),some (.int (0+(i:Int))),some (.ref l),v3]/\Zi H3 G) ⟨_,rfl,Zi.refl _⟩ (fun j σ G _ ⟨_,_,s'⟩=>Zr.of (s' _ _ ep)) ?_ ?_⟩
   ·rintro j y σ G hy ⟨v3,rfl,sG⟩
    rw [kz] at hy
    obtain ⟨sc,e1,rfl⟩:=Kf.mp hy
    obtain ⟨h01,g,hg⟩:=hsc sc (kY e1)
    obtain ⟨xs,hxl,hL,hW,h60⟩:=id dr
    have s2G:=s3.trans sG
    exact ⟨_,rfl,_,rfl,l,sc,ls,g,rfl,h01,⟨xs,s2G _ _ hxl,hL.same s2G,hW,h60⟩,hg,⟨nx,cr⟩,fun H4 s4=>⟨true,rfl,WN ⟨_,rfl,sG.trans s4⟩⟩⟩
   ·rintro σ G ⟨v3,rfl,sG⟩
    refine ⟨_,_,_,rfl,fun c o e=>?_⟩
    have nb:=Zf (sm c o e) hb
    exact sG c o (s3 c o (f2 c o (s1 c o (sm c o e)) nb))
  ·rintro σ H0 ⟨v1,v2,v3,rfl,sm⟩
   refine ⟨(by show 0<=sizeLine;exact Km _),fun d0 f0=>?_⟩
   obtain ⟨H1,z,s1,e1⟩:=lay (o:=.lst []) f0
   rw [z];clear z
   refine ⟨d0,1,[],fun _=>0,rfl,.inr rfl,⟨[],e1,.nil,.nil,Km _⟩,.inl ⟨rfl,rfl⟩,⟨by decide,.base (by decide)⟩,fun H2 s2=>⟨true,rfl,Zbt ?_⟩⟩
   refine ⟨(by show 2<=sizeLine;decide),fun t1 f1=>?_⟩
   obtain ⟨X1,z,a1,b1⟩:=lay (o:=.tup [.str "born", .int 0]) f1
   rw [z];clear z
   refine ⟨(by show 2<=sizeLine;decide),fun t2 f2=>?_⟩
   obtain ⟨X2,z,a2,b2⟩:=lay (o:=.tup [.str "cross", .int 0]) f2
   rw [z];clear z
   refine ⟨(by show 2<=sizeLine;decide),fun t3 f3=>?_⟩
   obtain ⟨X3,z,a3,b3⟩:=lay (o:=.tup [.str "end", .int 0]) f3
   rw [z];clear z
   refine ⟨(by show 3<=sizeLine;decide),fun d1 f4=>?_⟩
   obtain ⟨X4,z,a4,b4⟩:=lay (o:=.lst [.ref t1,.ref t2,.ref t3]) f4
   rw [z];clear z
   refine ⟨d1,1,[("born", 0),("cross", 0),("end", 0)],fun _=>0,rfl,.inr rfl,⟨_,b4,.cons ⟨t1,rfl,a4 _ _ (a3 _ _ (a2 _ _ b1))⟩ (.cons ⟨t2,rfl,a4 _ _ (a3 _ _ b2)⟩ (.cons ⟨t3,rfl,a4 _ _ b3⟩ .nil)),Wk.fin (k:=0) (Wk.cross (k:=0) (Wk.born (k:=0) .nil (by decide) (by decide)) (by decide) (by decide)) (by decide) (by decide),by decide⟩,.inl ⟨rfl,rfl⟩,⟨by decide,.base (by decide)⟩,fun H3 s3=>k H3⟩
end
theorem ZL {P:Program}{w:World}{K:PySem.W.Frag}{mg:Str->Option Value}{base:Heap}{k:Nat}{x:Str}{ps:List Str}{sp:Sp}{f:Addr}{fd:FuncData} (G:Yf P w K mg base Wy k f fd ps sp) (m:mg x=some (.ref f)) (kp:PySem.W.keepIn K (.ref f)=true) (b:Binds K fd ps []):Ys P w K mg base k x ps sp:=⟨f,fd,G,m,kp,b⟩
theorem ZhU {P:Program}{w:World}{K:PySem.W.Frag}{mg:Str->Option Value}{base:Heap}{k:Nat}{x:Str}{ps:List Str}{sp:Sp}{f:Addr}{fd:FuncData} (G:Yf P w K mg base (CX1 P w) k f fd ps sp) (m:mg x=some (.ref f)) (kp:PySem.W.keepIn K (.ref f)=true) (b:Binds K fd ps []):ZiR P w K mg base k x ps sp:=⟨f,fd,G,m,kp,b⟩
section
theorem us1 {α:Type}{P:List α -> Prop} (h:∀a,P [a]):∀us:List α,us.length=1->P us
 | [_],_=>h _
theorem us2 {α:Type}{P:List α -> Prop} (h:∀a b,P [a,b]):∀us:List α,us.length=2->P us
 | [_,_],_=>h _ _
theorem us3 {α:Type}{P:List α -> Prop} (h:∀a b c,P [a,b,c]):∀us:List α,us.length=3->P us
 | [_,_,_],_=>h _ _ _
theorem us4 {α:Type}{P:List α -> Prop} (h:∀a b c d,P [a,b,c,d]):∀us:List α,us.length=4->P us
 | [_,_,_,_],_=>h _ _ _ _
theorem all_mk {l:PySem.W.OpenLaw}{w:World}{K:PySem.W.Frag}{h:Heap}{mg:Str->Option Value}{fa:Addr} (X:K.In h) (G:h.Ns mainGlobals mg) (hfa:mg "law" = some (.ref fa))
  {f0 f1 f2 f3 f4 f5 f6 f7 f8 f9 f10 f11 f12 f13 f14 f15 f16 f17 f18 f19 f20 f21 f22 f23 f24 f25 f26 f27 f28 f29 f30 f31 f32 f33 f34 f35 f36 f37 f38 f39 f40 f41 f42 f43 f44:Addr}{d0 d1 d2 d3 d4 d5 d6 d7 d8 d9 d10 d11 d12 d13 d14 d15 d16 d17 d18 d19 d20 d21 d22 d23 d24 d25 d26 d27 d28 d29 d30 d31 d32 d33 d34 d35 d36 d37 d38 d39 d40 d41 d42 d43 d44:FuncData}
  {Yh:Addr} (Uz:PySem.W.nsIn K mainGlobals "NoHeights" = some (some (.ref Yh)))
  (Wj:PySem.W.excIn K Yh [.type "ValueError", .type "Exception", .type "BaseException", .type "object"] "ValueError.__new__" = true)
  (a0:PySem.W.nsIn K mainGlobals "letters_of" = some (some (.ref f0))) (l0:Yy K "letters_of" "letters_of" WW f0 d0)
  (a1:PySem.W.nsIn K mainGlobals "ends_of" = some (some (.ref f1))) (l1:Yy K "ends_of" "ends_of" Zb3 f1 d1)
  (a2:PySem.W.nsIn K mainGlobals "names_of" = some (some (.ref f2))) (l2:Yy K "names_of" "names_of" Us f2 d2)
  (a3:PySem.W.nsIn K mainGlobals "threads" = some (some (.ref f3))) (l3:Yy K "threads" "threads" Zb2 f3 d3)
  (a4:PySem.W.nsIn K mainGlobals "pairs_ahead" = some (some (.ref f4))) (l4:Yy K "pairs_ahead" "pairs_ahead" GD f4 d4)
  (a5:PySem.W.nsIn K mainGlobals "end_pairs" = some (some (.ref f5))) (l5:Yy K "end_pairs" "end_pairs" Zah f5 d5)
  (a6:PySem.W.nsIn K mainGlobals "born_with" = some (some (.ref f6))) (l6:Yy K "born_with" "born_with" UU f6 d6)
  (a7:PySem.W.nsIn K mainGlobals "end_mates" = some (some (.ref f7))) (l7:Yy K "end_mates" "end_mates" Zaa f7 d7)
  (a8:PySem.W.nsIn K mainGlobals "tour_from" = some (some (.ref f8))) (l8:Yy K "tour_from" "tour_from" UZ f8 d8)
  (a9:PySem.W.nsIn K mainGlobals "tours" = some (some (.ref f9))) (l9:Yy K "tours" "tours" Zfg f9 d9)
  (a10:PySem.W.nsIn K mainGlobals "uppers_at_ends" = some (some (.ref f10))) (l10:Yy K "uppers_at_ends" "uppers_at_ends" Wb f10 d10)
  (a11:PySem.W.nsIn K mainGlobals "steps_down" = some (some (.ref f11))) (l11:Yy K "steps_down" "steps_down" Ut f11 d11)
  (a12:PySem.W.nsIn K mainGlobals "turns" = some (some (.ref f12))) (l12:Yy K "turns" "turns" ZcK f12 d12)
  (a13:PySem.W.nsIn K mainGlobals "heights_along" = some (some (.ref f13))) (l13:Yy K "heights_along" "heights_along" WC f13 d13)
  (a14:PySem.W.nsIn K mainGlobals "has_scale" = some (some (.ref f14))) (l14:Yy K "has_scale" "has_scale" Zaf f14 d14)
  (a15:PySem.W.nsIn K mainGlobals "thread_heights" = some (some (.ref f15))) (l15:Yy K "thread_heights" "thread_heights" Wc f15 d15)
  (a16:PySem.W.nsIn K mainGlobals "name_heights" = some (some (.ref f16))) (l16:Yy K "name_heights" "name_heights" JW f16 d16)
  (a17:PySem.W.nsIn K mainGlobals "_law_bag" = some (some (.ref f17))) (l17:Yy K "_law_bag" "_law_bag" ZaW f17 d17)
  (a18:PySem.W.nsIn K mainGlobals "_law_take" = some (some (.ref f18))) (l18:Yy K "_law_take" "_law_take" UT f18 d18)
  (a19:PySem.W.nsIn K mainGlobals "_law_drawing" = some (some (.ref f19))) (l19:Yy K "_law_drawing" "_law_drawing" Gp f19 d19)
  (a20:PySem.W.nsIn K mainGlobals "_law_plat" = some (some (.ref f20))) (l20:Yy K "_law_plat" "_law_plat" Wt f20 d20)
  (a21:PySem.W.nsIn K mainGlobals "_law_any" = some (some (.ref f21))) (l21:Yy K "_law_any" "_law_any" ZaO f21 d21)
  (a22:PySem.W.nsIn K mainGlobals "_law_rows" = some (some (.ref f22))) (l22:Yy K "_law_rows" "_law_rows" Zag f22 d22)
  (a23:PySem.W.nsIn K mainGlobals "_law_walks" = some (some (.ref f23))) (l23:Yy K "_law_walks" "_law_walks" W2 f23 d23)
  (a24:PySem.W.nsIn K mainGlobals "_law_heights" = some (some (.ref f24))) (l24:Yy K "_law_heights" "_law_heights" Jm f24 d24)
  (a25:PySem.W.nsIn K mainGlobals "_law_name_heights" = some (some (.ref f25))) (l25:Yy K "_law_name_heights" "_law_name_heights" Jz f25 d25)
  (a26:PySem.W.nsIn K mainGlobals "_law_whole" = some (some (.ref f26))) (l26:Yy K "_law_whole" "_law_whole" Uo f26 d26)
  (a27:PySem.W.nsIn K mainGlobals "_law_numbers" = some (some (.ref f27))) (l27:Yy K "_law_numbers" "_law_numbers" JQ f27 d27)
  (a28:PySem.W.nsIn K mainGlobals "heights_by_name" = some (some (.ref f28))) (l28:Yy K "heights_by_name" "heights_by_name" JZ f28 d28)
  (a29:PySem.W.nsIn K mainGlobals "partners_born" = some (some (.ref f29))) (l29:Yy K "partners_born" "partners_born" JH f29 d29)
  (a30:PySem.W.nsIn K mainGlobals "partners_ended" = some (some (.ref f30))) (l30:Yy K "partners_ended" "partners_ended" Jx f30 d30)
  (a31:PySem.W.nsIn K mainGlobals "partners_kept" = some (some (.ref f31))) (l31:Yy K "partners_kept" "partners_kept" WE f31 d31)
  (a32:PySem.W.nsIn K mainGlobals "is_tangled" = some (some (.ref f32))) (l32:Yy K "is_tangled" "is_tangled" Uc f32 d32)
  (a33:PySem.W.nsIn K mainGlobals "ways_on" = some (some (.ref f33))) (l33:Yy K "ways_on" "ways_on" ZbR f33 d33)
  (a34:PySem.W.nsIn K mainGlobals "bandings" = some (some (.ref f34))) (l34:Yy K "bandings" "bandings" Gn f34 d34)
  (a35:PySem.W.nsIn K mainGlobals "_law_curled" = some (some (.ref f35))) (l35:Yy K "_law_curled" "_law_curled" Wd f35 d35)
  (a36:PySem.W.nsIn K mainGlobals "_law_front" = some (some (.ref f36))) (l36:Yy K "_law_front" "_law_front" Ur f36 d36)
  (a37:PySem.W.nsIn K mainGlobals "_law_scales" = some (some (.ref f37))) (l37:Yy K "_law_scales" "_law_scales" Wf f37 d37)
  (a38:PySem.W.nsIn K mainGlobals "_law_letter_heights" = some (some (.ref f38))) (l38:Yy K "_law_letter_heights" "_law_letter_heights" Ja f38 d38)
  (a39:PySem.W.nsIn K mainGlobals "_law_is_apart" = some (some (.ref f39))) (l39:Yy K "_law_is_apart" "_law_is_apart" WJ f39 d39)
  (a40:PySem.W.nsIn K mainGlobals "_law_moved_on" = some (some (.ref f40))) (l40:Yy K "_law_moved_on" "_law_moved_on" YJ f40 d40)
  (a41:PySem.W.nsIn K mainGlobals "_law_bandings" = some (some (.ref f41))) (l41:Yy K "_law_bandings" "_law_bandings" JG f41 d41)
  (a42:PySem.W.nsIn K mainGlobals "_law_own" = some (some (.ref f42))) (l42:Yy K "_law_own" "_law_own" Za2 f42 d42)
  (a43:PySem.W.nsIn K mainGlobals "_law_good" = some (some (.ref f43))) (l43:Yy K "_law_good" "_law_good" Gy f43 d43)
  (a44:PySem.W.nsIn K mainGlobals "law" = some (some (.ref f44))) (l44:Yy K "law" "law" Zes f44 d44)
  (Zal:PySem.W.nsIn K mainGlobals "enumerate" = some none)
  (Zhk:PySem.W.nsIn K mainGlobals "list" = some none)
  (ZjF:PySem.W.nsIn K mainGlobals "len" = some none)
  (ZeV:PySem.W.nsIn K mainGlobals "range" = some none)
  (Zjg:PySem.W.nsIn K mainGlobals "abs" = some none)
  (ZjO:PySem.W.nsIn K mainGlobals "sum" = some none)
  (Zkz:PySem.W.nsIn K mainGlobals "zip" = some none)
  (Zdx:PySem.W.nsIn K mainGlobals "sorted" = some none)
  (Uq:PySem.W.nsIn K mainGlobals "isinstance" = some none)
  (ZjH:PySem.W.nsIn K mainGlobals "int" = some none)
  (Zhj:PySem.W.nsIn K mainGlobals "bool" = some none)
  (ZkV:PySem.W.nsIn K mainGlobals "all" = some none)
  (ZjP:PySem.W.nsIn K mainGlobals "max" = some none)
  (Zka:PySem.W.nsIn K mainGlobals "min" = some none)
  (Ul:PySem.W.nsIn K mainGlobals "ValueError" = some none)
  (Zhf:PySem.W.nsIn K mainGlobals "dict" = some none)
  (ZeK:PySem.W.nsIn K mainGlobals "tuple" = some none):
  ∃fd:FuncData,(∀(s:Shared) (v:Value),BindsTo s fd ⟨[v],[]⟩ [("_law_script", v)]) /\ ∀base:Heap,K.In base->base.Ns mainGlobals mg->Yf l.prog w K mg base Wy 13 fa fd ["_law_script"] (ZhG K):=by
 have e:=hfa.symm.trans (kT X G a44)
 cases e
 have ZC:mg "enumerate" = none:=Kr X G Zal
 have Yt:mg "list" = none:=Kr X G Zhk
 have Yn:mg "len" = none:=Kr X G ZjF
 have ZR:mg "range" = none:=Kr X G ZeV
 have ZaN:mg "abs" = none:=Kr X G Zjg
 have Zel:mg "sum" = none:=Kr X G ZjO
 have Zew:mg "zip" = none:=Kr X G Zkz
 have YS:mg "sorted" = none:=Kr X G Zdx
 have Yk:mg "isinstance" = none:=Kr X G Uq
 have Zbv:mg "int" = none:=Kr X G ZjH
 have ZgX:mg "bool" = none:=Kr X G Zhj
 have Zer:mg "all" = none:=Kr X G ZkV
 have Gu:mg "max" = none:=Kr X G ZjP
 have ZaL:mg "min" = none:=Kr X G Zka
 have Zl9:mg "ValueError" = none:=Kr X G Ul
 have ZgY:mg "dict" = none:=Kr X G Zhf
 have WU:mg "tuple" = none:=Kr X G ZeK
 have U1:mg "NoHeights" = some (.ref Yh):=kT X G Uz
 have ZbA:=l0
 have ZeN:=ZbA.binds (ps:=["drawing", "kind"]) fun _ _ _ _ _ _=>us2 fun _ _=>rfl
 have Zep:=l1
 have ZiI:=Zep.binds (ps:=["drawing"]) fun _ _ _ _ _ _=>us1 fun _=>rfl
 have Zdi:=l2
 have ZgE:=Zdi.binds (ps:=["drawing"]) fun _ _ _ _ _ _=>us1 fun _=>rfl
 have Zex:=l3
 have Zi1:=Zex.binds (ps:=["drawing"]) fun _ _ _ _ _ _=>us1 fun _=>rfl
 have ZaJ:=l4
 have ZdJ:=ZaJ.binds (ps:=["drawing", "numbers"]) fun _ _ _ _ _ _=>us2 fun _ _=>rfl
 have Zce:=l5
 have Zgy:=Zce.binds (ps:=["drawing"]) fun _ _ _ _ _ _=>us1 fun _=>rfl
 have Zb8:=l6
 have Zgx:=Zb8.binds (ps:=["thread"]) fun _ _ _ _ _ _=>us1 fun _=>rfl
 have Zci:=l7
 have ZfQ:=Zci.binds (ps:=["drawing"]) fun _ _ _ _ _ _=>us1 fun _=>rfl
 have Zck:=l8
 have ZfM:=Zck.binds (ps:=["first", "mates"]) fun _ _ _ _ _ _=>us2 fun _ _=>rfl
 have ZhS:=l9
 have Zmj:=ZhS.binds (ps:=["drawing"]) fun _ _ _ _ _ _=>us1 fun _=>rfl
 have GU:=l10
 have ZbN:=GU.binds (ps:=["drawing"]) fun _ _ _ _ _ _=>us1 fun _=>rfl
 have Zbg:=l11
 have Zfq:=Zbg.binds (ps:=["tour", "uppers"]) fun _ _ _ _ _ _=>us2 fun _ _=>rfl
 have Zh5:=l12
 have ZlI:=Zh5.binds (ps:=["drawing"]) fun _ _ _ _ _ _=>us1 fun _=>rfl
 have UE:=l13
 have Zcp:=UE.binds (ps:=["tour", "uppers"]) fun _ _ _ _ _ _=>us2 fun _ _=>rfl
 have Zcg:=l14
 have ZgA:=Zcg.binds (ps:=["drawing", "scale"]) fun _ _ _ _ _ _=>us2 fun _ _=>rfl
 have GN:=l15
 have ZbS:=GN.binds (ps:=["drawing", "scale"]) fun _ _ _ _ _ _=>us2 fun _ _=>rfl
 have UP:=l16
 have ZdG:=UP.binds (ps:=["drawing", "scale"]) fun _ _ _ _ _ _=>us2 fun _ _=>rfl
 have Zdt:=l17
 have ZgG:=Zdt.binds (ps:=["_law_script", "_law_at"]) fun _ _ _ _ _ _=>us2 fun _ _=>rfl
 have Zcm:=l18
 have Zgu:=Zcm.binds (ps:=["_law_bag_here", "_law_many"]) fun _ _ _ _ _ _=>us2 fun _ _=>rfl
 have U9:=l19
 have ZcU:=U9.binds (ps:=["_law_bag_here", "_law_births", "_law_most"]) fun _ _ _ _ _ _=>us3 fun _ _ _=>rfl
 have Zb9:=l20
 have Zf2:=Zb9.binds (ps:=["_law_bag_here", "_law_most"]) fun _ _ _ _ _ _=>us2 fun _ _=>rfl
 have ZcW:=l21
 have ZgJ:=ZcW.binds (ps:=["_law_bag_here", "_law_most"]) fun _ _ _ _ _ _=>us2 fun _ _=>rfl
 have Zcl:=l22
 have ZfX:=Zcl.binds (ps:=["_law_drawing_here"]) fun _ _ _ _ _ _=>us1 fun _=>rfl
 have Zbs:=l23
 have ZeS:=Zbs.binds (ps:=["_law_drawing_here"]) fun _ _ _ _ _ _=>us1 fun _=>rfl
 have U7:=l24
 have Zde:=U7.binds (ps:=["_law_drawing_here", "_law_scale"]) fun _ _ _ _ _ _=>us2 fun _ _=>rfl
 have WM:=l25
 have ZaE:=WM.binds (ps:=["_law_drawing_here", "_law_scale"]) fun _ _ _ _ _ _=>us2 fun _ _=>rfl
 have Za6:=l26
 have Ze3:=Za6.binds (ps:=["_law_thing"]) fun _ _ _ _ _ _=>us1 fun _=>rfl
 have Zae:=l27
 have ZdD:=Zae.binds (ps:=["_law_thing"]) fun _ _ _ _ _ _=>us1 fun _=>rfl
 have GA:=l28
 have Zbe:=GA.binds (ps:=["drawing", "scale"]) fun _ _ _ _ _ _=>us2 fun _ _=>rfl
 have UD:=l29
 have Zcr:=UD.binds (ps:=["partners", "k"]) fun _ _ _ _ _ _=>us2 fun _ _=>rfl
 have GR:=l30
 have Zb0:=GR.binds (ps:=["partners", "k"]) fun _ _ _ _ _ _=>us2 fun _ _=>rfl
 have UI:=l31
 have Zct:=UI.binds (ps:=["partners", "k"]) fun _ _ _ _ _ _=>us2 fun _ _=>rfl
 have ZbD:=l32
 have ZeW:=ZbD.binds (ps:=["partners", "k"]) fun _ _ _ _ _ _=>us2 fun _ _=>rfl
 have Zec:=l33
 have ZiB:=Zec.binds (ps:=["partners", "letter", "height"]) fun _ _ _ _ _ _=>us3 fun _ _ _=>rfl
 have Zdh:=l34
 have ZgQ:=Zdh.binds (ps:=["drawing", "scale"]) fun _ _ _ _ _ _=>us2 fun _ _=>rfl
 have ZaK:=l35
 have ZdW:=ZaK.binds (ps:=["_law_bag_here", "_law_letters", "_law_most"]) fun _ _ _ _ _ _=>us3 fun _ _ _=>rfl
 have Zbn:=l36
 have ZeO:=Zbn.binds (ps:=["_law_bag_here", "_law_most"]) fun _ _ _ _ _ _=>us2 fun _ _=>rfl
 have ZaH:=l37
 have ZdT:=ZaH.binds (ps:=["_law_drawing_here"]) fun _ _ _ _ _ _=>us1 fun _=>rfl
 have J2:=l38
 have UL:=J2.binds (ps:=["_law_drawing_here", "_law_scale"]) fun _ _ _ _ _ _=>us2 fun _ _=>rfl
 have UC:=l39
 have Zco:=UC.binds (ps:=["_law_partners", "_law_k"]) fun _ _ _ _ _ _=>us2 fun _ _=>rfl
 have UG:=l40
 have ZcA:=UG.binds (ps:=["_law_partners", "_law_letter"]) fun _ _ _ _ _ _=>us2 fun _ _=>rfl
 have UB:=l41
 have Zcu:=UB.binds (ps:=["_law_drawing_here", "_law_scale"]) fun _ _ _ _ _ _=>us2 fun _ _=>rfl
 have Zdu:=l42
 have Zhm:=Zdu.binds (ps:=["_law_lists", "_law_due"]) fun _ _ _ _ _ _=>us2 fun _ _=>rfl
 have Zcd:=l43
 have ZfF:=Zcd.binds (ps:=["_law_drawing_here", "_law_scale"]) fun _ _ _ _ _ _=>us2 fun _ _=>rfl
 have Zmn:=l44
 have Zpn:=Zmn.binds (ps:=["_law_script"]) fun _ _ _ _ _ _=>us1 fun _=>rfl
 obtain ⟨oc,od,kV,dc,pm,an,cd,ct,sl,rfl,_,_⟩:=l44.ex
 refine ⟨PySem.W.fnOf "law" "law" (Zbo Zes) (Ug Zes) (Zj Zes) .none kV dc pm an cd ct,fun s v=>.of_eq rfl,fun base _ _=>?_⟩
 have Ui:Ys l.prog w K mg base 1 "letters_of" ["drawing", "kind"] ZbW:=ZL (Zg5 ZbA ZC) (kT X G a0) l0.kp ZeN
 have Jr:Ys l.prog w K mg base 2 "ends_of" ["drawing"] (Za5 fun x=>decide (x = "end")):=ZL (Zln Zep Ui) (kT X G a1) l1.kp ZiI
 have Wa:Ys l.prog w K mg base 1 "names_of" ["drawing"] (Za5 UA):=ZL (Zjt Zdi ZC) (kT X G a2) l2.kp ZgE
 have Zb4:Ys l.prog w K mg base 1 "threads" ["drawing"] UY:=ZL (ZgF Zex Yt) (kT X G a3) l3.kp Zi1
 have Y8:Ys l.prog w K mg base 2 "pairs_ahead" ["drawing", "numbers"] ZcL:=ZL (ZkJ ZaJ Zb4) (kT X G a4) l4.kp ZdJ
 have JK:Ys l.prog w K mg base 3 "end_pairs" ["drawing"] Zfu:=ZL (Zfm Zce Y8 Jr) (kT X G a5) l5.kp Zgy
 have Ji:Ys l.prog w K mg base 1 "born_with" ["thread"] Zlt:=ZL (Zoy Zb8) (kT X G a6) l6.kp Zgx
 have U3:Ys l.prog w K mg base 4 "end_mates" ["drawing"] Zfr:=ZL (Zj9 Zci JK Yn) (kT X G a7) l7.kp ZfQ
 have UW:Ys l.prog w K mg base 2 "tour_from" ["first", "mates"] Zhc:=ZL (Zl2 Zck Ji) (kT X G a8) l8.kp ZfM
 have Zas:Ys l.prog w K mg base 5 "tours" ["drawing"] ZcO:=ZL (Zjm ZhS U3 UW Yn ZR) (kT X G a9) l9.kp Zmj
 have YB:Ys l.prog w K mg base 4 "uppers_at_ends" ["drawing"] Zbd:=ZL (Zi5 GU Jr JK Yn) (kT X G a10) l10.kp ZbN
 have Jw:Ys l.prog w K mg base 2 "steps_down" ["tour", "uppers"] ZcD:=ZL (Zj4 Zbg Ji ZC) (kT X G a11) l11.kp Zfq
 have ZeJ:Ys l.prog w K mg base 6 "turns" ["drawing"] Zfb:=ZL (ZkN Zh5 YB Jw Zas ZaN Zel) (kT X G a12) l12.kp ZlI
 have WI:Ys l.prog w K mg base 3 "heights_along" ["tour", "uppers"] ZnC:=ZL (ZoG UE Jw Yn Zew) (kT X G a13) l13.kp Zcp
 have U8:Ys l.prog w K mg base 7 "has_scale" ["drawing", "scale"] Znb:=ZL (Zn4 Zcg ZeJ) (kT X G a14) l14.kp ZgA
 have J3:ZiR l.prog w K mg base 8 "thread_heights" ["drawing", "scale"] (Znv Yh):=ZhU (Zol GN U1 Wj U8 Jr Zas YB WI Yn) (kT X G a15) l15.kp ZbS
 have W9:ZiR l.prog w K mg base 9 "name_heights" ["drawing", "scale"] (ZmH Yh):=ZhU (Zn0 UP J3 Y8 Wa) (kT X G a16) l16.kp ZdG
 have ZaR:Ys l.prog w K mg base 1 "_law_bag" ["_law_script", "_law_at"] (ZkU K):=ZL (Zm6 Zdt Yn ZaN) (kT X G a17) l17.kp ZgG
 have Zu:Ys l.prog w K mg base 1 "_law_take" ["_law_bag_here", "_law_many"] Za0:=ZL (ZlP Zcm) (kT X G a18) l18.kp Zgu
 have Ga:Ys l.prog w K mg base 2 "_law_drawing" ["_law_bag_here", "_law_births", "_law_most"] (ZgI 0):=ZL (ZlB U9 Zu ZR) (kT X G a19) l19.kp ZcU
 have JN:Ys l.prog w K mg base 2 "_law_plat" ["_law_bag_here", "_law_most"] Zc6:=ZL (Zlm Zb9 Zu ZR) (kT X G a20) l20.kp Zf2
 have Za3:Ys l.prog w K mg base 3 "_law_any" ["_law_bag_here", "_law_most"] Zc6:=ZL (Znp ZcW Zu JN Ga) (kT X G a21) l21.kp ZgJ
 have YK:Ys l.prog w K mg base 1 "_law_rows" ["_law_drawing_here"] UY:=ZL (Zl6 Zcl Yt) (kT X G a22) l22.kp ZfX
 have Um:Ys l.prog w K mg base 2 "_law_walks" ["_law_drawing_here"] Zfc:=ZL (Zks Zbs YK ZC YS ZaN) (kT X G a23) l23.kp ZeS
 have Gq:Ys l.prog w K mg base 3 "_law_heights" ["_law_drawing_here", "_law_scale"] ZmT:=ZL (Zom U7 Um YK ZC Zel Yn ZR) (kT X G a24) l24.kp Zde
 have Ye:Ys l.prog w K mg base 4 "_law_name_heights" ["_law_drawing_here", "_law_scale"] ZhD:=ZL (ZmI WM Gq YK ZC) (kT X G a25) l25.kp ZaE
 have Uw:Ys l.prog w K mg base 1 "_law_whole" ["_law_thing"] ZeU:=ZL (Zkt Za6 Yk Zbv ZgX) (kT X G a26) l26.kp Ze3
 have Gd:Ys l.prog w K mg base 2 "_law_numbers" ["_law_thing"] Zb5:=ZL (ZgT Zae Uw Yk Yt Zer) (kT X G a27) l27.kp ZdD
 have JV:Ys l.prog w K mg base 10 "heights_by_name" ["drawing", "scale"] Zlb:=ZL (Zok GA Wa W9 ZgY Zew) (kT X G a28) l28.kp Zbe
 have Wz:Ys l.prog w K mg base 1 "partners_born" ["partners", "k"] Ze9:=ZL (Zjx UD WU) (kT X G a29) l29.kp Zcr
 have J4:Ys l.prog w K mg base 1 "partners_ended" ["partners", "k"] ZgU:=ZL (Zmg GR WU) (kT X G a30) l30.kp Zb0
 have WA:Ys l.prog w K mg base 1 "partners_kept" ["partners", "k"] Ze7:=ZL (Zjz UI WU Yt) (kT X G a31) l31.kp Zct
 have Uk:Ys l.prog w K mg base 1 "is_tangled" ["partners", "k"] ZgC:=ZL (ZlU ZbD YS) (kT X G a32) l32.kp ZeW
 have ZbX:Ys l.prog w K mg base 2 "ways_on" ["partners", "letter", "height"] Ze0:=ZL (Zme Zec Wz J4 WA Uk) (kT X G a33) l33.kp ZiB
 have ZaX:Ys l.prog w K mg base 11 "bandings" ["drawing", "scale"] Znz:=ZL (Zn8 Zdh JV ZbX ZC YS Yt) (kT X G a34) l34.kp ZgQ
 have GG:Ys l.prog w K mg base 2 "_law_curled" ["_law_bag_here", "_law_letters", "_law_most"] ZeL:=ZL (ZiM ZaK Zu Yt ZR Yn Gu) (kT X G a35) l35.kp ZdW
 have Uy:Ys l.prog w K mg base 4 "_law_front" ["_law_bag_here", "_law_most"] ZeX:=ZL (ZjM Zbn Zu Za3 JN GG ZR Yn Gu ZaL) (kT X G a36) l36.kp ZeO
 have GK:Ys l.prog w K mg base 5 "_law_scales" ["_law_drawing_here"] Zdj:=ZL (ZiZ ZaH Ye) (kT X G a37) l37.kp ZdT
 have Jb:Ys l.prog w K mg base 5 "_law_letter_heights" ["_law_drawing_here", "_law_scale"] ZgR:=ZL (ZlG J2 Ye Yt) (kT X G a38) l38.kp UL
 have Wx:Ys l.prog w K mg base 1 "_law_is_apart" ["_law_partners", "_law_k"] Ze2:=ZL (ZkW UC ZaL Gu) (kT X G a39) l39.kp Zco
 have WG:Ys l.prog w K mg base 1 "_law_moved_on" ["_law_partners", "_law_letter"] Zfy:=ZL (Zjs UG Zbv) (kT X G a40) l40.kp ZcA
 have Ww:Ys l.prog w K mg base 6 "_law_bandings" ["_law_drawing_here", "_law_scale"] Zff:=ZL (ZkK UB Jb WG Wx ZC YS) (kT X G a41) l41.kp Zcu
 have ZaV:Ys l.prog w K mg base 1 "_law_own" ["_law_lists", "_law_due"] Zg6:=ZL (ZlQ Zdu ZR Yn) (kT X G a42) l42.kp Zhm
 have Wl:Ys l.prog w K mg base 12 "_law_good" ["_law_drawing_here", "_law_scale"] ZgP:=ZL (Zld Zcd Ww ZaX Gd ZaV ZR Yk Yt Zer) (kT X G a43) l43.kp ZfF
 exact ZmX Zmn ZaR Uy GK Wl ZR Yn Gu ZaL
theorem walk {l:PySem.W.OpenLaw}{q:Program}{loose:List Str}{XP:(Str->Option Value)->Heap->Prop}{YP:World->Heap->Prop}{d:DefRec}{K:Params->PySem.W.Frag} (hn:l.most=some 63) (hdf:d.params.defaults = [])
  (hY:∀(w:World) (h:Heap),YP w h->(K w.params).In h)
  (F:∀(w:World) (mg:Str->Option Value) (fa:Addr) (h:Heap),(K w.params).In h->h.Ns mainGlobals mg->mg d.name=some (.ref fa) ->
   ∃fd:FuncData,(∀(s:Shared) (u:Value),BindsTo s fd ⟨[u],[]⟩ [("_law_script", u)]) /\ ∀base:Heap,(K w.params).In base->base.Ns mainGlobals mg->Yf l.prog w (K w.params) mg base Wy 13 fa fd ["_law_script"] (ZhG (K w.params))):
  PySem.W.WalkO q loose XP YP l.row.toRowW d [] (fun f vs=>PySem.call f vs):=
 L2.Zlx (n:=63) (k:=13) (x := "_law_script") (CX:=fun _=>Wy) (sp:=fun w=>ZhG (K w.params)) hn (by decide) hdf ⟨rfl,by decide,by decide⟩ hY F (fun _ _ a ns hl _ hS=>⟨a,ns,rfl,hS,hl,fun _=>rfl⟩) fun _ _ _ _ _ z=>z
end
end Qk37
namespace PySem.W.Fast
def tw8710240510700769312:=0
def tw3853367721304796384:=0
def tw18434106237705608416:=0
def tw12721697759241722176:=0
def tw17447881574330724704:=0
def tw9736490115464989056:=0
def tw8888057844675547552:=0
def tw4610073357117691456:=0
def tw5629514029987060576:=0
def tw2035088949593694209:=0
def tw14753125338413297761:=0
def tw9689558941102937217:=0
def tw5907569565560410497:=0
def tw2181040847378788833:=0
def tw14257901128295727681:=0
def tw9806974809844074305:=0
def tw6275396933613633409:=0
def tw13976585077326928833:=0
def tw8863211482524232673:=0
def tw12567908982535451682:=0
def tw17092411726750358626:=0
def tw6054135299053625474:=0
def tw2039627389935438338:=0
def tw2380819796142346978:=0
def tw13028716280082528034:=0
def tw11186592632517554018:=0
def tw4148092695866044707:=0
def tw11928631465709344195:=0
def tw8793343069399603683:=0
def tw15327705953068931587:=0
def tw3807802717794681347:=0
def tw14966237430290628259:=0
def tw13302260811137720259:=0
def tw2908076322344351012:=0
def tw17297257071529728388:=0
def tw5419628781275541892:=0
def tw9676352052160591556:=0
def tw1145366392086668996:=0
def tw2461195569222750980:=0
def tw6894659316414595205:=0
def tw6613774915921888581:=0
def tw3899299425343473093:=0
def tw9350598824208568037:=0
def tw8182598382454893445:=0
def tw15605932723706673093:=0
def tw7592360805627002918:=0
def tw4454007889784152230:=0
def tw13538840843118544198:=0
def tw7355876475268597126:=0
def tw17008432981370408422:=0
def tw12749675280965894854:=0
def tw3117277463385701094:=0
def tw9503363149169450055:=0
def tw357161330851298407:=0
def tw16923914574466764967:=0
def tw3283084121836709191:=0
def tw6837421020581757255:=0
def tw7347774008035102407:=0
def tw2111469959270552423:=0
def tw11182066136197266375:=0
def tw7140439729763983400:=0
def tw14150604589425652840:=0
def tw14154318022023404648:=0
def tw7019815011504359592:=0
def tw2042653491613940904:=0
def tw9630772709011722440:=0
def tw7044537773904451784:=0
def tw12719876032886312264:=0
def tw44554905152869736:=0
def tw15680796424389413320:=0
def tw7657100345600966088:=0
def tw4154064025325505128:=0
def tw16329555748589196936:=0
def tw4759105898719906472:=0
def tw15430312545320006440:=0
def tw16129151654201004840:=0
def tw11215625588289543144:=0
def tw9609241855921300521:=0
def tw10427132280312240329:=0
def tw12177594178842070281:=0
def tw15061545840579344841:=0
def tw7523144519211324905:=0
def tw14256383208898718345:=0
def tw3106662815807743689:=0
def tw2173847028202977001:=0
def tw8938449507420232489:=0
def tw1733971977661521801:=0
def tw441352469534710729:=0
def tw11591861031302880362:=0
def tw259395529237577930:=0
def tw14660588142276397546:=0
def tw6284354531798408778:=0
def tw2783012435502768810:=0
def tw8285806141563068234:=0
def tw6288344568888312650:=0
def tw15649913143232712522:=0
def tw16636538722537782250:=0
def tw9704978153579918443:=0
def tw10446355099097427115:=0
def tw5776915232432253419:=0
def tw5423485230495275595:=0
def tw7906496022065180491:=0
def tw4766378403344831467:=0
def tw16659651344020699372:=0
def tw14581680194409933164:=0
def tw14310829441322058092:=0
def tw11769302457703765612:=0
def tw12787285397461243596:=0
def tw2798579167587385228:=0
def tw13765692819439982508:=0
def tw14360383216266794029:=0
def tw11718908721537395949:=0
def tw16114596057538405645:=0
def tw11867858064808995117:=0
def tw8870056805011468685:=0
def tw7574482240407723405:=0
def tw9817007722673103245:=0
def tw8612942502468243885:=0
def tw4913617886235914733:=0
def tw8014113903311573581:=0
def tw14952719781066654445:=0
def tw15762791896000316301:=0
def tw14226808687115815885:=0
def tw16671591602331269198:=0
def tw4376173261536354606:=0
def tw17884384420517009774:=0
def tw18422146055772818894:=0
def tw14869598847439002094:=0
def tw10260914634914597358:=0
def tw3637695753556906702:=0
def tw10799086251781176174:=0
def tw12715767722857151470:=0
def tw6954733485886455919:=0
def tw7779054364722831503:=0
def tw9260266583314344271:=0
def tw7600725471173032335:=0
def tw145215669282066863:=0
def tw368149466093063951:=0
def tw14004249173011655503:=0
def tw4926358970107175823:=0
def tw5502973147712543760:=0
def tw1218169072217632880:=0
def tw12114020452440706448:=0
def tw11941398136131997072:=0
def tw8799710060347990480:=0
def tw16460668740961256016:=0
def tw2902660530200517488:=0
def tw18102095264855866320:=0
def tw18009877906299139121:=0
def tw16669954387599802449:=0
def tw16933370561357468785:=0
def tw13071029524020408465:=0
def tw1102591571216665809:=0
def tw10736870674573925585:=0
def tw11461120728248809809:=0
def tw5260997043133847953:=0
def tw17956365317874022833:=0
def tw10302739644578776529:=0
def tw6026953678115854993:=0
def tw16440268299880051922:=0
def tw6438493835794019698:=0
def tw17424424687955590802:=0
def tw13077635304490887922:=0
def tw16746046034590496883:=0
def tw1465332490267425043:=0
def tw13597452335350883635:=0
def tw7088305113227358579:=0
def tw17094892900745346707:=0
def tw2595326683827134259:=0
def tw17014992479565822803:=0
def tw6133908407773933491:=0
def tw16485948623267614675:=0
def tw11520642888776038387:=0
def tw4768662996358151732:=0
def tw5147725985826563700:=0
def tw3634147718456740500:=0
def tw4875250211846046452:=0
def tw16967887835978899477:=0
def tw15787698776903794709:=0
def tw7335059835682814997:=0
def tw6394124522484028533:=0
def tw13755629482981147029:=0
def tw1069752673957822933:=0
def tw7330608784489045525:=0
def tw13766427966092635733:=0
def tw2658698786862358261:=0
def tw6536303858498213813:=0
def tw13892200459651765270:=0
def tw12864149656076469302:=0
def tw130097666447594582:=0
def tw9337343178723189942:=0
def tw1284309730088523990:=0
def tw4914097652494298550:=0
def tw3224364703733872086:=0
def tw10130930454756910550:=0
def tw16917808024329309718:=0
def tw5086130367099220630:=0
def tw14220833134181996310:=0
def tw2953764892465494838:=0
def tw8853546050241060694:=0
def tw4160535634766909334:=0
def tw1975741272272575446:=0
def tw13410273226139278647:=0
def tw11377751707520102743:=0
def tw16290302318819368439:=0
def tw9348666754838991511:=0
def tw4417556594796596983:=0
def tw8915174029593515927:=0
def tw10816377798943997879:=0
def tw16715526084546877399:=0
def tw15315934750688901400:=0
def tw576064632308701496:=0
def tw2527575232899673464:=0
def tw16001673726065578360:=0
def tw4986602454855936472:=0
def tw14880585539315849784:=0
def tw4537697785400237944:=0
def tw3475234857134431257:=0
def tw11264438717468727449:=0
def tw11479134135883141305:=0
def tw4004910792560596281:=0
def tw12060926788683812153:=0
def tw873023595788198585:=0
def tw3568138459898664665:=0
def tw11861519978894927673:=0
def tw6841973095090144057:=0
def tw138922602465527737:=0
def tw11687199442871181370:=0
def tw8001148522560921658:=0
def tw15676485834089797818:=0
def tw1665423451301161306:=0
def tw15915216535984756186:=0
def tw9509548558512457178:=0
def tw11201534868031341114:=0
def tw425403316613629530:=0
def tw15010753753234339450:=0
def tw6197819049942938234:=0
def tw17218422576803243674:=0
def tw5006573634111071930:=0
def tw3391705882989257434:=0
def tw4207986208305645338:=0
def tw12239115961759058971:=0
def tw11301754280277164251:=0
def tw4400615393074733339:=0
def tw13767752645838435739:=0
def tw9620431805411288571:=0
def tw2056469879548534299:=0
def tw9992560646631561851:=0
def tw639048453688642235:=0
def tw14674737418582253275:=0
def tw8164610509419764539:=0
def tw7920811125109684123:=0
def tw16143372348833824667:=0
def tw13870565754709430332:=0
def tw12414506240476455004:=0
def tw5109880805822172284:=0
def tw6947317893782357308:=0
def tw8004893625771501980:=0
def tw10482447113208726108:=0
def tw3822049106123857500:=0
def tw17871619229154745980:=0
def tw4581050439286230812:=0
def tw3673281883029411612:=0
def tw12795908959069502300:=0
def tw95675351039323100:=0
def tw4457425563837300700:=0
def tw13933661946124047389:=0
def tw2926157407200957661:=0
def tw1948617629353895197:=0
def tw10867922057989323101:=0
def tw10606501664078378365:=0
def tw4938777949062128029:=0
def tw12896554942639901117:=0
def tw2484825228074287805:=0
def tw1453077966378080989:=0
def tw2913303593116808029:=0
def tw17921042573470719965:=0
def tw2968124801486448702:=0
def tw11045462616809437790:=0
def tw13599159559214504606:=0
def tw17008381387649470398:=0
def tw16030730113735158815:=0
def tw17321464918871863839:=0
def tw5501304743762031231:=0
def tw342593130406982271:=0
def tw10073459750046733183:=0
def tw15849801267805999573:=0
end PySem.W.Fast
open PySem PySem.W PyProof.Rows
set_option maxRecDepth 100000 in
set_option maxHeartbeats 0 in
theorem PySem.Challenge.cw_bendfronts_k37_all_bandings_holds : PySem.Challenge.rw_bendfronts_k37_all_bandings.Holds := by
 w_on; o_law; k_head; (case hw => w_witness2)
 k_fill
 refine Qk37.walk (l := PySem.Challenge.rw_bendfronts_k37_all_bandings) rfl rfl (fun w h Y => PySem.W.kIn_of Y) ?F
 case F =>
  intro w mg fa h KX G hmg
  refine' Qk37.all_mk KX G hmg ?Uz ?Wj ?a0 ?l0 ?a1 ?l1 ?a2 ?l2 ?a3 ?l3 ?a4 ?l4 ?a5 ?l5 ?a6 ?l6 ?a7 ?l7 ?a8 ?l8 ?a9 ?l9 ?a10 ?l10 ?a11 ?l11 ?a12 ?l12 ?a13 ?l13 ?a14 ?l14 ?a15 ?l15 ?a16 ?l16 ?a17 ?l17 ?a18 ?l18 ?a19 ?l19 ?a20 ?l20 ?a21 ?l21 ?a22 ?l22 ?a23 ?l23 ?a24 ?l24 ?a25 ?l25 ?a26 ?l26 ?a27 ?l27 ?a28 ?l28 ?a29 ?l29 ?a30 ?l30 ?a31 ?l31 ?a32 ?l32 ?a33 ?l33 ?a34 ?l34 ?a35 ?l35 ?a36 ?l36 ?a37 ?l37 ?a38 ?l38 ?a39 ?l39 ?a40 ?l40 ?a41 ?l41 ?a42 ?l42 ?a43 ?l43 ?a44 ?l44 ?Zal ?Zhk ?ZjF ?ZeV ?Zjg ?ZjO ?Zkz ?Zdx ?Uq ?ZjH ?Zhj ?ZkV ?ZjP ?Zka ?Ul ?Zhf ?ZeK
  (case Uz => k_is)
  (case Wj => k_exc)
  (case a0 => k_is)
  (case l0 => exact L2.ZK (by k_is) (by k_is) (by k_is))
  (case a1 => k_is)
  (case l1 => exact L2.ZK (by k_is) (by k_is) (by k_is))
  (case a2 => k_is)
  (case l2 => exact L2.ZK (by k_is) (by k_is) (by k_is))
  (case a3 => k_is)
  (case l3 => exact L2.ZK (by k_is) (by k_is) (by k_is))
  (case a4 => k_is)
  (case l4 => exact L2.ZK (by k_is) (by k_is) (by k_is))
  (case a5 => k_is)
  (case l5 => exact L2.ZK (by k_is) (by k_is) (by k_is))
  (case a6 => k_is)
  (case l6 => exact L2.ZK (by k_is) (by k_is) (by k_is))
  (case a7 => k_is)
  (case l7 => exact L2.ZK (by k_is) (by k_is) (by k_is))
  (case a8 => k_is)
  (case l8 => exact L2.ZK (by k_is) (by k_is) (by k_is))
  (case a9 => k_is)
  (case l9 => exact L2.ZK (by k_is) (by k_is) (by k_is))
  (case a10 => k_is)
  (case l10 => exact L2.ZK (by k_is) (by k_is) (by k_is))
  (case a11 => k_is)
  (case l11 => exact L2.ZK (by k_is) (by k_is) (by k_is))
  (case a12 => k_is)
  (case l12 => exact L2.ZK (by k_is) (by k_is) (by k_is))
  (case a13 => k_is)
  (case l13 => exact L2.ZK (by k_is) (by k_is) (by k_is))
  (case a14 => k_is)
  (case l14 => exact L2.ZK (by k_is) (by k_is) (by k_is))
  (case a15 => k_is)
  (case l15 => exact L2.ZK (by k_is) (by k_is) (by k_is))
  (case a16 => k_is)
  (case l16 => exact L2.ZK (by k_is) (by k_is) (by k_is))
  (case a17 => k_is)
  (case l17 => exact L2.ZK (by k_is) (by k_is) (by k_is))
  (case a18 => k_is)
  (case l18 => exact L2.ZK (by k_is) (by k_is) (by k_is))
  (case a19 => k_is)
  (case l19 => exact L2.ZK (by k_is) (by k_is) (by k_is))
  (case a20 => k_is)
  (case l20 => exact L2.ZK (by k_is) (by k_is) (by k_is))
  (case a21 => k_is)
  (case l21 => exact L2.ZK (by k_is) (by k_is) (by k_is))
  (case a22 => k_is)
  (case l22 => exact L2.ZK (by k_is) (by k_is) (by k_is))
  (case a23 => k_is)
  (case l23 => exact L2.ZK (by k_is) (by k_is) (by k_is))
  (case a24 => k_is)
  (case l24 => exact L2.ZK (by k_is) (by k_is) (by k_is))
  (case a25 => k_is)
  (case l25 => exact L2.ZK (by k_is) (by k_is) (by k_is))
  (case a26 => k_is)
  (case l26 => exact L2.ZK (by k_is) (by k_is) (by k_is))
  (case a27 => k_is)
  (case l27 => exact L2.ZK (by k_is) (by k_is) (by k_is))
  (case a28 => k_is)
  (case l28 => exact L2.ZK (by k_is) (by k_is) (by k_is))
  (case a29 => k_is)
  (case l29 => exact L2.ZK (by k_is) (by k_is) (by k_is))
  (case a30 => k_is)
  (case l30 => exact L2.ZK (by k_is) (by k_is) (by k_is))
  (case a31 => k_is)
  (case l31 => exact L2.ZK (by k_is) (by k_is) (by k_is))
  (case a32 => k_is)
  (case l32 => exact L2.ZK (by k_is) (by k_is) (by k_is))
  (case a33 => k_is)
  (case l33 => exact L2.ZK (by k_is) (by k_is) (by k_is))
  (case a34 => k_is)
  (case l34 => exact L2.ZK (by k_is) (by k_is) (by k_is))
  (case a35 => k_is)
  (case l35 => exact L2.ZK (by k_is) (by k_is) (by k_is))
  (case a36 => k_is)
  (case l36 => exact L2.ZK (by k_is) (by k_is) (by k_is))
  (case a37 => k_is)
  (case l37 => exact L2.ZK (by k_is) (by k_is) (by k_is))
  (case a38 => k_is)
  (case l38 => exact L2.ZK (by k_is) (by k_is) (by k_is))
  (case a39 => k_is)
  (case l39 => exact L2.ZK (by k_is) (by k_is) (by k_is))
  (case a40 => k_is)
  (case l40 => exact L2.ZK (by k_is) (by k_is) (by k_is))
  (case a41 => k_is)
  (case l41 => exact L2.ZK (by k_is) (by k_is) (by k_is))
  (case a42 => k_is)
  (case l42 => exact L2.ZK (by k_is) (by k_is) (by k_is))
  (case a43 => k_is)
  (case l43 => exact L2.ZK (by k_is) (by k_is) (by k_is))
  (case a44 => k_is)
  (case l44 => exact L2.ZK (by k_is) (by k_is) (by k_is))
  (case Zal => k_is)
  (case Zhk => k_is)
  (case ZjF => k_is)
  (case ZeV => k_is)
  (case Zjg => k_is)
  (case ZjO => k_is)
  (case Zkz => k_is)
  (case Zdx => k_is)
  (case Uq => k_is)
  (case ZjH => k_is)
  (case Zhj => k_is)
  (case ZkV => k_is)
  (case ZjP => k_is)
  (case Zka => k_is)
  (case Ul => k_is)
  (case Zhf => k_is)
  (case ZeK => k_is)

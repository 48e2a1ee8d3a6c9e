import PyProof.Rows.All
import Wide.All
import OpenK.AllK
import Wide.FinOn
import Lean
import PyProof.EqAt
import PyProof.EqKinds
import PyProof.TupleCall
import PyProof.AttrMissHeap
import PyProof.FactsAll.zip_1
import KE.KDictOf
import PyProof.Draws
import KE.KRevIter
import PyProof.FactsAll.range
import PyProof.Rows.RuleM_int
import KE.BitLaws
import PyProof.DictItems
import PyProof.DictRoadsH
import KE.KItemsList
import PySem.Challenge.RW_bendfronts_k39_band_sums
set_option Elab.async false
set_option linter.all false
set_option maxRecDepth 100000
def ka:=@PySem.wpAny_bind
def ke:=@List.length_map
def kg:=@List.length_append
def kh:=@if_neg
def ki:=@Nat.le_refl
def kj:=@if_pos
def km:=@PySem.wpAny_pure
def ko:=@PySem.Heap.get?_push_of_some
def kr:=@Array.toList_push
def kC:=@PyProof.Rows.wpS_bind
def kE:=@List.getElem?_map
def kF:=@List.size_toArray
def kG:=@PyProof.Rows.wpS_pure
def kH:=@List.map_cons
def kI:=@List.getElem?_eq_some_iff
def kJ:=@List.append_assoc
def kK:=@List.take_of_length_le
def kL:=@List.length_take
def kM:=@decide_eq_true
def kO:=@of_decide_eq_true
def kP:=@List.mem_cons
def kQ:=@List.mem_cons_self
def kS:=@List.mem_cons_of_mem
def kT:=@Int.eq_ofNat_of_zero_le
def kU:=@List.getElem?_eq_getElem
def kX:=@Int.toNat_natCast
def kY:=@PySem.F.plainAttrs_list
def kZ:=@Array.toList_append
def k6:=@List.map_append
def k7:=@List.mem_singleton
def k8:=@Bool.false_ne_true
def k9:=@List.mem_of_getElem?
def Ka:=@Option.map_eq_some_iff
def Kb:=@Option.some.inj
def Kc:=@PySem.Heap.lt_size
def Ke:=@List.take_add_one
def Kf:=@PySem.F.slot_list_append
def Kg:=@PySem.F.type_list_append
def Kh:=@List.getElem?_append_right
def Ki:=@decide_eq_false
def Kj:=@PySem.PassesOwn.never
def Kk:=@Nat.ne_of_lt
def Kl:=@List.nodup_cons
def Km:=@PySem.Heap.get?_push_size
def Kn:=@PySem.sizeLine_eq
def Ko:=@Array.getElem?_toList
def Kq:=@List.mem_map
def Kr:=@List.flatten_append
def Ks:=@List.length_singleton
def Kt:=@List.take_append_drop
def Ku:=@List.flatten_cons
def Kv:=@List.take_append_of_le_length
def Kw:=@Array.toList_reverse
def Kx:=@Nat.le_trans
def Ky:=@congrArg
def Kz:=@Ne.symm
def KA:=@decide_eq_true_eq
def KC:=@List.mem_append
def KD:=@List.Perm.append_left
def KG:=@List.perm_append_comm
def KH:=@List.getElem?_append_left
def KJ:=@PySem.wpAny_holding
def KL:=@List.append_nil
def KN:=@Nat.le_of_lt
def KO:=@List.getD_eq_getElem?_getD
def KP:=@Nat.zero_le
def KQ:=@Bool.and_eq_true
def KR:=@Nat.lt_of_lt_of_le
def KS:=@PySem.wpAny_truthy_bool
def KU:=@List.length_drop
def KW:=@List.mem_flatMap
def KY:=@List.length_set
def KZ:=@List.drop_eq_getElem_cons
def K0:=@List.length_replicate
def K1:=@PySem.wpAny_call_entry
def K2:=@Array.length_toList
def K3:=@List.length_cons
def K4:=@PySem.wpAny_mono
def K6:=@PyProof.Rows.wpS_forRange
def K7:=@List.range_succ
def K8:=@List.mem_append_right
def K9:=@List.length_eq_zero_iff
def qa:=@List.mem_range
def qb:=@PySem.wpAny_newObj_type
def qc:=@List.drop_eq_nil_of_le
def qd:=@PySem.boot_len
def qe:=@Bool.false_eq_true
def qf:=@PyProof.Rows.callWith_type1
def qg:=@PyProof.Rows.slot_tuple_getitem
def qh:=@List.map_map
def qi:=@List.lookup_cons
def qj:=@List.getElem?_set
def qm:=@List.flatMap_cons
def qo:=@List.mem_filterMap
def qp:=@List.getElem_mem
def qq:=@PySem.wpAny_field
def qr:=@PySem.F.slot_dict_get
def qt:=@Nat.add_sub_cancel_left
def qu:=@List.pairwise_cons
def qv:=@PySem.W.kia_one
def qw:=@List.find?_cons
def qy:=@List.Perm.append_right
def qz:=@List.take_length
def qA:=@List.flatten_nil
def qB:=@beq_eq_false_iff_ne
def qC:=@PySem.wpAny_rule
def qD:=@List.nodup_append
def qE:=@List.pairwise_map
def qF:=@Nat.lt_irrefl
def qG:=@PySem.wpAny_typeOf
def qH:=@List.forIn_cons
def qI:=@PyProof.Rows.wpS_modify
def qJ:=@PySem.wpAny_callSpecial?_slot
def qK:=@Int.le_refl
def qL:=@PySem.Heap.get?_update_other
def qM:=@PySem.Calls.callWith_builtin
def qN:=@PySem.mem_of_lookup
def qO:=@PyProof.Rows.wpS_mono
def qP:=@PySem.Calls.spliced_cons
def qQ:=@List.any_cons
def qR:=@Nat.le_succ
def qS:=@List.replicate_succ'
def qT:=@PySem.F.slot_dict_itemiterator_next
def qU:=@PySem.F.plainAttrs_dict
def qV:=@List.length_range
def qW:=@Bool.eq_iff_iff
def qX:=@List.nil_append
def qY:=@List.filterMap_cons
def qZ:=@List.map_set
def Xa:=@PySem.F.entry_dict_get
def Xb:=@PySem.Paired.length
def Xc:=@PySem.wpAny_standAt
def Xd:=@List.sum_cons
def Xe:=@List.all_eq_true
def Xf:=@if_false
def Xg:=@Int.emod_lt_of_pos
def Xh:=@List.extract_eq_take_drop
def Xi:=@Option.map_some
def Xj:=@PySem.wpAny_passesOwn
def Xk:=@PySem.wpAny_specialOf
def Xl:=@List.length_nil
def Xm:=@List.mem_append_left
def Xn:=@Nat.ne_of_gt
def Xo:=@PySem.Calls.evalArgs_plain
def Xp:=@PyProof.Rows.wpS_get
def Xq:=@List.map_take
def Xr:=@List.replicate_succ
def Xs:=@PySem.wpAny_seqItems
def Xt:=@List.forIn_nil
def Xu:=@List.not_mem_nil
def Xv:=@decide_eq_decide
def Xw:=@PySem.wpAny_isInstance
def Xx:=@PySem.F.slot_zip_getattribute
def Xy:=@PySem.wpAny_typeNameOfWhole_itemiter
def Xz:=@PySem.F.slot_list_count
def XA:=@PySem.F.type_list_count
def XB:=@PySem.wpAny_typeNameOfWhole_keyiter
def XC:=@List.eq_nil_of_length_eq_zero
def XD:=@PySem.tupleKind_room_in1
def XE:=@Nat.sub_self
def XF:=@Array.getElem?_eq_none
def XG:=@Bool.or_eq_true
def XH:=@PySem.F.slot_dict_keyiterator_next
def XI:=@Int.emod_nonneg
def XJ:=@List.sum_append
def XM:=@List.map_drop
def XN:=@PyProof.Rows.boot_list
def XO:=@PySem.wpAny_notOrdered_dict
def XQ:=@List.mem_iff_getElem?
def XR:=@PySem.Calls.spliced_nil
def XS:=@List.mapM_toArray
def XT:=@Nat.lt_of_succ_lt
def XU:=@List.getElem?_set_ne
def XW:=@PySem.wpAny_listPart
def XX:=@List.Perm.refl
def XY:=@Array.toList_extract
def XZ:=@PyProof.Rows.IntsAre.length
def X0:=@PySem.Around.under_plainId
def X8:=@List.countP_cons
def X9:=@map_eq_pure_bind
def Ta:=@Int.add_zero
def Tb:=@List.map_congr_left
def Tc:=@List.flatMap_append
def Td:=@List.getElem?_take_of_lt
def Te:=@PySem.F.args_tuple_add_2
def Tf:=@List.of_mem_zip
def Tg:=@PyProof.Rows.boot_isinstance
def Th:=@PySem.wpAny_Call_Name_kw
def Ti:=@PySem.call_meets
def Tj:=@PySem.W.KFB.if_not
def To:=@Nat.lt_of_le_of_lt
def Tp:=@PySem.F.entry_tuple_add
def Tq:=@decide_eq_false_iff_not
def Tr:=@List.getElem?_cons_succ
def Ts:=@PySem.F.args_dict_get_3
def Tt:=@PyProof.Rows.boot_sorted
def Tu:=@List.getElem?_set_self
def Tv:=@PySem.F.slot_tuple_add
def Tw:=@if_true
def Tx:=@PyProof.Rows.wpS_lift
def Tz:=@Nat.lt_or_ge
def TB:=@PySem.wpAny_dictEntries
def TC:=@PySem.wpAny_isOneOf_itemiter
def TF:=@PyProof.Rows.pairsOf_size
def TH:=@PySem.F.slot_tuple_hash
def TJ:=@PySem.Heap.get?_update_self
def TK:=@List.set_append_right
def TL:=@PySem.F.type_dict_get
def TM:=@PySem.isSubtype_tuple_tuple
def TN:=@PySem.F.slot_list_pop
def TQ:=@PySem.F.type_list_pop
def TR:=@List.length_filter_le
def TU:=@PySem.wpAny_eqBool_int
def TV:=@PySem.wpAny_callSpecialIfBound?_slot
def TY:=@PySem.wpAny_attempt
def TZ:=@List.mem_iff_getElem
def T1:=@PySem.Paired.snoc
def T2:=@PySem.F.slot_dict_itemiterator_iter
def T3:=@List.drop_append_of_le_length
def T4:=@List.singleton_perm_singleton
def T5:=@PySem.wpAny_execs_nil
def T6:=@PySem.SeqAt.EqAt.same
def T7:=@PySem.wpAny_ite_split
def T8:=@PySem.wpAny_dictEpoch
def T9:=@PySem.codeAny_builtin
def Na:=@PySem.F.slot_tuple_eq
def Nb:=@PySem.pairTrees_cons_walk
def Nc:=@PyProof.Rows.getElem?_mirror_all
def Nd:=@Nat.add_zero
def Nf:=@PySem.call_meetsIn
def Ng:=@List.idxOf_lt_length_of_mem
def Nh:=@PySem.Calls.Name_function_global
def Ni:=@PyProof.Rows.assignInOrder_cons
def Nj:=@PySem.Heap.IsSliceOf.new
def Nk:=@List.nodup_iff_pairwise_ne
def Nl:=@Array.getElem?_eq_some_iff
def Nm:=@PySem.F.excBase_ValueError
def Nn:=@PySem.pairTrees_nil_walk
def Np:=@Array.toList_setIfInBounds
def Nq:=@Array.perm_iff_toList_perm
def Nr:=@List.length_eraseIdx_of_lt
def Nt:=@PySem.wpAny_tupleItemsOf
def Nu:=@Array.forIn_toList
def Nv:=@List.take_zero
def Nw:=@PyProof.Rows.boot_tuple
def Nx:=@List.Perm.cons_inv
def Ny:=@PySem.F.slot_dict_getitem
def Nz:=@PySem.Calls.call_function_entry
def NA:=@List.pairwise_iff_getElem
def NB:=@List.getElem?_eq_none_iff
def NC:=@List.exists_mem_of_ne_nil
def ND:=@Sum.inl.inj
def NF:=@PySem.wpAny_sequenceKey
def NG:=@PySem.wpAny_pyIter_slot
def NH:=@Nat.lt_succ_of_lt
def NI:=@PySem.wpAny_Call_method
def NJ:=@List.reverse_perm
def NK:=@List.ext_getElem?
def NL:=@List.find?_append
def NM:=@Option.isSome_iff_exists
def NO:=@PySem.evalPart_none
def NP:=@PySem.wpAny_comprehension_free
def NQ:=@List.length_filterMap_le
def NR:=@List.length_erase_of_mem
def NS:=@PySem.plainId_quiet
def NT:=@List.Pairwise.imp_of_mem
def NU:=@PySem.F.slot_list_insert
def NV:=@PySem.F.type_list_insert
def NW:=@List.getElem?_replicate
def NX:=@PySem.noFill_tuple_add
def NY:=@Prod.ext
def NZ:=@Option.getD_none
def N0:=@Nat.succ_le_succ
def N1:=@PySem.IsL.isList
def N2:=@Nat.le_add_right
def N3:=@Nat.le_of_not_lt
def N4:=@List.eraseIdx_cons_succ
def N5:=@List.cons_append
def N6:=@PySem.wpAny_Dict_empty
def N7:=@PySem.wpAny_pyIter_zip
def N8:=@List.take_append
def N9:=@Nat.min_eq_right
def Mb:=@PySem.F.slot_dict_items
def Mc:=@PySem.F.type_dict_items
def Md:=@PySem.F.args_dict_get_2
def Mh:=@PyProof.noPylong_small
def Mi:=@PySem.W.cellsFrom_some
def Mk:=@Bool.true_or
def Ml:=@List.map_nil
def Mm:=@beq_iff_eq
def Mn:=@bne_iff_ne
def Mr:=@List.mem_filter
def Ms:=@PySem.F.slot_tuple_lt
def Mu:=@PySem.wpAny_ite_false
def Mv:=@Nat.min_eq_left
def MA:=@List.getElem?_eq_none
def MC:=@Bool.false_and
def MD:=@PySem.seqIndex_of
def ME:=@PySem.wpAny_of_eq
def MF:=@PySem.Heap.size_push
def MG:=@List.nodup_nil
def MH:=@or_false
def MJ:=@PySem.wpAny_setField
def MK:=@PySem.isSubtype_stop
def ML:=@PySem.wpAny_newTuple
def MM:=@List.drop_zero
def MN:=@PySem.F.slot_list_lt
def MP:=@List.mem_of_mem_take
def MQ:=@PyProof.Rows.boot_int
def MR:=@PyProof.Rows.boot_max
def MS:=@Nat.mul_le_mul_right
def MT:=@Nat.pow_le_pow_right
def MW:=@Nat.add_le_add_left
def MY:=@List.take_succ_cons
def MZ:=@PySem.evalArgs_none
def M3:=@List.countP_eq_zero
def M4:=@Nat.mul_le_mul_left
def M5:=@PySem.wpAny_release
def M6:=@PySem.seq_tuple_add
def M7:=@List.all_cons
def M9:=@Bool.false_or
def La:=@List.take_nil
def Lb:=@PySem.wpAny_newList
def Lc:=@Bool.not_true
def Ld:=@Int.add_assoc
def Lj:=@PySem.typeIs_int
def Lk:=@Option.isNone_none
def Lq:=@Nat.and_one_is_mod
def Lx:=@List.zip_cons_cons
def Ly:=@List.find?_eq_none
def Lz:=@List.countP_append
def LA:=@List.map_singleton
def LB:=@List.getElem?_take
def LC:=@List.getElem?_drop
def LD:=@of_decide_eq_false
def LF:=@Int.add_right_comm
def LS:=@Int.le_trans
def LX:=@getElem?_pos
def L5:=@Nat.sub_zero
def L6:=@Nat.zero_add
def Ob:=@Int.zero_add
def Oc:=@Int.le_of_lt
def Om:=@not_or
namespace L2
open PySem PySem.Spec PyProof.Rows
theorem sz0:0<=sizeLine:=by decide
theorem sz1:1<=sizeLine:=by decide
theorem sz2:2<=sizeLine:=by decide
theorem sz3:3<=sizeLine:=by decide
abbrev Key:=Sum Int Str
def ZdA:Key->Value->Bool
 | .inl k,v=>Value.isInt k v
 | .inr x,v=>Value.isStrOf x v
def ZpZ (w:World):Key->Int
 | .inl k=>hashInt k
 | .inr x=>hashStr w x
theorem Yu:∀{k:Key}{v:Value},ZdA k v=true->(∃i t,k=Sum.inl i/\v=Value.int i t)∨(∃x t,k=Sum.inr x/\v=Value.str x t)
 | .inl i,v,h=>by
  obtain⟨t,e⟩:=Value.isInt_shape (k:=i) (v:=v) h;exact .inl ⟨i,t,rfl,e⟩
 | .inr x,v,h=>by obtain⟨t,e⟩:=Value.isStrOf_shape (x:=x) (v:=v) h;exact .inr ⟨x,t,rfl,e⟩
theorem ZiJ (i:Int)(t:Tok):ZdA (.inl i) (.int i t)=true:=by simp[ZdA,Value.isInt]
theorem Zil (x:Str)(t:Tok):ZdA (.inr x) (.str x t)=true:=by simp[ZdA,Value.isStrOf]
theorem Zm1 (a b:Int):decide ((Sum.inl a:Key)=Sum.inl b)=(a==b):=by
 by_cases e:a=b
 ·subst e;simp
 ·have h:¬(Sum.inl a:Key)=Sum.inl b:=fun q=>e (ND q);rw[Ki h];exact(qB.mpr e).symm
theorem Zog (a b:Str):decide ((Sum.inr a:Key)=Sum.inr b)=decide (a=b):=by
 by_cases e:a=b
 ·subst e;simp
 ·have h:¬(Sum.inr a:Key)=Sum.inr b:=fun q=>e (Sum.inr.inj q);rw[Ki h,Ki e]
theorem Zm4 (a:Int)(b:Str):decide ((Sum.inl a:Key)=Sum.inr b)=false:=Ki (fun q=>nomatch q)
theorem Znl (a:Str)(b:Int):decide ((Sum.inr a:Key)=Sum.inl b)=false:=Ki (fun q=>nomatch q)
def ZI (prog:Program)(w:World):PySem.KeyKind prog w Key where
 is:=ZdA
 hash:=ZpZ w
 inj:=fun v a b ha hb=>by
  rcases Yu ha with⟨i,t,rfl,rfl⟩ | ⟨x,t,rfl,rfl⟩
  ·rcases Yu hb with⟨j,u,rfl,e⟩ | ⟨y,u,rfl,e⟩
   ·injection e with e1 _;rw[e1]
   ·exact nomatch e
  ·rcases Yu hb with⟨j,u,rfl,e⟩ | ⟨y,u,rfl,e⟩
   ·exact nomatch e
   ·injection e with e1 _;rw[e1]
 byValue:=fun k v h=>by rcases Yu h with⟨i,t,rfl,rfl⟩ | ⟨x,t,rfl,rfl⟩<;>rfl
 pyHash:=fun hv h=>by
  rcases Yu hv with⟨i,t,rfl,rfl⟩ | ⟨x,t,rfl,rfl⟩
  ·exact wpAny_pyHash_int h
  ·exact wpAny_pyHash_str h
 eqBool:=fun hu hv h=>by
  rcases Yu hu with⟨i,t,rfl,rfl⟩ | ⟨x,t,rfl,rfl⟩
  ·rcases Yu hv with⟨j,u,rfl,rfl⟩ | ⟨y,u,rfl,rfl⟩
   ·rw[Zm1] at h;exact TU h
   ·rw[Zm4] at h;exact SeqAt.EqAt.int_str i t y u _ _ _ _ h
  ·rcases Yu hv with⟨j,u,rfl,rfl⟩ | ⟨y,u,rfl,rfl⟩
   ·rw[Znl] at h;exact SeqAt.EqAt.str_int x t j u _ _ _ _ h
   ·rw[Zog] at h;exact wpAny_eqBool_str h
 «strs»:=fun k x t v h=>by
  rcases Yu h with⟨i,u,rfl,e⟩ | ⟨y,u,rfl,e⟩
  ·exact nomatch e
  ·injection e with e1 _
   subst e1;cases v<;>rfl
theorem ZfJ (prog:Program)(w:World)(i:Int)(t:Tok):(ZI prog w).is (.inl i) (.int i t)=true:=ZiJ i t
theorem Zfy (prog:Program)(w:World)(x:Str)(t:Tok):(ZI prog w).is (.inr x) (.str x t)=true:=Zil x t
inductive V where
 | non | bl (b:Bool) | int (i:Int) | str (x:Str) | byt (b:Array UInt8) | flt (b:UInt64) | ref (a:Addr) | ty (n:String)
 deriving DecidableEq
def RelV:V->Value->Prop
 | .non,u=>u=Value.none
 | .bl b,u=>u=Value.bool b
 | .int i,u=>∃t,u=Value.int i t
 | .str x,u=>∃t,u=Value.str x t
 | .byt b,u=>∃t,u=Value.bytes b t
 | .flt b,u=>∃t,u=Value.float b t
 | .ref a,u=>u=Value.ref a
 | .ty n,u=>u=Value.type n
abbrev Vals:List V->List Value->Prop:=Paired RelV
theorem Vals.length {xs:List V}{us:List Value}(r:Vals xs us):xs.length=us.length:=Xb r
theorem Vals.get:∀{xs:List V}{us:List Value}{i:Nat}{x:V},Vals xs us->xs[i]? = some x -> ∃u,us[i]? = some u/\RelV x u
 | _,_,_,_,.nil,e=>by simp at e
 | _,_,0,_,.cons r _,e=>by simp at e;subst e;exact⟨_,rfl,r⟩
 | _,_,i+1,x,.cons _ t,e=>by obtain⟨u,h1,h2⟩:=Vals.get (i:=i) (x:=x) t (by simpa using e);exact⟨u,by simpa using h1,h2⟩
theorem Vals.set {x:V}{u:Value}(r:RelV x u):∀{xs:List V}{us:List Value}(i:Nat),Vals xs us->Vals (xs.set i x) (us.set i u)
 | _,_,_,.nil=>.nil
 | _,_,0,.cons _ t=>.cons r t
 | _,_,i+1,.cons q t=>.cons q (Vals.set r i t)
theorem Vals.append:∀{xs ys:List V}{us ws:List Value},Vals xs us->Vals ys ws->Vals (xs++ys) (us++ws)
 | _,_,_,_,.nil,s=>s
 | _,_,_,_,.cons r t,s=>.cons r (Vals.append t s)
theorem Vals.take:∀{xs:List V}{us:List Value}(n:Nat),Vals xs us->Vals (xs.take n) (us.take n)
 | _,_,0,_=>.nil
 | _,_,_+1,.nil=>.nil
 | _,_,n+1,.cons r t=>.cons r (Vals.take n t)
theorem Vals.drop:∀{xs:List V}{us:List Value}(n:Nat),Vals xs us->Vals (xs.drop n) (us.drop n)
 | _,_,0,r=>r
 | _,_,_+1,.nil=>.nil
 | _,_,n+1,.cons _ t=>Vals.drop n t
def ZbW:Option V->Option Value->Prop
 | some v,some u=>RelV v u
 | none,none=>True
 | _,_=>False
def KV {κ:Type}:List (κ × V)->List (κ × Value)->Prop:=Paired fun(p:κ × V) (q:κ × Value)=>p.1=q.1/\RelV p.2 q.2
def kV:Key->V
 | .inl i=>.int i
 | .inr x=>.str x
inductive HO where
 | lst (xs:List V)
 | tup (xs:List V)
 | dK (kvs:List (Key×V)) | dT (kvs:List (List Key×V))
 | set (S:Int->Bool) (n:Nat)
 | ins (C dx:Addr) (fs:List (Str×V))
 | own (x:Addr)
 | xd (fs:List (Str×V))
 | met (f x:Addr)
 | rng (lo hi:Int)
 | frz (o:Obj) (u:HO)
 | tbl (ps:Array Value)
 | ext (φ:Heap->Prop)
abbrev Hp:=Addr->Option HO
def upd (H:Hp)(a:Addr)(o:HO):Hp:=fun b=>if b=a then some o else H b
theorem Zc {H:Hp}{a:Addr}{o:HO}:upd H a o a=some o:=by unfold upd;rw[kj rfl]
theorem Zh {H:Hp}{a b:Addr}{o:HO}(h:b≠a):upd H a o b=H b:=by unfold upd;rw[kh h]
theorem Jz {H:Hp}{a:Addr}{o u:HO}:upd (upd H a o) a u=upd H a u:=by funext b;unfold upd;split<;>rfl
theorem J0 {H:Hp}{a b:Addr}{o u:HO}(h:H a=some o)(h':H b=some u)(d:o≠u):a≠b:=by intro e;subst e;rw[h] at h';exact d (Kb h')
theorem Zf {H:Hp}{a b:Addr}{o:HO}(h:H a=some o)(h':H b=none):a≠b:=by intro e;subst e;rw[h] at h';cases h'
section
variable (P:Program)(w:World)
def ZR (H:Hp)(h:Heap)(a:Addr):HO->Prop
 | .lst xs=>xs.length<=sizeLine /\ ∃(its:List Value)(n:Nat),Vals xs its/\h.get? a=some { cls:=.type "list", data:=.seq its.toArray n }
 | .tup xs=>xs.length<=sizeLine /\ ∃its:List Value,Vals xs its/\IsTup h a its.toArray
 | .dK kvs=>kvs.length<=sizeLine/\(a==sysModules)=false /\ ∃vs,KV kvs vs/\h.DictOf (ZI P w) a vs
 | .dT kvs=>kvs.length<=sizeLine/\(a==sysModules)=false /\ ∃xs:List (List Key×Addr×Value),
   Paired (fun(p:List Key×V) (q:List Key×Addr×Value)=>p.1=q.1/\H q.2.1=some (.tup (p.1.map kV))/\RelV p.2 q.2.2) kvs xs /\
   ∃o es ep,h.get? a=some o/\o.ExactDict/\o.data = .dict es ep/\es.toList=xs.map (entryOfKey (tupleKind (ZI P w)))/\(xs.map (·.1)).Nodup
 | .set S n=>h.SetOf (intKind P w) a S n
 | .ins C dx fs=>H dx=some (.own a)/\fs.length<=1000/\dx≠a/\h.get? a=some (PySem.W.instObj C dx) /\
   ∃mA,h.Ns1 dx mA/\(∀f,ZbW (fs.lookup f) (mA f))/\PySem.Within mA (fs.map (·.1))
 | .own _=>∃o,h.get? a=some o
 | .xd fs=>∃mA,h.Ns1 a mA /\ ∀f,ZbW (fs.lookup f) (mA f)
 | .rng lo hi=>∃t u v,h.get? a=some { cls:=.type "range", data:=.fields #[.int lo t,.int hi u,.int 1 v] }
 | .frz o u=>h.get? a=some o/\ZR H h a u
 | .tbl ps=>h.get? a=some { cls:=.none,data:=.fields ps }
 | .met f x=>h.get? a=some (PySem.W.methodObj (.ref f) (.ref x))
 | .ext φ=>φ h/\(∃o,h.get? a=some o) /\ ∀h1 h2:Heap,φ h1->(∀o,h1.get? a=some o->h2.get? a=some o) -> φ h2
def W7 (H:Hp)(h:Heap):Prop:=∀a o,H a=some o->ZR P w H h a o
end
section
variable {P:Program}{w:World}{H H':Hp}{h h':Heap}{a:Addr}{o:HO}
theorem ZR.lt (x:ZR P w H h a o):a<h.objs.size:=by
 cases o with
 | lst xs=>obtain⟨_,_,_,_,e⟩:=x;exact Kc e
 | tup xs=>obtain⟨_,_,_,p⟩:=x;exact p.lt
 | dK kvs=>obtain⟨_,_,_,_,o,_,_,e,_⟩:=x;exact Kc e
 | dT kvs=>obtain⟨_,_,_,_,o,_,_,e,_⟩:=x;exact Kc e
 | set S n=>obtain⟨o,_,_,_,e,_⟩:=x;exact Kc e
 | ins C dx fs=>obtain⟨_,_,_,e,_⟩:=x;exact Kc e
 | own y=>obtain⟨_,e⟩:=x;exact Kc e
 | xd fs=>obtain⟨_,⟨_,_,_,e,_⟩,_⟩:=x;exact Kc e
 | rng lo hi=>obtain⟨_,_,_,e⟩:=x;exact Kc e
 | frz ob u=>obtain⟨e,_⟩:=x;exact Kc e
 | tbl ps=>exact Kc (show h.get? a=some _ from x)
 | met f y=>exact Kc (show h.get? a=some _ from x)
 | ext φ=>obtain⟨_,⟨_,e⟩,_⟩:=x;exact Kc e
theorem Paired.mapP {α β:Type}{F G:α -> β -> Prop}:∀{l₁:List α}{l₂:List β},Paired F l₁ l₂->(∀a b,F a b->G a b)->Paired G l₁ l₂
 | _,_,.nil,_=>.nil
 | _,_,.cons r t,f=>.cons (f _ _ r) (Paired.mapP t f)
theorem Paired.imp' {α β:Type}{F G:α -> β -> Prop}(f:∀a b,F a b->G a b){l₁:List α}{l₂:List β}(r:Paired F l₁ l₂):Paired G l₁ l₂:=Paired.mapP r f
theorem ZR.stay (x:ZR P w H h a o)(k:∀b u,(b=a∨H b=some (.own a))->h.get? b=some u->h'.get? b=some u)
  (ho:∀b,H b=some (.own a)->H' b=some (.own a)) (ht:∀b xs,H b=some (.tup xs)->H' b=some (.tup xs)):ZR P w H' h' a o:=by
 induction o with
 | lst xs=>obtain⟨z,its,n,r,e⟩:=x;exact⟨z,its,n,r,k _ _ (.inl rfl) e⟩
 | tup xs=>obtain⟨z,its,r,ob,e,c⟩:=x;exact⟨z,its,r,ob,k _ _ (.inl rfl) e,c⟩
 | dK kvs=>obtain⟨z,y,vs,r,ob,es,ep,e,c⟩:=x;exact⟨z,y,vs,r,ob,es,ep,k _ _ (.inl rfl) e,c⟩
 | dT kvs=>
  obtain⟨z,y,xs,r,ob,es,ep,e,c⟩:=x;exact⟨z,y,xs,Paired.mapP r fun p q z=>⟨z.1,ht _ _ z.2.1,z.2.2⟩,ob,es,ep,k _ _ (.inl rfl) e,c⟩
 | set S n=>obtain⟨ob,es,ep,t,e,c⟩:=x;exact⟨ob,es,ep,t,k _ _ (.inl rfl) e,c⟩
 | ins C dx fs=>
  obtain⟨d,z,ne,e,mA,⟨od,es,ep,e2,c⟩,r⟩:=x;exact⟨ho _ d,z,ne,k _ _ (.inl rfl) e,mA,⟨od,es,ep,k _ _ (.inr d) e2,c⟩,r⟩
 | own y=>obtain⟨ob,e⟩:=x;exact⟨ob,k _ _ (.inl rfl) e⟩
 | xd fs=>obtain⟨mA,⟨od,es,ep,e,c⟩,r⟩:=x;exact⟨mA,⟨od,es,ep,k _ _ (.inl rfl) e,c⟩,r⟩
 | rng lo hi=>obtain⟨t,u,v,e⟩:=x;exact⟨t,u,v,k _ _ (.inl rfl) e⟩
 | frz ob u ih=>obtain⟨e,q⟩:=x;exact⟨k _ _ (.inl rfl) e,ih q⟩
 | tbl ps=>
  have e:h.get? a=some { cls:=.none,data:=.fields ps }:=x;show h'.get? a=some { cls:=.none,data:=.fields ps };exact k a _ (.inl rfl) e
 | met f y=>
  have e:h.get? a=some (PySem.W.methodObj (.ref f) (.ref y)):=x;show h'.get? a=some (PySem.W.methodObj (.ref f) (.ref y));exact k a _ (.inl rfl) e
 | ext φ=>obtain⟨p,⟨o,e⟩,st⟩:=x;exact⟨st _ _ p fun o q=>k _ _ (.inl rfl) q,⟨o,k _ _ (.inl rfl) e⟩,st⟩
theorem W7.lt (x:W7 P w H h)(e:H a=some o):a<h.objs.size:=(x a o e).lt
theorem W7.fresh (x:W7 P w H h)(e:h.objs.size<=a):H a=none:=by
 cases q:H a with
 | none=>rfl
 | some u=>exact absurd (KR (x.lt q) e) (qF _)
theorem W7.kept (x:W7 P w H h)(k:∀b u,h.get? b=some u->h'.get? b=some u):W7 P w H h':=fun a o e=>
 (x a o e).stay (fun b u _ q=>k b u q) (fun _ q=>q) fun _ _ q=>q
theorem W7.laid (x:W7 P w H h)(k:∀b u,h.get? b=some u->h'.get? b=some u)(hp:h.objs.size<=a)(new:ZR P w (upd H a o) h' a o):W7 P w (upd H a o) h':=fun b u e=>by
 have hn:=x.fresh hp;by_cases hb:b=a
 ·subst hb;rw[Zc] at e;cases e;exact new
 ·rw[Zh hb] at e;exact(x b u e).stay (fun c v _ q=>k c v q) (fun c q=>by rw[Zh (Zf q hn)];exact q) fun c xs q=>by rw[Zh (Zf q hn)];exact q
end
def Rd (H:Hp)(a:Addr)(u:HO):Prop:=H a=some u ∨ ∃o,H a=some (.frz o u)
theorem Rd.ok {P:Program}{w:World}{H:Hp}{h:Heap}{a:Addr}{u:HO}(r:Rd H a u)(x:W7 P w H h):ZR P w H h a u:=by
 rcases r with r | ⟨o,r⟩
 ·exact x a u r
 ·obtain⟨_,q⟩:=x a _ r;exact q
def Mut:Option HO->Prop
 | some (.lst _)=>True
 | some (.dK _)=>True
 | some (.dT _)=>True
 | some (.set _ _)=>True
 | some (.ins _ _ _)=>True
 | some (.ext _)=>True
 | _=>False
section
variable {P:Program}{w:World}{H:Hp}{h h':Heap}{x e:Addr}{o':HO}
theorem W7.write (ok:W7 P w H h)(mu:Mut (H x))(he:e=x∨H e=some (.own x))(k:∀b u,b≠e->h.get? b=some u->h'.get? b=some u)(heo:∃u,h'.get? e=some u)
  (new:ZR P w (upd H x o') h' x o'):W7 P w (upd H x o') h':=fun b u q=>by
 have nown:∀c y,H c=some (.own y)->c≠x:=fun c y r z=>by subst z;rw[r] at mu;exact mu
 have ntup:∀c xs,H c=some (.tup xs)->c≠x:=fun c xs r z=>by subst z;rw[r] at mu;exact mu
 by_cases hb:b=x
 ·subst hb;rw[Zc] at q;cases q;exact new
 ·rw[Zh hb] at q;by_cases hbe:b=e
  ·have q':H b=some (.own x):=by
    rcases he with z | z
    ·exact absurd (hbe.trans z) hb
    ·rw[hbe];exact z
   rw[q] at q';cases q';obtain⟨v,hv⟩:=heo;exact⟨v,by rw[hbe];exact hv⟩
  ·refine(ok b u q).stay (fun c v hc r=>k c v ?_ r) (fun c r=>by rw[Zh (nown c b r)];exact r) fun c xs r=>by rw[Zh (ntup c xs r)];exact r
   rcases hc with rfl | hc
   ·exact hbe
   ·rintro rfl;rcases he with z | z
    ·exact nown c b hc z
    ·rw[hc] at z;cases z;exact hb rfl
end
structure Un (fs ex:List Addr)(H H':Hp)(h h':Heap):Prop where
 keep:∀b o,h.get? b=some o->H b=none->b∉fs->b∉ex->h'.get? b=some o
 slot:∀b o,h.get? b=some o->H b=none->b∈fs->b∉ex -> ∃sl,h'.get? b=some { o with slots:=sl }
 free:∀b o,h.get? b=some o->H b=none->b∉ex->H' b=none
 there:∀b o,h.get? b=some o->b∉ex -> ∃o',h'.get? b=some o'
 tups:∀b xs,H b=some (.tup xs)->H' b=some (.tup xs)
 frzs:∀b o u,H b=some (.frz o u)->H' b=some (.frz o u)
 tbls:∀b ps,H b=some (.tbl ps) -> ∃more,H' b=some (.tbl (ps++more))
section
variable {fs fs' ex ex':List Addr}{H H1 H2:Hp}{h h1 h2 h':Heap}{a x e:Addr}{o:HO}
theorem Un.any (u:Un fs ex H H1 h h1){b:Addr}{ob:Obj}(q:h.get? b=some ob)(n:H b=none)(hx:b∉ex):∃sl,h1.get? b=some { ob with slots:=sl }:=by
 by_cases hb:b∈fs
 ·exact u.slot b ob q n hb hx
 ·exact⟨ob.slots,u.keep b ob q n hb hx⟩
theorem Un.kept (k:∀b u,h.get? b=some u->h'.get? b=some u):Un fs ex H H h h':=
 ⟨fun b ob q _ _ _=>k b ob q,fun b ob q _ _ _=>⟨ob.slots,k b ob q⟩,fun _ _ _ n _=>n,fun b ob q _=>⟨ob,k b ob q⟩,fun _ _ q=>q,fun _ _ _ q=>q,fun _ ps q=>⟨#[],by rw[q];simp⟩⟩
theorem Un.refl:Un fs ex H H h h:=Un.kept fun _ _ q=>q
theorem Un.laid (k:∀b u,h.get? b=some u->h'.get? b=some u)(hp:h.objs.size<=a)(hn:H a=none):Un fs ex H (upd H a o) h h' where
 keep:=fun b u q _ _ _=>k b u q
 slot:=fun b u q _ _ _=>⟨u.slots,k b u q⟩
 free:=fun b u q n _=>by rw[Zh (Kk (KR (Kc q) hp))];exact n
 there:=fun b u q _=>⟨u,k b u q⟩
 tups:=fun b xs q=>by rw[Zh (Zf q hn)];exact q
 frzs:=fun b u xs q=>by rw[Zh (Zf q hn)];exact q
 tbls:=fun b ps q=>⟨#[],by rw[Zh (Zf q hn),q];simp⟩
theorem Un.write (mu:Mut (H x))(he:e=x∨H e=some (.own x))(k:∀b u,b≠e->h.get? b=some u->h'.get? b=some u)(heo:∃u,h'.get? e=some u):Un fs ex H (upd H x o) h h':=by
 have hx:∀b,H b=none->b≠x:=fun b n z=>by subst z;rw[n] at mu;exact mu
 have hb:∀b,H b=none->b≠e:=fun b n z=>by
  subst z;rcases he with r | r
  ·exact hx b n r
  ·rw[n] at r;cases r
 have hm:∀b u,H b=some u -> ¬Mut (some u)->b≠x:=fun b u q nm z=>by subst z;rw[q] at mu;exact nm mu
 refine⟨fun b u q n _ _=>k b u (hb b n) q,fun b u q n _ _=>⟨u.slots,k b u (hb b n) q⟩,fun b u q n _=>by rw[Zh (hx b n)];exact n,fun b u q _=>?_,
  fun b xs q=>by rw[Zh (hm b _ q fun z=>z)];exact q,fun b u xs q=>by rw[Zh (hm b _ q fun z=>z)];exact q,fun b ps q=>⟨#[],by rw[Zh (hm b _ q fun z=>z),q];simp⟩⟩
 by_cases hbe:b=e
 ·subst hbe;exact heo
 ·exact⟨u,k b u hbe q⟩
end
def trk (h:Heap)(H:Hp):List Addr:=(List.range h.objs.size).filter fun a=>(H a).isSome
def Ze0 (h:Heap)(H:Hp):Heap:=PySem.W.hideAll h (trk h H)
theorem Zie (h:Heap)(H:Hp):(Ze0 h H).objs.size=h.objs.size:=PySem.W.hideAll_size _ _
theorem Zi9 {h:Heap}{H:Hp}{b:Addr}{o:Obj}(e:h.get? b=some o)(n:H b=none):(Ze0 h H).get? b=some o:=
 PySem.W.hideAll_get _ e fun hm=>by have q:(H b).isSome=true:=(Mr.mp hm).2;rw[n] at q;simp at q
theorem Zl3 {h:Heap}{H:Hp}{b:Addr}{o:Obj}(e:(Ze0 h H).get? b=some o):h.get? b=some o/\H b=none:=by
 have e':h.get? b=some o:=PySem.W.of_hideAll (trk h H) e;refine⟨e',?_⟩;cases q:H b with
 | none=>rfl
 | some x=>
  have hm:b∈trk h H:=Mr.mpr ⟨qa.mpr (Kc e'),by simp[q]⟩;have z:(Ze0 h H).get? b=none:=PySem.W.hideAll_none (trk h H) hm;rw[z] at e;cases e
def GD (g h:Heap)(L:Addr):List (Addr×Obj):=(List.range h.objs.size).filterMap fun a=>if a=L∨(g.get? a).isSome=true then none else(h.get? a).map fun o=>(a,o)
theorem U6 {g h:Heap}{L a:Addr}{o:Obj}(h1:a≠L)(h2:g.get? a=none)(h3:h.get? a=some o):(a,o)∈GD g h L:=
 qo.mpr ⟨a,qa.mpr (Kc h3),by simp[h1,h2,h3]⟩
theorem ZcA {g h:Heap}{L:Addr}{p:Addr×Obj}(hp:p∈GD g h L):p.1≠L/\g.get? p.1=none/\h.get? p.1=some p.2:=by
 obtain⟨b,_,e⟩:=qo.mp hp;split at e
 ·cases e
 ·rename_i hn
  cases q:h.get? b with
  | none=>rw[q] at e;simp at e
  | some u=>
   rw[q] at e;simp only[Xi,Option.some.injEq] at e;subst e;refine⟨fun z=>hn (.inl z),?_,q⟩;show g.get? b=none;cases r:g.get? b with
   | none=>rfl
   | some v=>exact(hn (.inr (by simp[r]))).elim
theorem ZfT {g h:Heap}{L:Addr}:News g L h (GD g h L):=fun p hp=>let ⟨a,b,c⟩:=ZcA hp;⟨c,a,b⟩
structure Mod (K:PySem.W.Frag)(mg:Str->Option Value)(base:Heap):Prop where
 kin:K.In base
 glob:base.Ns mainGlobals mg
 blt:∃mb,base.Ns builtinsNs mb /\ ∀x:Str,x ≠ "__name__" -> mb x=bootBuiltins x
 nolimit:base.NoLimit
structure Cx where
 prog:Program
 w:World
 K:PySem.W.Frag
 mg:Str->Option Value
 base:Heap
 A:Around
 N:List Str
 s₀:Shared
 H₀:Hp
 env:Env
 outer:List Env
 stack:List Env
 ex:List Addr
 fn:Str->Bool
 calm:Bool
 pn:List (Addr×Obj)
 xe:Value->Shared->Prop
def frs (l:List Env):List Addr:=l.filterMap (·.frame)
abbrev Cx.fs (X:Cx):List Addr:=frs X.outer
def Vis (sc:Scope)(x:Str):Prop:=sc.names.lookup x=some .local∨sc.names.lookup x=some .cell∨sc.names.lookup x=some .free
def Loc (sc:Scope)(x:Str):Prop:=sc.names.lookup x=some .local∨sc.names.lookup x=some .cell
def Look (env:Env)(h:Heap)(m:Str->Option Value)(x:Str)(u:Value):Prop:=
 (env.kindOf x=some .local/\m x=some u)∨((env.kindOf x=some .cell∨env.kindOf x=some .free) /\ ∃c,env.cells.lookup x=some c/\h.IsCell c (some u))
structure Cx.Ok (X:Cx):Prop where
 mod:Mod X.K X.mg X.base
 kind:X.env.scope.kind = .function
 glob:X.env.globals=mainGlobals
 blt:X.env.builtins=builtinsNs
 above:X.s₀.heap.objs.size<=X.env.locals
 inj:∀x y c,X.env.cells.lookup x=some c->X.env.cells.lookup y=some c->x=y
 has:∀x,(X.env.kindOf x=some .cell∨X.env.kindOf x=some .free) -> ∃c,X.env.cells.lookup x=some c
 cab:∀x c,X.fn x=true->X.env.cells.lookup x=some c->X.s₀.heap.objs.size<=c
 hd:X.calm=true->X.A.handled=none
 frames:X.A.frames=some X.stack
 stk:X.stack=X.outer∨(X.stack=X.env::X.outer/\X.env.frame=some X.env.locals)
 exf:∀b∈X.ex,b≠X.env.locals /\ ∀x c,X.env.cells.lookup x=some c->c≠b
 bs:∀b o,X.base.get? b=some o->X.s₀.heap.get? b=some o/\X.H₀ b=none
 bsz:X.base.objs.size<=X.s₀.heap.objs.size
 noex:∀b o,X.base.get? b=some o->b∉X.ex
 exfs:∀b∈X.ex,b∉X.fs
 funs:X.s₀.heap.FunFrames X.base X.outer
 frf:∀b∈X.fs,X.H₀ b=none
structure Inv (X:Cx)(pins:List (Addr×Obj))(σ:List (Option V))(H:Hp)(s:Shared):Prop where
 ok:X.Ok
 os:s.os=X.s₀.os
 bare:AllBare s.gens
 base:Un X.fs X.ex X.H₀ H X.s₀.heap s.heap
 loc:∃m,s.heap.Ns X.env.locals m /\ ∀(i:Nat)(x:Str)(v:V),X.N[i]? = some x -> σ[i]? = some (some v)->Vis X.env.scope x -> ∃u,RelV v u/\Look X.env s.heap m x u
 cell:∀x c,X.env.cells.lookup x=some c -> ∃v,s.heap.IsCell c v
 free:H X.env.locals=none
 freeC:∀x c,X.env.cells.lookup x=some c->H c=none
 pin:∀p∈X.pn++pins,s.heap.get? p.1=some p.2/\H p.1=none/\p.1≠X.env.locals/\p.1∉X.fs /\ ∀v,p.2.data ≠ .cell v
 hok:W7 X.prog X.w H s.heap
 len:σ.length=X.N.length
section
variable {X:Cx}{pins:List (Addr×Obj)}{σ:List (Option V)}{H H':Hp}{s:Shared}{h':Heap}
theorem Cx.Ok.nofr (ok:X.Ok){b:Addr}{o:Obj}(e:X.base.get? b=some o):b∉X.fs:=fun hb=>by have:=(ok.funs.mem hb).1;rw[e] at this;cases this
theorem Inv.bs (I:Inv X pins σ H s):∀b o,X.base.get? b=some o->s.heap.get? b=some o/\H b=none:=fun b o e=>
 ⟨I.base.keep b o (I.ok.bs b o e).1 (I.ok.bs b o e).2 (I.ok.nofr e) (I.ok.noex b o e),I.base.free b o (I.ok.bs b o e).1 (I.ok.bs b o e).2 (I.ok.noex b o e)⟩
theorem Inv.bk (I:Inv X pins σ H s):∀b o,X.base.get? b=some o->s.heap.get? b=some o:=fun b o e=>(I.bs b o e).1
theorem Inv.mod (I:Inv X pins σ H s):Mod X.K X.mg X.base:=I.ok.mod
theorem Inv.kIn (I:Inv X pins σ H s):X.K.In s.heap:=I.ok.mod.kin.keeps I.bk
theorem Inv.fr (I:Inv X pins σ H s):∃m,Fr X.base X.env.locals s.heap m:=
 let ⟨m,hn,_⟩:=I.loc
 ⟨m,hn,I.bk,Kx I.ok.bsz I.ok.above⟩
theorem Inv.lt (I:Inv X pins σ H s):X.env.locals<s.heap.objs.size:=let ⟨_,hn,_⟩:=I.loc;hn.lt
theorem Inv.sz (I:Inv X pins σ H s):X.s₀.heap.objs.size<=s.heap.objs.size:=Kx I.ok.above (KN I.lt)
theorem Inv.nofs (I:Inv X pins σ H s){a:Addr}(h:s.heap.objs.size<=a):a∉X.fs:=fun hb=>by obtain⟨_,o,ho,_⟩:=I.ok.funs.mem hb;exact absurd (KR (Kc ho) (Kx I.sz h)) (qF _)
theorem Inv.cne (I:Inv X pins σ H s):∀x c,X.env.cells.lookup x=some c->c≠X.env.locals:=fun x c e z=>by obtain⟨v,o,ho,hd⟩:=I.cell x c e;obtain⟨m,⟨o',es,ep,ho',hd',_⟩,_⟩:=I.loc;rw[z,ho'] at ho;cases ho;rw[hd'] at hd;cases hd
theorem Inv.funs (I:Inv X pins σ H s):s.heap.FunFrames X.base X.outer:=by
 have all:∀(l:List Env),(∀b∈frs l,b∈X.fs)->X.s₀.heap.FunFrames X.base l->s.heap.FunFrames X.base l:=by
  intro l
  induction l with
  | nil=>intro _ _;trivial
  | cons env r ih=>
   intro hs hl;obtain⟨hk,⟨L,o,hf,hn,ho,hd⟩,hr⟩:=hl;have hL:L∈X.fs:=hs L (by unfold frs;rw[qY,hf];exact kQ);obtain⟨sl,e⟩:=I.base.slot L o ho (I.ok.frf L hL) hL fun z=>I.ok.exfs L z hL;exact⟨hk,⟨L,_,hf,hn,e,hd⟩,ih (fun b hb=>hs b (by unfold frs;rw[qY,hf];exact kS _ hb)) hr⟩
 exact all X.outer (fun _ hb=>hb) I.ok.funs
theorem Inv.stack (I:Inv X pins σ H s):s.heap.FunFrames X.base X.stack:=by
 rcases I.ok.stk with e | ⟨e,hf⟩
 ·rw[e];exact I.funs
 ·rw[e];obtain⟨m,hn,_⟩:=I.loc;refine .cons (by rw[I.ok.kind];decide) hf hn ?_ I.funs;exact Heap.get?_none_of_le (Kx I.ok.bsz I.ok.above)
theorem Inv.stkSub (I:Inv X pins σ H s):∀b∈frs X.stack,b∈X.env.locals::X.fs:=fun b hb=>by
 rcases I.ok.stk with e | ⟨e,hf⟩
 ·rw[e] at hb;exact kS _ hb
 ·rw[e] at hb;unfold frs at hb;rw[qY,hf] at hb;exact hb
theorem Inv.stkFree (I:Inv X pins σ H s):∀b∈frs X.stack,H b=none:=fun b hb=>by
 rcases kP.mp (I.stkSub b hb) with e | hb
 ·rw[e];exact I.free
 ·obtain⟨_,o,ho,_⟩:=I.ok.funs.mem hb;exact I.base.free b o ho (I.ok.frf b hb) fun z=>I.ok.exfs b z hb
theorem Inv.step {g':Array GenState}{t':Nat}{d':Drawn}{ch:List Addr}(I:Inv X pins σ H s)
  (hch:∀b∈ch,(b∈X.ex∨X.s₀.heap.objs.size<=b)/\b≠X.env.locals/\(∀x c,X.env.cells.lookup x=some c->c≠b) /\ ∀p∈X.pn++pins,p.1≠b)
  (keep:∀b o,b≠X.env.locals->b∉X.fs->b∉ch->s.heap.get? b=some o->H b=none->h'.get? b=some o)
  (slot:∀b o,b≠X.env.locals->b∈X.fs->b∉ch->s.heap.get? b=some o->H b=none -> ∃sl,h'.get? b=some { o with slots:=sl }) (free:∀b o,b∉ch->s.heap.get? b=some o->H b=none->H' b=none)
  (there:∀b o,b∉ch->s.heap.get? b=some o -> ∃o',h'.get? b=some o')
  (tups:∀b xs,H b=some (.tup xs)->H' b=some (.tup xs)) (frzs:∀b o u,H b=some (.frz o u)->H' b=some (.frz o u)) (tbls:∀b ps,H b=some (.tbl ps) -> ∃more,H' b=some (.tbl (ps++more)))
  (ns:∀m,s.heap.Ns X.env.locals m->h'.Ns X.env.locals m) (hok:W7 X.prog X.w H' h') (hg:AllBare g'):
  Inv X pins σ H' { s with heap:=h',gens:=g',drawn:=d',toks:=t' }:=by
 have neL:∀b o,X.s₀.heap.get? b=some o->b≠X.env.locals:=fun b o e=>Kk (KR (Kc e) I.ok.above);have neC:∀b o,X.s₀.heap.get? b=some o->b∉X.ex->b∉ch:=fun b o e hx hb=>by
  rcases(hch b hb).1 with z | z
  ·exact hx z
  ·exact absurd (KR (Kc e) z) (qF _)
 have cellK:∀x c,X.env.cells.lookup x=some c -> ∀v,s.heap.IsCell c v->h'.IsCell c v:=fun x c e v ⟨o,ho,hd⟩=>by
  have nch:c∉ch:=fun z=>(hch c z).2.2.1 x c e rfl;by_cases hc:c∈X.fs
  ·obtain⟨sl,q⟩:=slot c o (I.cne x c e) hc nch ho (I.freeC x c e);exact⟨_,q,hd⟩
  ·exact⟨o,keep c o (I.cne x c e) hc nch ho (I.freeC x c e),hd⟩
 refine⟨I.ok,I.os,hg,⟨fun b o e n hb hx=>?_,fun b o e n hb hx=>?_,fun b o e n hx=>?_,fun b o e hx=>?_,fun b xs e=>tups b xs (I.base.tups b xs e),fun b o xs e=>frzs b o xs (I.base.frzs b o xs e),fun b ps e=>?_⟩,?_,fun x c e=>?_,?_,fun x c e=>?_,fun p hp=>?_,hok,I.len⟩
 ·exact keep b o (neL b o e) hb (neC b o e hx) (I.base.keep b o e n hb hx) (I.base.free b o e n hx)
 ·obtain⟨sl,e1⟩:=I.base.slot b o e n hb hx;obtain⟨sl',e2⟩:=slot b _ (neL b o e) hb (neC b o e hx) e1 (I.base.free b o e n hx);exact⟨sl',e2⟩
 ·obtain⟨o',e1⟩:=I.base.there b o e hx;exact free b o' (neC b o e hx) e1 (I.base.free b o e n hx)
 ·obtain⟨o',e1⟩:=I.base.there b o e hx;exact there b o' (neC b o e hx) e1
 ·obtain⟨m1,e1⟩:=I.base.tbls b ps e;obtain⟨m2,e2⟩:=tbls b _ e1;exact⟨m1++m2,by rw[e2,Array.append_assoc]⟩
 ·obtain⟨m,hn,hl⟩:=I.loc;refine⟨m,ns m hn,fun i x v e1 e2 e3=>?_⟩;obtain⟨u,r,l⟩:=hl i x v e1 e2 e3;refine⟨u,r,?_⟩;rcases l with l | ⟨k,c,e,z⟩
  ·exact .inl l
  ·exact .inr ⟨k,c,e,cellK x c e _ z⟩
 ·obtain⟨v,z⟩:=I.cell x c e;exact⟨v,cellK x c e v z⟩
 ·obtain⟨m,⟨o,_,_,ho,_⟩,_⟩:=I.loc;exact free _ o (fun z=>(hch _ z).2.1 rfl) ho I.free
 ·obtain⟨v,o,ho,hd⟩:=I.cell x c e;exact free c o (fun z=>(hch c z).2.2.1 x c e rfl) ho (I.freeC x c e)
 ·obtain⟨e,n,ne,nf,d⟩:=I.pin p hp;have nch:p.1∉ch:=fun z=>(hch p.1 z).2.2.2 p hp rfl;exact⟨keep p.1 p.2 ne nf nch e n,free p.1 p.2 nch e n,ne,nf,d⟩
theorem Inv.un {t':Nat}(I:Inv X pins σ H s)(u:Un X.fs [] H H' s.heap h')(hok:W7 X.prog X.w H' h'):Inv X pins σ H' { s with heap:=h',toks:=t' }:=by
 obtain⟨m,⟨o,es,ep,ho,r⟩,_⟩:=id I.loc;obtain⟨sl,hL⟩:=u.any ho I.free (by simp);exact I.step (g':=s.gens) (d':=s.drawn) (ch:=[]) (fun _ z=>nomatch z) (fun b o _ hb _ e n=>u.keep b o e n hb (by simp)) (fun b o _ hb _ e n=>u.slot b o e n hb (by simp)) (fun b o _ e n=>u.free b o e n (by simp)) (fun b o _ e=>u.there b o e (by simp)) u.tups u.frzs u.tbls (fun m' hm=>by obtain⟨o',es',ep',ho',r'⟩:=hm;rw[ho] at ho';cases ho';exact⟨_,es',ep',hL,r'⟩) hok I.bare
theorem Inv.call {g':Array GenState}{t':Nat}{d':Drawn}{ch:List Addr}(I:Inv X pins σ H s)(u:Un (frs X.stack) ch H H' s.heap h')(hok:W7 X.prog X.w H' h')(hg:AllBare g')
  (hch:∀b∈ch,(b∈X.ex∨X.s₀.heap.objs.size<=b)/\b≠X.env.locals/\(∀x c,X.env.cells.lookup x=some c->c≠b) /\ ∀p∈X.pn++pins,p.1≠b):
  Inv X pins σ H' { s with heap:=h',gens:=g',drawn:=d',toks:=t' }:=by
 obtain⟨m,⟨o,es,ep,ho,r⟩,_⟩:=id I.loc;obtain⟨sl,hL⟩:=u.any ho I.free fun z=>(hch _ z).2.1 rfl;exact I.step (ch:=ch) hch (fun b o hL hb hc e n=>u.keep b o e n (fun z=>(kP.mp (I.stkSub b z)).elim hL hb) hc) (fun b o _ _ hc e n=>u.any e n hc) (fun b o hc e n=>u.free b o e n hc) (fun b o hc e=>u.there b o e hc) u.tups u.frzs u.tbls (fun m' hm=>by obtain⟨o',es',ep',ho',r'⟩:=hm;rw[ho] at ho';cases ho';exact⟨_,es',ep',hL,r'⟩) hok hg
theorem Inv.turned {t':Nat}{it:Addr}(I:Inv X pins σ H s)(k:∀b o,b≠it->s.heap.get? b=some o->h'.get? b=some o)(hn:H it=none)(hL:it≠X.env.locals)
  (h1:it∈X.ex∨X.s₀.heap.objs.size<=it) (h2:∀x c,X.env.cells.lookup x=some c->c≠it) (h3:∀p∈X.pn++pins,p.1≠it):Inv X pins σ H { s with heap:=h',toks:=t' }:=by
 have nit:∀b u,H b=some u->b≠it:=fun b u e z=>by rw[z,hn] at e;cases e
 refine I.step (g':=s.gens) (d':=s.drawn) (ch:=[it]) (fun b hb=>?_) (fun b o _ _ hc e _=>k b o (fun z=>hc (by simp[z])) e) (fun b o _ _ hc e _=>⟨o.slots,k b o (fun z=>hc (by simp[z])) e⟩) (fun _ _ _ _ n=>n)
  (fun b o hc e=>⟨o,k b o (fun z=>hc (by simp[z])) e⟩) (fun _ _ e=>e) (fun _ _ _ e=>e) (fun b ps e=>⟨#[],by rw[e];simp⟩) (fun m hm=>?_) (fun b u e=>?_) I.bare
 ·have e:b=it:=by simpa using hb
  subst e;exact⟨h1,hL,h2,h3⟩
 ·obtain⟨o,es,ep,ho,r⟩:=hm;exact⟨o,es,ep,k _ o (Kz hL) ho,r⟩
 ·refine(I.hok b u e).stay (fun c v hc q=>k c v ?_ q) (fun _ q=>q) fun _ _ q=>q;rcases hc with z | z
  ·rw[z];exact nit b u e
  ·exact nit c _ z
theorem Inv.tok (I:Inv X pins σ H s)(t:Nat):Inv X pins σ H { s with toks:=t }:=I.un (h':=s.heap) (t':=t) Un.refl I.hok
theorem Inv.kept {t':Nat}(I:Inv X pins σ H s)(k:∀b u,s.heap.get? b=some u->h'.get? b=some u):Inv X pins σ H { s with heap:=h',toks:=t' }:=I.un (Un.kept k) (I.hok.kept k)
theorem Inv.laid {a:Addr}{o:HO}{t':Nat}(I:Inv X pins σ H s)(k:∀b u,s.heap.get? b=some u->h'.get? b=some u)(hp:s.heap.objs.size<=a)(new:ZR X.prog X.w (upd H a o) h' a o):
  Inv X pins σ (upd H a o) { s with heap:=h',toks:=t' }:=I.un (Un.laid k hp (I.hok.fresh hp)) (I.hok.laid k hp new)
theorem Inv.write {x e:Addr}{o:HO}{t':Nat}(I:Inv X pins σ H s)(mu:Mut (H x))(he:e=x∨H e=some (.own x))(k:∀b u,b≠e->s.heap.get? b=some u->h'.get? b=some u)(heo:∃u,h'.get? e=some u)
  (new:ZR X.prog X.w (upd H x o) h' x o):Inv X pins σ (upd H x o) { s with heap:=h',toks:=t' }:=I.un (Un.write mu he k heo) (I.hok.write mu he k heo new)
theorem Inv.pins_of {pins':List (Addr×Obj)}(I:Inv X pins σ H s)(h:∀p∈pins',s.heap.get? p.1=some p.2/\H p.1=none/\p.1≠X.env.locals/\p.1∉X.fs /\ ∀v,p.2.data ≠ .cell v):Inv X pins' σ H s:=
 ⟨I.ok,I.os,I.bare,I.base,I.loc,I.cell,I.free,I.freeC,fun p hp=>(KC.mp hp).elim (fun z=>I.pin p (Xm _ z)) (h p),I.hok,I.len⟩
theorem ZfM {N:List Str}(hN:N.Nodup){i j:Nat}{x:Str}(a:N[i]? = some x)(b:N[j]? = some x):i=j:=by obtain⟨h1,e1⟩:=kI.mp a;obtain⟨h2,e2⟩:=kI.mp b;exact(List.getElem_inj hN).mp (e1.trans e2.symm)
theorem ZdT {M:Model}{A:Around}{E:Value->Shared->Prop}{i:Nat}{x:Str}{v:V}{u:Value}{Q:Unit->Shared->Prop}(I:Inv X pins σ H s)(hN:X.N.Nodup)(hi:X.N[i]? = some x)(hx:Loc X.env.scope x)(r:RelV v u)
  (h:∀s',Inv X pins (σ.set i (some v)) H s'->(∃a,Heap.SameBut a s.heap s'.heap/\(a=X.env.locals∨X.env.cells.lookup x=some a))->Q () s') (hf:X.fn x=true∨X.env.scope.names.lookup x=some .local:=by first | exact .inl rfl | exact .inr rfl | assumption):wpAny M A (storeName X.env x u) Q E s:=by
 obtain⟨m,hn,hl⟩:=id I.loc;have hcls:(X.env.scope.kind == .class||(X.env.scope.kind == .module&&X.env.locals != X.env.globals))=false:=by rw[I.ok.kind];rfl
 have hiσ:i < σ.length:=by rw[I.len];exact(kI.mp hi).1
 have cne:=I.cne;have tracked:∀{a:Addr}{h':Heap},(∃o,s.heap.get? a=some o/\H a=none)->Heap.SameBut a s.heap h'->W7 X.prog X.w H h':=fun {a h'} ha hs b ob e=>by
  obtain⟨_,_,hfree⟩:=ha;refine(I.hok b ob e).stay (fun c w' hc q=>(hs.2 c ?_).trans q) (fun _ q=>q) fun _ _ q=>q;rintro rfl;rcases hc with rfl | hc
  ·rw[hfree] at e;cases e
  ·rw[hfree] at hc;cases hc
 rcases hx with hk | hk
 ·refine wpAny_storeName_local hk hn (fun h' hn' hs=>?_) hcls;obtain⟨oL,_,_,hoL,_⟩:=id hn;refine h _ ⟨I.ok,I.os,I.bare,⟨fun b o e n hb hx=>?_,fun b o e n hb hx=>?_,I.base.free,fun b o e hx=>?_,I.base.tups,I.base.frzs,I.base.tbls⟩,⟨_,hn',fun j y v' e1 e2 e3=>?_⟩,fun y c e=>?_,I.free,I.freeC,fun p hp=>?_,tracked ⟨oL,hoL,I.free⟩ hs,by simpa using I.len⟩ ⟨_,hs,.inl rfl⟩
  ·exact(hs.2 b (Kk (KR (Kc e) I.ok.above))).trans (I.base.keep b o e n hb hx)
  ·obtain⟨sl,e1⟩:=I.base.slot b o e n hb hx;exact⟨sl,(hs.2 b (Kk (KR (Kc e) I.ok.above))).trans e1⟩
  ·obtain⟨o',e1⟩:=I.base.there b o e hx;exact⟨o',(hs.2 b (Kk (KR (Kc e) I.ok.above))).trans e1⟩
  ·by_cases hj:j=i
   ·subst hj;rw[hi] at e1;cases e1;rw[Tu hiσ] at e2;cases e2;exact⟨u,r,.inl ⟨hk,by simp⟩⟩
   ·rw[XU (Kz hj)] at e2;obtain⟨u',r',q⟩:=hl j y v' e1 e2 e3;refine⟨u',r',?_⟩;rcases q with⟨k,e⟩ | ⟨k,c,e,z⟩
    ·refine .inl ⟨k,?_⟩;have:y≠x:=fun e=>hj (ZfM hN e1 (e ▸ hi));simp[this,e]
    ·exact .inr ⟨k,c,e,z.sameBut hs (cne y c e)⟩
  ·obtain⟨w',z⟩:=I.cell y c e;exact⟨w',z.sameBut hs (cne y c e)⟩
  ·obtain⟨e,n,ne,nf,d⟩:=I.pin p hp;exact⟨(hs.2 p.1 ne).trans e,n,ne,nf,d⟩
 ·have hfn:X.fn x=true:=by
   rcases hf with z | z
   ·exact z
   ·rw[z] at hk;cases hk
  obtain⟨c,hc⟩:=I.ok.has x (.inl hk);obtain⟨w',z⟩:=I.cell x c hc;refine wpAny_storeName_cell I.ok.kind hk hc z (fun h' hc' hs=>?_);obtain⟨oc,hoc,hocd⟩:=id z;refine h { s with heap:=h' } ⟨I.ok,I.os,I.bare,⟨fun b o e n hb hx=>?_,fun b o e n hb hx=>?_,I.base.free,fun b o e hx=>?_,I.base.tups,I.base.frzs,I.base.tbls⟩,⟨m,hn.sameBut hs (Kz (cne x c hc)),fun j y v' e1 e2 e3=>?_⟩,fun y c' e=>?_,I.free,I.freeC,fun p hp=>?_,tracked ⟨oc,hoc,I.freeC x c hc⟩ hs,by simpa using I.len⟩ ⟨c,hs,.inr hc⟩
  ·exact(hs.2 b (Kk (KR (Kc e) (I.ok.cab x c hfn hc)))).trans (I.base.keep b o e n hb hx)
  ·obtain⟨sl,e1⟩:=I.base.slot b o e n hb hx;exact⟨sl,(hs.2 b (Kk (KR (Kc e) (I.ok.cab x c hfn hc)))).trans e1⟩
  ·obtain⟨o',e1⟩:=I.base.there b o e hx;exact⟨o',(hs.2 b (Kk (KR (Kc e) (I.ok.cab x c hfn hc)))).trans e1⟩
  ·by_cases hj:j=i
   ·subst hj;rw[hi] at e1;cases e1;rw[Tu hiσ] at e2;cases e2;exact⟨u,r,.inr ⟨.inl hk,c,hc,hc'⟩⟩
   ·rw[XU (Kz hj)] at e2;obtain⟨u',r',q⟩:=hl j y v' e1 e2 e3;refine⟨u',r',?_⟩;rcases q with q | ⟨k,c',e,z'⟩
    ·exact .inl q
    ·refine .inr ⟨k,c',e,z'.sameBut hs ?_⟩;rintro rfl;exact hj (ZfM hN e1 (I.ok.inj _ _ _ e hc ▸ hi))
  ·by_cases hcc:c'=c
   ·subst hcc;exact⟨_,hc'⟩
   ·obtain⟨w2,z2⟩:=I.cell y c' e;exact⟨w2,z2.sameBut hs hcc⟩
  ·obtain⟨e,n,ne,nf,d⟩:=I.pin p hp;refine⟨(hs.2 p.1 ?_).trans e,n,ne,nf,d⟩;intro q;rw[q,hoc] at e;have q':oc=p.2:=Kb e;exact d w' (by rw[<- q'];exact hocd)
theorem Zaa {M:Model}{A:Around}{E:Value->Shared->Prop}{i:Nat}{x:Str}{v:V}{u:Value}{Q:Unit->Shared->Prop}(I:Inv X pins σ H s)(hN:X.N.Nodup)(hi:X.N[i]? = some x)(hx:Loc X.env.scope x)(r:RelV v u)
  (h:∀s',Inv X pins (σ.set i (some v)) H s'->Q () s') (hf:X.fn x=true∨X.env.scope.names.lookup x=some .local:=by first | exact .inl rfl | exact .inr rfl | assumption):wpAny M A (storeName X.env x u) Q E s:=
 ZdT I hN hi hx r (fun s' I' _=>h s' I') hf
theorem Inv.call' {s':Shared}{ch:List Addr}(I:Inv X pins σ H s)(ho:s'.os=s.os)(u:Un (frs X.stack) ch H H' s.heap s'.heap)(hok:W7 X.prog X.w H' s'.heap)(hg:AllBare s'.gens)
  (hch:∀b∈ch,(b∈X.ex∨X.s₀.heap.objs.size<=b)/\b≠X.env.locals/\(∀x c,X.env.cells.lookup x=some c->c≠b) /\ ∀p∈X.pn++pins,p.1≠b):Inv X pins σ H' s':=by
 obtain⟨h',g',d',t',o'⟩:=s';have e:o'=s.os:=ho;subst e;exact I.call (g':=g') (t':=t') (d':=d') u hok hg hch
end
abbrev XK:=Value->Option Addr->Hp->Prop
abbrev St:=List (Option V)
abbrev VK:=V->Hp->Prop
abbrev _root_.QA:=List (List Int)
abbrev _root_.QB:=List (Str×Int)
abbrev _root_.QC:=List (Addr×Obj)
abbrev _root_.QD:=List (Key×V)
abbrev _root_.QE:=Value->Shared->Prop
abbrev _root_.QF:=PySem.W.Frag
abbrev _root_.QG:=List Int
abbrev _root_.QH:=List V
abbrev _root_.QI:=Option V
abbrev _root_.QJ:=List Value
abbrev _root_.QL:=List (Int×Int)
abbrev _root_.QN:=Str->Option Value
abbrev _root_.QP:=List Str
abbrev _root_.QR:=List Keyed
abbrev _root_.QS:=Array Keyed
abbrev _root_.QT:=St->Hp->Prop
abbrev _root_.QV:=List Expr
abbrev _root_.QW:=Option Int
abbrev _root_.QX:=Int->Int
abbrev _root_.QY:=Array Value
abbrev TE:=St->Hp->VK->Prop
abbrev TT:=St->Hp->(Bool->Hp->Prop)->Prop
abbrev TA:=St->Hp->(List V->Hp->Prop)->Prop
structure Ends where
 nx:QT
 rt:VK
 bk:QT:=fun _ _=>False
 ct:QT:=fun _ _=>False
abbrev TS:=Ends->St->Hp->Prop
inductive EP (X:Cx)(pins:QC)(σ:St)(Q:VK)(u:Value)(s':Shared):Prop | mk (v:V) (H':Hp) (I:Inv X pins σ H' s') (r:RelV v u) (q:Q v H')
inductive TP (X:Cx)(pins:QC)(σ:St)(Q:Bool->Hp->Prop)(b:Bool)(s':Shared):Prop | mk (H':Hp) (I:Inv X pins σ H' s') (q:Q b H')
inductive AP (X:Cx)(pins:QC)(σ:St)(Q:List V->Hp->Prop)(us:QJ)(s':Shared):Prop | mk (vs:QH) (H':Hp) (I:Inv X pins σ H' s') (r:Vals vs us) (q:Q vs H')
def SP (X:Cx)(pins:QC)(D:Ends)(f:Flow)(s':Shared):Prop:=
 match f with
 | .next=>∃ σ' H',Inv X pins σ' H' s'/\D.nx σ' H'
 | .brk=>∃ σ' H',Inv X pins σ' H' s'/\D.bk σ' H'
 | .cont=>∃ σ' H',Inv X pins σ' H' s'/\D.ct σ' H'
 | .ret u=>∃v σ' H',Inv X pins σ' H' s'/\RelV v u/\D.rt v H'
def PE (X:Cx)(e:Expr)(t:TE):Prop:=
 ∀(pins:QC)(s:Shared)(σ:St)(H:Hp)(Q:VK),Inv X pins σ H s->t σ H Q->wpAny (model X.prog X.w) X.A (eval e X.env) (EP X pins σ Q) X.xe s
def PT (X:Cx)(e:Expr)(t:TT):Prop:=
 ∀(pins:QC)(s:Shared)(σ:St)(H:Hp)(Q:Bool->Hp->Prop),Inv X pins σ H s->t σ H Q->wpAny (model X.prog X.w) X.A (isTrue e X.env (eval e X.env)) (TP X pins σ Q) X.xe s
def PW (X:Cx)(e:Expr)(t:TT):Prop:=
 ∀(whole:Sem Value)(pins:QC)(s:Shared)(σ:St)(H:Hp)(Q:Bool->Hp->Prop),Inv X pins σ H s->t σ H Q->wpAny (model X.prog X.w) X.A (isTrue e X.env whole) (TP X pins σ Q) X.xe s
theorem PW.pt {X:Cx}{e:Expr}{t:TT}(h:PW X e t):PT X e t:=h _
def PA (X:Cx)(es:QV)(t:TA):Prop:=
 ∀(pos:Pos)(pins:QC)(s:Shared)(σ:St)(H:Hp)(Q:List V->Hp->Prop),Inv X pins σ H s->t σ H Q->wpAny (model X.prog X.w) X.A (spliced (backTo pos (starEach es X.env))) (AP X pins σ Q) X.xe s
def PS (X:Cx)(st:Stmt)(t:TS):Prop:=
 ∀(pins:QC)(s:Shared)(σ:St)(H:Hp)(D:Ends),Inv X pins σ H s->t D σ H->wpAny (model X.prog X.w) X.A (exec st X.env) (SP X pins D) X.xe s
def PSs (X:Cx)(st:List Stmt)(t:TS):Prop:=
 ∀(pins:QC)(s:Shared)(σ:St)(H:Hp)(D:Ends),Inv X pins σ H s->t D σ H->wpAny (model X.prog X.w) X.A (execs st X.env) (SP X pins D) X.xe s
theorem Yz {α:Type}{t:Sem α}{Q Q':α -> Shared->Prop}{M:Model}{A:Around}{E:QE}{s:Shared}(h:wpAny M A t Q E s)(hQ:∀a s,Q a s->Q' a s):wpAny M A t Q' E s:=K4 h hQ fun _ _ x=>x
section
variable {X:Cx}
inductive ZX(i:Nat)(σ:St)(H:Hp)(Q:VK):Prop|mk(v)(_:σ[i]? = some (some v))(_:Q v H)
def tC (v:V):TE:=fun _ H Q=>Q v H
theorem Zob {i:Nat}{x:Str}{pos:Pos}(hN:X.N[i]? = some x)(hv:Vis X.env.scope x)(hd:(x==("__debug__" : Str))=false:=by decide)(hcd:(x==("__classdict__" : Str))=false:=by decide):PE X (.Name x pos) (ZX i):=by
 intro pins s σ H Q I h;obtain⟨v,e,h⟩:=h;obtain⟨m,hn,hl⟩:=I.loc;obtain⟨u,r,l⟩:=hl i x v hN e hv;have fin:EP X pins σ Q u s:=⟨v,H,I,r,h⟩;rcases l with⟨hk,hm⟩ | ⟨hk,c,hc,hcell⟩
 ·exact wpAny_Name (wpAny_loadName_local I.ok.kind hk hn hm fin) hd
 ·rcases hk with hk | hk
  ·exact wpAny_Name (wpAny_loadName_cell I.ok.kind hk hc hcell fin) hd
  ·exact wpAny_Name (wpAny_loadName_free I.ok.kind hk hc hcell fin hcd) hd
theorem Ze {i j pos}:PE X (.Constant (.int i) j pos) (tC (.int i)):=fun _ _ _ H _ I h=>wpAny_Constant_int ⟨.int i,H,I.tok _,⟨_,rfl⟩,h⟩
theorem ZaH {b j pos}:PE X (.Constant (.bool b) j pos) (tC (.bl b)):=fun _ _ _ H _ I h=>Constant_bool ⟨.bl b,H,I,rfl,h⟩
theorem Uq {j pos}:PE X (.Constant .none j pos) (tC .non):=fun _ _ _ H _ I h=>Constant_none ⟨.non,H,I,rfl,h⟩
theorem ZG {x j pos}:PE X (.Constant (.str x) j pos) (tC (.str x)):=fun _ _ _ H _ I h=>Calls.Constant_str ⟨.str x,H,I.tok _,⟨_,rfl⟩,h⟩
def Gl (X:Cx)(x:Str):Prop:=X.env.kindOf x=some .globalImplicit
theorem Zg8 {E:QE}{pins:QC}{s:Shared}{σ:St}{H:Hp}{x:Str}{u:Value}{pos:Pos}{Q:QE}(I:Inv X pins σ H s)(hg:Gl X x)(hm:X.mg x=some u)(h:Q u s)
  (hd:(x==("__debug__" : Str))=false:=by decide):wpAny (model X.prog X.w) X.A (eval (.Name x pos) X.env) Q E s:=
 Nh I.ok.kind hg (Calls.loadGlobal_global (by rw[I.ok.glob];exact I.mod.glob.keeps I.bk) hm h) hd
theorem Uy {E:QE}{pins:QC}{s:Shared}{σ:St}{H:Hp}{x:Str}{u:Value}{pos:Pos}{Q:QE}(I:Inv X pins σ H s)(hg:Gl X x)(hm:X.mg x=none)(hv:bootBuiltins x=some u)(h:Q u s)
  (hn:x ≠ "__name__" := by decide) (hd:(x==("__debug__" : Str))=false:=by decide):wpAny (model X.prog X.w) X.A (eval (.Name x pos) X.env) Q E s:=by
 obtain⟨mb,h1,h2⟩:=I.mod.blt;exact Nh I.ok.kind hg (Calls.loadGlobal_builtin (by rw[I.ok.glob];exact I.mod.glob.keeps I.bk) hm (by rw[I.ok.blt];exact h1.keeps I.bk) ((h2 x hn).trans hv) h) hd
theorem Zbj {x:Str}{v:V}{u:Value}{pos:Pos}(hg:Gl X x)(hm:X.mg x=none)(hv:bootBuiltins x=some u)(r:RelV v u)(hn:x ≠ "__name__" := by decide)(hd:(x==("__debug__" : Str))=false:=by decide):PE X (.Name x pos) (tC v):=
 fun _ _ _ H _ I h=>Uy I hg hm hv ⟨v,H,I,r,h⟩ hn hd
variable {a b:Expr}{ta tb:TE}{pos:Pos}
def PC (X:Cx)(op:CmpOp)(a b:Expr)(t:TE):Prop:=
 ∀(pins:QC)(s:Shared)(σ:St)(H:Hp)(Q:VK),Inv X pins σ H s->t σ H Q ->
  wpAny (model X.prog X.w) X.A (eval a X.env) (fun v s₁=>wpAny (model X.prog X.w) X.A (eval b X.env) (fun u s₂=>wpAny (model X.prog X.w) X.A (compareOp op v u) (EP X pins σ Q) X.xe s₂) X.xe s₁) X.xe s
inductive isB (x:V)(H:Hp)(Q:Bool->Hp->Prop):Prop | mk (c:Bool) (e:x = .bl c) (q:Q c H)
def tB (t:TE):TT:=fun σ H Q=>t σ H fun x H1=>isB x H1 Q
theorem Zey {op:CmpOp}{t:TE}(h:PC X op a b t)(h1:behindInMarks op b=false:=by first | exact nobehind _ (by decide) (by decide) | rfl):PT X (.Compare a [op] [b] pos) (tB t):=by intro pins s σ H Q I hw;refine wpAny_isTrue_Compare1 (Yz (h pins s σ H _ I hw) fun v s1 h1=>Yz h1 fun u s2 h2=>Yz h2 fun c s3 ⟨x,H1,I1,r1,q1⟩=>?_) h1;obtain⟨d,rfl,q⟩:=q1;cases r1;exact KS ⟨H1,I1,q⟩
theorem U9 {e:Expr}{t:TE}(h:PE X e t)(he:∀whole,isTrue e X.env whole=(do let v <- whole;standAt e.pos;holding [v] (truthy v)):=by intro _;rfl):PT X e (tB t):=by intro pins s σ H Q I hw;refine isTrue_plain (Yz (h pins s σ H _ I hw) fun v s1 ⟨x,H1,I1,r1,q1⟩=>?_) (he _);obtain⟨d,rfl,q⟩:=q1;cases r1;exact KS ⟨H1,I1,q⟩
variable {tA tB':TT}{rest:QV}
def Zlu (t u:TT):TT:=fun σ H Q=>t σ H fun c H1=>if c=true then u σ H1 Q else Q false H1
def tOr (t u:TT):TT:=fun σ H Q=>t σ H fun c H1=>if c=true then Q true H1 else u σ H1 Q
def Zp0 (t:TT):TT:=fun σ H Q=>t σ H fun c H1=>Q (!c) H1
theorem Up (ha:PT X a tA):PW X (.BoolOp .And [a] pos) tA:=by
 intro wh pins s σ H Q I h;refine isTrue_and (Yz (ha pins s σ H Q I h) fun c s1 e=>?_);cases c with
 | true=>exact isTrue_and_nil e
 | false=>exact e
theorem ZgU (ha:PT X a tA):PW X (.BoolOp .Or [a] pos) tA:=by
 intro wh pins s σ H Q I h;refine isTrue_or (Yz (ha pins s σ H Q I h) fun c s1 e=>?_);cases c with
 | false=>exact isTrue_or_nil e
 | true=>exact e
theorem GJ (ha:PT X a tA)(hb:PW X (.BoolOp .And (b::rest) pos) tB'):PW X (.BoolOp .And (a::b::rest) pos) (Zlu tA tB'):=by
 intro wh pins s σ H Q I h;refine isTrue_and (Yz (ha pins s σ H _ I h) fun c s1 ⟨H1,I1,q1⟩=>?_);cases c with
 | true=>exact hb wh pins s1 σ H1 Q I1 q1
 | false=>exact⟨H1,I1,q1⟩
theorem Zg5 (ha:PT X a tA)(hb:PW X (.BoolOp .Or (b::rest) pos) tB'):PW X (.BoolOp .Or (a::b::rest) pos) (tOr tA tB'):=by
 intro wh pins s σ H Q I h;refine isTrue_or (Yz (ha pins s σ H _ I h) fun c s1 ⟨H1,I1,q1⟩=>?_);cases c with
 | true=>exact⟨H1,I1,q1⟩
 | false=>exact hb wh pins s1 σ H1 Q I1 q1
theorem ZcD (ha:PT X a tA):PT X (.UnaryOp .Not a pos) (Zp0 tA):=by intro pins s σ H Q I h;exact isTrue_not (Yz (ha pins s σ H (fun c H1=>Q (!c) H1) I h) fun c s1 ⟨H1,I1,q1⟩=>⟨H1,I1,q1⟩)
def ZmM (ta tb:TE):TE:=fun σ H Q=>ta σ H fun x H1=>isB x H1 fun c H2=>if c=true then tb σ H2 Q else Q (.bl false) H2
def Zp1 (ta tb:TE):TE:=fun σ H Q=>ta σ H fun x H1=>isB x H1 fun c H2=>if c=true then Q (.bl true) H2 else tb σ H2 Q
def Zo0 (ta:TE):TE:=fun σ H Q=>ta σ H fun x H1=>isB x H1 fun c H2=>Q (.bl (!c)) H2
theorem Zai {op}{t:TE} (h:PE X a t):PE X (.BoolOp op [a] pos) t:=fun pins s σ H Q I hw=>BoolOp_one (h pins s σ H Q I hw)
theorem ZbZ (ha:PE X a ta)(hb:PE X (.BoolOp .And (b::rest) pos) tb):PE X (.BoolOp .And (a::b::rest) pos) (ZmM ta tb):=by
 intro pins s σ H Q I h;refine BoolOp_and (Yz (ha pins s σ H _ I h) fun v s1 ⟨x,H1,I1,r1,q1⟩=>?_);obtain⟨c,rfl,q1⟩:=q1;cases r1;refine KS ?_;cases c with
 | true=>exact hb pins s1 σ H1 Q I1 q1
 | false=>exact⟨.bl false,H1,I1,rfl,q1⟩
theorem Zg1 (ha:PE X a ta)(hb:PE X (.BoolOp .Or (b::rest) pos) tb):PE X (.BoolOp .Or (a::b::rest) pos) (Zp1 ta tb):=by
 intro pins s σ H Q I h;refine BoolOp_or (Yz (ha pins s σ H _ I h) fun v s1 ⟨x,H1,I1,r1,q1⟩=>?_);obtain⟨c,rfl,q1⟩:=q1;cases r1;refine KS ?_;cases c with
 | false=>exact hb pins s1 σ H1 Q I1 q1
 | true=>exact⟨.bl true,H1,I1,rfl,q1⟩
theorem Znw (ha:PE X a ta):PE X (.UnaryOp .Not a pos) (Zo0 ta):=by intro pins s σ H Q I h;refine UnaryOp_ (Yz (ha pins s σ H _ I h) fun v s1 ⟨x,H1,I1,r1,q1⟩=>?_);obtain⟨c,rfl,q1⟩:=q1;cases r1;exact not_of (KS ⟨.bl (!c),H1,I1,rfl,q1⟩)
def tIf (t:TT)(ta tb:TE):TE:=fun σ H Q=>t σ H fun c H1=>if c=true then ta σ H1 Q else tb σ H1 Q
theorem Zap {c:Expr}(hc:PT X c tA)(ha:PE X a ta)(hb:PE X b tb):PE X (.IfExp c a b pos) (tIf tA ta tb):=by
 intro pins s σ H Q I h;refine wpAny_IfExp (Yz (hc pins s σ H _ I h) fun d s1 ⟨H1,I1,q1⟩=>?_);cases d with
 | true=>exact ha pins s1 σ H1 Q I1 q1
 | false=>exact hb pins s1 σ H1 Q I1 q1
end
def Zt (K:QF)(H:Hp)(a:Addr)(xs:QH):Prop:=
 Rd H a (.lst xs) ∨
  ∃(o:Obj)(its:QY)(n:Nat),K.lookup a=some o/\o.cls = .type "list" /\ o.dict=none/\o.data = .seq its n/\its.size<=sizeLine/\Vals xs its.toList
def YJ (K:QF)(H:Hp)(a:Addr)(xs:QH):Prop:=
 Rd H a (.tup xs) ∨
  ∃(o:Obj)(its:QY)(n:Nat),K.lookup a=some o/\o.cls = .type "tuple" /\ o.data = .seq its n/\its.size<=sizeLine/\Vals xs its.toList
def Zp2:Value->Option V
 | .none=>some .non
 | .bool b=>some (.bl b)
 | .int i _=>some (.int i)
 | .str x _=>some (.str x)
 | .bytes b _=>some (.byt b)
 | .float b _=>some (.flt b)
 | .ref a=>some (.ref a)
 | .type n=>some (.ty n)
 | _=>none
theorem RelV.abs {x:V}{u:Value}(r:RelV x u):Zp2 u=some x:=by
 cases x with
 | non=>cases r;rfl
 | bl _=>cases r;rfl
 | int _=>obtain⟨t,rfl⟩:=r;rfl
 | str _=>obtain⟨t,rfl⟩:=r;rfl
 | byt _=>obtain⟨t,rfl⟩:=r;rfl
 | flt _=>obtain⟨t,rfl⟩:=r;rfl
 | ref _=>cases r;rfl
 | ty _=>cases r;rfl
theorem RelV.inj {x y:V}{u:Value}(r:RelV x u)(q:RelV y u):x=y:=Kb (r.abs.symm.trans q.abs)
theorem Vals.inj:∀{xs ys:QH}{us:QJ},Vals xs us->Vals ys us->xs=ys
 | _,_,_,.nil,.nil=>rfl
 | _,_,_,.cons r t,.cons r' t'=>by rw[r.inj r',Vals.inj t t']
section
variable {X:Cx}{pins:QC}{σ:St}{H:Hp}{s:Shared}{a:Addr}{xs ys:QH}
theorem Zt.of {K:QF}(h:H a=some (.lst xs)):Zt K H a xs:=.inl (.inl h)
theorem YJ.of {K:QF}(h:H a=some (.tup xs)):YJ K H a xs:=.inl (.inl h)
theorem Inv.list (I:Inv X pins σ H s)(h:Zt X.K H a xs):∃its:QJ,Vals xs its/\PlainL s.heap a its.toArray/\xs.length<=sizeLine:=by
 rcases h with h | ⟨o,its,n,hk,hc,hd,hs,hz,r⟩
 ·obtain⟨z,its,n,r,e⟩:=h.ok I.hok;exact⟨its,r,⟨_,n,e,rfl,rfl,rfl⟩,z⟩
 ·refine⟨its.toList,r,⟨o,n,I.kIn a o hk,hc,hd,by simpa using hs⟩,?_⟩;have e:=r.length;simp only[K2] at e;lia
theorem Inv.tuple (I:Inv X pins σ H s)(h:YJ X.K H a xs):∃its:QJ,Vals xs its/\IsTup s.heap a its.toArray/\xs.length<=sizeLine:=by
 rcases h with h | ⟨o,its,n,hk,hc,hs,hz,r⟩
 ·obtain⟨z,its,r,p⟩:=h.ok I.hok;exact⟨its,r,p,z⟩
 ·refine⟨its.toList,r,⟨o,I.kIn a o hk,hc,n,by simpa using hs⟩,?_⟩;have e:=r.length;simp only[K2] at e;lia
theorem Inv.list_inj (I:Inv X pins σ H s)(h:Zt X.K H a xs)(h':Zt X.K H a ys):xs=ys:=by
 obtain⟨its,r,⟨o,n,e,_,_,d⟩,_⟩:=I.list h;obtain⟨its',r',⟨o',n',e',_,_,d'⟩,_⟩:=I.list h';rw[e] at e';cases e';rw[d] at d';injection d' with d1 _
 have:its=its':=by simpa using Ky Array.toList d1
 subst this;exact r.inj r'
theorem Inv.tuple_inj (I:Inv X pins σ H s)(h:YJ X.K H a xs)(h':YJ X.K H a ys):xs=ys:=by
 obtain⟨its,r,⟨o,e,_,n,d⟩,_⟩:=I.tuple h;obtain⟨its',r',⟨o',e',_,n',d'⟩,_⟩:=I.tuple h';rw[e] at e';cases e';rw[d] at d';injection d' with d1 _
 have:its=its':=by simpa using Ky Array.toList d1
 subst this;exact r.inj r'
end
abbrev Cx.wish (X:Cx)(E:QE):Cx:={ X with xe:=E }
abbrev Cx.nox (X:Cx):Cx:=X.wish fun _ _=>False
theorem Cx.Ok.wish {X:Cx}(ok:X.Ok)(E:QE):(X.wish E).Ok:=
 ⟨ok.mod,ok.kind,ok.glob,ok.blt,ok.above,ok.inj,ok.has,ok.cab,ok.hd,ok.frames,ok.stk,ok.exf,ok.bs,ok.bsz,ok.noex,ok.exfs,ok.funs,ok.frf⟩
theorem Cx.Ok.unwish {X:Cx}{E:QE}(ok:(X.wish E).Ok):X.Ok:=
 ⟨ok.mod,ok.kind,ok.glob,ok.blt,ok.above,ok.inj,ok.has,ok.cab,ok.hd,ok.frames,ok.stk,ok.exf,ok.bs,ok.bsz,ok.noex,ok.exfs,ok.funs,ok.frf⟩
section
variable {X:Cx}{pins:QC}{σ:St}{H:Hp}{s:Shared}{E:QE}
theorem Inv.wish (I:Inv X pins σ H s)(E:QE):Inv (X.wish E) pins σ H s:=⟨I.ok.wish E,I.os,I.bare,I.base,I.loc,I.cell,I.free,I.freeC,I.pin,I.hok,I.len⟩
theorem Inv.unwish (I:Inv (X.wish E) pins σ H s):Inv X pins σ H s:=⟨I.ok.unwish,I.os,I.bare,I.base,I.loc,I.cell,I.free,I.freeC,I.pin,I.hok,I.len⟩
theorem SP.unwish {D:Ends}{f:Flow}{s':Shared}(h:SP (X.wish E) pins D f s'):SP X pins D f s':=by
 cases f with
 | next=>obtain⟨σ',H',I,q⟩:=h;exact⟨σ',H',I.unwish,q⟩
 | brk=>obtain⟨σ',H',I,q⟩:=h;exact⟨σ',H',I.unwish,q⟩
 | cont=>obtain⟨σ',H',I,q⟩:=h;exact⟨σ',H',I.unwish,q⟩
 | ret u=>obtain⟨v,σ',H',I,r,q⟩:=h;exact⟨v,σ',H',I.unwish,r,q⟩
theorem PSs.nox {st:List Stmt}{t:TS}(h:PSs X.nox st t):PSs X st t:=fun pins s σ H D I hw=>
 K4 (h pins s σ H D (I.wish _) hw) (fun _ _ q=>q.unwish) fun _ _ z=>False.elim z
end
section
variable {X:Cx}{st:Stmt}{rest:List Stmt}{t u:TS}{e:Expr}{te:TE}{pos:Pos}
def ZhW:TS:=fun D σ H=>D.nx σ H
def WR (t u:TS):TS:=fun D σ H=>t { D with nx:=u D } σ H
theorem ZN:PSs X [] ZhW:=fun _ _ σ H _ I h=>T5 ⟨σ,H,I,h⟩
theorem Zd (h1:PS X st t)(h2:PSs X rest u):PSs X (st::rest) (WR t u):=by
 intro pins s σ H D I h;refine wpAny_execs_cons (Yz (h1 pins s σ H { D with nx:=u D } I h) fun f s1 q=>?_);cases f with
 | next=>
  obtain⟨σ',H',I',q⟩:=q;exact h2 pins s1 σ' H' D I' q
 | ret v=>exact q
 | brk=>exact q
 | cont=>exact q
theorem Zg (h1:PS X st t):PSs X [st] t:=by
 intro pins s σ H D I h;refine wpAny_execs_cons (Yz (h1 pins s σ H D I h) fun f s1 q=>?_);cases f with
 | next=>exact T5 q
 | ret v=>exact q
 | brk=>exact q
 | cont=>exact q
theorem Inv.quiet {pins:QC}{σ:St}{H:Hp}{s:Shared}(I:Inv X pins σ H s):interactive X.env=false:=by simp[interactive,I.ok.kind]
def ZoF (te:TE):TS:=fun D σ H=>te σ H fun _ H1=>D.nx σ H1
theorem Ye (he:PE X e te)(hs:swapsWith e none pos.line X.env=pure false:=by rfl):PS X (.Expr e pos) (ZoF te):=by intro pins s σ H D I h;exact wpAny_Expr_any (Yz (he pins s σ H _ I h) fun v s1 ⟨x,H1,I1,r1,q1⟩=>⟨σ,H1,I1,q1⟩) I.quiet hs
def Zn1 (te:TE):TS:=fun D σ H=>te σ H D.rt
theorem Zz (he:PE X e te):PS X (.Return (some e) pos) (Zn1 te):=by intro pins s σ H D I h;exact wpAny_Return_some (Yz (he pins s σ H _ I h) fun v s1 ⟨x,H1,I1,r1,q1⟩=>⟨x,σ,H1,I1,r1,q1⟩)
def ZeI (c:TT)(t u:TS):TS:=fun D σ H=>c σ H fun b H1=>if b=true then t D σ H1 else u D σ H1
theorem Z9 {c:Expr}{a b:List Stmt}{tc:TT}(hc:PT X c tc)(ha:PSs X a t)(hb:PSs X b u):PS X (.If c a b pos) (ZeI tc t u):=by
 intro pins s σ H D I h;refine wpAny_If (Yz (hc pins s σ H _ I h) fun d s1 ⟨H1,I1,q1⟩=>?_);cases d with
 | true=>exact ha pins s1 σ H1 D I1 q1
 | false=>exact hb pins s1 σ H1 D I1 q1
end
abbrev TG:=V->St->Hp->QT->Prop
abbrev TGs:=List V->St->Hp->QT->Prop
def PG (X:Cx)(target:Expr)(t:TG):Prop:=
 ∀(pins:QC)(s:Shared)(σ:St)(H:Hp)(v:V)(u:Value)(Q:QT),Inv X pins σ H s->RelV v u->t v σ H Q ->
  wpAny (model X.prog X.w) X.A (assign target X.env u) (fun _ s'=>∃ σ' H',Inv X pins σ' H' s'/\Q σ' H') X.xe s
def PGs (X:Cx)(ts:QV)(t:TGs):Prop:=
 ∀(pins:QC)(s:Shared)(σ:St)(H:Hp)(vs:QH)(us:QJ)(Q:QT),Inv X pins σ H s->Vals vs us->t vs σ H Q ->
  wpAny (model X.prog X.w) X.A (assignInOrder ((assignEach ts X.env).map (·.2)) us) (fun _ s'=>∃ σ' H',Inv X pins σ' H' s'/\Q σ' H') X.xe s
abbrev Znu:=V->V->V->Hp->(Hp->Prop)->Prop
def ZlK (X:Cx)(t:Znu):Prop:=
 ∀(pins:QC)(s:Shared)(σ:St)(H:Hp)(o i v:V)(ov iv u:Value)(Q:Hp->Prop),Inv X pins σ H s->RelV o ov->RelV i iv->RelV v u->t o i v H Q ->
  wpAny (model X.prog X.w) X.A (setItem ov iv u) (fun _ s'=>∃H',Inv X pins σ H' s'/\Q H') X.xe s
abbrev TIp:=V->V->Hp->VK->Prop
def PIp (X:Cx)(op:Operator)(t:TIp):Prop:=
 ∀(pins:QC)(s:Shared)(σ:St)(H:Hp)(x y:V)(v u:Value)(Q:VK),Inv X pins σ H s->RelV x v->RelV y u->t x y H Q ->
  wpAny (model X.prog X.w) X.A (inplaceOp op v u) (EP X pins σ Q) X.xe s
section
variable {X:Cx}{pos:Pos}
def Yw (i:Nat):TG:=fun v σ H Q=>Q (σ.set i (some v)) H
theorem Zl {i:Nat}{x:Str}(hN:X.N.Nodup)(hi:X.N[i]? = some x)(hx:Loc X.env.scope x)(hf:X.fn x=true∨X.env.scope.names.lookup x=some .local:=by first | exact .inl rfl | exact .inr rfl | assumption):PG X (.Name x pos) (Yw i):=by intro pins s σ H v u Q I r h;exact wpAny_assign_Name (Zaa I hN hi hx r (fun s' I'=>⟨_,H,I',h⟩) hf)
inductive Zfu(vs:QH)(σ:St)(H:Hp)(Q:QT):Prop|mk(_:vs = [])(_:Q σ H)
inductive GC(t:TG)(u:TGs)(vs:QH)(σ:St)(H:Hp)(Q:QT):Prop|mk(v r)(_:vs=v::r)(_:t v σ H fun σ' H'=>u r σ' H' Q)
theorem ZQ:PGs X [] Zfu:=by intro pins s σ H vs us Q I r h;obtain⟨e,h⟩:=h;subst e;cases r;exact assignInOrder_nil ⟨σ,H,I,h⟩
theorem Zo {e:Expr}{es:QV}{t:TG}{u:TGs}(h1:PG X e t)(h2:PGs X es u)
  (hs:(assignEach (e::es) X.env).map (·.2)=assign e X.env::(assignEach es X.env).map (·.2):=by rfl):PGs X (e::es) (GC t u):=by
 intro pins s σ H vs us Q I r h;obtain⟨v,vr,e1,h⟩:=h;subst e1;cases r with
 | cons r rr=>
  rw[hs];refine Ni (Yz (h1 pins s σ H _ _ _ I r h) fun _ s1 ⟨σ1,H1,I1,q1⟩=>?_);exact h2 pins s1 σ1 H1 _ _ Q I1 rr q1
inductive ZeL(K:QF)(n:Nat)(t:TGs)(v:V)(σ:St)(H:Hp)(Q:QT):Prop|mk(a xs)(_:v = .ref a)(_:YJ K H a xs)(_:xs.length=n)(_:t xs σ H Q)
theorem Zn8 {es:QV}{k:Nat}{t:TGs}{n:Nat}(hc:X.calm=true)(h:PGs X es t)
  (hn:(assignEach es X.env).length=n:=by rfl) (hst:(assignEach es X.env).findIdx? (·.1)=none:=by rfl):PG X (.Tuple es k pos) (ZeL X.K n t):=by
 intro pins s σ H v u Q I r hw;obtain⟨a,xs,e1,hq,hl,hw⟩:=hw;subst e1;cases r;obtain⟨its,rv,ht,hz⟩:=I.tuple hq;refine assign_Tuple_tuple (I.ok.hd hc) ht (by simp[hn,<- hl,rv.length]) hst fun h' hx=>?_;have I1:Inv X pins σ H { s with heap:=h' }:=I.kept (t':=s.toks) fun b o e=>hx b o (Kk (Kc e)) e;exact h pins _ σ H xs _ Q I1 (by simpa using rv) hw
def ZgD (to ti:TE)(t:Znu):TG:=fun v σ H Q=>to σ H fun o H1=>ti σ H1 fun i H2=>t o i v H2 fun H3=>Q σ H3
theorem Yp {o i:Expr}{to ti:TE}{t:Znu}(ho:PE X o to)(hi:PE X i ti)(hs:ZlK X t)
  (ha:∀v,assign (.Subscript o i pos) X.env v=(do
   let ov <- holding [v] (eval o X.env)
   let iv <- holding [v,ov] (eval i X.env)
   standAt pos
   holding [v,ov,iv] (setItem ov iv v)
   release [v,ov,iv] []):=by intro _;rfl):PG X (.Subscript o i pos) (ZgD to ti t):=by
 intro pins s σ H v u Q I r h;rw[ha];refine ka (KJ (Yz (ho pins s σ H _ I h) fun ov s1 ⟨x,H1,I1,r1,q1⟩=>?_));refine ka (KJ (Yz (hi pins s1 σ H1 _ I1 q1) fun iv s2 ⟨y,H2,I2,r2,q2⟩=>?_));refine ka (Xc (ka (KJ (Yz (hs pins s2 σ H2 x y v ov iv u _ I2 r1 r2 r q2) fun _ s3 ⟨H3,I3,q3⟩=>?_))));exact M5 ⟨σ,H3,I3,q3⟩
def W6 (te:TE)(g:TG):TS:=fun D σ H=>te σ H fun x H1=>g x σ H1 D.nx
theorem Yd {tg e:Expr}{te:TE}{g:TG}(he:PE X e te)(hg:PG X tg g)(hs:swapsWithSole [tg] e pos.line X.env=pure false:=by rfl)(hw:swappedStores [tg] e X.env=pure none:=by rfl)
  (h1:(assignEach [tg] X.env).map (·.2) = [assign tg X.env]:=by rfl):PS X (.Assign [tg] e pos) (W6 te g):=by
 intro pins s σ H D I h;refine wpAny_Assign_stores (Yz (he pins s σ H _ I h) fun v s1 ⟨x,H1,I1,r1,q1⟩=>?_) hs hw;rw[h1];exact Yz (hg pins s1 σ H1 x v _ I1 r1 q1) fun _ s2 q=>q
theorem Zm {i:Nat}{x:Str}{e:Expr}{te:TE}{pos':Pos}(hN:X.N.Nodup)(hi:X.N[i]? = some x)(hx:Loc X.env.scope x)(he:PE X e te)(hs:swapsWith e (some (.Name x pos')) pos.line X.env=pure false:=by rfl)(hf:X.fn x=true∨X.env.scope.names.lookup x=some .local:=by first | exact .inl rfl | exact .inr rfl | assumption):
  PS X (.Assign [.Name x pos'] e pos) (W6 te (Yw i)):=by
 intro pins s σ H D I h;refine wpAny_Assign_Name (Yz (he pins s σ H _ I h) fun v s1 ⟨y,H1,I1,r1,q1⟩=>?_) hs;exact Zaa I1 hN hi hx r1 (fun s2 I2=>⟨_,H1,I2,q1⟩) hf
inductive Zmy(i j:Nat)(D:Ends)(σ:St)(vs:QH)(H1:Hp):Prop|mk(v w)(_:vs = [v,w])(_:D.nx ((σ.set i (some v)).set j (some w)) H1)
def ZpQ (i j:Nat)(ta:TA):TS:=fun D σ H=>ta σ H fun vs H1=>Zmy i j D σ vs H1
theorem Zjk {i j:Nat}{x y:Str}{a b:Expr}{ta:TA}{px py pt:Pos}{kt k2 pt2} (hc:X.calm=true) (hN:X.N.Nodup) (hi:X.N[i]? = some x) (hj:X.N[j]? = some y) (hij:i≠j)
  (hx:X.env.scope.names.lookup x=some .local) (hy:X.env.scope.names.lookup y=some .local) (ha:PA X [a,b] ta)
  (hw:swappedStores [.Tuple [.Name x px,.Name y py] kt pt] (.Tuple [a,b] k2 pt2) X.env=pure (some [x,y]))
  (hs:swapsWithSole [.Tuple [.Name x px,.Name y py] kt pt] (.Tuple [a,b] k2 pt2) pos.line X.env=pure false:=by rfl):
  PS X (.Assign [.Tuple [.Name x px,.Name y py] kt pt] (.Tuple [a,b] k2 pt2) pos) (ZpQ i j ta):=by
 intro pins s σ H D I h;rw[exec_Assign_arm];refine ka (Xc ?_);rw[hs];refine ka (km ?_);rw[kh (by decide)];refine ka (Tuple_ (Yz (ha _ pins s σ H _ I h) fun us s1 ⟨vs,H1,I1,r1,q1⟩=>?_));obtain⟨v,w,e1,q1⟩:=q1;subst e1;obtain⟨u1,u2,rfl,rv,rw'⟩:∃u1 u2,us = [u1,u2]/\RelV v u1/\RelV w u2:=by
  cases r1 with
  | cons p q=>
   cases q with
   | cons p' q'=>
    cases q';exact⟨_,_,rfl,p,p'⟩
 refine qb ?_ sz2;have I2:Inv X pins σ H1 { s1 with heap:=s1.heap.push { cls:=.type "tuple", data:=.seq [u1,u2].toArray } }:=I1.kept (t':=s1.toks) fun b o e=>ko _ e;rw[hw];refine ka (km ?_);show wpAny (model X.prog X.w) X.A (do rule "assign.swapped-stores"; let items <- unpackItems (.ref s1.heap.objs.size) 2 none;assignInOrder [fun v=>bindName X.env y v,fun v=>bindName X.env x v] items.reverse;pure Flow.next) _ _ _;refine ka (qC (ka (unpackItems_tuple (items:=#[u1,u2]) (I.ok.hd hc) (IsTup.new s1.heap _) fun h' hx'=>?_)));have I3:=I2.kept (h':=h') (t':=s1.toks) fun b o e=>hx' b o (Kk (Kc e)) e;show wpAny _ _ (assignInOrder [fun v=>bindName X.env y v,fun v=>bindName X.env x v] [u2,u1] >>= fun _=>pure Flow.next) _ _ _;refine ka (Ni (wpAny_bindName (Zaa I3 hN hj (.inl hy) rw' (fun s2 I4=>?_) (.inr hy))));refine Ni (wpAny_bindName (Zaa I4 hN hi (.inl hx) rv (fun s3 I5=>assignInOrder_nil (km ?_)) (.inr hx)));rw[List.set_comm _ _ (Kz hij)] at I5;exact⟨_,H1,I5,q1⟩
inductive Zo3(i:Nat)(te:TE)(ti:TIp)(D:Ends)(σ:St)(H:Hp):Prop|mk(x)(_:σ[i]? = some (some x))(_:te σ H fun y H1=>ti x y H1 fun z H2=>D.nx (σ.set i (some z)) H2)
theorem Zj7 {i:Nat}{x:Str}{e:Expr}{te:TE}{op:Operator}{ti:TIp}{pos':Pos}(hN:X.N.Nodup)(hi:X.N[i]? = some x)(hx:Loc X.env.scope x)(he:PE X e te)(ho:PIp X op ti)(hf:X.fn x=true∨X.env.scope.names.lookup x=some .local:=by first | exact .inl rfl | exact .inr rfl | assumption):
  PS X (.AugAssign (.Name x pos') op e pos) (Zo3 i te ti):=by
 intro pins s σ H D I h;obtain⟨v,e1,h⟩:=h;obtain⟨m,hn,hl⟩:=I.loc;have vis:Vis X.env.scope x:=by rcases hx with k | k;exact .inl k;exact .inr (.inl k)
 obtain⟨u,r,l⟩:=hl i x v hi e1 vis;refine wpAny_AugAssign_Name ?_;have go:wpAny (model X.prog X.w) X.A (eval e X.env) (fun w s₂=>wpAny (model X.prog X.w) X.A (inplaceOp op u w) (fun r s₃=>wpAny (model X.prog X.w) X.A (storeName X.env x r) (fun _=>SP X pins D .next) X.xe s₃) X.xe s₂) X.xe s:=by refine Yz (he pins s σ H _ I h) fun w s1 ⟨y,H1,I1,r1,q1⟩=>?_;refine Yz (ho pins s1 σ H1 v y u w _ I1 r r1 q1) fun z s2 ⟨zv,H2,I2,r2,q2⟩=>?_;exact Zaa I2 hN hi hx r2 (fun s3 I3=>⟨_,H2,I3,q2⟩) hf
 rcases l with⟨hk,hm⟩ | ⟨hk,c,hc,hcell⟩
 ·exact wpAny_loadName_local I.ok.kind hk hn hm go
 ·rcases hk with hk | hk
  ·exact wpAny_loadName_cell I.ok.kind hk hc hcell go
  ·rcases hx with k | k
   ·have:X.env.scope.names.lookup x=some .free:=hk;rw[k] at this;cases this
   ·have:X.env.scope.names.lookup x=some .free:=hk;rw[k] at this;cases this
inductive ipI(f:Int->Int->Int)(x y:V)(H:Hp)(Q:VK):Prop|mk(i j)(_:x = .int i)(_:y = .int j)(_:Q (.int (f i j)) H)
theorem Znq:PIp X .Add (ipI fun i j=>i+j):=by intro pins s σ H x y v u Q I r1 r2 h;obtain⟨i,j,e1,e2,q⟩:=h;subst e1;subst e2;obtain⟨t,rfl⟩:=r1;obtain⟨t',rfl⟩:=r2;exact iadd_int ⟨.int _,H,I.tok _,⟨_,rfl⟩,q⟩
theorem Zna:PIp X .Sub (ipI fun i j=>i-j):=by intro pins s σ H x y v u Q I r1 r2 h;obtain⟨i,j,e1,e2,q⟩:=h;subst e1;subst e2;obtain⟨t,rfl⟩:=r1;obtain⟨t',rfl⟩:=r2;exact isub_int ⟨.int _,H,I.tok _,⟨_,rfl⟩,q⟩
inductive Zk3 (c:TT)(tb:TS)(D:Ends)(σ:St)(H:Hp):Prop | mk (W:Nat->St->Hp->Prop) (h:∃m,W m σ H) (t:∀m σ H,W m σ H ->
 c σ H fun b H1=>if b=true then ∃N:QT,(∀ σ' H',N σ' H' -> ∃m',m'<m/\W m' σ' H')/\tb { D with nx:=N,ct:=N,bk:=D.nx } σ H1 else D.nx σ H1)
theorem ZbH {c:Expr}{body:List Stmt}{tc:TT}{tb:TS}(hp:PassesOwn (model X.prog X.w) X.A X.env X.xe)(hc:PT X c tc)(hb:PSs X body tb):PS X (.While c body [] pos) (Zk3 tc tb):=by
 intro pins s σ H D I h;obtain⟨W,⟨m0,w0⟩,turn⟩:=h;refine wpAny_While (codeAny_whileLoop (fun n s'=>∃ σ' H',Inv X pins σ' H' s'/\W n σ' H') ?_ m0 ⟨σ,H,I,w0⟩);rintro n s1 ⟨σ1,H1,I1,w1⟩;refine Xj hp (Yz (hc pins s1 σ1 H1 _ I1 (turn n σ1 H1 w1)) fun b s2 ⟨H2,I2,q2⟩=>?_);cases b with
 | true=>
  obtain⟨N,hN,q2⟩:=q2;rw[kj rfl];refine Xj hp (Yz (hb pins s2 σ1 H2 _ I2 q2) fun f s3 q3=>?_);cases f with
  | next=>
   obtain⟨σ3,H3,I3,n3⟩:=q3;obtain⟨m',hm,w3⟩:=hN σ3 H3 n3;exact⟨m',hm,σ3,H3,I3,w3⟩
  | cont=>
   obtain⟨σ3,H3,I3,n3⟩:=q3;obtain⟨m',hm,w3⟩:=hN σ3 H3 n3;exact⟨m',hm,σ3,H3,I3,w3⟩
  | brk=>exact q3
  | ret v=>exact q3
 | false=>
  rw[kh k8];exact T5 ⟨σ1,H2,I2,q2⟩
end
structure It where
 go:Nat->Hp->Prop
 yld:Nat->Hp->V->Hp->Prop
 stop:Nat->Hp->Prop
def Zci (X:Cx)(pins:QC)(H:Hp)(b:Addr):Prop:=
 H b=none/\b≠X.env.locals/\b∉X.fs/\(b∈X.ex∨X.s₀.heap.objs.size<=b)/\(∀x c,X.env.cells.lookup x=some c->c≠b) /\ ∀p∈X.pn++pins,p.1≠b
theorem Inv.fpOk {X:Cx}{pins:QC}{σ:St}{H H':Hp}{s:Shared}{b:Addr}(I:Inv X pins σ H s)(hb:s.heap.objs.size<=b)(hn:H' b=none):Zci X pins H' b:=by
 refine⟨hn,Xn (KR I.lt hb),I.nofs hb,.inr (Kx I.sz hb),fun x c e z=>?_,fun p hp z=>?_⟩
 ·obtain⟨v,q⟩:=I.cell x c e;exact absurd (KR q.lt (by rw[z];exact hb)) (qF _)
 ·exact absurd (KR (Kc (I.pin p hp).1) (by rw[z];exact hb)) (qF _)
structure Turn (P:Program)(w:World)(K:QF)(tg:Expr)(J:It)(fp:List Addr)(it:Addr)(tn:Nat->Heap->Prop):Prop where
 mem:it∈fp
 obj:∀i h,tn i h -> ∀b∈fp,∃o,h.get? b=some o /\ ∀v,o.data ≠ .cell v
 keep:∀i h h',tn i h->(∀b∈fp,∀o,h.get? b=some o->h'.get? b=some o)->tn i h'
 item:∀(X:Cx),X.prog=P->X.w=w->X.K=K->X.calm=true -> ∀(i:Nat)(pins:QC)(s:Shared)(σ:St)(H:Hp)(E:QE),Inv X pins σ H s->(∀b∈fp,Zci X pins H b)->tn i s.heap->J.go i H ->
  wpAny (model P w) X.A (pyNext (.ref it)) (fun r s1=>∃u,r=some u /\
   wpAny (model P w) X.A (letOwnedTupleGo tg (.ref it) u) (fun _ s2=>∃x H',Inv X pins σ H' s2/\RelV x u/\J.yld i H x H'/\tn (i+1) s2.heap /\ ∀b∈fp,H' b=none) E s1) E s
 done:∀(X:Cx),X.prog=P->X.w=w->X.K=K->X.calm=true -> ∀(i:Nat)(pins:QC)(s:Shared)(σ:St)(H:Hp)(E:QE),Inv X pins σ H s->(∀b∈fp,Zci X pins H b)->tn i s.heap->J.stop i H ->
  wpAny (model P w) X.A (pyNext (.ref it)) (fun r s1=>r=none/\Inv X pins σ H s1) E s
 self:∀(A:Around)(i:Nat)(s:Shared)(Q:QE)(E:QE),tn i s.heap->Q (.ref it) s->wpAny (model P w) A (pyIter (.ref it)) Q E s
abbrev TI:=St->Hp->(It->Hp->Prop)->Prop
inductive PIE(X:Cx)(pins:QC)(σ:St)(tg:Expr)(R:It->Hp->Prop)(itv:Value)(s2:Shared):Prop|mk(it:Addr)(fp:List Addr)(tn:Nat->Heap->Prop)(J:It)(H':Hp)(_:itv = .ref it)(_:Inv X pins σ H' s2)(_:Turn X.prog X.w X.K tg J fp it tn)(_:tn 0 s2.heap)(_:∀b∈fp,Zci X pins H' b)(_:R J H')
def PI (X:Cx)(tg iter:Expr)(wi:TI):Prop:=
 ∀(pins:QC)(s:Shared)(σ:St)(H:Hp)(R:It->Hp->Prop),Inv X pins σ H s->wi σ H R ->
  wpAny (model X.prog X.w) X.A (eval iter X.env) (fun v s1=>wpAny (model X.prog X.w) X.A (pyIter v) (PIE X pins σ tg R) X.xe s1) X.xe s
theorem ZfQ {M:Model}{A:Around}{E:QE}{s:Shared}{tg:Expr}{it:Addr}{u:Value}{o:Obj}{n:String}{vs:QY}{Q:Unit->Shared->Prop}(ho:s.heap.get? it=some o)(hc:o.cls = .type n)(hd:o.data = .fields vs)
    (hn:["enumerate", "zip", "dict_itemiterator", "dict_reverseitemiterator", "odict_iterator", "itertools.zip_longest", "itertools.pairwise"].contains n=false) (hQ:Q () s):wpAny M A (letOwnedTupleGo tg (.ref it) u) Q E s:=by
  unfold letOwnedTupleGo;cases tg<;>first
    | exact km hQ
    | (cases u<;>first
        | exact km hQ
        | (refine ka (wpAny_load ho ?_)
           rw[hc,hd];show wpAny M A (if (["enumerate", "zip", "dict_itemiterator", "dict_reverseitemiterator", "odict_iterator", "itertools.zip_longest", "itertools.pairwise"].contains n&&vs[0]? == some (rawInt _))=true then _ else _) Q E s;rw[kh (by intro h;rw[hn,MC] at h;cases h)];exact km hQ))
def Itl (K:QF)(a:Addr):It:=
 ⟨fun i H=>∃xs x,Zt K H a xs/\xs[i]? = some x,fun i H x H'=>H'=H /\ ∀xs,Zt K H a xs->xs[i]? = some x,fun i H=>∃xs,Zt K H a xs/\xs.length<=i⟩
def Itt (K:QF)(a:Addr):It:=
 ⟨fun i H=>∃xs x,YJ K H a xs/\xs[i]? = some x,fun i H x H'=>H'=H /\ ∀xs,YJ K H a xs->xs[i]? = some x,fun i H=>∃xs,YJ K H a xs/\xs.length<=i⟩
def Itr (lo:Int)(n:Nat):It:=⟨fun i _=>i<n,fun i H x H'=>H'=H/\x = .int (lo+i),fun i _=>n<=i⟩
theorem Zio {P:Program}{w:World}{K:QF}{tg:Expr}(a it:Addr):Turn P w K tg (Itl K a) [it] it (fun i h=>h.IsListIter it a i) where
 mem:=by simp
 obj:=fun i h st b hb=>by
  have e:b=it:=by simpa using hb
  subst e;obtain⟨o,e,c,d⟩:=st;exact⟨o,e,fun v z=>by rw[d] at z;cases z⟩
 keep:=fun i h h' st k=>st.at fun o e=>k it (by simp) o e
 item:=by intro X hP hw hK hc i pins s σ H E I hf st hg;subst hP hw hK;obtain⟨xs,x,hq,hx⟩:=hg;obtain⟨its,rv,p,hz⟩:=I.list hq;obtain⟨u,hu,ru⟩:=rv.get hx;obtain⟨f0,f1,f2,f3,f4,f5⟩:=hf it (by simp);refine wpAny_pyNext_list_item st p.isList (x:=u) (by simpa using hu) fun h' st' sb=>?_;have I1:Inv X pins σ H { s with heap:=h' }:=I.turned (t':=s.toks) (fun b o hb e=>(sb.2 b hb).trans e) f0 f1 f3 f4 f5;obtain⟨o,e,c,d⟩:=id st';exact⟨u,rfl,ZfQ (s:={ s with heap:=h' }) e c d (by decide) ⟨x,H,I1,ru,⟨rfl,fun ys hy=>by rw[I.list_inj hy hq];exact hx⟩,st',fun b hb=>(hf b hb).1⟩⟩
 done:=by intro X hP hw hK hc i pins s σ H E I hf st hg;subst hP hw hK;obtain⟨xs,hq,hx⟩:=hg;obtain⟨its,rv,p,hz⟩:=I.list hq;obtain⟨f0,f1,f2,f3,f4,f5⟩:=hf it (by simp);have hl:=rv.length;exact wpAny_pyNext_list_end (I.ok.hd hc) st p.isList (by simp;lia) fun h' eb=>⟨rfl,I.turned (t':=s.toks) (fun b o hb e=>eb b o hb e) f0 f1 f3 f4 f5⟩
 self:=fun _ _ _ _ _ st h=>wpAny_pyIter_listiter st h
theorem ZgE {P:Program}{w:World}{K:QF}{tg:Expr}(a it:Addr):Turn P w K tg (Itt K a) [it] it (fun i h=>h.IsTupleIter it a i) where
 mem:=by simp
 obj:=fun i h st b hb=>by
  have e:b=it:=by simpa using hb
  subst e;obtain⟨o,e,c,d⟩:=st;exact⟨o,e,fun v z=>by rw[d] at z;cases z⟩
 keep:=fun i h h' st k=>st.at fun o e=>k it (by simp) o e
 item:=by intro X hP hw hK hc i pins s σ H E I hf st hg;subst hP hw hK;obtain⟨xs,x,hq,hx⟩:=hg;obtain⟨its,rv,p,hz⟩:=I.tuple hq;obtain⟨u,hu,ru⟩:=rv.get hx;obtain⟨f0,f1,f2,f3,f4,f5⟩:=hf it (by simp);refine wpAny_pyNext_tuple_item st (show s.heap.IsTuple a its.toArray from p) (x:=u) (by simpa using hu) fun h' st' sb=>?_;have I1:Inv X pins σ H { s with heap:=h' }:=I.turned (t':=s.toks) (fun b o hb e=>(sb.2 b hb).trans e) f0 f1 f3 f4 f5;obtain⟨o,e,c,d⟩:=id st';exact⟨u,rfl,ZfQ (s:={ s with heap:=h' }) e c d (by decide) ⟨x,H,I1,ru,⟨rfl,fun ys hy=>by rw[I.tuple_inj hy hq];exact hx⟩,st',fun b hb=>(hf b hb).1⟩⟩
 done:=by intro X hP hw hK hc i pins s σ H E I hf st hg;subst hP hw hK;obtain⟨xs,hq,hx⟩:=hg;obtain⟨its,rv,p,hz⟩:=I.tuple hq;obtain⟨f0,f1,f2,f3,f4,f5⟩:=hf it (by simp);have hl:=rv.length;exact wpAny_pyNext_tuple_end (I.ok.hd hc) st (show s.heap.IsTuple a its.toArray from p) (by simp;lia) fun h' eb=>⟨rfl,I.turned (t':=s.toks) (fun b o hb e=>eb b o hb e) f0 f1 f3 f4 f5⟩
 self:=fun _ _ _ _ _ st h=>wpAny_pyIter_tupleiter st h
theorem Zgm {P:Program}{w:World}{K:QF}{tg:Expr}(it:Addr)(lo:Int)(n:Nat):Turn P w K tg (Itr lo n) [it] it (fun i h=>IsRangeIter h it (lo+(i:Nat)*1) ((n:Int)-(i:Nat)) 1) where
 mem:=by simp
 obj:=fun i h st b hb=>by
  have e:b=it:=by simpa using hb
  subst e;exact⟨_,st,fun v z=>by have z':Data.fields _=Data.cell v:=z;cases z'⟩
 keep:=fun i h h' st k=>k it (by simp) _ st
 item:=by intro X hP hw hK hc i pins s σ H E I hf st hg;subst hP hw hK;obtain⟨f0,f1,f2,f3,f4,f5⟩:=hf it (by simp);have W:=Walks.range (prog:=X.prog) (w:=X.w) (I.ok.hd hc) it lo 1 n;refine W.item i s _ _ hg st fun v h' tk hv st' kk=>?_;obtain⟨t,rfl⟩:=hv;have I1:Inv X pins σ H { s with heap:=h',toks:=tk }:=I.turned (fun b o hb e=>kk b o (by simpa using hb) e) f0 f1 f3 f4 f5;refine⟨_,rfl,ZfQ (s:={ s with heap:=h',toks:=tk }) (n := "range_iterator") st' rfl rfl (by decide) ⟨.int (lo+i),H,I1,⟨t,?_⟩,⟨rfl,rfl⟩,st',fun b hb=>(hf b hb).1⟩⟩;rw[Int.mul_one]
 done:=by intro X hP hw hK hc i pins s σ H E I hf st hg;subst hP hw hK;obtain⟨f0,f1,f2,f3,f4,f5⟩:=hf it (by simp);exact wpAny_pyNext_range_end (I.ok.hd hc) st (by have:n<=i:=hg;lia) fun h' eb=>⟨rfl,I.turned (t':=s.toks) (fun b o hb e=>eb b o hb e) f0 f1 f3 f4 f5⟩
 self:=fun _ _ _ _ _ st h=>wpAny_pyIter_rangeiter st h
section
variable {X:Cx}{tg:Expr}
inductive Zjq(K:QF)(R:It->Hp->Prop)(x:V)(H1:Hp):Prop|mk(a)(_:x = .ref a)(_:∃xs,Zt K H1 a xs)(_:R (Itl K a) H1)
def Zfw (K:QF)(tl:TE):TI:=fun σ H R=>tl σ H fun x H1=>Zjq K R x H1
inductive ZmS(K:QF)(R:It->Hp->Prop)(x:V)(H1:Hp):Prop|mk(a)(_:x = .ref a)(_:∃xs,YJ K H1 a xs)(_:R (Itt K a) H1)
def Zpb (K:QF)(tl:TE):TI:=fun σ H R=>tl σ H fun x H1=>ZmS K R x H1
theorem ZlF {l:Expr}{tl:TE}(hl:PE X l tl):PI X tg l (Zfw X.K tl):=by
 intro pins s σ H R I h;refine Yz (hl pins s σ H _ I h) fun v s1 ⟨x,H1,I1,r1,q1⟩=>?_;obtain⟨a,e,⟨xs,hq⟩,q⟩:=q1;subst e;cases r1;obtain⟨its,rv,p,hz⟩:=I1.list hq;refine wpAny_pyIter_list p.isList ?_;refine⟨s1.heap.objs.size,[s1.heap.objs.size],_,_,H1,rfl,I1.kept (t':=s1.toks) fun b o e=>ko _ e,Zio a _,⟨_,Km _ rfl,rfl,rfl⟩,fun b hb=>?_,q⟩;have e:b=s1.heap.objs.size:=by simpa using hb
 subst e;exact I1.fpOk (ki _) (I1.hok.fresh (ki _))
theorem ZnC {l:Expr}{tl:TE}(hl:PE X l tl):PI X tg l (Zpb X.K tl):=by
 intro pins s σ H R I h;refine Yz (hl pins s σ H _ I h) fun v s1 ⟨x,H1,I1,r1,q1⟩=>?_;obtain⟨a,e,⟨xs,hq⟩,q⟩:=q1;subst e;cases r1;obtain⟨its,rv,p,hz⟩:=I1.tuple hq;refine wpAny_pyIter_tuple (show s1.heap.IsTuple a its.toArray from p) ?_;refine⟨s1.heap.objs.size,[s1.heap.objs.size],_,_,H1,rfl,I1.kept (t':=s1.toks) fun b o e=>ko _ e,ZgE a _,⟨_,Km _ rfl,rfl,rfl⟩,fun b hb=>?_,q⟩;have e:b=s1.heap.objs.size:=by simpa using hb
 subst e;exact I1.fpOk (ki _) (I1.hok.fresh (ki _))
theorem Zjl {pins:QC}{σ:St}{H:Hp}{s:Shared}{R:It->Hp->Prop}{E:QE}{lo hi:Int}{t u v:Tok}{tk:Nat}(I:Inv X pins σ H s)(h1 : -(2 ^ 62)<=lo)(h2:lo<2 ^ 62)(h3 : -(2 ^ 62)<=hi)(h4:hi<2 ^ 62)
  (q:R (Itr lo (hi-lo).toNat) H):wpAny (model X.prog X.w) X.A (pyIter (.ref s.heap.objs.size)) (PIE X pins σ tg R) E { s with heap:=s.heap.push { cls:=.type "range", data:=.fields #[.int lo t,.int hi u,.int 1 v] },toks:=tk }:=by
 refine wpAny_pyIter_range (IsRange.new ..) (small_one h1 h2 h3 h4) ?_;have I1:Inv X pins σ H { s with heap:=s.heap.push { cls:=.type "range", data:=.fields #[.int lo t,.int hi u,.int 1 v] },toks:=tk }:=I.kept fun b o e=>ko _ e;refine⟨(s.heap.push { cls:=.type "range", data:=.fields #[.int lo t,.int hi u,.int 1 v] }).objs.size,[(s.heap.push { cls:=.type "range", data:=.fields #[.int lo t,.int hi u,.int 1 v] }).objs.size],_,_,H,rfl,
  I1.kept (t':=tk) fun b o e=>ko _ e,Zgm _ lo (hi-lo).toNat,?_,fun b hb=>?_,q⟩
 ·have e1:lo+((0:Nat):Int)*1=lo:=by simp
  have e2:(((hi-lo).toNat:Nat):Int)-((0:Nat):Int)=Builtin.Range.rangeSize lo hi 1:=by rw[rangeSize_one];split<;>lia
  show IsRangeIter _ _ (lo+((0:Nat):Int)*1) ((((hi-lo).toNat:Nat):Int)-((0:Nat):Int)) 1;rw[e1,e2];exact Km _ rfl
 ·have e:b=(s.heap.push { cls:=.type "range", data:=.fields #[.int lo t,.int hi u,.int 1 v] }).objs.size:=by simpa using hb
  subst e;exact I1.fpOk (ki _) (I1.hok.fresh (ki _))
inductive Zi1(R:It->Hp->Prop)(vs:QH)(H1:Hp):Prop|mk(j:Int)(_:vs = [.int j])(_:-(2 ^ 62)<=j)(_:j<2 ^ 62)(_:R (Itr 0 j.toNat) H1)
def Zou (ta:TA):TI:=fun σ H R=>ta σ H fun vs H1=>Zi1 R vs H1
theorem Y0 {a:Expr}{ta:TA}{p pos:Pos}(hg:Gl X "range")(hm:X.mg "range" = none)(ha:PA X [a] ta)(hs:starEach [a] X.env = [(false,eval a X.env)]:=by rfl):PI X tg (.Call (.Name "range" p) [a] [] pos) (Zou ta):=by
 intro pins s σ H R I h;refine Call_ (Uy I hg hm boot_range (qf (Yz (ha pos pins s σ H _ I h) fun us s1 ⟨vs,H1,I1,r1,q1⟩=>?_) hs rfl));obtain⟨j,e,q1,q2,q⟩:=q1;subst e;cases r1 with
 | cons r rr=>
  cases rr;obtain⟨t,rfl⟩:=r;exact call_range_1 (Zjl I1 (by lia) (by lia) q1 q2 (by simpa using q))
inductive Zb7 (J:It)(g:TG)(tb:TS)(D:Ends)(σ:St)(H1:Hp):Prop | mk (W:Nat->Nat->St->Hp->Prop) (h:∃m,W 0 m σ H1) (t:∀i m σ H,W i m σ H ->
 (J.stop i H/\D.nx σ H)∨(J.go i H /\ ∃N:QT,(∀ σ' H',N σ' H' -> ∃m',m'<m/\W (i+1) m' σ' H') /\ ∀x H',J.yld i H x H'->g x σ H' fun σ2 H2=>tb { D with nx:=N,ct:=N,bk:=D.nx } σ2 H2))
def ZgG (wi:TI)(g:TG)(tb:TS):TS:=fun D σ H=>wi σ H fun J H1=>Zb7 J g tb D σ H1
def ZcZ (fp:List Addr)(h:Heap):QC:=fp.filterMap fun b=>(h.get? b).map fun o=>(b,o)
theorem UA {fp:List Addr}{h:Heap}{b:Addr}{o:Obj}(hb:b∈fp)(e:h.get? b=some o):(b,o)∈ZcZ fp h:=qo.mpr ⟨b,hb,by rw[e];rfl⟩
theorem ZiP {fp:List Addr}{h:Heap}{p:Addr×Obj}(hp:p∈ZcZ fp h):p.1∈fp/\h.get? p.1=some p.2:=by
 obtain⟨b,hb,e⟩:=qo.mp hp;cases q:h.get? b with
 | none=>rw[q] at e;cases e
 | some o=>
  rw[q] at e;have e':(b,o)=p:=Kb e;subst e';exact⟨hb,q⟩
theorem Inv.pinned {pins:QC}{σ:St}{H:Hp}{s:Shared}{fp:List Addr}(I:Inv X pins σ H s)(hf:∀b∈fp,Zci X pins H b)(ho:∀b∈fp,∃o,s.heap.get? b=some o /\ ∀v,o.data ≠ .cell v):Inv X (pins++ZcZ fp s.heap) σ H s:=
 I.pins_of fun p hp=>(KC.mp hp).elim (fun z=>I.pin p (K8 _ z)) fun z=>by obtain⟨hb,e⟩:=ZiP z;obtain⟨f0,f1,f2,_⟩:=hf p.1 hb;obtain⟨o,e',d⟩:=ho p.1 hb;rw[e] at e';cases e';exact⟨e,f0,f1,f2,d⟩
theorem Inv.unpinned {pins pl:QC}{σ:St}{H:Hp}{s:Shared}(I:Inv X (pins++pl) σ H s):Inv X pins σ H s:=I.pins_of fun p hp=>I.pin p (K8 _ (Xm _ hp))
theorem Yj {iter:Expr}{body:List Stmt}{wi:TI}{g:TG}{tb:TS}{pos:Pos}(hp:PassesOwn (model X.prog X.w) X.A X.env X.xe)(hc:X.calm=true)(hi:PI X tg iter wi)(hg:PG X tg g)(hb:PSs X body tb)
  (hs:∀x,foldedSetIterable iter X.env x=pure x:=by intro _;rfl):PS X (.For tg iter body [] pos) (ZgG wi g tb):=by
 intro pins s σ H D I h;refine wpAny_For (Yz (hi pins s σ H _ I h) fun v s1 h1=>Yz h1 fun itv s2 h2=>?_) hs;obtain⟨it,fp,tn,J,H2,e,I2,T,st2,f2,W,⟨m0,w0⟩,turn⟩:=h2;subst e;have stat:∀{H':Hp},(∀b∈fp,H' b=none) -> ∀b∈fp,Zci X pins H' b:=fun hn b hb=>⟨hn b hb,(f2 b hb).2⟩;refine codeAny_forLoop_any (fun n s'=>∃i σ' H',Inv X pins σ' H' s'/\tn i s'.heap/\(∀b∈fp,H' b=none)/\W i n σ' H') ?_ m0 ⟨0,σ,H2,I2,st2,fun b hb=>(f2 b hb).1,w0⟩;rintro n s3 ⟨i,σ3,H3,I3,st3,fr3,w3⟩;rcases turn i n σ3 H3 w3 with⟨stop,qn⟩ | ⟨go,N,hN,step⟩
 ·refine Xj hp (Yz (T.done X rfl rfl rfl hc i pins s3 σ3 H3 X.xe I3 (stat fr3) st3 stop) fun r s4 ⟨hr,I4⟩=>?_);subst hr;exact T5 ⟨σ3,H3,I4,qn⟩
 ·refine Xj hp (Yz (T.item X rfl rfl rfl hc i pins s3 σ3 H3 X.xe I3 (stat fr3) st3 go) fun r s4 ⟨u,hr,h4⟩=>?_);subst hr;refine Xj hp (Yz h4 fun _ s5 ⟨x,H5,I5,r5,y5,st5,fr5⟩=>?_);have I5':=I5.pinned (stat fr5) (T.obj _ _ st5);refine Xj hp (Yz (hg _ s5 σ3 H5 x u _ I5' r5 (step x H5 y5)) fun _ s6 ⟨σ6,H6,I6,q6⟩=>?_);refine Xj hp (Yz (hb _ s6 σ6 H6 _ I6 q6) fun f s7 q7=>?_);have again:∀{σ7:St}{H7:Hp},Inv X (pins++ZcZ fp s5.heap) σ7 H7 s7->N σ7 H7 -> ∃m,m<n /\ ∃i σ' H',Inv X pins σ' H' s7/\tn i s7.heap/\(∀b∈fp,H' b=none)/\W i m σ' H':=fun {σ7 H7} I7 n7=>by
   obtain⟨m',hm,w7⟩:=hN σ7 H7 n7;refine⟨m',hm,i+1,σ7,H7,I7.unpinned,T.keep _ _ _ st5 fun b hb o e=>(I7.pin (b,o) (K8 _ (K8 _ (UA hb e)))).1,fun b hb=>?_,w7⟩;obtain⟨o,e,d⟩:=T.obj _ _ st5 b hb;exact(I7.pin (b,o) (K8 _ (K8 _ (UA hb e)))).2.1
  cases f with
  | next=>obtain⟨σ7,H7,I7,n7⟩:=q7;exact again I7 n7
  | cont=>obtain⟨σ7,H7,I7,n7⟩:=q7;exact again I7 n7
  | brk=>obtain⟨σ7,H7,I7,q7⟩:=q7;exact⟨σ7,H7,I7.unpinned,q7⟩
  | ret v=>obtain⟨x7,σ7,H7,I7,r7,q7⟩:=q7;exact⟨x7,σ7,H7,I7.unpinned,r7,q7⟩
end
theorem JG {K:QF}{a:Addr}{xs:QH}{g:TG}{tb:TS}{D:Ends}{σ:St}{H:Hp}(Pv:Nat->St->Hp->Prop)(h0:Pv 0 σ H)(hl:∀i σ H,i<=xs.length->Pv i σ H->Zt K H a xs)
  (hs:∀i x σ H,xs[i]? = some x->Pv i σ H->g x σ H fun σ2 H2=>tb { D with nx:=Pv (i+1),ct:=Pv (i+1),bk:=D.nx } σ2 H2) (hd:∀ σ H,Pv xs.length σ H->D.nx σ H):
  Zb7 (Itl K a) g tb D σ H:=by
 refine⟨fun i m σ H=>m=xs.length-i/\i<=xs.length/\Pv i σ H,⟨xs.length,by simp,KP _,h0⟩,?_⟩;rintro i m σ H ⟨rfl,hi,p⟩;have q:=hl i σ H hi p;by_cases hlt:i<xs.length
 ·refine .inr ⟨⟨xs,xs[i],q,by simp[hlt]⟩,Pv (i+1),fun σ' H' p'=>⟨xs.length-(i+1),by lia,rfl,hlt,p'⟩,fun x H' y=>?_⟩;obtain⟨e,y⟩:=y;subst e;exact hs i x σ _ (y xs q) p
 ·have e:i=xs.length:=by lia
  subst e;exact .inl ⟨⟨xs,q,ki _⟩,hd σ H p⟩
theorem JQ {lo:Int}{n:Nat}{g:TG}{tb:TS}{D:Ends}{σ:St}{H:Hp}(Pv:Nat->St->Hp->Prop)(h0:Pv 0 σ H)
  (hs:∀i σ H,i<n->Pv i σ H->g (.int (lo+i)) σ H fun σ2 H2=>tb { D with nx:=Pv (i+1),ct:=Pv (i+1),bk:=D.nx } σ2 H2) (hd:∀ σ H,Pv n σ H->D.nx σ H):
  Zb7 (Itr lo n) g tb D σ H:=by
 refine⟨fun i m σ H=>m=n-i/\i<=n/\Pv i σ H,⟨n,by simp,KP _,h0⟩,?_⟩;rintro i m σ H ⟨rfl,hi,p⟩;by_cases hlt:i<n
 ·refine .inr ⟨hlt,Pv (i+1),fun σ' H' p'=>⟨n-(i+1),by lia,rfl,hlt,p'⟩,fun x H' y=>?_⟩;obtain⟨e,y⟩:=y;subst e y;exact hs i σ _ hlt p
 ·have e:i=n:=by lia
  subst e;exact .inl ⟨ki _,hd σ H p⟩
theorem ZjC {c:TT}{tb:TS}{D:Ends}{σ:St}{H:Hp}(Pv:QT)(μ:St->Hp->Nat)(h0:Pv σ H)
  (hs:∀ σ H,Pv σ H->c σ H fun b H1=>if b=true then tb { D with nx:=fun σ' H'=>Pv σ' H' /\ μ σ' H' < μ σ H,ct:=fun σ' H'=>Pv σ' H' /\ μ σ' H' < μ σ H,bk:=D.nx } σ H1 else D.nx σ H1)
  (mono:∀ σ H Q Q',(∀b H1,Q b H1->Q' b H1)->c σ H Q->c σ H Q'):Zk3 c tb D σ H:=by
 refine⟨fun m σ H=>m = μ σ H/\Pv σ H,⟨_,rfl,h0⟩,?_⟩;rintro m σ H ⟨rfl,p⟩;refine mono σ H _ _ (fun b H1 q=>?_) (hs σ H p);cases b with
 | true=>exact⟨_,fun σ' H' ⟨p',l⟩=>⟨_,l,rfl,p'⟩,q⟩
 | false=>exact q
abbrev R2:=V->V->Hp->VK->Prop
def UN (X:Cx)(f:Value->Value->Sem Value)(r:R2):Prop:=
 ∀(pins:QC)(s:Shared)(σ:St)(H:Hp)(x y:V)(v u:Value)(Q:VK),Inv X pins σ H s->RelV x v->RelV y u->r x y H Q ->
  wpAny (model X.prog X.w) X.A (f v u) (EP X pins σ Q) X.xe s
def UnR (X:Cx)(f:Value->Sem Value)(r:V->Hp->VK->Prop):Prop:=
 ∀(pins:QC)(s:Shared)(σ:St)(H:Hp)(x:V)(v:Value)(Q:VK),Inv X pins σ H s->RelV x v->r x H Q ->
  wpAny (model X.prog X.w) X.A (f v) (EP X pins σ Q) X.xe s
def Y6 (X:Cx)(f:Value)(r:List V->Hp->VK->Prop):Prop:=
 ∀(pins:QC)(s:Shared)(σ:St)(H:Hp)(xs:QH)(us:QJ)(Q:VK),Inv X pins σ H s->Vals xs us->r xs H Q ->
  wpAny (model X.prog X.w) X.A (call f us) (EP X pins σ Q) X.xe s
def ZpR (X:Cx)(r:V->Hp->(Bool->Hp->Prop)->Prop):Prop:=
 ∀(pins:QC)(s:Shared)(σ:St)(H:Hp)(x:V)(v:Value)(Q:Bool->Hp->Prop),Inv X pins σ H s->RelV x v->r x H Q ->
  wpAny (model X.prog X.w) X.A (truthy v) (TP X pins σ Q) X.xe s
def tOp (r:R2)(ta tb:TE):TE:=fun σ H Q=>ta σ H fun x H1=>tb σ H1 fun y H2=>r x y H2 Q
def tUn (r:V->Hp->VK->Prop)(ta:TE):TE:=fun σ H Q=>ta σ H fun x H1=>r x H1 Q
inductive rI(C:Int->Int->Prop)(g:Int->Int->V)(x y:V)(H:Hp)(Q:VK):Prop|mk(i j)(_:x = .int i)(_:y = .int j)(_:C i j)(_:Q (g i j) H)
inductive rI0(g:Int->Int->V)(x y:V)(H:Hp)(Q:VK):Prop|mk(i j)(_:x = .int i)(_:y = .int j)(_:Q (g i j) H)
inductive rU(g:Int->V)(x:V)(H:Hp)(Q:VK):Prop|mk(i)(_:x = .int i)(_:Q (g i) H)
section
variable {X:Cx}{a b c:Expr}{ta tb tc:TE}{pos:Pos}
theorem Zm2 (ha:PE X a ta)(hb:PE X b tb){pins:QC}{s:Shared}{σ:St}{H:Hp}{R:V->V->Hp->Prop}(I:Inv X pins σ H s)
  (h:ta σ H fun x H1=>tb σ H1 fun y H2=>R x y H2) {Q:QE}{f:Value->Value->Sem Value}
  (hf:∀v u s2 x y H2,Inv X pins σ H2 s2->RelV x v->RelV y u->R x y H2->wpAny (model X.prog X.w) X.A (f v u) Q X.xe s2):
  wpAny (model X.prog X.w) X.A (eval a X.env) (fun v s₁=>wpAny (model X.prog X.w) X.A (eval b X.env) (fun u s₂=>wpAny (model X.prog X.w) X.A (f v u) Q X.xe s₂) X.xe s₁) X.xe s:=by
 refine Yz (ha pins s σ H _ I h) fun v s1 ⟨x,H1,I1,r1,q1⟩=>?_;refine Yz (hb pins s1 σ H1 _ I1 q1) fun u s2 ⟨y,H2,I2,r2,q2⟩=>?_;exact hf v u s2 x y H2 I2 r1 r2 q2
theorem Zk {op:Operator}{r:R2}(ho:UN X (binaryOp op) r)(ha:PE X a ta)(hb:PE X b tb):PE X (.BinOp a op b pos) (tOp r ta tb):=by intro pins s σ H Q I h;exact wpAny_BinOp (Zm2 ha hb I h fun v u s2 x y H2 I2 rx ry q=>ho pins s2 σ H2 x y v u Q I2 rx ry q)
theorem Zcc {op:UnaryOp}{r:V->Hp->VK->Prop}(ho:UnR X (unaryOp op) r)(ha:PE X a ta):PE X (.UnaryOp op a pos) (tUn r ta):=by intro pins s σ H Q I h;exact UnaryOp_ (Yz (ha pins s σ H _ I h) fun v s1 ⟨x,H1,I1,r1,q1⟩=>ho pins s1 σ H1 x v Q I1 r1 q1)
theorem opI {f:Value->Value->Sem Value}{C:Int->Int->Prop}{g:Int->Int->Int}
  (rule:∀(i j:Int)(t u:Tok)(s:Shared)(Q:QE)(E:QE),C i j->Q (.int (g i j) s.toks) { s with toks:=s.toks+1 } -> wpAny (model X.prog X.w) X.A (f (.int i t) (.int j u)) Q E s):
  UN X f (rI C fun i j=>.int (g i j)):=by
 intro pins s σ H x y v u Q I rx ry h;obtain⟨i,j,rfl,rfl,hc,q⟩:=h;obtain⟨t,rfl⟩:=rx;obtain⟨t',rfl⟩:=ry;exact rule i j t t' s _ _ hc ⟨.int (g i j),H,I.tok _,⟨_,rfl⟩,q⟩
theorem ZlA {f:Value->Value->Sem Value}{g:Int->Int->Int}
  (rule:∀(i j:Int)(t u:Tok)(s:Shared)(Q:QE)(E:QE),Q (.int (g i j) s.toks) { s with toks:=s.toks+1 } -> wpAny (model X.prog X.w) X.A (f (.int i t) (.int j u)) Q E s):
  UN X f (rI0 fun i j=>.int (g i j)):=by
 intro pins s σ H x y v u Q I rx ry h;obtain⟨i,j,rfl,rfl,q⟩:=h;obtain⟨t,rfl⟩:=rx;obtain⟨t',rfl⟩:=ry;exact rule i j t t' s _ _ ⟨.int (g i j),H,I.tok _,⟨_,rfl⟩,q⟩
theorem ZnD {f:Value->Value->Sem Value}{g:Int->Int->Bool}
  (rule:∀(i j:Int)(t u:Tok)(s:Shared)(Q:QE)(E:QE),Q (.bool (g i j)) s->wpAny (model X.prog X.w) X.A (f (.int i t) (.int j u)) Q E s):
  UN X f (rI0 fun i j=>.bl (g i j)):=by
 intro pins s σ H x y v u Q I rx ry h;obtain⟨i,j,rfl,rfl,q⟩:=h;obtain⟨t,rfl⟩:=rx;obtain⟨t',rfl⟩:=ry;exact rule i j t t' s _ _ ⟨.bl (g i j),H,I,rfl,q⟩
def ZpH (i j:Int):Prop:=0<j/\j<1073741824
def Zp4 (i j:Int):Prop:=0<=j/\j<=1000000/\i.natAbs<2 ^ 64
def ZlE (i j:Int):Prop:=(-(2 ^ 64)<i/\i<2 ^ 64)∨(-(2 ^ 64)<j/\j<2 ^ 64)
theorem ZlE.ok {i j:Int}(h:ZlE i j):IntMulOk i j:=by
 rcases h with⟨h1,h2⟩ | ⟨h1,h2⟩
 ·exact .of_left (intBits_le_64 h1 h2)
 ·exact .of_right (intBits_le_64 h1 h2)
theorem Zx:UN X (binaryOp .Add) (rI0 fun i j=>.int (i+j)):=ZlA fun _ _ _ _ _ _ _ q=>add_int q
theorem YN:UN X (binaryOp .Sub) (rI0 fun i j=>.int (i-j)):=ZlA fun _ _ _ _ _ _ _ q=>sub_int q
theorem Wa:UN X (binaryOp .Mult) (rI ZlE fun i j=>.int (i*j)):=opI fun _ _ _ _ _ _ _ hc q=>mul_int q hc.ok
theorem Zbc:UN X (binaryOp .FloorDiv) (rI ZpH fun i j=>.int (i / j)):=opI fun i j _ _ _ _ _ hc q=>by have h1:(0:Int)<j:=hc.1;have h2:j<1073741824:=hc.2;exact floordiv_int (by lia) (by rw[Int.fdiv_eq_ediv_of_nonneg i (by lia)];exact q) (.inl (Mh (by lia)))
theorem Gh:UN X (binaryOp .Mod) (rI (fun _ j=>0<j) fun i j=>.int (i % j)):=opI fun i j _ _ _ _ _ hc q=>by have h1:(0:Int)<j:=hc;exact mod_int' (by lia) (by rw[Int.fmod_eq_emod_of_nonneg i (by lia)];exact q)
theorem Zgv:UN X (binaryOp .Pow) (rI Zp4 fun i j=>.int (i ^ j.toNat)):=opI fun _ _ _ _ _ _ _ hc q=>pow_int_small hc.1 hc.2.1 hc.2.2 q
theorem ZnK:UN X (binaryOp .BitAnd) (rI0 fun i j=>.int (Builtin.bitAnd i j)):=ZlA fun _ _ _ _ _ _ _ q=>and_int q
theorem Znf:UN X (binaryOp .BitXor) (rI0 fun i j=>.int (Builtin.bitXor i j)):=ZlA fun _ _ _ _ _ _ _ q=>xor_int q
theorem unI {f:Value->Sem Value}{g:QX}
  (rule:∀(i:Int)(t:Tok)(s:Shared)(Q:QE)(E:QE),Q (.int (g i) s.toks) { s with toks:=s.toks+1 } -> wpAny (model X.prog X.w) X.A (f (.int i t)) Q E s):
  UnR X f (rU fun i=>.int (g i)):=by
 intro pins s σ H x v Q I rx h;obtain⟨i,rfl,q⟩:=h;obtain⟨t,rfl⟩:=rx;exact rule i t s _ _ ⟨.int (g i),H,I.tok _,⟨_,rfl⟩,q⟩
theorem Zam:UnR X (unaryOp .USub) (rU fun i=>.int (-i)):=unI fun _ _ _ _ _ q=>neg_int q
end
def ZoK:V->V->Bool
 | .non,.non=>true | .non,.int _=>true | .int _,.non=>true | .non,.bl _=>true | .bl _,.non=>true | .non,.str _=>true | .str _,.non=>true
 | .int _,.int _=>true | .bl _,.bl _=>true | .str _,.str _=>true | .byt _,.byt _=>true
 | .int _,.str _=>true | .str _,.int _=>true | .bl _,.str _=>true | .str _,.bl _=>true
 | _,_=>false
inductive rEq(x y:V)(H:Hp)(Q:VK):Prop|mk(_:ZoK x y=true)(_:Q (.bl (decide (x=y))) H)
inductive rNe(x y:V)(H:Hp)(Q:VK):Prop|mk(_:ZoK x y=true)(_:Q (.bl (!decide (x=y))) H)
theorem ZhI {i j:Int}:decide (V.int i=V.int j)=(i==j):=by rw[qW];simp
theorem ZjS {i j:Bool}:decide (V.bl i=V.bl j)=(i==j):=by rw[qW];simp
theorem Zhm {i j:Str}:decide (V.str i=V.str j)=(i==j):=by rw[qW];simp
theorem Zhi {i j:Array UInt8}:decide (V.byt i=V.byt j)=(i.toList==j.toList):=by rw[qW];cases i;cases j;simp
section
variable {X:Cx}{a b c:Expr}{ta tb tc:TE}{pos:Pos}
theorem Yc {pins:QC}{σ:St}{H:Hp}{s:Shared}{Q:VK}{k k':Bool}(I:Inv X pins σ H s)(q:Q (.bl k) H)(e:k=k'):EP X pins σ Q (.bool k') s:=by subst e;exact⟨.bl k,H,I,rfl,q⟩
theorem Ym:UN X (compareOp .Eq) rEq:=by
 intro pins s σ H x y v u Q I rx ry h;obtain⟨hs,q⟩:=h;cases x with
 | non=>
  cases rx;cases y with
  | non=>cases ry;exact PySem.EqNone.eq_none_none (Yc I q (by simp))
  | bl j=>cases ry;exact PySem.EqNone.eq_none_bool (Yc I q (by simp))
  | int j=>obtain⟨t',rfl⟩:=ry;exact PySem.EqNone.eq_none_int (Yc I q (by simp))
  | str j=>obtain⟨t',rfl⟩:=ry;exact PySem.EqNone.eq_none_str (Yc I q (by simp))
  | _=>exact absurd (show false=true from hs) k8
 | bl i=>
  cases rx;cases y with
  | non=>cases ry;exact PySem.EqNone.eq_bool_none (Yc I q (by simp))
  | bl j=>cases ry;exact eq_bool (Yc I q ZjS)
  | str j=>obtain⟨t',rfl⟩:=ry;exact PySem.EqMixed.eq_bool_str (Yc I q (by simp))
  | _=>exact absurd (show false=true from hs) k8
 | int i=>
  obtain⟨t,rfl⟩:=rx;cases y with
  | non=>cases ry;exact PySem.EqNone.eq_int_none (Yc I q (by simp))
  | int j=>obtain⟨t',rfl⟩:=ry;exact eq_int (Yc I q ZhI)
  | str j=>obtain⟨t',rfl⟩:=ry;exact PySem.EqMixed.eq_int_str (Yc I q (by simp))
  | _=>exact absurd (show false=true from hs) k8
 | str i=>
  obtain⟨t,rfl⟩:=rx;cases y with
  | non=>cases ry;exact PySem.EqNone.eq_str_none (Yc I q (by simp))
  | bl j=>cases ry;exact PySem.EqMixed.eq_str_bool (Yc I q (by simp))
  | int j=>obtain⟨t',rfl⟩:=ry;exact PySem.EqMixed.eq_str_int (Yc I q (by simp))
  | str j=>obtain⟨t',rfl⟩:=ry;exact eq_str (Yc I q Zhm)
  | _=>exact absurd (show false=true from hs) k8
 | byt i=>
  obtain⟨t,rfl⟩:=rx;cases y with
  | byt j=>obtain⟨t',rfl⟩:=ry;exact PySem.W.eq_bytes (Yc I q Zhi)
  | _=>exact absurd (show false=true from hs) k8
 | _=>cases y<;>exact absurd (show false=true from hs) k8
theorem ZdX:UN X (compareOp .NotEq) rNe:=by
 intro pins s σ H x y v u Q I rx ry h;obtain⟨hs,q⟩:=h;cases x with
 | non=>
  cases rx;cases y with
  | non=>cases ry;exact PySem.EqNone.ne_none_none (Yc I q (by simp))
  | bl j=>cases ry;exact PySem.EqNone.ne_none_bool (Yc I q (by simp))
  | int j=>obtain⟨t',rfl⟩:=ry;exact PySem.EqNone.ne_none_int (Yc I q (by simp))
  | str j=>obtain⟨t',rfl⟩:=ry;exact PySem.EqNone.ne_none_str (Yc I q (by simp))
  | _=>exact absurd (show false=true from hs) k8
 | bl i=>
  cases rx;cases y with
  | non=>cases ry;exact PySem.EqNone.ne_bool_none (Yc I q (by simp))
  | bl j=>cases ry;exact ne_bool (Yc I q (Ky not ZjS))
  | str j=>obtain⟨t',rfl⟩:=ry;exact PySem.EqMixed.ne_bool_str (Yc I q (by simp))
  | _=>exact absurd (show false=true from hs) k8
 | int i=>
  obtain⟨t,rfl⟩:=rx;cases y with
  | non=>cases ry;exact PySem.EqNone.ne_int_none (Yc I q (by simp))
  | int j=>obtain⟨t',rfl⟩:=ry;exact ne_int (Yc I q (Ky not ZhI))
  | str j=>obtain⟨t',rfl⟩:=ry;exact PySem.EqMixed.ne_int_str (Yc I q (by simp))
  | _=>exact absurd (show false=true from hs) k8
 | str i=>
  obtain⟨t,rfl⟩:=rx;cases y with
  | non=>cases ry;exact PySem.EqNone.ne_str_none (Yc I q (by simp))
  | bl j=>cases ry;exact PySem.EqMixed.ne_str_bool (Yc I q (by simp))
  | int j=>obtain⟨t',rfl⟩:=ry;exact PySem.EqMixed.ne_str_int (Yc I q (by simp))
  | str j=>obtain⟨t',rfl⟩:=ry;exact ne_str (Yc I q (Ky not Zhm))
  | _=>exact absurd (show false=true from hs) k8
 | byt i=>
  obtain⟨t,rfl⟩:=rx;cases y with
  | byt j=>obtain⟨t',rfl⟩:=ry;exact PySem.W.ne_bytes (Yc I q (Ky not Zhi))
  | _=>exact absurd (show false=true from hs) k8
 | _=>cases y<;>exact absurd (show false=true from hs) k8
theorem Gi:UN X (compareOp .Lt) (rI0 fun i j=>.bl (decide (i<j))):=ZnD fun _ _ _ _ _ _ _ q=>lt_int q
theorem Za7:UN X (compareOp .Gt) (rI0 fun i j=>.bl (decide (j<i))):=ZnD fun _ _ _ _ _ _ _ q=>gt_int q
theorem Zk5:UN X (compareOp .GtE) (rI0 fun i j=>.bl (decide (j<=i))):=ZnD fun _ _ _ _ _ _ _ q=>ge_int q
inductive Zpd(x y:V)(H:Hp)(Q:VK):Prop|mk(_:y = .non)(_:Q (.bl (decide (x = .non))) H)
theorem ZnJ:UN X (compareOp .Is) Zpd:=by
 intro pins s σ H x y v u Q I rx ry h;obtain⟨rfl,q⟩:=h;cases ry;refine is_none_gen (Yc I q ?_);cases x<;>first
  | (cases rx;rfl)
  | (obtain⟨t,rfl⟩:=rx;rfl)
inductive Zhh(x y:V)(H:Hp)(Q:VK):Prop|mk(_:y = .non)(_:Q (.bl (!decide (x = .non))) H)
theorem Zeg:UN X (compareOp .IsNot) Zhh:=by
 intro pins s σ H x y v u Q I rx ry h;obtain⟨rfl,q⟩:=h;cases ry;refine isnot_none_gen (Yc I q ?_);cases x<;>first
  | (cases rx;rfl)
  | (obtain⟨t,rfl⟩:=rx;rfl)
theorem Zp (b:Expr){op:CmpOp}(h:op ≠ .In:=by decide)(h2:op ≠ .NotIn:=by decide):behindInMarks op b=false:=by
 have e1:(op==CmpOp.In)=false:=by cases op<;>first | rfl | exact absurd rfl h
 have e2:(op==CmpOp.NotIn)=false:=by cases op<;>first | rfl | exact absurd rfl h2
 cases b<;>simp[behindInMarks,e1,e2]
theorem Yy {op:CmpOp}{r:R2}(ho:UN X (compareOp op) r)(ha:PE X a ta)(hb:PE X b tb)(hm:behindInMarks op b=false):PE X (.Compare a [op] [b] pos) (tOp r ta tb):=by intro pins s σ H Q I h;exact wpAny_Compare1 (Zm2 ha hb I h fun v u s2 x y H2 I2 rx ry q=>ho pins s2 σ H2 x y v u Q I2 rx ry q) hm
def ZdV (t:TE):TT:=fun σ H Q=>t σ H fun x H'=>isB x H' Q
theorem Zr {op:CmpOp}{r:R2}(ho:UN X (compareOp op) r)(ha:PE X a ta)(hb:PE X b tb)(hm:behindInMarks op b=false):PT X (.Compare a [op] [b] pos) (ZdV (tOp r ta tb)):=by
 intro pins s σ H Q I h;refine wpAny_isTrue_Compare1 (Yz (ha pins s σ H _ I h) fun v s1 ⟨x,H1,I1,r1,q1⟩=>Yz (hb pins s1 σ H1 _ I1 q1) fun u s2 ⟨y,H2,I2,r2,q2⟩=>
  Yz (ho pins s2 σ H2 x y v u _ I2 r1 r2 q2) fun c s3 ⟨z,H3,I3,r3,k,e,q3⟩=>?_) hm
 subst e;cases r3;exact KS ⟨H3,I3,q3⟩
def Zkk (r r':R2)(ta tb tc:TE):TE:=fun σ H Q=>ta σ H fun x H1=>tb σ H1 fun y H2=>r x y H2 fun z H3=>isB z H3 fun k H3=>if k=true then tc σ H3 fun w' H4=>r' y w' H4 Q else Q (.bl false) H3
theorem Zkc {op op':CmpOp}{r r':R2}(ho:UN X (compareOp op) r)(ho':UN X (compareOp op') r')(ha:PE X a ta)(hb:PE X b tb)(hc:PE X c tc)
  (hm:lastMarks [op,op'] [b,c]=false:=by with_unfolding_all rfl):PE X (.Compare a [op,op'] [b,c] pos) (Zkk r r' ta tb tc):=by
 intro pins s σ H Q I h;refine Compare_chain (Yz (ha pins s σ H _ I h) fun v s1 ⟨x,H1,I1,r1,q1⟩=>chain_link (Yz (hb pins s1 σ H1 _ I1 q1) fun u s2 ⟨y,H2,I2,r2,q2⟩=>
  Yz (ho pins s2 σ H2 x y v u _ I2 r1 r2 q2) fun d s3 ⟨z,H3,I3,r3,k,e,q3⟩=>?_)) hm
 subst e;cases r3;refine KS ?_;cases k with
 | false=>exact ite_ff ⟨.bl false,H3,I3,rfl,q3⟩
 | true=>exact ite_tt (chain_last (Yz (hc pins s3 σ H3 _ I3 q3) fun w' s4 ⟨z',H4,I4,r4,q4⟩=>ho' pins s4 σ H4 y z' u w' Q I4 r2 r4 q4))
theorem Zju {op op':CmpOp}{r r':R2}(ho:UN X (compareOp op) r)(ho':UN X (compareOp op') r')(ha:PE X a ta)(hb:PE X b tb)(hc:PE X c tc)
  (hm:lastMarks [op,op'] [b,c]=false:=by with_unfolding_all rfl):PT X (.Compare a [op,op'] [b,c] pos) (ZdV (Zkk r r' ta tb tc)):=by
 intro pins s σ H Q I h;refine isTrue_chain (Yz (ha pins s σ H _ I h) fun v s1 ⟨x,H1,I1,r1,q1⟩=>test_link (Yz (hb pins s1 σ H1 _ I1 q1) fun u s2 ⟨y,H2,I2,r2,q2⟩=>
  Yz (ho pins s2 σ H2 x y v u _ I2 r1 r2 q2) fun d s3 ⟨z,H3,I3,r3,k,e,q3⟩=>?_)) hm
 subst e;cases r3;refine KS ?_;cases k with
 | false=>
  obtain⟨k',e',q'⟩:=q3;cases e';exact ite_ff ⟨H3,I3,q'⟩
 | true=>
  refine ite_tt (test_last (Yz (hc pins s3 σ H3 _ I3 q3) fun w' s4 ⟨z',H4,I4,r4,q4⟩=>Yz (ho' pins s4 σ H4 y z' u w' _ I4 r2 r4 q4) fun d' s5 ⟨z2,H5,I5,r5,k2,e2,q5⟩=>?_));subst e2;cases r5;exact KS ⟨H5,I5,q5⟩
def Zp6 (K:QF)(x:V)(H:Hp)(k:Bool):Prop:=
 match x with
 | .non=>k=false
 | .bl b=>k=b
 | .int i=>k=(i != 0)
 | .str y=>y.length<=sizeLine/\k=((y.length:Int) != 0)
 | .byt y=>y.size<=sizeLine/\k=((y.size:Int) != 0)
 | .ref p=>(∃xs,Zt K H p xs/\k = !xs.isEmpty)∨(∃xs,YJ K H p xs/\k = !xs.isEmpty) ∨ ∃kvs,H p=some (.dK kvs)/\k = !kvs.isEmpty
 | _=>False
theorem ZgK {κ:Type}{kvs:List (κ × V)}{vs:List (κ × Value)}(r:KV kvs vs):(!vs.isEmpty) = !kvs.isEmpty:=by cases r<;>rfl
theorem ZcM {xs:QH}{its:QJ}(r:Vals xs its):(!its.toArray.isEmpty) = !xs.isEmpty:=by cases r<;>simp
theorem Zcx:(sizeLine:Nat)<2 ^ 63:=by rw[Kn];decide
inductive Znn(K:QF)(x:V)(H:Hp)(Q:Bool->Hp->Prop):Prop|mk(k)(_:Zp6 K x H k)(_:Q k H)
theorem ZnA:ZpR X (Znn X.K):=by
 intro pins s σ H x v Q I rx h;obtain⟨k,e,q⟩:=h;have hl:=Zcx;have hs:sizeLine=16777216:=Kn;cases x with
 | non=>
  cases rx;have e':k=false:=e;subst e';exact truthy_none ⟨H,I,q⟩
 | bl b=>
  cases rx;have e':k=b:=e;subst e';exact KS ⟨H,I,q⟩
 | int i=>
  obtain⟨t,rfl⟩:=rx;have e':k=(i != 0):=e;subst e';exact PySem.P.truthy_int ⟨H,I,q⟩
 | str y=>
  obtain⟨t,rfl⟩:=rx;obtain⟨hy,e'⟩:y.length<=sizeLine/\k=((y.length:Int) != 0):=e;subst e';exact PySem.P.truthy_str (by lia) ⟨H,I.tok _,q⟩
 | byt y=>
  obtain⟨t,rfl⟩:=rx;obtain⟨hy,e'⟩:y.size<=sizeLine/\k=((y.size:Int) != 0):=e;subst e';exact PySem.W.truthy_bytes (by lia) ⟨H,I.tok _,q⟩
 | ref p=>
  cases rx;have e':(∃xs,Zt X.K H p xs/\k = !xs.isEmpty)∨(∃xs,YJ X.K H p xs/\k = !xs.isEmpty) ∨ ∃kvs,H p=some (.dK kvs)/\k = !kvs.isEmpty:=e;rcases e' with⟨xs,hx,e'⟩ | ⟨xs,hx,e'⟩ | ⟨kvs,hx,e'⟩
  ·subst e';obtain⟨its,r,pl,hz⟩:=I.list hx;have hlen:=r.length;exact wpAny_truthy_list pl.isList (by simp only[kF];lia) ⟨H,I.tok _,by rw[ZcM r];exact q⟩
  ·subst e';obtain⟨its,r,pl,hz⟩:=I.tuple hx;have hlen:=r.length;exact truthy_tuple pl (by simp only[kF];lia) ⟨H,I.tok _,by rw[ZcM r];exact q⟩
  ·subst e';obtain⟨hz,hS,vs,r,m⟩:kvs.length<=sizeLine/\(p==sysModules)=false /\ ∃vs,KV kvs vs/\s.heap.DictOf (ZI X.prog X.w) p vs:=I.hok p _ hx;have hlen:kvs.length=vs.length:=Xb r;exact wpAny_truthy_dict hS m (by lia) ⟨H,I.tok _,by rw[ZgK r];exact q⟩
 | _=>exact(show False from e).elim
theorem Zke (ha:PE X a ta)(he:∀whole,isTrue a X.env whole=(do let v <- whole;standAt a.pos;holding [v] (truthy v))):
  PT X a (fun σ H Q=>ta σ H fun x H'=>Znn X.K x H' Q):=by
 intro pins s σ H Q I h;exact isTrue_plain (Yz (ha pins s σ H _ I h) fun v s1 ⟨x,H1,I1,r1,q1⟩=>ZnA pins s1 σ H1 x v Q I1 r1 q1) (he _)
theorem vals1 {x:V}{us:QJ}(r:Vals [x] us):∃u,us = [u]/\RelV x u:=by
 cases r with
 | cons r1 r2=>cases r2;exact⟨_,rfl,r1⟩
theorem vals2 {x y:V}{us:QJ}(r:Vals [x,y] us):∃u w',us = [u,w']/\RelV x u/\RelV y w':=by
 cases r with
 | cons r1 r2=>
  cases r2 with
  | cons r3 r4=>cases r4;exact⟨_,_,rfl,r1,r3⟩
inductive Zot(xs:QH)(H:Hp)(Q:VK):Prop|mk(i)(_:xs = [.int i])(_:Q (.int (if i<0 then -i else i)) H)
theorem Zbu:Y6 X (.builtin "abs") Zot:=by intro pins s σ H xs us Q I r h;obtain⟨i,rfl,q⟩:=h;obtain⟨u,rfl,t,rfl⟩:=vals1 r;exact call_abs_int fun u tk=>⟨.int (if i<0 then -i else i),H,I.tok _,⟨_,rfl⟩,q⟩
inductive ZmV(xs:QH)(H:Hp)(Q:VK):Prop|mk(i j)(_:xs = [.int i,.int j])(_:Q (.int (if j>i then j else i)) H)
theorem W4 (hc:X.calm=true):Y6 X (.builtin "max") ZmV:=by
 intro pins s σ H xs us Q I r h;obtain⟨i,j,rfl,q⟩:=h;obtain⟨u,w',rfl,⟨t,rfl⟩,⟨t',rfl⟩⟩:=vals2 r;refine max_two_ints (I.ok.hd hc) fun h' tk k=>⟨_,H,I.kept k,?_,q⟩;by_cases hj:j>i
 ·rw[kj hj,kj hj];exact⟨_,rfl⟩
 ·rw[kh hj,kh hj];exact⟨_,rfl⟩
inductive ZmI(xs:QH)(H:Hp)(Q:VK):Prop|mk(i j)(_:xs = [.int i,.int j])(_:Q (.int (if j<i then j else i)) H)
theorem ZaB (hc:X.calm=true):Y6 X (.builtin "min") ZmI:=by
 intro pins s σ H xs us Q I r h;obtain⟨i,j,rfl,q⟩:=h;obtain⟨u,w',rfl,⟨t,rfl⟩,⟨t',rfl⟩⟩:=vals2 r;refine min_two_ints (I.ok.hd hc) fun h' tk k=>⟨_,H,I.kept k,?_,q⟩;by_cases hj:j<i
 ·rw[kj hj,kj hj];exact⟨_,rfl⟩
 ·rw[kh hj,kh hj];exact⟨_,rfl⟩
theorem Ug:Y6 X (.type "int") (fun xs H Q=>(∃i,xs = [.int i]/\Q (.int i) H) ∨ ∃k,xs = [.bl k]/\Q (.int (if k then 1 else 0)) H):=by
 intro pins s σ H xs us Q I r h;rcases h with⟨i,rfl,q⟩ | ⟨k,rfl,q⟩
 ·obtain⟨u,rfl,t,rfl⟩:=vals1 r;exact call_int_int ⟨.int i,H,I,⟨_,rfl⟩,q⟩
 ·obtain⟨u,rfl,r1⟩:=vals1 r;cases r1;exact call_int_bool ⟨.int (if k then 1 else 0),H,I.tok _,⟨_,rfl⟩,q⟩
end
structure Zn9 (h:Heap)(x dx C:Addr)(mA:QN):Prop where
 obj:h.get? x=some (PySem.W.instObj C dx)
 ns:h.Ns1 dx mA
 ne:dx≠x
theorem Ziz {h:Heap}{dx:Addr}{mA:QN}(n:h.Ns1 dx mA):∃od,h.get? dx=some od /\ ∀name,PySem.W.lookIn name od=some (mA name):=by
 obtain⟨o,es,ep,ho,hd,hk,_,hm⟩:=n;refine⟨o,ho,fun name=>?_⟩;have e:=hm name;unfold nsFind findBy at e;rw[<- Array.find?_toList] at e;unfold PySem.W.lookIn;rw[hd];dsimp only;split
 ·rename_i y q
  rw[q] at e;exact Ky some e
 ·rename_i q
  rw[q] at e;have a:es.toList.any (·.refKey)=false:=by rw[List.any_eq_false];intro y hy;obtain⟨z,t,hkey⟩:=hk y (Array.mem_toList_iff.mp hy);simp[DictEntry.refKey,hkey]
  have a':¬es.toList.any (·.refKey)=true:=by rw[a];exact k8
  rw[kh a'];exact Ky some e
theorem Zn9.look {h:Heap}{x dx C:Addr}{mA:QN}(I:Zn9 h x dx C mA):∃od,PySem.W.InstAt h x (PySem.W.instObj C dx) C (some od) /\ ∀name,PySem.W.lookIn name od=some (mA name):=
 let ⟨od,ho,hl⟩:=Ziz I.ns
 ⟨od,⟨I.obj,rfl,rfl,ho⟩,hl⟩
theorem ZbW.some_of {v:V}{o:Option Value}(r:ZbW (some v) o):∃u,o=some u/\RelV v u:=by
 cases o with
 | none=>exact(show False from r).elim
 | some u=>exact⟨u,rfl,r⟩
section
variable {P:Program}{w:World}{H H':Hp}{h h':Heap}{a C dx:Addr}{fs fs':List (Str×V)}
theorem Zl4 (hok:W7 P w H h)(e:H a=some (.ins C dx fs)):∃mA,Zn9 h a dx C mA/\(∀f,ZbW (fs.lookup f) (mA f))/\PySem.Within mA (fs.map (·.1))/\fs.length<=1000/\H dx=some (.own a):=by obtain⟨d,z,ne,ob,mA,n,r,q⟩:=(show ZR P w H h a (.ins C dx fs) from hok a _ e);exact⟨mA,⟨ob,n,ne⟩,r,q,z,d⟩
end
structure Cls (K:QF)(C:Addr):Prop where
 pg:PySem.W.plainGet K C Str.empty=true
 hd:PySem.W.hasDictIn K C=true
 po:PySem.W.plainOver K C=true
 sa:PySem.W.findIn K (.ref C) "__setattr__" = some (some (.builtin "object.__setattr__"))
theorem Cls.get {K:QF}{C:Addr}(c:Cls K C)(f:Str):PySem.W.plainGet K C f=true:=c.pg
section
variable {X:Cx}{pins:QC}{σ:St}{H:Hp}{s:Shared}{A:Around}{E:QE}{Q:QE}{c:Value}{b:Bool}
inductive ZbI (K:QF)(H:Hp):V->Value->Prop where
 | non:ZbI K H .non (.type "NoneType")
 | bl (x:Bool):ZbI K H (.bl x) (.type "bool")
 | int (i:Int):ZbI K H (.int i) (.type "int")
 | str (x:Str):ZbI K H (.str x) (.type "str")
 | flt (x:UInt64):ZbI K H (.flt x) (.type "float")
 | lst {a:Addr}{xs:QH} (e:H a=some (.lst xs)):ZbI K H (.ref a) (.type "list")
 | frz {a:Addr}{o:Obj}{xs:QH} (e:H a=some (.frz o (.lst xs))):ZbI K H (.ref a) (.type "list")
 | tup {a:Addr}{xs:QH} (e:H a=some (.tup xs)):ZbI K H (.ref a) (.type "tuple")
 | dK {a:Addr}{kvs:QD} (e:H a=some (.dK kvs)):ZbI K H (.ref a) (.type "dict")
 | dT {a:Addr}{kvs:List (List Key×V)} (e:H a=some (.dT kvs)):ZbI K H (.ref a) (.type "dict")
 | ins {a C dx:Addr}{fs:List (Str×V)} (e:H a=some (.ins C dx fs)) (cl:Cls K C) (ha:PySem.W.findIn K (.ref C) "__class__" = some (some (.builtin "object.__class__")))
   (hn:PySem.W.specialIn K (.builtin "object.__class__") "__get__" = some (some (.builtin "getset_descriptor.__get__"))) (htk:PySem.W.takesIn K (.builtin "object.__class__")=some true)
   (hm:PySem.W.mroIn K C (.type "object")=some true):ZbI K H (.ref a) (.ref C)
theorem Zij {x:V}{u t:Value}(I:Inv X pins σ H s)(rx:RelV x u)(ty:ZbI X.K H x t)(e:PySem.W.kitOne X.K t c=some b)(h:∀tk,Q (.bool b) { s with toks:=tk }):
  wpAny (model X.prog X.w) A (call (.builtin "isinstance") [u,c]) Q E s:=by
 cases ty with
 | non=>cases (show u=Value.none from rx);exact qv PySem.W.kitx_none I.kIn True.intro e (fun z=>nomatch z) h
 | bl y=>cases (show u=Value.bool y from rx);exact qv PySem.W.kitx_bool I.kIn True.intro e (fun z=>nomatch z) h
 | int i=>obtain⟨t,q⟩:=(show ∃t,u=Value.int i t from rx);cases q;exact qv PySem.W.kitx_int I.kIn True.intro e (fun z=>nomatch z) h
 | str y=>obtain⟨t,q⟩:=(show ∃t,u=Value.str y t from rx);cases q;exact qv PySem.W.kitx_str I.kIn True.intro e (fun z=>nomatch z) h
 | flt y=>obtain⟨t,q⟩:=(show ∃t,u=Value.float y t from rx);cases q;exact qv PySem.W.kitx_float I.kIn True.intro e (fun z=>nomatch z) h
 | @lst a xs ea=>
  cases (show u=Value.ref a from rx);obtain⟨_,_,n,_,h1⟩:=(show ZR X.prog X.w H s.heap a (.lst xs) from I.hok a _ ea);exact qv PySem.W.kitx_list I.kIn ⟨_,h1,rfl⟩ e (fun z=>nomatch z) h
 | @frz a ob xs ea=>
  cases (show u=Value.ref a from rx);obtain⟨_,_,_,n,_,h1⟩:=(show ZR X.prog X.w H s.heap a (.frz ob (.lst xs)) from I.hok a _ ea);exact qv PySem.W.kitx_list I.kIn ⟨_,h1,rfl⟩ e (fun z=>nomatch z) h
 | @tup a xs ea=>
  cases (show u=Value.ref a from rx);obtain⟨_,_,_,p⟩:=(show ZR X.prog X.w H s.heap a (.tup xs) from I.hok a _ ea);obtain⟨o,h1,h2,_⟩:=p;exact qv PySem.W.kitx_tuple I.kIn ⟨o,h1,h2⟩ e (fun z=>nomatch z) h
 | @dK a kvs ea=>
  cases (show u=Value.ref a from rx);obtain⟨_,_,vs,_,p⟩:=(show ZR X.prog X.w H s.heap a (.dK kvs) from I.hok a _ ea);obtain⟨o,es,ep,h1,h2,_⟩:=p;exact qv PySem.W.kitx_dict I.kIn ⟨o,h1,h2.1⟩ e (fun z=>nomatch z) h
 | @dT a kvs ea=>
  cases (show u=Value.ref a from rx);obtain⟨_,_,xs,_,o,es,ep,h1,h2,_⟩:=(show ZR X.prog X.w H s.heap a (.dT kvs) from I.hok a _ ea);exact qv PySem.W.kitx_dict I.kIn ⟨o,h1,h2.1⟩ e (fun z=>nomatch z) h
 | @ins a C dx fs ea cl ha hn htk hm=>
  cases (show u=Value.ref a from rx);obtain⟨mA,O,_⟩:=Zl4 I.hok ea;obtain⟨od,J,_⟩:=O.look;exact qv (PySem.W.kitx_own (cl.get _) cl.hd ha hn htk hm) I.kIn J e (fun z=>nomatch z) h
end
structure Gv (k:Nat)(A:Around):Prop where
 hd:A.handled=none
 dp:A.depth+3*k+5<recursionLimit
 un:A.units+16*k+200<cLine
theorem Gv.mono {j k:Nat}{A:Around}(r:Gv k A)(h:j<=k):Gv j A:=⟨r.hd,by have:=r.dp;lia,by have:=r.un;lia⟩
theorem Gv.deeper {k:Nat}{A:Around}(r:Gv (k+1) A)(env:Env):Gv k (A.deeper env):=
 ⟨r.hd,by have:=r.dp;show A.depth+1+3*k+5<_;lia,by have:=r.un;show A.units+3+16*k+200<_;lia⟩
theorem Gv.depth {k:Nat}{A:Around}(r:Gv k A):A.depth<recursionLimit:=by have:=r.dp;lia
theorem Gv.units {k:Nat}{A:Around}(r:Gv k A):A.units+64<cLine:=by have:=r.un;lia
def JT:TA:=fun _ H Q=>Q [] H
def Yl (ta:TE)(tr:TA):TA:=fun σ H Q=>ta σ H fun x H1=>tr σ H1 fun xs H2=>Q (x::xs) H2
section
variable {X:Cx}{e:Expr}{es:QV}{te:TE}{t:TA}{pos:Pos}
theorem Zb:PA X [] JT:=fun _ _ _ _ H Q I h=>XR ⟨[],H,I,.nil,h⟩
theorem Za (ha:PE X e te)(hr:PA X es t)(hs:starEach (e::es) X.env=(false,eval e X.env)::starEach es X.env:=by rfl):PA X (e::es) (Yl te t):=by intro pos pins s σ H Q I h;rw[hs];show wpAny _ _ (spliced ((false,eval e X.env)::backTo pos (starEach es X.env))) _ _ s;refine qP (Yz (ha pins s σ H _ I h) fun u s1 ⟨x,H1,I1,r1,q1⟩=>?_);exact Yz (hr pos pins s1 σ H1 _ I1 q1) fun us s2 ⟨xs,H2,I2,r2,q2⟩=>⟨x::xs,H2,I2,.cons r1 r2,q2⟩
inductive ZoC (Q:VK)(xs:QH)(H1:Hp):Prop | mk (h:xs.length<=sizeLine) (q:∀p,H1 p=none->Q (.ref p) (upd H1 p (.tup xs)))
def Zbh (t:TA):TE:=fun σ H Q=>t σ H fun xs H1=>ZoC Q xs H1
inductive ZoM (Q:VK)(xs:QH)(H1:Hp):Prop | mk (h:xs.length<=sizeLine) (q:∀p,H1 p=none->Q (.ref p) (upd H1 p (.lst xs)))
def Zkl (t:TA):TE:=fun σ H Q=>t σ H fun xs H1=>ZoM Q xs H1
theorem ZC {x1} (h:PA X es t):PE X (.Tuple es x1 pos) (Zbh t):=by intro pins s σ H Q I hq;refine wpAny_Tuple_spliced (Yz (h pos pins s σ H _ I hq) fun us s1 ⟨xs,H1,I1,r,z,q⟩=>⟨by rw[<- r.length];exact z,?_⟩);have hf:H1 s1.heap.objs.size=none:=I1.hok.fresh (ki _);refine⟨.ref s1.heap.objs.size,upd H1 s1.heap.objs.size (.tup xs),I1.laid (t':=s1.toks) (fun b u e=>ko _ e) (ki _) ?_,rfl,q _ hf⟩;exact⟨z,us,r,⟨_,Km _ rfl,rfl,_,rfl⟩⟩
theorem ZH (h:PA X es t):PE X (.List es pos) (Zkl t):=by intro pins s σ H Q I hq;refine wpAny_List_spliced (Yz (h pos pins s σ H _ I hq) fun us s1 ⟨xs,H1,I1,r,z,q⟩=>⟨by rw[<- r.length];exact z,?_⟩);have hf:H1 s1.heap.objs.size=none:=I1.hok.fresh (ki _);refine⟨.ref s1.heap.objs.size,upd H1 s1.heap.objs.size (.lst xs),I1.laid (t':=s1.toks) (fun b u e=>ko _ e) (ki _) ?_,rfl,q _ hf⟩;exact⟨z,us,0,r,Km _ rfl⟩
end
abbrev Sp:=List V->Hp->VK->XK->Prop
abbrev CXT:=List Env->Hp->Shared->XK->Value->Shared->Prop
structure Zls (P:Program)(w:World)(K:QF)(mg:QN)(base:Heap)(A:Around)(outer:List Env)(s:Shared)(H:Hp):Prop where
 frames:A.frames=some outer
 mod:Mod K mg base
 bs:∀b o,base.get? b=some o->s.heap.get? b=some o/\H b=none
 bsz:base.objs.size<=s.heap.objs.size
 funs:s.heap.FunFrames base outer
 frf:∀b∈frs outer,H b=none
 hok:W7 P w H s.heap
 bare:AllBare s.gens
def CE (outer:List Env)(P:Program)(w:World)(H:Hp)(s:Shared)(Q:VK)(u:Value)(s':Shared):Prop:=
 ∃v H',s'.os=s.os/\AllBare s'.gens/\Un (frs outer) [] H H' s.heap s'.heap/\W7 P w H' s'.heap/\RelV v u/\Q v H'
def CR (CX:CXT)(outer:List Env)(P:Program)(w:World)(H:Hp)(s:Shared)(Q:VK)(E:XK)(r:Result)(s':Shared):Prop:=
 match r with
 | .ok (.ret u)=>CE outer P w H s Q u s'
 | .ok _=>False
 | .error e=>CX outer H s E e s'
structure Yi (P:Program)(w:World)(K:QF)(mg:QN)(base:Heap)(CX:CXT)(k:Nat)(f:Addr)(fd:FuncData)(ps:QP)(sp:Sp):Prop where
 len:∀vs H Q E,sp vs H Q E->vs.length=ps.length
 run:∀(A:Around)(outer:List Env)(s:Shared)(H:Hp)(args:Args)(us:QJ)(vs:QH)(Q:VK)(E:XK),Gv k A->Zls P w K mg base A outer s H->BindsTo s fd args (ps.zip us)->Vals vs us->sp vs H Q E ->
  codeAny (model P w) A (.call (.ref f) args) (CR CX outer P w H s Q E) s
section
variable {X:Cx}{pins:QC}{σ:St}{H:Hp}{s s':Shared}
theorem Inv.env0 (I:Inv X pins σ H s):Zls X.prog X.w X.K X.mg X.base X.A X.stack s H:=
 ⟨I.ok.frames,I.ok.mod,I.bs,Kx I.ok.bsz I.sz,I.stack,I.stkFree,I.hok,I.bare⟩
theorem Inv.after {Q:VK}{u:Value}(I:Inv X pins σ H s)(h:CE X.stack X.prog X.w H s Q u s'):EP X pins σ Q u s':=by obtain⟨v,H',os,bare,un,hok,r,q⟩:=h;obtain⟨hh,g,d,t,os'⟩:=s';obtain rfl:os'=s.os:=os;exact⟨v,H',I.call (h':=hh) (g':=g) (d':=d) (t':=t) (ch:=[]) un hok bare (fun b z=>absurd z (by simp)),r,q⟩
end
def Zb5 (sp:Sp)(dvs:QH)(E:XK)(t:TA):TE:=fun σ H Q=>t σ H fun vs H1=>sp (vs++dvs) H1 Q E
def Binds (K:QF)(fd:FuncData)(ps:QP)(ds:QJ):Prop:=
 ∀(s:Shared)(us:QJ),K.In s.heap->(us++ds).length=ps.length->BindsTo s fd ⟨us,[]⟩ (ps.zip (us++ds))
theorem Binds.all {K:QF}{fd:FuncData}{ps:QP}(h:∀us:QJ,us.length=ps.length->bindArgs fd ⟨us,[]⟩=pure (ps.zip us)):Binds K fd ps []:=fun s us _ hl=>by rw[KL] at hl ⊢;exact .of_eq (h us hl)
def Passes (CX:CXT)(X:Cx)(E:XK):Prop:=∀(pins:QC)(σ:St)(H:Hp)(s:Shared)(e:Value)(s':Shared),Inv X pins σ H s->CX X.stack H s E e s'->X.xe e s'
section
variable {X:Cx}{CX:CXT}{k:Nat}{f C:Addr}{fd:FuncData}{ps:QP}{sp:Sp}{dvs:QH}{ds:QJ}{E:XK}{x m:Str}{p pos apos:Pos}{e o:Expr}{es:QV}{ta:TE}{t:TA}
theorem Zn7 {pins:QC}{σ:St}{H:Hp}{s:Shared}{Q:VK}{us:QJ}{vs:QH}(F:Yi X.prog X.w X.K X.mg X.base CX k f fd ps sp)(hr:Gv k X.A)(hb:Binds X.K fd ps ds)(hd:Vals dvs ds)(hx:Passes CX X E)
  (I:Inv X pins σ H s) (r:Vals vs us) (h:sp (vs++dvs) H Q E):wpAny (model X.prog X.w) X.A (call (.ref f) us) (EP X pins σ Q) X.xe s:=by
 have r2:Vals (vs++dvs) (us++ds):=r.append hd;have hl:(us++ds).length=ps.length:=by rw[<- r2.length];exact F.len _ _ _ _ h
 refine wpAny_call (codeAny_mono (F.run X.A X.stack s H ⟨us,[]⟩ (us++ds) (vs++dvs) Q E hr I.env0 (hb s us I.kIn hl) r2 h) fun r s' hq=>?_);cases r with
 | error e=>exact hx pins σ H s e s' I hq
 | ok fl=>
  cases fl with
  | ret u=>exact I.after hq
  | next=>exact False.elim hq
  | brk=>exact False.elim hq
  | cont=>exact False.elim hq
theorem ZhX (F:Yi X.prog X.w X.K X.mg X.base CX k f fd ps sp)(hr:Gv k X.A)(hg:Gl X x)(hm:X.mg x=some (.ref f))(hk:PySem.W.keepIn X.K (.ref f)=true)(hb:Binds X.K fd ps ds)(hd:Vals dvs ds)(hx:Passes CX X E)
  (ha:PA X (e::es) t) (hdb:(x==("__debug__" : Str))=false:=by decide) (he:starEach (e::es) X.env=(false,eval e X.env)::starEach es X.env:=by rfl) (hpl:(backTo pos (starEach es X.env)).any (·.1)=false:=by rfl):
  PE X (.Call (.Name x p) (e::es) [] pos) (Zb5 sp dvs E t):=by
 intro pins s σ H Q I h;refine Th (Zg8 I hg hm ?_ hdb);refine PySem.W.callWith_K (h₀:=X.base) I.ok.mod.kin hk (Yz (ha pos pins s σ H _ I h) fun us s1 ⟨vs,H1,I1,r,q⟩=>⟨I1.kIn,?_⟩) he hpl;exact Zn7 F hr hb hd hx I1 r q
end
structure ZA (N P:QP)(sc:Scope):Prop where
 kind:sc.kind = .function:=by rfl
 co:sc.isCoroutine=false:=by rfl
 gen:sc.isGenerator=false:=by rfl
 nd:N.Nodup:=by decide +kernel
 pre:N.take P.length=P:=by rfl
 par:∀x∈P,sc.names.lookup x=some .local∨sc.names.lookup x=some .cell:=by decide +kernel
 nofree:∀y∈sc.names,y.2 ≠ .free:=by decide +kernel
theorem Zd7 {kindOf:Str->Option NameKind}{x:Str}:∀{binds:List (Str×Value)}{m:QN},(∀v,(x,v)∉binds)->bindL kindOf binds m x=m x
 | [],_,_=>rfl
 | (n,v)::r,m,h=>by
  unfold bindL;rw[Zd7 fun w hw=>h w (kS _ hw)];split
  ·have:x≠n:=by rintro rfl;exact h v kQ
   simp[this]
  ·rfl
theorem ZdQ {kindOf:Str->Option NameKind}{x:Str}:∀{binds:List (Str×Value)}{m:QN},(∀v,(x,v)∉binds)->bindC kindOf binds m x=m x
 | [],_,_=>rfl
 | (n,v)::r,m,h=>by
  unfold bindC;rw[ZdQ fun w hw=>h w (kS _ hw)];split
  ·rfl
  ·have:x≠n:=by rintro rfl;exact h v kQ
   simp[this]
theorem ZdF {kindOf:Str->Option NameKind}{x:Str}{v:Value}:∀{P:QP}{vs:QJ}{i:Nat}{m:QN},P.Nodup->P[i]? = some x->vs[i]? = some v->kindOf x=some .local ->
  bindL kindOf (P.zip vs) m x=some v
 | [],_,_,_,_,h,_,_=>by simp at h
 | _::_,[],_,_,_,_,h,_=>by simp at h
 | p::P,w::vs,0,m,nd,h1,h2,hk=>by
  simp at h1 h2;subst h1;subst h2;show bindL kindOf ((p,w)::P.zip vs) m p=_;unfold bindL;rw[Zd7 fun v hv=>(Kl.mp nd).1 (Tf hv).1,kj hk];simp
 | p::P,w::vs,i+1,m,nd,h1,h2,hk=>by show bindL kindOf ((p,w)::P.zip vs) m x=_;unfold bindL;exact ZdF (i:=i) (Kl.mp nd).2 (by simpa using h1) (by simpa using h2) hk
theorem Zd1 {kindOf:Str->Option NameKind}{x:Str}{v:Value}:∀{P:QP}{vs:QJ}{i:Nat}{m:QN},P.Nodup->P[i]? = some x->vs[i]? = some v->kindOf x≠some .local ->
  bindC kindOf (P.zip vs) m x=some v
 | [],_,_,_,_,h,_,_=>by simp at h
 | _::_,[],_,_,_,_,h,_=>by simp at h
 | p::P,w::vs,0,m,nd,h1,h2,hk=>by
  simp at h1 h2;subst h1;subst h2;show bindC kindOf ((p,w)::P.zip vs) m p=_;unfold bindC;rw[ZdQ fun v hv=>(Kl.mp nd).1 (Tf hv).1,kh hk];simp
 | p::P,w::vs,i+1,m,nd,h1,h2,hk=>by show bindC kindOf ((p,w)::P.zip vs) m x=_;unfold bindC;exact Zd1 (i:=i) (Kl.mp nd).2 (by simpa using h1) (by simpa using h2) hk
def start (N:QP)(vs:QH):St:=vs.map some++List.replicate (N.length-vs.length) none
def WW (CX:CXT)(P:Program)(w:World)(K:QF)(mg:QN)(base:Heap)(N:QP)(qual:Str)(scope:Scope)(f:Addr)(cd:Value)(A:Around)(outer:List Env)(s:Shared)(H:Hp)(E:XK):Cx where
 prog:=P
 w:=w
 K:=K
 mg:=mg
 base:=base
 A:=A.deeper (envOfC qual scope s.heap.objs.size f cd)
 N:=N
 s₀:=s
 H₀:=H
 env:=envOfC qual scope s.heap.objs.size f cd
 outer:=outer
 stack:=envOfC qual scope s.heap.objs.size f cd::outer
 ex:=[]
 calm:=true
 fn:=fun _=>true
 pn:=[]
 xe:=fun e s'=>wpAny (model P w) (A.deeper (envOfC qual scope s.heap.objs.size f cd)) (leaving (envOfC qual scope s.heap.objs.size f cd) e) (fun _ s''=>CX outer H s E e s'') (fun e' s''=>CX outer H s E e' s'') s'
theorem Zfb {sc:Scope}{n:Nat}{x:Str}(h:sc.names.lookup x=some .cell):∃c,(cellsFrom n sc.names []).lookup x=some c:=by have q:=Mi sc.names n [] (.inl h);exact NM.mp q
theorem ZiC {CX:CXT}{P:Program}{w:World}{K:QF}{mg:QN}{base:Heap}{N ps:QP}{qual:Str}{scope:Scope}{f:Addr}{cd:Value}{A:Around}{outer:List Env}{s s1:Shared}{H:Hp}{E:XK}{us:QJ}{vs:QH}
  (S:ZA N ps scope) (hd:A.handled=none) (e0:Zls P w K mg base A outer s H) (hl:vs.length=ps.length) (r:Vals vs us)
  (x:InCallC s s.heap.objs.size (bindL (envOfC qual scope s.heap.objs.size f cd).kindOf (ps.zip us) fun _=>none) (cellsFrom (s.heap.objs.size+1) scope.names []) (bindC (envOfC qual scope s.heap.objs.size f cd).kindOf (ps.zip us) fun _=>none) s1):
  Inv (WW CX P w K mg base N qual scope f cd A outer s H E) [] (start N vs) H s1:=by
 have hpl:ps.length<=N.length:=by have:=Ky List.length S.pre;rw[kL] at this;lia
 obtain⟨h1,tk,rfl,hk⟩:=x.done;have noA:∀b:Addr,b∉(WW CX P w K mg base N qual scope f cd A outer s H E).ex:=fun b z=>absurd (show b∈([]:List Addr) from z) (by simp);refine⟨⟨e0.mod,S.kind,rfl,rfl,ki _,fun y z c h1 h2=>?_,fun y hy=>?_,fun y c _ h=>?_,fun _=>hd,Around.frames_deeper e0.frames,.inr ⟨rfl,rfl⟩,fun b z=>absurd z (noA b),e0.bs,e0.bsz,fun b _ _=>noA b,fun b z=>absurd z (noA b),e0.funs,e0.frf⟩,
  rfl,e0.bare,Un.kept hk,⟨_,x.toInCall.ns,fun i y v h1 h2 h3=>?_⟩,fun y c h=>⟨_,x.cell y c h⟩,e0.hok.fresh (ki _),fun y c h=>?_,fun p hp=>absurd (show p∈([]:QC) from hp) (by simp),e0.hok.kept hk,?_⟩
 ·exact name_of_addr x.apart (qN h1) (qN h2)
 ·have hy:scope.names.lookup y=some .cell∨scope.names.lookup y=some .free:=hy;rcases hy with hy | hy
  ·exact Zfb hy
  ·exact absurd rfl (S.nofree _ (qN hy))
 ·exact KN (x.above y c (qN h))
 ·have hi:i<vs.length:=by
   unfold start at h2;by_cases hi:i<vs.length
   ·exact hi
   ·rw[Kh (by simpa using hi)] at h2;rw[NW] at h2;split at h2<;>cases h2
  have ha:vs[i]? = some v:=by
   unfold start at h2;rw[KH (by simpa using hi),kE] at h2;cases e:vs[i]? with
   | none=>rw[e] at h2;cases h2
   | some a=>rw[e] at h2;cases h2;rfl
  obtain⟨u,hu,rv⟩:=r.get ha;have hp:ps[i]? = some y:=by rw[<- S.pre,Td (by lia)];exact h1
  have ndP:ps.Nodup:=by rw[<- S.pre];exact S.nd.sublist (List.take_sublist _ _)
  refine⟨u,rv,?_⟩;rcases S.par y (k9 hp) with k | k
  ·exact .inl ⟨k,ZdF ndP hp hu k⟩
  ·obtain⟨c,e⟩:=Zfb (n:=s.heap.objs.size+1) k;refine .inr ⟨.inl k,c,e,?_⟩;have q:=x.cell y c e;rw[Zd1 ndP hp hu (by show scope.names.lookup y≠_;rw[k];decide)] at q;exact q
 ·exact e0.hok.fresh (KN (x.above y c (qN h)))
 ·unfold start;show _=N.length;rw[kg,ke,K0];lia
theorem ZmP {CX:CXT}{P:Program}{w:World}{K:QF}{mg:QN}{base:Heap}{k:Nat}{f:Addr}{name qual:Str}{params:Arguments}{body:List Stmt}{scope:Scope}{dV kV doc pm cdv ct oc:Value}{an od:Option Addr}
  {osl:Array (Option Value)}{N ps:QP}{sp:Sp} (lk:K.lookup f=some ⟨oc,od,.func (PySem.W.fnOf name qual params body scope dV kV doc pm an cdv ct),osl⟩) (hcd:PySem.W.codeIn K cdv qual=true) (S:ZA N ps scope)
  (len:∀vs H Q E,sp vs H Q E->vs.length=ps.length)
  (hbody:∀(A:Around)(outer:List Env)(s:Shared)(H:Hp)(vs:QH)(Q:VK)(E:XK),Gv k (A.deeper (envOfC qual scope s.heap.objs.size f cdv))->sp vs H Q E ->
   ∃t,PSs (WW CX P w K mg base N qual scope f cdv A outer s H E) body t/\t { nx:=fun _ H'=>Q .non H',rt:=Q } (start N vs) H):
  Yi P w K mg base CX (k+1) f (PySem.W.fnOf name qual params body scope dV kV doc pm an cdv ct) ps sp:=by
 refine⟨len,fun A outer s H args us vs Q E hr e0 hb r hsp=>?_⟩;have hl:=len _ _ _ _ hsp;have KX:K.In s.heap:=e0.mod.kin.keeps fun b o e=>(e0.bs b o e).1;have lim:s.heap.NoLimit:=e0.mod.nolimit.keeps fun b o e=>(e0.bs b o e).1;have hkind:∀y∈ps.zip us,scope.names.lookup y.1=some .local∨(scope.names.lookup y.1=some .cell/\((cellsFrom (s.heap.objs.size+1) scope.names []).lookup y.1).isSome=true):=fun⟨n,v⟩ hy=>by
  rcases S.par n (Tf hy).1 with q | q
  ·exact .inl q
  ·exact .inr ⟨q,Mi _ _ _ (.inl q)⟩
 refine codeAny_call_function hr.depth (KX _ _ lk) rfl S.co S.gen rfl (PySem.W.codeRec_of KX hcd) (hb _ _ _ _ ?_);refine wpAny_newFunctionEnv_cells S.kind hkind fun env he s1 x=>?_;subst he;refine⟨lim.keeps x.toInCall.keep,codeAny_func ?_⟩;obtain⟨t,ht,hq⟩:=hbody A outer s H vs Q E (hr.deeper _) hsp;have I:Inv (WW CX P w K mg base N qual scope f cdv A outer s H E) [] (start N vs) H s1:=ZiC S hr.hd e0 hl r x;refine K4 (ht [] s1 (start N vs) H _ I hq) (fun fl s' hs=>?_) fun e s' hs=>hs;have fin:∀{σ':St}{H':Hp}{v:V}{u:Value},Inv (WW CX P w K mg base N qual scope f cdv A outer s H E) [] σ' H' s'->RelV v u->Q v H'->CE outer P w H s Q u s':=
  fun {σ' H' v u} J rv q=>⟨v,H',J.os,J.bare,J.base,J.hok,rv,q⟩
 cases fl with
 | ret u=>
  obtain⟨v,σ',H',J,rv,q⟩:=hs;exact fin J rv q
 | next=>
  obtain⟨σ',H',J,q⟩:=hs;exact fin (v:=V.non) (u:=Value.none) J rfl q
 | brk=>
  obtain⟨_,_,_,q⟩:=hs;exact False.elim q
 | cont=>
  obtain⟨_,_,_,q⟩:=hs;exact False.elim q
section
variable {X:Cx}{x:Str}{p pos:Pos}{e:Expr}{es:QV}{t:TA}{id T:String}{r:List V->Hp->VK->Prop}
def tCB (r:List V->Hp->VK->Prop)(t:TA):TE:=fun σ H Q=>t σ H fun vs H1=>r vs H1 Q
theorem Zv (hc:Y6 X (.builtin id) r)(hg:Gl X x)(hm:X.mg x=none)(hv:bootBuiltins x=some (.builtin id))(ha:PA X (e::es) t)(hn:x ≠ "__name__" := by decide)(hdb:(x==("__debug__" : Str))=false:=by decide)
  (he:starEach (e::es) X.env=(false,eval e X.env)::starEach es X.env:=by rfl) (hpl:(backTo pos (starEach es X.env)).any (·.1)=false:=by rfl):PE X (.Call (.Name x p) (e::es) [] pos) (tCB r t):=by
 intro pins s σ H Q I h;refine Th (Uy I hg hm hv ?_ hn hdb);exact PyProof.Rows.callWith_builtin1 (Yz (ha pos pins s σ H _ I h) fun us s1 ⟨vs,H1,I1,r1,q1⟩=>hc pins s1 σ H1 vs us Q I1 r1 q1) he hpl
theorem Z0 (hc:Y6 X (.type T) r)(hg:Gl X x)(hm:X.mg x=none)(hv:bootBuiltins x=some (.type T))(ha:PA X (e::es) t)(hn:x ≠ "__name__" := by decide)(hdb:(x==("__debug__" : Str))=false:=by decide)
  (he:starEach (e::es) X.env=(false,eval e X.env)::starEach es X.env:=by rfl) (hpl:(backTo pos (starEach es X.env)).any (·.1)=false:=by rfl):PE X (.Call (.Name x p) (e::es) [] pos) (tCB r t):=by
 intro pins s σ H Q I h;refine Th (Uy I hg hm hv ?_ hn hdb);exact qf (Yz (ha pos pins s σ H _ I h) fun us s1 ⟨vs,H1,I1,r1,q1⟩=>hc pins s1 σ H1 vs us Q I1 r1 q1) he hpl
end
end L2
namespace HT
open PySem PyProof.Rows
section
open PySem.SeqAt
open PySem.AutoSeq1 (wpAny_loadPart')
open PySem.MeetsSeq PySem.MeetsSeq2 PySem.MeetsSeq3
end
section
variable {prog:Program}{w:World}{A:Around}{E:QE}{s:Shared}
theorem ZlR {t b:Addr}{vs ws:QJ}{Q:QE}(ht:IsTup s.heap t vs.toArray)(hb:IsTup s.heap b ws.toArray)(hv:vs ≠ [])
  (h1:ws = []->Q (.ref t) s) (h2:ws ≠ []->Q (.ref s.heap.objs.size) { s with heap:=s.heap.push { cls:=.type "tuple", data:=.seq (vs++ws).toArray } })
  (hsz:vs.length+ws.length<=sizeLine):wpAny (model prog w) A (binaryOp .Add (.ref t) (.ref b)) Q E s:=by
 obtain⟨⟨cls,dd,data,sl⟩,ho,hc,n,hd⟩:=id ht;obtain⟨⟨cls2,dd2,data2,sl2⟩,ho2,hc2,n2,hd2⟩:=id hb;simp only at hc hd hc2 hd2;subst hc hd hc2 hd2;have e:vs.toArray++ws.toArray=(vs++ws).toArray:=by simp
 by_cases hw:ws = []
 ·exact concat_meets ⟨_,ho,rfl⟩ ⟨_,ho2,rfl⟩ NX M6 Tv Tp (Te _ _)
   (tuple_addW1 t b vs.toArray ws.toArray n n2 dd dd2 sl sl2 (by simpa using hv) (by simp[hw])) ⟨ho,ho2,h1 hw⟩
 ·refine concat_meets ⟨_,ho,rfl⟩ ⟨_,ho2,rfl⟩ NX M6 Tv Tp (Te _ _)
   (tuple_addW2 t b vs.toArray ws.toArray n n2 dd dd2 sl sl2 (by simpa using hv) (by simpa using hw) (by rw[kF,kF];exact hsz)) ⟨ho,ho2,?_⟩
  rw[e];exact h2 hw
def Jx (n d:Nat):Option Int->Nat
 | none=>d
 | some v=>if v<0 then(v+(n:Int)).toNat else min v.toNat n
theorem Zcz (n d:Nat):Jx n d none=d:=rfl
theorem Zbs (n d k:Nat):Jx n d (some (k:Int))=min k n:=by show (if (k:Int)<0 then((k:Int)+(n:Int)).toNat else min (k:Int).toNat n)=min k n;rw[kh (by lia),kX]
theorem Znp (n d:Nat)(hd:d<=n)(o:QW):Jx n d o<=n:=by
 cases o with
 | none=>exact hd
 | some v=>
  show (if v<0 then(v+(n:Int)).toNat else min v.toNat n)<=n;by_cases hv:v<0
  ·rw[kj hv];lia
  ·rw[kh hv];exact Nat.min_le_right _ _
theorem Zhe (v:Int)(n d:Nat):(if v<0 then max (v+(n:Int)) 0 else min v (n:Int))=((Jx n d (some v):Nat):Int):=by
 show (if v<0 then max (v+(n:Int)) 0 else min v (n:Int))=(((if v<0 then(v+(n:Int)).toNat else min v.toNat n):Nat):Int);by_cases hv:v<0
 ·simp only[kj hv];lia
 ·simp only[kh hv];lia
theorem Zgy (lo hi:QW)(n:Nat):Builtin.Slice.sliceAdjust lo hi 1 (n:Int)=(((Jx n 0 lo:Nat):Int),((Jx n n hi:Nat):Int)):=by
 have h1:¬((1:Int)<0):=by lia
 unfold Builtin.Slice.sliceAdjust;simp only[h1,Xf];refine NY ?_ ?_
 ·cases lo with
  | none=>rfl
  | some v=>exact Zhe v n 0
 ·cases hi with
  | none=>rfl
  | some v=>exact Zhe v n n
theorem Zgu (i j:Nat):Builtin.Slice.slicePlaces (i:Int) (j:Int) 1=j-i:=by
 unfold Builtin.Slice.slicePlaces;have h1:(1:Int)>0:=by lia
 simp only[h1,Tw,Int.ediv_one];split<;>lia
theorem Zc4 {v:Value}{o:QW}{Q:Option Int->Shared->Prop}(p:IsPart v o)(h:Q o s):wpAny (model prog w) A (Builtin.Slice.slicePartIndex v) Q E s:=by
 cases p with
 | none=>exact slicePart_none h
 | int i t=>exact slicePart_int h
theorem Uh {sl:Addr}{vl vu:Value}{lo hi:QW}{n:Nat}{Q:Int×Int×Nat->Shared->Prop}(hs:s.heap.IsSliceOf sl vl vu .none)(pl:IsPart vl lo)(pu:IsPart vu hi)
  (h:Q (((Jx n 0 lo:Nat):Int),1,Jx n n hi-Jx n 0 lo) s):wpAny (model prog w) A (Builtin.Slice.sliceApplied (.ref sl) (pure (n:Int))) Q E s:=by
 obtain⟨os,hos,hcs,hds⟩:=id hs;unfold Builtin.Slice.sliceApplied Builtin.Slice.sliceFields;refine ka (ka (qq hos hds (x:=vl) rfl (ka (qq hos hds (x:=vu) rfl (ka (qq hos hds (x:=.none) rfl (km ?_)))))));refine ka (slicePart_none ?_);show wpAny _ _ (if ((1:Int)==0)=true then _ else _) _ _ s;rw[kh (by decide)];refine ka (Zc4 pl (ka (Zc4 pu (ka (km ?_)))));show wpAny _ _ (match Builtin.Slice.sliceAdjust lo hi 1 (n:Int) with | (lo,hi)=>pure (lo,(1:Int),Builtin.Slice.slicePlaces lo hi 1)) _ _ s;rw[Zgy lo hi n];show wpAny _ _ (pure (((Jx n 0 lo:Nat):Int),(1:Int),Builtin.Slice.slicePlaces ((Jx n 0 lo:Nat):Int) ((Jx n n hi:Nat):Int) 1)) _ _ s;rw[Zgu];exact km h
theorem Zjo (xs:QY)(i k:Nat):((List.range k).filterMap fun(m:Nat)=>xs[((i:Int)+(m:Int)*1).toNat]?).toArray=((xs.toList.drop i).take k).toArray:=by
 have e:(fun(m:Nat)=>xs[((i:Int)+(m:Int)*1).toNat]?)=fun m=>xs[i+m]?:=by
  funext m;have:((i:Int)+(m:Int)*1).toNat=i+m:=by lia
  rw[this]
 rw[e];have:=pick_run xs i k;rw[List.filterMap_map] at this;have e2:((fun x=>xs[x]?) ∘ fun x=>i+x)=fun m=>xs[i+m]?:=rfl;rw[e2] at this;rw[this]
theorem Zbw {t sl:Addr}{items:QY}{vl vu:Value}{lo hi:QW}{Q:QE}(ht:IsTup s.heap t items)(hs:s.heap.IsSliceOf sl vl vu .none)(pl:IsPart vl lo)(pu:IsPart vu hi)
  (hw:¬(Jx items.size 0 lo=0/\Jx items.size items.size hi=items.size))
  (h:Q (.ref s.heap.objs.size) { s with heap:=s.heap.push { cls:=.type "tuple", data:=.seq ((items.toList.drop (Jx items.size 0 lo)).take (Jx items.size items.size hi-Jx items.size 0 lo)).toArray } })
  (hsz:items.size<=sizeLine):wpAny (model prog w) A (getItem (.ref t) (.ref sl)) Q E s:=by
 have htake:sizeOk (.seq ((items.toList.drop (Jx items.size 0 lo)).take (Jx items.size items.size hi-Jx items.size 0 lo)).toArray):=by show ((items.toList.drop (Jx items.size 0 lo)).take (Jx items.size items.size hi-Jx items.size 0 lo)).toArray.size<=sizeLine;rw[kF,kL,KU,K2];lia
 have hj:Jx items.size items.size hi<=items.size:=Znp _ _ (ki _) hi;obtain⟨os,hos,hcs,hds⟩:=id hs;have hTs:s.TypeIs (.ref sl) "slice" := ⟨os,hos,hcs⟩;unfold getItem
 try with_reducible refine KJ ?_
 first | refine ka (km ?_) | skip
 refine ka (NF ht.typeIs (by decide) ?_);refine ka (qJ (name:=Str.ofString "__getitem__") ht.typeIs qg
  (K1 qg ht.typeIs entry_tuple_getitem ?_ (args_tuple_getitem _ _)))
 show wpAny _ _ (Builtin.Tuple.tupleItemsOf (.ref t) >>= _) _ _ s;refine ka (tupleItemsOf_ ht ?_);refine ka (qG hTs ?_);rw[kj (by decide)];refine ka (Uh hs pl pu ?_);have hno:¬((((Jx items.size 0 lo:Nat):Int)==0&&(1:Int)==1&&(Jx items.size items.size hi-Jx items.size 0 lo)==items.size)=true):=by intro q;rw[KQ,KQ] at q;have q1:((Jx items.size 0 lo:Nat):Int)=0:=eq_of_beq q.1.1;have q2:Jx items.size items.size hi-Jx items.size 0 lo=items.size:=eq_of_beq q.2;exact hw ⟨by lia,by lia⟩
 show wpAny _ _ (if (((Jx items.size 0 lo:Nat):Int)==0&&(1:Int)==1&&(Jx items.size items.size hi-Jx items.size 0 lo)==items.size)=true then _ else _) _ _ s;rw[kh hno,Zjo]
 first
  | exact ka (m:=Builtin.Tuple.tupleExact _) (qb (km ⟨_,rfl,km h⟩) htake)
  | exact ka (m:=Builtin.Tuple.tupleExact _) (qb (ka (km (km ⟨_,rfl,km h⟩))) htake)
  | exact ka (ka (m:=Builtin.Tuple.tupleExact _) (qb (km (km ⟨_,rfl,km h⟩)) htake))
  | exact ka (ka (m:=Builtin.Tuple.tupleExact _) (qb (km ⟨_,rfl,km h⟩) htake))
end
end HT
namespace L2
open PySem PySem.Spec PyProof.Rows
abbrev TO:=St->Hp->(Option Int->Hp->Prop)->Prop
def PO (X:Cx)(e:Option Expr)(t:TO):Prop:=
 ∀(pins:QC)(s:Shared)(σ:St)(H:Hp)(Q:Option Int->Hp->Prop),Inv X pins σ H s->t σ H Q ->
  wpAny (model X.prog X.w) X.A (evalPart e X.env) (fun u s'=>∃o H',Inv X pins σ H' s'/\IsPart u o/\Q o H') X.xe s
def Zaw:TO:=fun _ H Q=>Q none H
inductive Zkx(Q:Option Int->Hp->Prop)(x:V)(H1:Hp):Prop|mk(i)(_:x = .int i)(_:Q (some i) H1)
def Zo1 (t:TE):TO:=fun σ H Q=>t σ H fun x H1=>Zkx Q x H1
section
variable {X:Cx}{e:Expr}{te:TE}{lo hi:Option Expr}{tl th:TO}{pos p2:Pos}
theorem JI:PO X none Zaw:=by intro pins s σ H Q I h;rw[NO];exact km ⟨none,H,I,.none,h⟩
theorem Yq (h:PE X e te):PO X (some e) (Zo1 te):=by intro pins s σ H Q I hw;rw[evalPart_some];refine Yz (h pins s σ H _ I hw) fun u s1 ⟨x,H1,I1,r1,q1⟩=>?_;obtain⟨i,rfl,q⟩:=q1;obtain⟨t,rfl⟩:=r1;exact⟨some i,H1,I1,.int i t,q⟩
def SlR (X:Cx)(r:V->Option Int->Option Int->Hp->VK->Prop):Prop:=
 ∀(pins:QC)(s:Shared)(σ:St)(H:Hp)(x:V)(v vl vu:Value)(lo hi:QW)(sl:Addr)(Q:VK),Inv X pins σ H s->RelV x v->s.heap.IsSliceOf sl vl vu .none->IsPart vl lo->IsPart vu hi->r x lo hi H Q ->
  ∃T id,typeLookup (.type T) "__getitem__" = pure (some (.builtin id))/\s.TypeIs v T/\wpAny (model X.prog X.w) X.A (getItem v (.ref sl)) (EP X pins σ Q) X.xe s
def tSl (r:V->Option Int->Option Int->Hp->VK->Prop)(te:TE)(tl th:TO):TE:=fun σ H Q=>te σ H fun x H1=>tl σ H1 fun l H2=>th σ H2 fun u H3=>r x l u H3 Q
theorem YL {r:V->Option Int->Option Int->Hp->VK->Prop}(hr:SlR X r)(he:PE X e te)(hl:PO X lo tl)(hu:PO X hi th):PE X (.Subscript e (.Slice lo hi none p2) pos) (tSl r te tl th):=by intro pins s σ H Q I h;refine Subscript_ (Yz (he pins s σ H _ I h) fun v s1 ⟨x,H1,I1,r1,q1⟩=>?_);refine wpAny_Slice (Yz (hl pins s1 σ H1 _ I1 q1) fun vl s2 ⟨l,H2,I2,pl,q2⟩=>Yz (hu pins s2 σ H2 _ I2 q2) fun vu s3 ⟨u,H3,I3,pu,q3⟩=>?_);rw[NO];refine km ?_;have I4:Inv X pins σ H3 { s3 with heap:=s3.heap.push { cls:=.type "slice", data:=.fields #[vl,vu,.none] } }:=I3.kept (t':=s3.toks) fun b ob q=>ko _ q;obtain⟨T,id,hT,ht,hg⟩:=hr pins { s3 with heap:=s3.heap.push { cls:=.type "slice", data:=.fields #[vl,vu,.none] } } σ H3 x v vl vu l u s3.heap.objs.size Q I4 r1 (Nj ..) pl pu q3;show wpAny (model X.prog X.w) X.A (subscriptTail e (.Slice lo hi none p2) v (.ref s3.heap.objs.size)) (EP X pins σ Q) X.xe { s3 with heap:=s3.heap.push { cls:=.type "slice", data:=.fields #[vl,vu,.none] } };exact tail_any (ops:=[.ref s3.heap.objs.size,v]) ht hT hg (by with_unfolding_all rfl)
def GG (xs:QH)(lo hi:QW):QH:=(xs.drop (HT.Jx xs.length 0 lo)).take (HT.Jx xs.length xs.length hi-HT.Jx xs.length 0 lo)
theorem Zcd (xs:QH)(lo hi:QW):(GG xs lo hi).length<=xs.length:=by unfold GG;rw[kL,KU];lia
inductive Zpm(K:QF)(x:V)(lo hi:QW)(H:Hp)(Q:VK):Prop|mk(a xs)(_:x = .ref a)(_:YJ K H a xs)(_:¬(HT.Jx xs.length 0 lo=0/\HT.Jx xs.length xs.length hi=xs.length))(_:∀p,H p=none->Q (.ref p) (upd H p (.tup (GG xs lo hi))))
theorem ZnS:SlR X (Zpm X.K):=by
 intro pins s σ H x v vl vu lo hi sl Q I rx hs pl pu h;obtain⟨a,xs,rfl,hx,hw,q⟩:=h;cases rx;obtain⟨its,r,ht,hz⟩:=I.tuple hx;have hlen:its.toArray.size=xs.length:=by rw[kF];exact r.length.symm
 refine⟨"tuple", _,qg.lookup,ht.typeIs,?_⟩;refine HT.Zbw ht hs pl pu (by rw[hlen];exact hw) ?_ (by rw[hlen];exact hz);rw[hlen];refine⟨.ref s.heap.objs.size,_,I.laid (t':=s.toks) (o:=.tup (GG xs lo hi)) (fun b ob q=>ko _ q) (ki _) ?_,rfl,q _ (I.hok.fresh (ki _))⟩;exact⟨Kx (Zcd xs lo hi) hz,_,(r.drop (HT.Jx xs.length 0 lo)).take (HT.Jx xs.length xs.length hi-HT.Jx xs.length 0 lo),IsTup.new _ _⟩
end
def ixN (n:Nat)(i:Int):Option Nat:=if 0<=i then(if i<n then some i.toNat else none) else if -(n:Int)<=i then some (i+n).toNat else none
def atI {α:Type}(xs:List α)(i:Int):Option α:=(ixN xs.length i).bind fun j=>xs[j]?
theorem ZhO {n:Nat}{i:Int}{j:Nat}(h:ixN n i=some j):seqIndex? i n=some j/\j<n /\ -(n:Int)<=i/\i<n:=by
 unfold ixN at h;by_cases h0:0<=i
 ·rw[kj h0] at h;by_cases h1:i<n
  ·rw[kj h1] at h;have e:i.toNat=j:=Kb h;exact⟨by rw[MD h0 h1,e],by lia,by lia,h1⟩
  ·rw[kh h1] at h;cases h
 ·rw[kh h0] at h;by_cases h1 : -(n:Int)<=i
  ·rw[kj h1] at h;have e:(i+n).toNat=j:=Kb h;exact⟨by rw[seqIndex_neg (by lia) h1,e],by lia,h1,by lia⟩
  ·rw[kh h1] at h;cases h
theorem ZhQ {α:Type}{xs:List α}{i:Int}{v:α}(h:atI xs i=some v):∃j,seqIndex? i xs.length=some j/\xs[j]? = some v/\j<xs.length /\ -(xs.length:Int)<=i/\i<xs.length:=by
 unfold atI at h;cases e:ixN xs.length i with
 | none=>rw[e] at h;cases h
 | some j=>
  rw[e] at h;obtain⟨h1,h2,h3,h4⟩:=ZhO e;exact⟨j,h1,h,h2,h3,h4⟩
theorem Zn {α:Type}{xs:List α}{j:Nat}{v:α}(h:xs[j]? = some v):atI xs (j:Int)=some v:=by
 have hj:j<xs.length:=(kI.mp h).1;have e:ixN xs.length (j:Int)=some j:=by unfold ixN;rw[kj (by lia),kj (by lia)];simp
 unfold atI;rw[e];exact h
theorem Zbg {α:Type}(xs:List α)(v:α):atI (xs ++ [v]) (-1)=some v:=by
 have hl:(xs ++ [v]).length=xs.length+1:=by simp
 have e:ixN (xs ++ [v]).length (-1)=some xs.length:=by unfold ixN;rw[hl,kh (by decide),kj (by lia)];congr 1;lia
 unfold atI;rw[e];show (xs ++ [v])[xs.length]? = some v;simp
def ZlH (b:Expr):Prop:=∀o i,subscripted b false o i=operate [o,i] (getItem o i)
def IxR (X:Cx)(r:R2):Prop:=
 ∀(value slice:Expr)(pins:QC)(s:Shared)(σ:St)(H:Hp)(x y:V)(v u:Value)(Q:VK),Inv X pins σ H s->RelV x v->RelV y u->r x y H Q ->
  subscripted slice false v u=operate [v,u] (getItem v u)->wpAny (model X.prog X.w) X.A (subscriptTail value slice v u) (EP X pins σ Q) X.xe s
def MtR (X:Cx)(id:String)(r:V->List V->Hp->VK->Prop):Prop:=
 ∀(pins:QC)(s:Shared)(σ:St)(H:Hp)(x:V)(xs:QH)(v:Value)(us:QJ)(Q:VK),Inv X pins σ H s->RelV x v->Vals xs us->r x xs H Q ->
  wpAny (model X.prog X.w) X.A (call (.builtin id) (v::us)) (EP X pins σ Q) X.xe s
section
variable {X:Cx}{a b:Expr}{ta tb:TE}{pos:Pos}
theorem Zw {r:R2}(hr:IxR X r)(ha:PE X a ta)(hb:PE X b tb)(hs:ZlH b):PE X (.Subscript a b pos) (tOp r ta tb):=by intro pins s σ H Q I h;exact Subscript_ (Zm2 ha hb I h fun v u s2 x y H2 I2 rx ry q=>hr a b pins s2 σ H2 x y v u Q I2 rx ry q (hs _ _))
inductive ZnG(K:QF)(x y:V)(H:Hp)(Q:VK):Prop|mk(p xs i v)(_:x = .ref p)(_:y = .int i)(_:Zt K H p xs)(_:atI xs i=some v)(_:Q v H)
inductive Zdh(K:QF)(x y:V)(H:Hp)(Q:VK):Prop|mk(p xs i v)(_:x = .ref p)(_:y = .int i)(_:YJ K H p xs)(_:atI xs i=some v)(_:Q v H)
theorem Zmd:IxR X (ZnG X.K):=by
 intro value slice pins s σ H x y v u Q I rx ry h hs;obtain⟨p,xs,i,z,rfl,rfl,hq,he,q⟩:=h;cases rx;obtain⟨t,rfl⟩:=ry;obtain⟨its,r,pl,hz⟩:=I.list hq;obtain⟨j,h1,h2,h3,h4,h5⟩:=ZhQ he;obtain⟨w,ew,rw'⟩:=r.get h2;have hl:=r.length;have hn:=Zcx;have fin:EP X pins σ Q w s:=⟨z,H,I,rw',q⟩;by_cases h0:0<=i
 ·have hj:i.toNat=j:=by
   rw[MD h0 h5] at h1;exact Kb h1
  exact item_listR pl.isList h0 (by lia) (by rw[hj];simpa using ew) fin hs
 ·have hj:(i+(its.toArray.size:Int)).toNat=j:=by
   rw[seqIndex_neg (by lia) h4] at h1;rw[kF,<- hl];exact Kb h1
  exact subscriptTail_builtinR (x:=w) pl.isList.typeIs slot_list_getitem.lookup
   (wpAny_getItem_list_neg (Q:=fun r s'=>r=w/\EP X pins σ Q r s') pl.isList (by lia) (by rw[kF]<;>lia) (by lia) (by rw[hj];simpa using ew) ⟨rfl,fin⟩) hs
theorem ZnQ:IxR X (Zdh X.K):=by
 intro value slice pins s σ H x y v u Q I rx ry h hs;obtain⟨p,xs,i,z,rfl,rfl,hq,he,q⟩:=h;cases rx;obtain⟨t,rfl⟩:=ry;obtain⟨its,r,pl,hz⟩:=I.tuple hq;obtain⟨j,h1,h2,h3,h4,h5⟩:=ZhQ he;obtain⟨w,ew,rw'⟩:=r.get h2;have hl:=r.length;have hn:=Zcx;have fin:EP X pins σ Q w s:=⟨z,H,I,rw',q⟩;exact subscriptTail_builtinR (x:=w) pl.typeIs slot_tuple_getitem.lookup
  (getItem_tuple (j:=j) (Q:=fun r s'=>r=w/\EP X pins σ Q r s') pl (by lia) (by lia) (by rw[kF,<- hl];exact h1) (by simpa using ew) ⟨rfl,fin⟩) hs
theorem ZgA (its:QJ)(n j:Nat)(u:Value):Obj.mapSeq (·.setIfInBounds j u) { cls:=.type "list", data:=.seq its.toArray n } = { cls:=.type "list", data:=.seq (its.set j u).toArray n }:=by simp[Obj.mapSeq]
theorem Inv.lst {pins:QC}{σ:St}{H:Hp}{s:Shared}{p:Addr}{xs:QH}(I:Inv X pins σ H s)(h:H p=some (.lst xs)):
  ∃(its:QJ)(n:Nat),Vals xs its/\s.heap.get? p=some { cls:=.type "list", data:=.seq its.toArray n } /\ xs.length<=sizeLine:=by
 obtain⟨z,its,n,r,e⟩:=I.hok p _ h;exact⟨its,n,r,e,z⟩
theorem Inv.lstUpd {pins:QC}{σ:St}{H:Hp}{s:Shared}{p:Addr}{xs ys:QH}{its its':QJ}{n n':Nat}{f:Obj->Obj}(I:Inv X pins σ H s)(h:H p=some (.lst xs))
  (ho:s.heap.get? p=some { cls:=.type "list", data:=.seq its.toArray n }) (hf:f { cls:=.type "list", data:=.seq its.toArray n } = { cls:=.type "list", data:=.seq its'.toArray n' }) (r:Vals ys its') (hz:ys.length<=sizeLine) (t:Nat):
  Inv X pins σ (upd H p (.lst ys)) { s with heap:=s.heap.update p f,toks:=t }:=by
 have e:(s.heap.update p f).get? p=some { cls:=.type "list", data:=.seq its'.toArray n' }:=by rw[TJ f ho (by rw[hf]<;>rfl),hf]
 refine I.write (x:=p) (e:=p) (by rw[h];trivial) (.inl rfl) (fun b u hb q=>(qL _ _ (Kz hb)).trans q) ⟨_,e⟩ ?_;exact⟨hz,its',n',r,e⟩
inductive ZmC(o i v:V)(H:Hp)(Q:Hp->Prop):Prop|mk(p xs k j)(_:o = .ref p)(_:i = .int k)(_:H p=some (.lst xs))(_:ixN xs.length k=some j)(_:Q (upd H p (.lst (xs.set j v))))
theorem set_list:ZlK X ZmC:=by
 intro pins s σ H o i v ov iv u Q I ro ri rv h;obtain⟨p,xs,k,j,rfl,rfl,hp,hj,q⟩:=h;cases ro;obtain⟨t,rfl⟩:=ri;obtain⟨its,n,r,ho,hz⟩:=I.lst hp;obtain⟨h1,h2,h3,h4⟩:=ZhO hj;have hl:=r.length;have hn:=Zcx;have I':Inv X pins σ (upd H p (.lst (xs.set j v))) { s with heap:=s.heap.update p (Obj.mapSeq (·.setIfInBounds j u)) }:=
  I.lstUpd hp ho (ZgA its n j u) (r.set rv j) (by rw[KY];exact hz) s.toks
 by_cases h0:0<=k
 ·have hk:k.toNat=j:=by
   rw[MD h0 h4] at h1;exact Kb h1
  exact PySem.W.ki_setAt ho h0 (by lia) (by rw[kF,<- hl];exact h4) (by rw[hk];exact⟨_,I',q⟩)
 ·have hk:(k+(its.toArray.size:Int)).toNat=j:=by
   rw[seqIndex_neg (by lia) h3] at h1;rw[kF,<- hl];exact Kb h1
  exact PySem.W.ki_setBack ho (by lia) (by rw[kF,<- hl];exact h3) (by lia) (by rw[hk];exact⟨_,I',q⟩)
theorem Zej (lo hi:QW)(n:Nat):(sliceBounds lo hi none n).1=((HT.Jx n 0 lo:Nat):Int)/\(sliceBounds lo hi none n).2.1=((HT.Jx n n hi:Nat):Int)/\(sliceBounds lo hi none n).2.2=1:=by
 refine⟨?_,?_,rfl⟩
 ·cases lo with
  | none=>simp[sliceBounds,HT.Jx]
  | some i=>
   simp only[sliceBounds,HT.Jx,NZ,show (1:Int)>0 by decide,Tw];by_cases h:i<0
   ·simp only[h,Tw]<;>lia
   ·simp only[h,Xf]<;>lia
 ·cases hi with
  | none=>simp[sliceBounds,HT.Jx]
  | some i=>
   simp only[sliceBounds,HT.Jx,NZ,show (1:Int)>0 by decide,Tw];by_cases h:i<0
   ·simp only[h,Tw]<;>lia
   ·simp only[h,Xf]<;>lia
theorem Zdt (its:QJ)(lo hi:QW):slicePick its.toArray lo hi none=((its.drop (HT.Jx its.length 0 lo)).take (HT.Jx its.length its.length hi-HT.Jx its.length 0 lo)).toArray:=by obtain⟨h1,h2,h3⟩:=Zej lo hi its.toArray.size;unfold slicePick;rw[h1,h2,h3];simp only[sliceRange_one,pick_run,kF]<;>rfl
inductive Znk(K:QF)(x:V)(lo hi:QW)(H:Hp)(Q:VK):Prop|mk(a xs)(_:x = .ref a)(_:Zt K H a xs)(_:∀p,H p=none->Q (.ref p) (upd H p (.lst (GG xs lo hi))))
theorem Zmn:SlR X (Znk X.K):=by intro pins s σ H x v vl vu lo hi sl Q I rx hs pl pu h;obtain⟨a,xs,rfl,hx,q⟩:=h;cases rx;obtain⟨its,r,ht,hz⟩:=I.list hx;have hlen:=r.length;refine⟨"list", _,slot_list_getitem.lookup,ht.isList.typeIs,?_⟩;refine wpAny_getItem_list_slice ht.isList hs pl pu .none (by simp) ?_ (by rw[kF]<;>lia);rw[Zdt,<- hlen];refine⟨.ref s.heap.objs.size,_,I.laid (t':=s.toks) (o:=.lst (GG xs lo hi)) (fun b ob q=>ko _ q) (ki _) ?_,rfl,q _ (I.hok.fresh (ki _))⟩;exact⟨Kx (Zcd xs lo hi) hz,_,0,(r.drop (HT.Jx xs.length 0 lo)).take (HT.Jx xs.length xs.length hi-HT.Jx xs.length 0 lo),Km _ rfl⟩
def WO:V->Bool
 | .non=>true
 | .bl _=>true
 | .int _=>true
 | .str _=>true
 | _=>false
def eqV:V->V->Bool
 | .non,.non=>true
 | .bl a,.bl b=>a==b
 | .bl a,.int b=>(if a then 1 else 0)==b
 | .int a,.bl b=>a==(if b then 1 else 0)
 | .int a,.int b=>a==b
 | .str a,.str b=>a==b
 | _,_=>false
theorem Zjt {A:Around}{s:Shared}{y x:V}{u v:Value}(ry:RelV y u)(rx:RelV x v)(fy:WO y=true)(fx:WO x=true):SeqAt.EqAt A s u v (eqV y x):=by
 cases y with
 | non=>
  cases ry;cases x with
  | non=>cases rx;exact T6 _
  | bl b=>cases rx;exact SeqAt.EqAt.none_bool b
  | int b=>obtain⟨t,rfl⟩:=rx;exact SeqAt.EqAt.none_int b t
  | str b=>obtain⟨t,rfl⟩:=rx;exact SeqAt.EqAt.none_str b t
  | _=>exact absurd (show false=true from fx) k8
 | bl a=>
  cases ry;cases x with
  | non=>cases rx;exact SeqAt.EqAt.bool_none a
  | bl b=>cases rx;exact SeqAt.EqAt.bool_bool a b
  | int b=>obtain⟨t,rfl⟩:=rx;exact SeqAt.EqAt.bool_int a b t
  | str b=>obtain⟨t,rfl⟩:=rx;exact SeqAt.EqAt.bool_str a b t
  | _=>exact absurd (show false=true from fx) k8
 | int a=>
  obtain⟨t',rfl⟩:=ry;cases x with
  | non=>cases rx;exact SeqAt.EqAt.int_none a t'
  | bl b=>cases rx;exact SeqAt.EqAt.int_bool a t' b
  | int b=>obtain⟨t,rfl⟩:=rx;exact SeqAt.EqAt.int_int a t' b t
  | str b=>obtain⟨t,rfl⟩:=rx;exact SeqAt.EqAt.int_str a t' b t
  | _=>exact absurd (show false=true from fx) k8
 | str a=>
  obtain⟨t',rfl⟩:=ry;cases x with
  | non=>cases rx;exact SeqAt.EqAt.str_none a t'
  | bl b=>cases rx;exact SeqAt.EqAt.str_bool a t' b
  | int b=>obtain⟨t,rfl⟩:=rx;exact SeqAt.EqAt.str_int a t' b t
  | str b=>obtain⟨t,rfl⟩:=rx;exact SeqAt.EqAt.str_str a t' b t
  | _=>exact absurd (show false=true from fx) k8
 | _=>exact absurd (show false=true from fy) k8
def eqU (x:V)(u:Value):Bool:=match u with
 | .none=>eqV .non x
 | .bool b=>eqV (.bl b) x
 | .int i _=>eqV (.int i) x
 | .str z _=>eqV (.str z) x
 | _=>false
theorem ZgF {x y:V}{u:Value}(r:RelV y u)(f:WO y=true):eqU x u=eqV y x:=by
 cases y with
 | non=>cases r;rfl
 | bl b=>cases r;rfl
 | int i=>obtain⟨t,rfl⟩:=r;rfl
 | str z=>obtain⟨t,rfl⟩:=r;rfl
 | _=>exact absurd (show false=true from f) k8
theorem Zeh {x:V}:∀{xs:QH}{us:QJ},Vals xs us->xs.all WO=true->us.any (eqU x)=xs.any fun y=>eqV y x
 | _,_,.nil,_=>rfl
 | y::xs,u::us,.cons r t,f=>by rw[M7,KQ] at f;rw[qQ,qQ,ZgF r f.1,Zeh t f.2]
theorem Zbo {A:Around}{s:Shared}{x:V}{v:Value}(rx:RelV x v)(fx:WO x=true):∀{xs:QH}{us:QJ},Vals xs us->xs.all WO=true -> ∀u∈us,SeqAt.EqAt A s u v (eqU x u)
 | _,_,.nil,_=>fun u hu=>by cases hu
 | y::xs,u::us,.cons r t,f=>fun u' hu=>by
  rw[M7,KQ] at f;rcases kP.mp hu with rfl | hu
  ·rw[ZgF r f.1];exact Zjt r rx f.1 fx
  ·exact Zbo rx fx t f.2 u' hu
def inV (x:V)(xs:QH):Bool:=xs.any fun y=>eqV y x
inductive rIn(K:QF)(neg:Bool)(x y:V)(H:Hp)(Q:VK):Prop|mk(p xs)(_:y = .ref p)(_:Zt K H p xs∨YJ K H p xs)(_:WO x=true)(_:xs.all WO=true)(_:Q (.bl (if neg then !inV x xs else inV x xs)) H)
theorem ZeZ:UN X (compareOp .NotIn) (rIn X.K true):=by
 intro pins s σ H x y v u Q I rx ry h;obtain⟨p,xs,rfl,hq,fx,fs,q⟩:=h;cases ry;rcases hq with hq | hq
 ·obtain⟨its,r,pl,hz⟩:=I.list hq;refine SeqAt.notIn_listAt (eqU x) pl.isList (fun w hw=>Zbo rx fx r fs w (by simpa using hw)) ⟨.bl _,H,I,rfl,?_⟩;rw[show its.toArray.any (eqU x)=its.any (eqU x) by simp,Zeh r fs];exact q
 ·obtain⟨its,r,pl,hz⟩:=I.tuple hq;refine SeqAt.notIn_tupleAt (eqU x) pl (fun w hw=>Zbo rx fx r fs w (by simpa using hw)) ⟨.bl _,H,I,rfl,?_⟩;rw[show its.toArray.any (eqU x)=its.any (eqU x) by simp,Zeh r fs];exact q
inductive ZjH(K:QF)(xs:QH)(H:Hp)(Q:VK):Prop|mk(p ys)(_:xs = [.ref p])(_:Zt K H p ys∨YJ K H p ys)(_:Q (.int ys.length) H)
theorem Zes:Y6 X (.builtin "len") (ZjH X.K):=by
 intro pins s σ H xs us Q I r h;obtain⟨p,ys,rfl,hq,q⟩:=h;obtain⟨u,rfl,rx⟩:=vals1 r;cases rx;have hn:=Zcx;rcases hq with hq | hq
 ·obtain⟨its,r',pl,hz⟩:=I.list hq;have hlen:=r'.length;exact Calls.call_len_list pl.isList (by simp only[kF]<;>lia) ⟨.int ys.length,H,I.tok _,⟨s.toks+1,by rw[kF,hlen]⟩,q⟩
 ·obtain⟨its,r',pl,hz⟩:=I.tuple hq;have hlen:=r'.length;exact len_tuple pl (by simp only[kF]<;>lia) ⟨.int ys.length,H,I.tok _,⟨s.toks+1,by rw[kF,hlen]⟩,q⟩
inductive Za9(K:QF)(xs:QH)(H:Hp)(Q:VK):Prop|mk(p ys)(_:xs = [.ref p])(_:Zt K H p ys∨YJ K H p ys)(_:∀l,H l=none->Q (.ref l) (upd H l (.lst ys)))
theorem Ze1:Y6 X (.type "list") (Za9 X.K):=by
 intro pins s σ H xs us Q I r h;obtain⟨p,ys,rfl,hq,q⟩:=h;obtain⟨u,rfl,rx⟩:=vals1 r;cases rx;have fin:∀(its:QJ),Vals ys its->ys.length<=sizeLine -> ∀(h':Heap)(c':Nat),(∀b o',s.heap.get? b=some o'->h'.get? b=some o') ->
   h'.get? s.heap.objs.size=some { cls:=.type "list", dict:=none,data:=.seq its.toArray c',slots:=#[] } -> EP X pins σ Q (.ref s.heap.objs.size) { s with heap:=h' }:=fun its r' hz h' c' kp e=>
  ⟨.ref s.heap.objs.size,_,I.laid (t':=s.toks) kp (ki _) (show ZR X.prog X.w _ h' _ (.lst ys) from⟨hz,its,c',r',e⟩),rfl,q _ (I.hok.fresh (ki _))⟩
 rcases hq with hq | hq
 ·obtain⟨its,r',pl,hz⟩:=I.list hq;have hlen:=r'.length;obtain⟨o,ho,hc,n,hd⟩:=pl.isList;exact call_list_seq p (.inl rfl) ho hc hd (fun h' c' kp e=>fin its r' hz h' c' kp e) (by simp only[kF]<;>lia)
 ·obtain⟨its,r',pl,hz⟩:=I.tuple hq;have hlen:=r'.length;obtain⟨o,ho,hc,n,hd⟩:=pl;exact call_list_seq p (.inr rfl) ho hc hd (fun h' c' kp e=>fin its r' hz h' c' kp e) (by simp only[kF]<;>lia)
inductive Zk1(K:QF)(xs:QH)(H:Hp)(Q:VK):Prop|mk(p ys)(_:xs = [.ref p])(_:(Zt K H p ys /\ ∀l,H l=none->Q (.ref l) (upd H l (.tup ys)))∨(YJ K H p ys/\Q (.ref p) H))
theorem Zdj:Y6 X (.type "tuple") (Zk1 X.K):=by
 intro pins s σ H xs us Q I r h;obtain⟨p,ys,rfl,h⟩:=h;obtain⟨u,rfl,rx⟩:=vals1 r;cases rx;rcases h with⟨hq,q⟩ | ⟨hq,q⟩
 ·obtain⟨its,r',pl,hz⟩:=I.list hq;have hlen:=r'.length;refine call_tuple_list pl.isList (fun h' kp=>?_) (by simp only[kF]<;>lia);have I1:Inv X pins σ H { s with heap:=h' }:=I.kept (t':=s.toks) kp;have I2:Inv X pins σ (upd H h'.objs.size (.tup ys)) { s with heap:=h'.push { cls:=.type "tuple", data:=.seq its.toArray } }:=
   I1.laid (t':=s.toks) (fun b o e=>ko _ e) (ki _) (show ZR X.prog X.w _ _ _ (.tup ys) from⟨hz,its,r',IsTup.new _ _⟩)
  exact⟨.ref h'.objs.size,_,I2,rfl,q _ (I1.hok.fresh (ki _))⟩
 ·obtain⟨its,r',pl,hz⟩:=I.tuple hq;exact call_tuple_same pl ⟨.ref p,H,I,rfl,q⟩
def tyV (K:QF)(T:String)(x:V)(H:Hp):Prop:=match x with
 | .str _=>T = "str"
 | .int _=>T = "int"
 | .ref p=>(T = "list" /\ ∃xs,Zt K H p xs)∨(T = "tuple" /\ ∃o,K.lookup p=some o/\o.cls = .type "tuple" /\ o.dict=none) ∨
   (T = "dict" /\ ((∃kvs,H p=some (.dK kvs)) ∨ ∃kvs,H p=some (.dT kvs)))∨(T = "set" /\ ∃S n,H p=some (.set S n))
 | _=>False
theorem ZnP {pins:QC}{σ:St}{H:Hp}{s:Shared}{T:String}{x:V}{v:Value}(I:Inv X pins σ H s)(r:RelV x v)(ty:tyV X.K T x H):
  s.TypeIs v T /\ ∀a,v = .ref a -> ∃ob,s.heap.get? a=some ob/\ob.dict=none:=by
 cases x with
 | str z=>
  obtain⟨t,rfl⟩:=r;cases (show T = "str" from ty);exact⟨typeIs_str s z t,fun _ e=>nomatch e⟩
 | int i=>
  obtain⟨t,rfl⟩:=r;cases (show T = "int" from ty);exact⟨Lj s i t,fun _ e=>nomatch e⟩
 | ref p=>
  cases r;rcases ty with⟨rfl,xs,hq⟩ | ⟨rfl,o,hk,hc,hd⟩ | ⟨rfl,hk⟩ | ⟨rfl,S,n,hk⟩
  ·obtain⟨its,_,pl,_⟩:=I.list hq;refine⟨pl.isList.typeIs,fun a e=>?_⟩;cases e;obtain⟨o,n,e,c,hd,_⟩:=pl;exact⟨o,e,hd⟩
  ·refine⟨⟨o,I.kIn p o hk,hc⟩,fun a e=>?_⟩;cases e;exact⟨o,I.kIn _ o hk,hd⟩
  ·have z:∃o,s.heap.get? p=some o/\o.ExactDict:=by
    rcases hk with⟨kvs,hk⟩ | ⟨kvs,hk⟩
    ·obtain⟨_,_,_,_,o,_,_,e,ex,_⟩:=I.hok p _ hk;exact⟨o,e,ex⟩
    ·obtain⟨_,_,_,_,o,_,_,e,ex,_⟩:=I.hok p _ hk;exact⟨o,e,ex⟩
   obtain⟨o,e,ex⟩:=z;refine⟨⟨o,e,ex.1⟩,fun a e2=>?_⟩;cases e2;exact⟨o,e,ex.2.1⟩
  ·obtain⟨o,_,_,_,e,ex,_⟩:=I.hok p _ hk;refine⟨⟨o,e,ex.1⟩,fun a e2=>?_⟩;cases e2;exact⟨o,e,ex.2.1⟩
 | _=>exact False.elim ty
inductive ZpE (K:QF)(T:String)(r:V->List V->Hp->VK->Prop)(t:TA)(σ:St)(Q:VK)(x:V)(H1:Hp):Prop | mk (h:tyV K T x H1) (q:t σ H1 fun xs H2=>r x xs H2 Q)
def tBM (K:QF)(T:String)(r:V->List V->Hp->VK->Prop)(to:TE)(t:TA):TE:=fun σ H Q=>to σ H fun x H1=>ZpE K T r t σ Q x H1
variable {o e:Expr}{es:QV}{to:TE}{t:TA}{name:Str}{apos cpos:Pos}{T id:String}{r:V->List V->Hp->VK->Prop}
theorem YT (pa:PlainAttrs T)(slot:Slot T name id)(hty:typeOf (.builtin id)=pure (.type "method_descriptor"))(hm:MtR X id r)(ho:PE X o to)(ha:PA X (e::es) t)
  (hbase:attributeBase o name X.env (eval o X.env)=eval o X.env:=by rfl)
  (hfew:((backTo cpos (starEach (e::es) X.env)).all (fun x=>!x.1)&&(backToKw cpos (keywordEach [] X.env)).all (fun x=>x.1.isSome)
   && decide ((e::es).length+([]:List Keyword).length+(if ([]:List Keyword).isEmpty then 0 else 1)<30))=true:=by rfl)
  (hline:(apos.endLine==cpos.line)=true:=by rfl) (hs:starEach (e::es) X.env=(false,eval e X.env)::starEach es X.env:=by rfl) (hplain:(backTo cpos (starEach es X.env)).any (·.1)=false:=by rfl):
  PE X (.Call (.Attribute o name apos) (e::es) [] cpos) (tBM X.K T r to t):=by
 intro pins s σ H Q I h;refine wpAny_Call_method_late hbase hfew hline rfl (Yz (ho pins s σ H _ I h) fun v s1 ⟨x,H1,I1,r1,ty,q1⟩=>?_);obtain⟨h1,h2⟩:=ZnP I1 r1 ty;refine⟨T,id,pa,slot,hty,h1,h2,?_⟩;have hA:=ha cpos pins s1 σ H1 _ I1 q1;rw[hs] at hA ⊢;refine qM (by show (false||(backTo cpos (starEach es X.env)).any (·.1))=false;rw[hplain]<;>rfl) (Xo ?_);exact Yz hA fun us s2 ⟨vs,H2,I2,r2,q2⟩=>hm pins s2 σ H2 x vs v us Q I2 r1 r2 q2
end
def MtM (X:Cx)(id:String)(r:V->List V->Hp->VK->Prop):Prop:=
 ∀(pins:QC)(s:Shared)(σ:St)(H:Hp)(x:V)(xs:QH)(v:Value)(us:QJ)(Q:VK),Inv X pins σ H s->RelV x v->Vals xs us->r x xs H Q ->
  wpAny (model X.prog X.w) X.A (call (.builtin id) (v::us)) (EP X pins σ Q) X.xe s
theorem Vals.one:∀{x:V}{us:QJ},Vals [x] us -> ∃u,us = [u]/\RelV x u
 | _,_,.cons r .nil=>⟨_,rfl,r⟩
theorem Vals.two:∀{x y:V}{us:QJ},Vals [x,y] us -> ∃u v,us = [u,v]/\RelV x u/\RelV y v
 | _,_,_,.cons r (.cons q .nil)=>⟨_,_,rfl,r,q⟩
theorem Vals.eraseIdx:∀{xs:QH}{us:QJ}(i:Nat),Vals xs us->Vals (xs.eraseIdx i) (us.eraseIdx i)
 | _,_,_,.nil=>.nil
 | _,_,0,.cons _ t=>t
 | _,_,i+1,.cons r t=>.cons r (Vals.eraseIdx i t)
theorem Vals.rep {xs:QH}{us:QJ}(h:Vals xs us):∀k:Nat,Vals (List.replicate k xs).flatten (List.replicate k us).flatten
 | 0=>.nil
 | k+1=>by rw[Xr,Xr,Ku,Ku];exact Vals.append h (Vals.rep h k)
theorem ZdZ {α:Type}:∀(l:List α)(i:Nat),(l.eraseIdx i).length<=l.length
 | [],_=>ki _
 | _::_,0=>qR _
 | _::r,i+1=>N0 (ZdZ r i)
theorem foldl_rep (its:QJ):∀(k:Nat)(acc:QJ),
  List.foldl (fun x1 x2=>x1++x2) acc.toArray (List.replicate k its.toArray)=(acc++(List.replicate k its).flatten).toArray
 | 0,acc=>by simp
 | k+1,acc=>by
  have e:acc.toArray++its.toArray=(acc++its).toArray:=by simp
  have e2:(acc++its)++(List.replicate k its).flatten=acc++(List.replicate (k+1) its).flatten:=by rw[Xr,Ku,kJ]
  rw[<- e2,<- foldl_rep its k (acc++its),<- e,Xr,List.foldl_cons]
section
variable {X:Cx}{pins:QC}{σ:St}{H:Hp}{s:Shared}{l b:Addr}{xs ys zs:QH}
theorem Inv.lset {its its':QJ}{n:Nat}{f:Array Value->Array Value}{t':Nat}(I:Inv X pins σ H s)(hH:H l=some (.lst xs))
  (e:s.heap.get? l=some { cls:=.type "list", data:=.seq its.toArray n }) (hf:f its.toArray=its'.toArray) (hv:Vals ys its') (hz:ys.length<=sizeLine):
  Inv X pins σ (upd H l (.lst ys)) { s with heap:=s.heap.update l (Obj.mapSeq f),toks:=t' }:=by
 have q:=PySem.IsL.update e f;rw[hf] at q;refine I.write (x:=l) (e:=l) (by rw[hH];exact trivial) (.inl rfl) (fun b' u hb hu=>(qL s.heap (Obj.mapSeq f) (Kz hb)).trans hu) ⟨_,q⟩ ?_;exact⟨hz,its',_,hv,q⟩
theorem Inv.lnew {its:QJ}{t':Nat}(I:Inv X pins σ H s)(hv:Vals ys its)(hz:ys.length<=sizeLine):
  Inv X pins σ (upd H s.heap.objs.size (.lst ys)) { s with heap:=s.heap.push { cls:=.type "list", data:=.seq its.toArray },toks:=t' }:=
 I.laid (fun _ _ q=>ko _ q) (ki _) ⟨hz,its,0,hv,Km _ rfl⟩
theorem Inv.fresh (I:Inv X pins σ H s):H s.heap.objs.size=none:=I.hok.fresh (ki _)
theorem Inv.lstM (I:Inv X pins σ H s)(hH:H l=some (.lst xs)):xs.length<=sizeLine /\ ∃(its:QJ)(n:Nat),Vals xs its/\xs.length=its.length/\s.heap.get? l=some { cls:=.type "list", data:=.seq its.toArray n }:=by obtain⟨z,its,n,r,e⟩:=I.hok l _ hH;exact⟨z,its,n,r,r.length,e⟩
theorem ZcV {n:Nat}(h:n<=sizeLine):Builtin.List.listTooLong n=false:=by unfold Builtin.List.listTooLong;exact Ki (by lia)
end
section
variable {X:Cx}
inductive Zhn(x:V)(vs:QH)(H:Hp)(Q:VK):Prop|mk(l xs y)(_:x = .ref l)(_:vs = [y])(_:H l=some (.lst xs))(_:xs.length<sizeLine)(_:Q .non (upd H l (.lst (xs ++ [y]))))
theorem ZW:MtM X "list.append" Zhn:=by intro pins s σ H x vs v us Q I rx rv h;obtain⟨l,xs,y,rfl,rfl,hH,hz,q⟩:=h;cases rx;obtain⟨u,rfl,ru⟩:=rv.one;obtain⟨z,its,n,r,hl,e⟩:=I.lstM hH;refine Ti F.slot_list_append ⟨_,e,rfl⟩ F.entry_list_append (F.args_list_append_2 _ _) (PySem.list_append l its.toArray n u (by rw[kF];lia)) ⟨e,?_⟩;refine⟨.non,_,I.lset (its':=its ++ [u]) hH e (by simp) (r.append (.cons ru .nil)) ?_,rfl,q⟩;rw[kg,Ks];lia
inductive Zku(x:V)(vs:QH)(H:Hp)(Q:VK):Prop|mk(l xs i k y)(_:x = .ref l)(_:vs = [.int i])(_:H l=some (.lst xs))(_:-(2 ^ 63)<=i)(_:i<2 ^ 63)(_:seqIndex? i xs.length=some k)(_:xs[k]? = some y)(_:Q y (upd H l (.lst (xs.eraseIdx k))))
theorem ZcX:MtM X "list.pop" Zku:=by
 intro pins s σ H x vs v us Q I rx rv h;obtain⟨l,xs,i,k,y,rfl,rfl,hH,h1,h2,hk,hy,q⟩:=h;cases rx;obtain⟨u,rfl,ru⟩:=rv.one;obtain⟨t,rfl⟩:=ru;obtain⟨z,its,n,r,hl,e⟩:=I.lstM hH;obtain⟨w,hw,rw'⟩:=r.get hy;refine Ti F.slot_list_pop ⟨_,e,rfl⟩ F.entry_list_pop (F.args_list_pop_2 _ _)
  (MeetsSeq.list_pop_at l its.toArray n i t k w (fitsIndex_both h1 h2) (by rw[kF,<- hl];exact hk) (by rw[<- Ko];exact hw) (by rw[kF];lia)) ⟨e,?_⟩
 refine⟨y,_,I.lset (its':=its.eraseIdx k) hH e ?_ (r.eraseIdx k) ?_,rw',q⟩
 ·show its.toArray.eraseIdxIfInBounds k=(its.eraseIdx k).toArray;rw[List.eraseIdxIfInBounds_toArray]
 ·have:=ZdZ xs k;lia
inductive ZlP(x y:V)(H:Hp)(Q:VK):Prop|mk(l b xs zs)(_:x = .ref l)(_:y = .ref b)(_:H l=some (.lst xs))(_:H b=some (.lst zs))(_:xs.length+zs.length<=sizeLine)(_:∀p,H p=none->Q (.ref p) (upd H p (.lst (xs++zs))))
theorem Gj:UN X (binaryOp .Add) ZlP:=by
 intro pins s σ H x y v u Q I rx ry h;obtain⟨l,b,xs,zs,rfl,rfl,hH,hB,hz,q⟩:=h;cases rx;cases ry;obtain⟨z,its,n,r,hl,e⟩:=I.lstM hH;obtain⟨z2,its2,n2,r2,hl2,e2⟩:=I.lstM hB;refine PySem.P.add_list e e2 ?_ (by rw[kF,kF];lia);have ea:its.toArray++its2.toArray=(its++its2).toArray:=by simp
 rw[ea];exact⟨.ref _,_,I.lnew (t':=s.toks) (r.append r2) (by rw[kg];lia),rfl,q _ I.fresh⟩
inductive ZlZ(x y:V)(H:Hp)(Q:VK):Prop|mk(l k xs)(_:x = .ref l)(_:y = .int k)(_:H l=some (.lst xs))(_:-(2 ^ 63)<=k)(_:k<2 ^ 63)(_:xs.length*k.toNat<=sizeLine)(_:∀p,H p=none->Q (.ref p) (upd H p (.lst (List.replicate k.toNat xs).flatten)))
theorem len_rep {α:Type}(xs:List α)(k:Nat):(List.replicate k xs).flatten.length=k*xs.length:=by
 induction k with
 | zero=>simp
 | succ k ih=>rw[Xr,Ku,kg,ih,Nat.succ_mul,Nat.add_comm]
theorem ZaM:UN X (binaryOp .Mult) ZlZ:=by
 intro pins s σ H x y v u Q I rx ry h;obtain⟨l,k,xs,rfl,rfl,hH,h1,h2,hz,q⟩:=h;cases rx;obtain⟨t,rfl⟩:=ry;obtain⟨z,its,n,r,hl,e⟩:=I.lstM hH;have hlen:its.toArray.size*k.toNat<=sizeLine:=by rw[kF,<- hl];exact hz
 have hcap:¬its.toArray.size*k.toNat>(2 ^ 63-1) / 8:=by
  have:(sizeLine:Nat)<=(2 ^ 63-1) / 8:=by decide
  lia
 have hfit:¬(!Builtin.List.listFitsIndex k)=true:=by rw[fitsIndex_both h1 h2];exact k8
 have hlong:¬Builtin.List.listTooLong (its.toArray.size*k.toNat)=true:=by rw[ZcV hlen];exact k8
 have hnew:List.foldl (fun x1 x2=>x1++x2) #[] (List.replicate (if its.toArray.isEmpty=true then 0 else k.toNat) its.toArray)=(List.replicate k.toNat its).flatten.toArray:=by
  have f0:∀m:Nat,List.foldl (fun x1 x2=>x1++x2) #[] (List.replicate m its.toArray)=(List.replicate m its).flatten.toArray:=fun m=>by have:=foldl_rep its m [];rw[qX] at this;exact this
  rw[f0];cases its with
  | nil=>simp
  | cons a r'=>rw[kh (by simp)]
 refine wpAny_binaryOp_repeat_ref (T := "list") (U := "int") (by decide) ⟨_,e,rfl⟩ (fun s'=>Lj s' k t) noFill_list_mul F.fills_int_mul F.slot_int_rmul repeat_list F.slot_int_index.lookup
  (Ti F.slot_int_rmul (Lj s k t) F.entry_int_rmul (F.args_int_rmul_2 _ _) (int___rmul___int_list k t l its.toArray n)
   ⟨e,rfl,⟨_,e,rfl⟩,Ti F.slot_list_mul ⟨_,e,rfl⟩ F.entry_list_mul (F.args_list_mul_2 _ _) (AutoListH.list___mul___list_int_3 l its.toArray n k t hfit hcap hlong) ⟨e,?_⟩⟩)
 rw[hnew];exact⟨.ref _,_,I.lnew (t':=s.toks) (r.rep k.toNat) (by rw[len_rep,Nat.mul_comm];exact hz),rfl,q _ I.fresh⟩
end
section
variable {prog:Program}{w:World}{A:Around}{E:QE}{s:Shared}
theorem ZiF (its its2:QJ)(a c:Nat):its.toArray.extract 0 a++its2.toArray++its.toArray.extract c its.toArray.size=(its.take a++its2++its.drop c).toArray:=by
  apply Array.toList_inj.mp
  first
    | (simp
       exact kK (by simp))
    | simp[kK]
    | simp
theorem Zcu {a c n:Nat}(hac:a<=c)(hc:c<=n):sliceBounds (some (a:Int)) (some (c:Int)) none n=((a:Int),(c:Int),1):=by
 simp only[sliceBounds,NZ];have h1:¬((a:Int)<0):=by lia
 have h2:¬((c:Int)<0):=by lia
 simp only[h1,h2,Xf,show (1:Int)>0 by decide,Tw];congr 1
 ·lia
 ·congr 1;lia
set_option maxRecDepth 100000 in
theorem Zdl {l b sl:Addr}{items new:QY}{n n2:Nat}{vl vu:Value}{a c:Nat}{Q:Unit->Shared->Prop}
    (e:s.heap.get? l=some { cls:=.type "list", data:=.seq items n }) (e2:s.heap.get? b=some { cls:=.type "list", data:=.seq new n2 }) (hne:l≠b)
    (hs:s.heap.IsSliceOf sl vl vu .none) (pl:IsPart vl (some (a:Int))) (pu:IsPart vu (some (c:Int))) (hac:a<=c) (hc:c<=items.size)
    (hsz:items.size+new.size<=sizeLine) (h:Q () { s with heap:=s.heap.update l (Obj.mapSeq fun xs=>xs.extract 0 a++new++xs.extract c xs.size) }):
    wpAny (model prog w) A (setItem (.ref l) (.ref sl) (.ref b)) Q E s:=by
  have hl:s.heap.IsList l items:=N1 e;have hb:s.heap.IsList b new:=N1 e2;obtain⟨os,hos,hcs,hds⟩:=id hs;have hTs:s.TypeIs (.ref sl) "slice" := ⟨os,hos,hcs⟩;have hstep:¬((rawPart none==rawInt 0)=true):=k8;have hsame:Builtin.List.listSameRef (.ref l) (.ref b)=false:=by unfold Builtin.List.listSameRef;exact qB.mpr hne
  have hmax:(max (a:Int) (c:Int)).toNat=c:=by lia
  have hz':((fun xs:QY=>xs.extract 0 a++new++xs.extract c xs.size) items).size<=sizeLine+1:=by simp only[Array.size_append,Array.size_extract];lia
  unfold setItem
  try with_reducible refine KJ ?_
  first | refine ka (km ?_) | skip
  refine ka (NF hl.typeIs (by decide) ?_);refine ka (qJ (name:=Str.ofString "__setitem__") hl.typeIs slot_list_setitem
    (K1 slot_list_setitem hl.typeIs entry_list_setitem ?_ (args_list_setitem _ _ _)))
  show wpAny _ _ (Builtin.List.listSubscript? (.ref sl) >>= _) _ _ s;refine ka ?_;unfold Builtin.List.listSubscript?;refine ka (Xk hTs slice_no_index ?_);simp only[Lk,Tw];refine km ?_;show wpAny _ _ (typeOf (.ref sl) >>= _) _ _ s;refine ka (qG hTs ?_)
  first
    | rw[kh (by decide)]
    | refine Tj (by decide) ?_
  rw[listSliceParts_eq];refine ka (ka (qq hos hds (x:=.none) rfl (ka (XW .none ?_))));rw[kh hstep];refine ka (qq hos hds (x:=vl) rfl (ka (XW pl ?_)));refine ka (qq hos hds (x:=vu) rfl (ka (XW pu (km ?_))))
  first
    | simp only[hsame,qe,Xf]
    | refine Tj hsame ?_
    | (dsimp only
       rw[kh (by rw[hsame];exact k8)])
  refine ka (m:=Builtin.List.listAllItems (.ref b) "must assign iterable to extended slice") ?_;unfold Builtin.List.listAllItems;refine ka (qG hb.typeIs ?_)
  first
    | refine PySem.W.KFB.if_so (by decide) ?_
    | rw[kj (by decide)]
    | simp only[beq_self_eq_true,Mk,Tw]
  unfold Builtin.List.listItems;refine ka (Xs e2 rfl (km ?_));refine ka (ka (Xs e rfl (km ?_)));refine ka (ME ((sliceIndices_raw (some (a:Int)) (some (c:Int)) none items.size (by simp)).trans (Ky (pure:Int×Int×Int->Sem (Int×Int×Int)) (Zcu hac hc))) ?_);show wpAny _ _ (if ((1:Int)==1)=true then _ else _) _ _ s;rw[kj (by decide)];refine ka (qC ?_)
  first
    | simp only[ZcV hsz,qe,Xf]
    | refine Tj (ZcV hsz) ?_
  first | refine ka (km ?_) | skip
  show wpAny _ _ (updateSeq l (fun xs=>xs.extract 0 ((a:Int)).toNat++new++xs.extract (max (a:Int) (c:Int)).toNat xs.size) >>= _) _ _ s;rw[hmax,kX];refine ka (wpAny_updateSeq (hz:=Kx (N2 _ _) hsz) (_hz':=hz') e rfl ?_);refine ka (wpAny_letGo ?_)
  first
    | exact ka (km (km ⟨.none,rfl,km h⟩))
    | exact km ⟨.none,rfl,km h⟩
end
section
variable {X:Cx}
theorem ZiK {pins:QC}{s:Shared}{σ:St}{H:Hp}{l b sl:Addr}{xs ys:QH}{a c:Int}{vl vu:Value}{Q:Unit->Shared->Prop}(I:Inv X pins σ H s)
  (hH:H l=some (.lst xs)) (hB:H b=some (.lst ys)) (hne:l≠b) (hs:s.heap.IsSliceOf sl vl vu .none) (ra:RelV (.int a) vl) (rc:RelV (.int c) vu) (h0:0<=a) (hac:a<=c) (hc:c<=xs.length)
  (hz:xs.length+ys.length<=sizeLine) (h:∀s',Inv X pins σ (upd H l (.lst (xs.take a.toNat++ys++xs.drop c.toNat))) s'->Q () s'):
  wpAny (model X.prog X.w) X.A (setItem (.ref l) (.ref sl) (.ref b)) Q X.xe s:=by
 obtain⟨ta,rfl⟩:=ra;obtain⟨tc,rfl⟩:=rc;obtain⟨z,its,n,r,hl,e⟩:=I.lstM hH;obtain⟨z2,its2,n2,r2,hl2,e2⟩:=I.lstM hB;obtain⟨a',rfl⟩:=kT h0;obtain⟨c',rfl⟩:=kT (LS h0 hac);simp only[kX] at h;refine Zdl (a:=a') (c:=c') e e2 hne hs (.int _ _) (.int _ _) (by lia) (by rw[kF];lia) (by rw[kF,kF];lia) (h _ ?_);refine I.lset (its':=its.take a'++its2++its.drop c') (t':=s.toks) hH e ?_ (Vals.append (Vals.append (r.take _) r2) (r.drop _)) ?_
 ·exact ZiF its its2 a' c'
 ·rw[kg,kg,kL,KU];lia
end
end L2
namespace Att
open PySem PySem.W PySem.Calls PyProof.Rows
theorem Zcg {P:Params}{h:Heap}:∀(ns:QG)(vs:QJ),WellAll P h vs (ns.map WData.int)->IntsAre vs ns:=by
 intro ns
 induction ns with
 | nil=>
  intro vs w;rw[Ml] at w;cases w;exact .nil
 | cons n ns ih=>
  intro vs w;rw[kH] at w;cases w with
  | cons a b=>
   cases a;exact .cons _ _ (ih _ b)
theorem ZiT {l:OpenLaw}{n:Nat}(hn:l.most=some n){P:Params}{h:Heap}{args:List WData}{vals:QJ}
  (hpre:l.row.toRowW.claim.pre args=true) (hwl:WellAll P h vals args):
  ∃a vs ns,vals = [Value.ref a]/\args = [WData.list (ns.map WData.int)]/\h.get? a=some { cls:=.type "list", data:=.seq vs.toArray } /\ IntsAre vs ns/\ns.length<=n:=by
 have hsh:WShape.hasAll [] args [.list .int]=true:=(pre_splitW hpre).1;have hc:l.pre.holds [] { args:=args } = true:=(pre_splitW hpre).2;obtain⟨d,r,rfl,h1,h2⟩:=hasAllW_cons hsh;obtain rfl:=hasAllW_nil h2;obtain⟨xs,rfl,h3⟩:=hasW_list h1;obtain⟨ns,rfl⟩:=items_int h3;have hlen:ns.length<=n:=by
  unfold OpenLaw.pre at hc;have h4:(WTm.not (.lt (.lit (.int (n:Int))) (.len (.arg 0)))).holds [] { args:=[.list (ns.map .int)] } = true:=by have h4:=(holds_andW hc).1;rw[hn] at h4;exact h4
  have h5:=condW_of h4 (w_not (w_lt w_lit (w_len_list (w_arg rfl))));rw[ke] at h5;refine N3 fun q=>?_;have q':(n:Int)<((ns.length:Nat):Int):=by lia
  first
   | (rw[kM q'] at h5;exact absurd h5 (by decide))
   | (simp at h5;lia)
 cases hwl with
 | cons w1 w2=>
  cases w2;cases w1 with
  | list ho hall=>exact⟨_,_,ns,rfl,rfl,ho,Zcg ns _ hall,hlen⟩
theorem Zit (l:OpenLaw)(args:List WData):l.row.toRowW.claim.post args (.bool true) args=true:=
 postW_of (r:=l.row.toRowW) (X:=(true==true))
  (show WShape.has [] (.bool true) .bool=true by first | rfl | decide | simp[WShape.has,WShape.arms,WShape.armsAll])
  (show (WTm.eq .res (.lit (.bool true))).value [] { args:=args,res:=some (.bool true),after:=args } = some (.bool (true==true)) from w_eq_bool (w_res rfl) w_lit) rfl
theorem ZfB {l:OpenLaw}{n:Nat}{q:Program}{loose:QP}{XP:QN->Heap->Prop}{YP:World->Heap->Prop}{d:DefRec}
  (hn:l.most=some n) (hdf:d.params.defaults = [])
  (call:∀(w:World)(s₀ s₁:Shared)(mg mb:QN)(fa:Addr)(o:Obj)(pm cd doc:Value)(a:Addr)(vs:QJ)(ns:QG),
   Ground q loose [] XP w s₀ mg mb s₁.heap->YP w s₁.heap ->
   s₁.heap.get? fa=some o->o.data = .func (docDef d.name d.params d.body d.scope pm cd doc)->s₁.heap.CodeRec cd d.name->mg d.name=some (.ref fa) ->
   s₁.heap.get? a=some { cls:=.type "list", data:=.seq vs.toArray } -> IntsAre vs ns->ns.length<=n->s₁.gens = #[] ->
   codeAny (model l.prog w) callerA (.call (.ref fa) ⟨[.ref a],[]⟩) (fun r s'=>r = .ok (.ret (.bool true))/\OldK s₁.heap s'.heap/\s'.os=s₁.os/\AllBare s'.gens) s₁):
  WalkO q loose XP YP l.row.toRowW d [] (fun f vs=>PySem.call f vs):=by
 intro w s₀ s₁ mg mb G Y fa o pm cd doc dV kV ho hd hcd hD hmg hg args vals as hpre hlay hrd hwl hlo;obtain rfl:dV = .none:=Dflts.none hD hdf;obtain rfl:kV = .none:=Dflts.noKw hD;obtain⟨a,vs,ns,rfl,rfl,hobj,hints,hlen⟩:=ZiT hn hpre hwl;refine enter_call (codeAny_mono (call w s₀ s₁ mg mb fa o pm cd doc a vs ns G Y ho (fd_plain hd) hcd hmg hobj hints hlen hg) fun r s' hq=>?_);obtain⟨rfl,h2,h3,h4⟩:=hq;exact⟨.inl ⟨.bool true,.bool true,[],rfl,fun _=>rfl,.bool true,Zit l _,fun _=>⟨List.Pairwise.nil,fun _ hm=>(nomatch hm)⟩⟩,h2,h3,h4⟩
end Att
namespace L2
open PySem PySem.Spec PyProof.Rows
theorem Zav:∀{vs:QJ}{ns:QG},IntsAre vs ns->Vals (ns.map V.int) vs
 | _,_,.nil=>.nil
 | _,_,.cons n t h=>.cons ⟨t,rfl⟩ (Zav h)
def ZnO (H:Hp):Prop:=∀b,H b=none ∨ ∃o xs,H b=some (.frz o (.lst xs))
theorem ZjO {P:Program}{w:World}{K:QF}{mg mb:QN}{CX:CXT}{k:Nat}{fa a:Addr}{fd:FuncData}{x:Str}{sp:Sp}{s₁:Shared}{vs:QJ}{ns:QG}
  (KX:K.In s₁.heap) (hns:s₁.heap.Ns mainGlobals mg) (hb:s₁.heap.Ns builtinsNs mb) (hbb:∀x:Str,x ≠ "__name__" -> mb x=bootBuiltins x) (hlim:s₁.heap.NoLimit) (hg:s₁.gens = #[])
  (ha:s₁.heap.get? a=some { cls:=.type "list", data:=.seq vs.toArray }) (hi:IntsAre vs ns) (hl:ns.length<=sizeLine) (hr:Gv k callerA)
  (F:∀base:Heap,K.In base->base.Ns mainGlobals mg->Yi P w K mg base CX k fa fd [x] sp) (hbind:∀(s:Shared)(u:Value),BindsTo s fd ⟨[u],[]⟩ [(x,u)])
  (hsp:∀H:Hp,ZnO H->Zt K H a (ns.map V.int)->sp [.ref a] H (fun v _=>v = .bl true) fun _ _ _=>False)
  (hCX:∀H e s',CX [] H s₁ (fun _ _ _=>False) e s'->False):
  codeAny (model P w) callerA (.call (.ref fa) ⟨[.ref a],[]⟩) (fun r s'=>r = .ok (.ret (.bool true))/\OldK s₁.heap s'.heap/\s'.os=s₁.os/\AllBare s'.gens) s₁:=by
 have rv:=Zav hi;have lenV:=hi.length;have core:∀H:Hp,ZnO H->Zt K H a (ns.map V.int)->W7 P w H s₁.heap->(∀b,H b≠none->b=a)->(H a≠none->K.lookup a=none) ->
   codeAny (model P w) callerA (.call (.ref fa) ⟨[.ref a],[]⟩) (fun r s'=>r = .ok (.ret (.bool true))/\OldK s₁.heap s'.heap/\s'.os=s₁.os/\AllBare s'.gens) s₁:=by
  intro H hO hS hok hA hK;have base_of:∀{b:Addr}{o:Obj},s₁.heap.get? b=some o->H b=none->(Ze0 s₁.heap H).get? b=some o:=fun e n=>Zi9 e n;have noA:∀{b:Addr}{o:Obj}{es:Array DictEntry}{ep:Nat},s₁.heap.get? b=some o->o.data = .dict es ep->H b=none:=fun {b o es ep} e d=>by
   cases q:H b with
   | none=>rfl
   | some u=>
    have e':b=a:=hA b (by rw[q];simp);subst e';rw[ha] at e;cases e;have d':Data.seq vs.toArray _=Data.dict es ep:=d;cases d'
  have nsK:∀{b:Addr}{m:QN},s₁.heap.Ns b m->(Ze0 s₁.heap H).Ns b m:=fun {b m} ⟨o,es,ep,e,d,r⟩=>⟨o,es,ep,base_of e (noA e d),d,r⟩;have hKb:K.In (Ze0 s₁.heap H):=fun b o e=>base_of (KX b o e) (by
   cases q:H b with
   | none=>rfl
   | some u=>
    have e':b=a:=hA b (by rw[q];simp);subst e';rw[hK (by rw[q];simp)] at e;cases e)
  have hM:Mod K mg (Ze0 s₁.heap H):=⟨hKb,nsK hns,⟨mb,nsK hb,hbb⟩,let ⟨mc,h1,h2⟩:=hlim;⟨mc,nsK h1,h2⟩⟩;have e0:Zls P w K mg (Ze0 s₁.heap H) callerA [] s₁ H:=⟨rfl,hM,fun b o e=>Zl3 e,Nat.le_of_eq (Zie _ _),trivial,fun b hb=>absurd (show b∈([]:List Addr) from hb) (by simp),hok,.of_eq hg⟩;refine codeAny_mono ((F _ hKb (nsK hns)).run callerA [] s₁ H ⟨[.ref a],[]⟩ [.ref a] [.ref a] _ _ hr e0 (hbind s₁ (.ref a)) (.cons rfl .nil) (hsp H hO hS)) fun r s' h=>?_;cases r with
  | error e=>exact(hCX H e s' h).elim
  | ok fl=>
   cases fl with
   | next=>exact False.elim h
   | brk=>exact False.elim h
   | cont=>exact False.elim h
   | ret u=>
    obtain⟨v,H',os,bare,un,hok',r',q⟩:=h;have q':v = .bl true:=q;subst q';obtain rfl:u=Value.bool true:=r';refine⟨rfl,OldK.of_keep fun b o e=>?_,os,bare⟩;cases q:H b with
    | none=>exact un.keep b o e q (by intro z;exact absurd (show b∈([]:List Addr) from z) (by simp)) (by simp)
    | some u=>
     rcases hO b with z | ⟨ob,xs,z⟩
     ·rw[q] at z;cases z
     ·have z2:=un.frzs b ob _ z;obtain⟨e1,_⟩:=hok b _ z;obtain⟨e2,_⟩:=hok' b _ z2;rw[e] at e1;cases e1;exact e2
 cases hk:K.lookup a with
 | some o=>
  have e:=KX a o hk;rw[ha] at e;cases e;refine core (fun _=>none) (fun _=>.inl rfl) (.inr ⟨_,vs.toArray,_,hk,rfl,rfl,rfl,by rw[kF,lenV];exact hl,by simpa using rv⟩) (fun b u z=>by have z':(none:Option HO)=some u:=z;cases z') (fun b z=>absurd rfl z) fun z=>absurd rfl z
 | none=>
  refine core (fun b=>if b=a then some (.frz { cls:=.type "list", data:=.seq vs.toArray } (.lst (ns.map V.int))) else none) (fun b=>?_) (.inl (.inr ⟨{ cls:=.type "list", data:=.seq vs.toArray },kj rfl⟩)) (fun b u z=>?_) (fun b z=>?_) fun _=>hk
  ·by_cases hb:b=a
   ·exact .inr ⟨_,_,kj hb⟩
   ·exact .inl (kh hb)
  ·by_cases hb:b=a
   ·have z':=(kj hb).symm.trans z;cases z';subst hb;exact⟨ha,by rw[ke];exact hl,vs,_,rv,ha⟩
   ·have z':=(kh hb).symm.trans z;cases z'
  ·by_cases hb:b=a
   ·exact hb
   ·exact absurd (kh hb) z
theorem ZlO {l:PySem.W.OpenLaw}{n k:Nat}{q:Program}{loose:QP}{XP:QN->Heap->Prop}{YP:World->Heap->Prop}{d:DefRec}{K:Params->PySem.W.Frag}{CX:World->CXT}{sp:World->Sp}{x:Str}
  (hn:l.most=some n) (hn2:n<=sizeLine) (hdf:d.params.defaults = []) (hr:Gv k callerA)
  (hY:∀(w:World)(h:Heap),YP w h->(K w.params).In h)
  (F:∀(w:World)(mg:QN)(fa:Addr)(h:Heap),(K w.params).In h->h.Ns mainGlobals mg->mg d.name=some (.ref fa) ->
   ∃fd:FuncData,(∀(s:Shared)(u:Value),BindsTo s fd ⟨[u],[]⟩ [(x,u)]) /\
    ∀base:Heap,(K w.params).In base->base.Ns mainGlobals mg->Yi l.prog w (K w.params) mg base (CX w) k fa fd [x] (sp w))
  (hsp:∀(w:World)(H:Hp)(a:Addr)(ns:QG),ns.length<=n->ZnO H->Zt (K w.params) H a (ns.map V.int)->sp w [.ref a] H (fun v _=>v = .bl true) fun _ _ _=>False)
  (hCX:∀(w:World)(H:Hp)(s:Shared)(e:Value)(s':Shared),CX w [] H s (fun _ _ _=>False) e s'->False):
  PySem.W.WalkO q loose XP YP l.row.toRowW d [] (fun f vs=>PySem.call f vs):=by
 refine Att.ZfB hn hdf fun w s₀ s₁ mg mb fa o pm cd doc a vs ns G Y ho hd hcd hmg hobj hints hlen hg=>?_;have KX:=hY w _ Y;obtain⟨fd,hb,hF⟩:=F w mg fa _ KX G.T.g hmg;exact ZjO KX G.T.g G.T.b G.T.builtins G.T.nolimit hg hobj hints (Kx hlen hn2) hr hF hb (fun H hO hS=>hsp w H a ns hlen hO hS) fun H e s'=>hCX w H s₁ e s'
def UB (s:Stmt):Arguments:=match s with
 | .FunctionDef _ a _ _ _ _ _ _ _ _=>a
 | _=>{ posonlyargs:=[],args:=[],vararg:=none,kwonlyargs:=[],kw_defaults:=[],kwarg:=none,defaults:=[] }
def WQ (s:Stmt):List Stmt:=match s with
 | .FunctionDef _ _ b _ _ _ _ _ _ _=>b
 | _=>[]
def Zj (s:Stmt):Scope:=match s with
 | .FunctionDef _ _ _ _ _ _ sc _ _ _=>sc
 | _=>{ kind:=.function,names:=[],isGenerator:=false,isCoroutine:=false }
abbrev WH:CXT:=fun _ _ _ _ _ _=>False
abbrev E0:XK:=fun _ _ _=>False
theorem Zo5 {X:Cx}:Passes WH X E0:=fun _ _ _ _ _ _ _ h=>h.elim
structure WC (K:QF)(x qual:Str)(st:Stmt)(f:Addr)(fd:FuncData):Prop where
 ex:∃(oc:Value)(od:Option Addr)(kV doc pm:Value)(an:Option Addr)(cdv ct:Value)(osl:Array (Option Value)),
  fd=PySem.W.fnOf x qual (UB st) (WQ st) (Zj st) .none kV doc pm an cdv ct/\K.lookup f=some ⟨oc,od,.func fd,osl⟩/\PySem.W.codeIn K cdv qual=true
 kp:PySem.W.keepIn K (.ref f)=true
section
variable {P:Program}{w:World}{K:QF}{mg:QN}{base:Heap}
theorem WC.ok {x qual:Str}{st:Stmt}{f:Addr}{fd:FuncData}{N ps:QP}{k:Nat}{sp:Sp}(F:WC K x qual st f fd)(S:ZA N ps (Zj st))(len:∀vs H Q E,sp vs H Q E->vs.length=ps.length)
  (hbody:∀(cdv:Value)(A:Around)(outer:List Env)(s:Shared)(H:Hp)(vs:QH)(Q:VK)(E:XK),Gv k (A.deeper (envOfC qual (Zj st) s.heap.objs.size f cdv))->sp vs H Q E ->
   ∃t,PSs (WW WH P w K mg base N qual (Zj st) f cdv A outer s H E).nox (WQ st) t/\t { nx:=fun _ H'=>Q .non H',rt:=Q } (start N vs) H):Yi P w K mg base WH (k+1) f fd ps sp:=by
 obtain⟨oc,od,kV,doc,pm,an,cdv,ct,osl,rfl,lk,hcd⟩:=F.ex;refine ZmP lk hcd S len fun A outer s H vs Q E hr hsp=>?_;obtain⟨t,h,q⟩:=hbody cdv A outer s H vs Q E hr hsp;exact⟨t,h.nox,q⟩
theorem WC.binds {x qual:Str}{st:Stmt}{f:Addr}{fd:FuncData}{ps:QP}(F:WC K x qual st f fd)
  (h:∀(kV doc pm:Value)(an:Option Addr)(cdv ct:Value)(us:QJ),us.length=ps.length->bindArgs (PySem.W.fnOf x qual (UB st) (WQ st) (Zj st) .none kV doc pm an cdv ct) ⟨us,[]⟩=pure (ps.zip us)):Binds K fd ps []:=by
 obtain⟨oc,od,kV,doc,pm,an,cdv,ct,osl,rfl,lk,hcd⟩:=F.ex;exact .all (h kV doc pm an cdv ct)
theorem Zm0 {x qual:Str}{st:Stmt}{f:Addr}{oc:Value}{od an:Option Addr}{osl:Array (Option Value)}{kV doc pm cdv ct:Value}(l:K.lookup f=some ⟨oc,od,.func (PySem.W.fnOf x qual (UB st) (WQ st) (Zj st) .none kV doc pm an cdv ct),osl⟩)
  (c:PySem.W.codeIn K cdv qual=true) (k:PySem.W.keepIn K (.ref f)=true):WC K x qual st f (PySem.W.fnOf x qual (UB st) (WQ st) (Zj st) .none kV doc pm an cdv ct):=⟨⟨oc,od,kV,doc,pm,an,cdv,ct,osl,rfl,l,c⟩,k⟩
end
theorem Jf {A:Around}{k:Nat}(hr:Gv k A):A.units+1<cLine:=To (MW (by decide:1<=64) _) hr.units
theorem Zy {n:Nat}(h:n<=1000):n<sizeLine:=To h (by decide)
section
variable {X:Cx}
theorem pv (i:Nat){x:Str}{pos:Pos}(hN:X.N[i]? = some x:=by rfl)(hv:Vis X.env.scope x:=by first | exact Or.inl rfl | exact Or.inr (.inl rfl) | exact Or.inr (Or.inr rfl))(hd:(x==("__debug__" : Str))=false:=by decide)
  (hcd:(x==("__classdict__" : Str))=false:=by decide):PE X (.Name x pos) (ZX i):=Zob hN hv hd hcd
end
theorem W8 {A B:Prop}(h:B):if false=true then A else B:=by rw[kh k8];exact h
theorem ZaY {A B:Prop}(h:A):if true=true then A else B:=by rw[kj rfl];exact h
theorem ZY {c A B:Prop}[Decidable c](h1:c->A)(h2:¬c->B):if c then A else B:=by
 by_cases h:c
 ·rw[kj h];exact h1 h
 ·rw[kh h];exact h2 h
theorem ZmJ {c A B:Prop}[Decidable c](hc:c)(h:B):if (!decide c)=true then A else B:=by rw[kM hc];exact W8 h
def Zi (H H':Hp):Prop:=∀b o,H b=some o->H' b=some o
theorem Zi.refl (H:Hp):Zi H H:=fun _ _ h=>h
theorem Zi.trans {H H1 H2:Hp}(a:Zi H H1)(b:Zi H1 H2):Zi H H2:=fun c o h=>b c o (a c o h)
theorem Zi.free {H H':Hp}(e:Zi H H'){l:Addr}(h:H' l=Option.none):H l=Option.none:=by
 cases q:H l with
 | none=>rfl
 | some o=>
  rw[e l o q] at h;cases h
theorem Zi.seq {K:QF}{H H':Hp}{a:Addr}{xs:QH}(e:Zi H H')(h:Zt K H a xs):Zt K H' a xs:=by
 rcases h with(h | ⟨o,h⟩) | h
 ·exact .inl (.inl (e _ _ h))
 ·exact .inl (.inr ⟨o,e _ _ h⟩)
 ·exact .inr h
end L2
set_option maxHeartbeats 4000000
namespace L2
open PySem PySem.Spec PyProof.Rows
section
variable {prog:Program}{w:World}{A:Around}{R:Result->Shared->Prop}{s:Shared}
theorem Ziw {elt target iter:Expr}{ifs:QV}{scope:Scope}{pos:Pos}{it acc:Value}{env:Env}(I:Nat->Shared->Prop)
  (turn:∀n s,I n s->wpAny (model prog w) A (pyNext it) (fun r s₁=>match r with
   | none=>R (.ok .next) s₁
   | some v=>wpAny (model prog w) A (letOwnedTupleGo target it v) (fun _ s₁'=>wpAny (model prog w) A (assign target env v) (fun _ s₂=>
     wpAny (model prog w) A (forIn ifs true fun c r=>if r=true then do let ok <- isTrue c env (eval c env);pure (ForInStep.yield ok) else pure (ForInStep.yield r)) (fun ok s₃=>
      if ok=true then wpAny (model prog w) A (eval elt env) (fun x s₄=>
       wpAny (model prog w) A (call (.builtin "list.append") [acc,x]) (fun _ s₅=>∃m,m<n/\I m s₅) (fun _ _=>False) s₄) (fun _ _=>False) s₃
      else ∃m,m<n/\I m s₃) (fun _ _=>False) s₂) (fun _ _=>False) s₁') (fun _ _=>False) s₁) (fun _ _=>False) s)
  (n:Nat) (h:I n s):codeAny (model prog w) A (.compLoop (.ListComp elt [⟨target,iter,ifs,0⟩] scope pos) 0 it acc env) R s:=by
 refine codeAny_loop rfl I (fun n s hI=>?_) n h;show wpAny _ A ((compTurn (.ListComp elt [⟨target,iter,ifs,0⟩] scope pos) 0 it acc env).onRaise (fun x=>do noteFrame x env;theTreesLotGoes x)) _ _ s;refine wpAny_noted ?_;rw[compTurn_list];refine ka (Xc (ka (K4 (turn n s hI) (fun r s₁ h₁=>?_) fun _ _ h'=>h'.elim)));cases r with
 | none=>exact km h₁
 | some v=>
  refine ka (K4 h₁ (fun _ s₁' h₁'=>?_) fun _ _ h'=>h'.elim);refine ka (K4 h₁' (fun _ s₂ h₂=>ka (K4 h₂ (fun ok s₃ h₃=>?_) fun _ _ h'=>h'.elim)) fun _ _ h'=>h'.elim);cases ok with
  | false=>exact km ⟨rfl,h₃⟩
  | true=>
   exact ka (ka (K4 h₃ (fun x s₄ h₄=>ka (K4 h₄ (fun _ s₅ h₅=>km (km ⟨rfl,h₅⟩)) fun _ _ h'=>h'.elim)) fun _ _ h'=>h'.elim))
end
theorem Zel (env:Env)(f:Str×NameKind->List (Str×Addr)->Sem (ForInStep (List (Str×Addr))))
  (hf:∀n k r,f (n,k) r=if (k==NameKind.free)=true then(do let a <- cellOf env n;pure (ForInStep.yield ((n,a)::r))) else pure (ForInStep.yield r)):
  ∀(ns:List (Str×NameKind))(acc:List (Str×Addr)),(∀y∈ns,y.2 = .free -> ∃c,env.cells.lookup y.1=some c)->(∀x c,acc.lookup x=some c->env.cells.lookup x=some c) ->
   ∃cl,forIn ns acc f=pure cl/\(∀x c,cl.lookup x=some c->env.cells.lookup x=some c)/\(∀y∈ns,y.2 = .free -> ∃c,cl.lookup y.1=some c)/\(∀x c,acc.lookup x=some c -> ∃c',cl.lookup x=some c')
 | [],acc,_,ha=>⟨acc,by rw[Xt],ha,fun _ h=>(nomatch h),fun x c h=>⟨c,h⟩⟩
 | (n,k)::r,acc,hn,ha=>by
  rw[qH,hf];by_cases hk:k = .free
  ·subst hk;obtain⟨c,hc⟩:=hn (n,.free) kQ rfl;have hc':env.cells.lookup n=some c:=hc;have e1:cellOf env n=pure c:=by unfold cellOf;rw[hc']
   obtain⟨cl,h1,h2,h3,h4⟩:=Zel env f hf r ((n,c)::acc) (fun y hy=>hn y (kS _ hy)) (fun x c' hx=>by
    rw[qi] at hx;cases e:x==n with
    | true=>
     rw[e] at hx;have:x=n:=by simpa using e
     subst this;rw[<- Kb hx];exact hc'
    | false=>rw[e] at hx;exact ha x c' hx)
   refine⟨cl,?_,h2,fun y hy hyf=>?_,fun x c' hx=>?_⟩
   ·rw[kj (by rfl),e1];exact h1
   ·rcases kP.mp hy with e | hy
    ·subst e;exact h4 n c (by simp)
    ·exact h3 y hy hyf
   ·cases e:x==n with
    | true=>exact h4 x c (by rw[qi,e])
    | false=>exact h4 x c' (by rw[qi,e];exact hx)
  ·have hk':(k==NameKind.free)=false:=by simpa using hk
   obtain⟨cl,h1,h2,h3,h4⟩:=Zel env f hf r acc (fun y hy=>hn y (kS _ hy)) ha;refine⟨cl,?_,h2,fun y hy hyf=>?_,h4⟩
   ·rw[hk',kh k8];exact h1
   ·rcases kP.mp hy with e | hy
    ·subst e;exact absurd hyf hk
    ·exact h3 y hy hyf
theorem Zh6 {scope:Scope}{env:Env}(h:∀y∈scope.names,y.2 = .free -> ∃c,env.cells.lookup y.1=some c):
  ∃cl,closureFor scope env=pure cl/\(∀x c,cl.lookup x=some c->env.cells.lookup x=some c)/\(∀y∈scope.names,y.2 = .free -> ∃c,cl.lookup y.1=some c):=by
 obtain⟨cl,h1,h2,h3,_⟩:=Zel env (fun x r=>match x with
  | (n,k)=>if (k==NameKind.free)=true then(do let a <- cellOf env n;pure (ForInStep.yield ((n,a)::r))) else pure (ForInStep.yield r)) (fun _ _ _=>rfl) scope.names [] h (fun x c q=>by simp at q)
 refine⟨cl,?_,h2,h3⟩;unfold closureFor;refine Eq.trans ?_ h1;have e:∀(m:Sem (List (Str×Addr))),(m >>= fun r=>(pure r >>= fun r=>pure r))=m:=fun m=>by simp only[pure_bind,bind_pure]
 exact e _
def Zcf (n:Nat)(fi:List Nat)(σ:St):St:=List.replicate n none++fi.map fun i=>σ.getD i none
def ZdK:TT:=fun _ H Q=>Q true H
def PTs (X:Cx)(ifs:QV)(t:TT):Prop:=
 ∀(pins:QC)(s:Shared)(σ:St)(H:Hp)(Q:Bool->Hp->Prop),Inv X pins σ H s->t σ H Q ->
  wpAny (model X.prog X.w) X.A (forIn ifs true fun c r=>if r=true then do let ok <- isTrue c X.env (eval c X.env);pure (ForInStep.yield ok) else pure (ForInStep.yield r)) (TP X pins σ Q) X.xe s
theorem YX {X:Cx}:PTs X [] ZdK:=fun pins s σ H Q I h=>wpAny_tests_nil ⟨H,I,h⟩
theorem Za4 {X:Cx}{c:Expr}{t:TT}(h:PT X c t):PTs X [c] t:=fun pins s σ H Q I q=>wpAny_tests_one (h pins s σ H Q I q)
structure ZZ (N:QP)(osc scope:Scope)(Ls Fs:QP)(fi:List Nat):Prop where
 kind:scope.kind = .function
 cells:∀y∈scope.names,y.2 ≠ .cell
 names:∀y∈scope.names,y.2 = .local->scope.names.lookup y.1=some .local
 fre:∀x∈Fs,scope.names.lookup x=some .free
 all:∀y∈scope.names,y.2 = .free->osc.names.lookup y.1=some .cell∨osc.names.lookup y.1=some .free
 ix:fi.map (fun i=>N[i]?)=Fs.map some
def blk (X:Cx)(scope:Scope)(N:QP)(cl:List (Str×Addr))(C:Addr)(s3:Shared)(H3:Hp)(ex:List Addr):Cx:=
 { X with N:=N,s₀:=s3,H₀:=H3,env:=compEnvC scope cl C X.env,outer:=X.stack,stack:=X.stack,ex:=ex,fn:=fun _=>false,pn:=[],xe:=fun _ _=>False }
theorem Zbz {env:Env}:∀{names:List (Str×NameKind)}{x:Str},(∀y∈names,y.2 ≠ .cell) ->
    ((names.map fun(n,k)=>if (k==NameKind.free&&env.scope.kind == .function&&env.kindOf n==some .cell) then(n,NameKind.cell) else(n,k)).lookup x=some .cell ∨
     (names.map fun(n,k)=>if (k==NameKind.free&&env.scope.kind == .function&&env.kindOf n==some .cell) then(n,NameKind.cell) else(n,k)).lookup x=some .free) -> ∃y∈names,y.1=x/\y.2 = .free
  | [],_,_,h=>by simp at h
  | (n,k)::r,x,hc,h=>by
    have ih:=@Zbz env r x (fun y hy=>hc y (kS _ hy));cases hx:x==n with
    | true=>
      have e:x=n:=by simpa using hx
      subst e;by_cases hb:(k==NameKind.free&&env.scope.kind == .function&&env.kindOf x==some .cell)=true
      · have:k = .free:=by
          simp only[KQ,Mm] at hb;exact hb.1.1
        exact⟨(x,k),kQ,rfl,this⟩
      · simp only[kH,kh hb,qi,hx] at h
        rcases h with h | h
        · exact absurd (Kb h) (hc (x,k) kQ)
        · exact⟨(x,k),kQ,rfl,Kb h⟩
    | false=>
      have h':((r.map fun(n,k)=>if (k==NameKind.free&&env.scope.kind == .function&&env.kindOf n==some .cell) then(n,NameKind.cell) else(n,k)).lookup x=some .cell ∨
        (r.map fun(n,k)=>if (k==NameKind.free&&env.scope.kind == .function&&env.kindOf n==some .cell) then(n,NameKind.cell) else(n,k)).lookup x=some .free):=by
        by_cases hb:(k==NameKind.free&&env.scope.kind == .function&&env.kindOf n==some .cell)=true
        · simpa only[kH,kj hb,qi,hx] using h
        · simpa only[kH,kh hb,qi,hx] using h
      obtain⟨y,hy,z⟩:=ih h';exact⟨y,kS _ hy,z⟩
theorem ZbA {env:Env}{x:Str}:∀{names:List (Str×NameKind)},names.lookup x=some .free ->
    ((names.map fun(n,k)=>if (k==NameKind.free&&env.scope.kind == .function&&env.kindOf n==some .cell) then(n,NameKind.cell) else(n,k)).lookup x=some .cell ∨
     (names.map fun(n,k)=>if (k==NameKind.free&&env.scope.kind == .function&&env.kindOf n==some .cell) then(n,NameKind.cell) else(n,k)).lookup x=some .free)
  | [],h=>by simp at h
  | (n,k)::r,h=>by
    cases hx:x==n with
    | true=>
      have e:x=n:=by simpa using hx
      subst e;rw[qi,hx] at h;have hk:k = .free:=Kb h;subst hk;by_cases hb:(NameKind.free==NameKind.free&&env.scope.kind == .function&&env.kindOf x==some .cell)=true
      · left;simp only[kH,kj hb,qi,hx]
      · right;simp only[kH,kh hb,qi,hx]
    | false=>
      rw[qi,hx] at h;have ih:=@ZbA env x r h;by_cases hb:(k==NameKind.free&&env.scope.kind == .function&&env.kindOf n==some .cell)=true
      · simpa only[kH,kj hb,qi,hx] using ih
      · simpa only[kH,kh hb,qi,hx] using ih
theorem aLt {h:Heap}{b:Addr}{o:Obj}(e:h.get? b=some o):@LT.lt Nat _ b h.objs.size:=Kc e
def LcW (J:It)(σ:St)(g:TG)(tc:TT)(te:TE)(H:Hp)(Q:VK):Prop:=
 ∃W:Nat->Nat->List V->Hp->Prop,(∃m,W 0 m [] H) /\ ∀i m ys H,W i m ys H ->
  (J.stop i H/\ys.length<=sizeLine /\ ∀D,H D=none->Q (.ref D) (upd H D (.lst ys))) ∨
  (J.go i H/\ys.length<=sizeLine /\ ∃N:List V->Hp->Prop,(∀ys' H',N ys' H' -> ∃m',m'<m/\W (i+1) m' ys' H') /\ ∀x H',J.yld i H x H'->g x σ H' fun σ2 H2=>
   tc σ2 H2 fun b H3=>if b=true then te σ2 H3 fun y H4=>N (ys ++ [y]) H4 else N ys H3)
def tLc (n:Nat)(fi:List Nat)(wi:TI)(g:TG)(tc:TT)(te:TE):TE:=fun σ H Q=>wi σ H fun J H1=>LcW J (Zcf n fi σ) g tc te H1 Q
section
variable {X:Cx}{pins:QC}{σ:St}{tg elt iter:Expr}{ifs:QV}{scope:Scope}{pos:Pos}{Ls Fs:QP}{fi:List Nat}{g:TG}{tc:TT}{te:TE}
structure ZmF (X:Cx)(tg:Expr)(J:It)(fp:List Addr)(it:Addr)(tn:Nat->Heap->Prop):Prop where
 obj:∀i h,tn i h -> ∀b∈fp,∃o,h.get? b=some o /\ ∀v,o.data ≠ .cell v
 keep:∀i h h',tn i h->(∀b∈fp,∀o,h.get? b=some o->h'.get? b=some o)->tn i h'
 item:∀(i:Nat)(pins:QC)(s:Shared)(σ:St)(H:Hp)(E:QE),Inv X pins σ H s->(∀b∈fp,Zci X pins H b)->tn i s.heap->J.go i H ->
  wpAny (model X.prog X.w) X.A (pyNext (.ref it)) (fun r s1=>∃u,r=some u /\
   wpAny (model X.prog X.w) X.A (letOwnedTupleGo tg (.ref it) u) (fun _ s2=>∃x H',Inv X pins σ H' s2/\RelV x u/\J.yld i H x H'/\tn (i+1) s2.heap /\ ∀b∈fp,H' b=none) E s1) E s
 done:∀(i:Nat)(pins:QC)(s:Shared)(σ:St)(H:Hp)(E:QE),Inv X pins σ H s->(∀b∈fp,Zci X pins H b)->tn i s.heap->J.stop i H ->
  wpAny (model X.prog X.w) X.A (pyNext (.ref it)) (fun r s1=>r=none/\Inv X pins σ H s1) E s
 self:∀(A:Around)(i:Nat)(s:Shared)(Q:QE)(E:QE),tn i s.heap->Q (.ref it) s->wpAny (model X.prog X.w) A (pyIter (.ref it)) Q E s
theorem Turn.at {X:Cx}{tg:Expr}{J:It}{fp:List Addr}{it:Addr}{tn:Nat->Heap->Prop}(T:Turn X.prog X.w X.K tg J fp it tn)(hc:X.calm=true):ZmF X tg J fp it tn:=⟨T.obj,T.keep,T.item X rfl rfl rfl hc,T.done X rfl rfl rfl hc,T.self⟩
theorem Zga {H2:Hp}{s2:Shared}{it:Addr}{fp:List Addr}{tn:Nat->Heap->Prop}{J:It}{cl:List (Str×Addr)}{Q:VK}{E:QE}{RR:Value->Addr->Result->Shared->Prop}
  (S:ZZ X.N X.env.scope scope Ls Fs fi)
  (hb:∀C s3 H3 ex,PG (blk X scope (Ls++Fs) cl C s3 H3 ex) tg g/\PTs (blk X scope (Ls++Fs) cl C s3 H3 ex) ifs tc/\PE (blk X scope (Ls++Fs) cl C s3 H3 ex) elt te)
  (hcl1:∀x c,cl.lookup x=some c->X.env.cells.lookup x=some c) (hcl2:∀y∈scope.names,y.2 = .free -> ∃c,cl.lookup y.1=some c)
  (I2:Inv X pins σ H2 s2) (TX:∀C s3 H3 ex,ZmF (blk X scope (Ls++Fs) cl C s3 H3 ex) tg J fp it tn) (st2:tn 0 s2.heap) (f2:∀b∈fp,Zci X pins H2 b)
  (hW:∃W:Nat->Nat->List V->Hp->Prop,(∃m,W 0 m [] H2) /\ ∀i m ys H,W i m ys H ->
   (J.stop i H/\ys.length<=sizeLine /\ ∀D,H D=none->Q (.ref D) (upd H D (.lst ys))) ∨
   (J.go i H/\ys.length<=sizeLine /\ ∃N:List V->Hp->Prop,(∀ys' H',N ys' H' -> ∃m',m'<m/\W (i+1) m' ys' H') /\ ∀x H',J.yld i H x H'->g x (Zcf Ls.length fi σ) H' fun σ2 H2=>
    tc σ2 H2 fun b H3=>if b=true then te σ2 H3 fun y H4=>N (ys ++ [y]) H4 else N ys H3))
  (fin:∀D C H' s' m,Inv X pins σ H' s'->Q (.ref D) H'->s'.heap.Ns C m->Zci X pins H' C->RR (.ref D) C (.ok .next) s'):
  wpAny (model X.prog X.w) X.A (newList []) (fun acc s₃=>wpAny (model X.prog X.w) X.A (newFunctionEnv scope X.env.globals cl [] X.env.qual none .none (some X.env)) (fun cenv s₄=>
   codeAny (model X.prog X.w) X.A (.compStart (.ListComp elt [⟨tg,iter,ifs,0⟩] scope pos) 0 (.ref it) acc { cenv with scope:=relabel scope X.env }) (RR acc cenv.locals) s₄) E s₃) E s2:=by
 refine qb (wpAny_newFunctionEnv S.cells (by intro y hy;simp at hy) (fun h₁ hns₁ hsb₁=>?_) S.kind);dsimp only at hns₁ hsb₁ ⊢;generalize hH3:s2.heap.push { cls:=.type "list", dict:=none,data:=.seq ([]:QJ).toArray } = h3 at hns₁ hsb₁ ⊢;generalize hC:h3.objs.size=C at hns₁ hsb₁ ⊢;generalize hD:s2.heap.objs.size=D;have hCD:C=D+1:=by rw[<- hC,<- hH3,MF,hD]
 have k23:∀b o,s2.heap.get? b=some o->h3.get? b=some o:=fun b o e=>by rw[<- hH3];exact ko _ e
 have k34:∀b o,h3.get? b=some o->h₁.get? b=some o:=fun b o e=>hsb₁.extBut b o (Kk (by have:=aLt e;lia)) (ko _ e);have hDo:h3.get? D=some { cls:=.type "list", data:=.seq ([]:QJ).toArray }:=by rw[<- hH3,<- hD];exact Km _ rfl
 obtain⟨W,⟨m0,w0⟩,turn⟩:=hW;have T:=TX C { s2 with heap:=h3 } H2 (D::fp);have I3:Inv X pins σ H2 { s2 with heap:=h3 }:=I2.kept (t':=s2.toks) k23;have frD:H2 D=none:=by rw[<- hD];exact I2.fresh
 have frC:H2 C=none:=I2.hok.fresh (by lia);have DL:D≠X.env.locals:=Xn (by have:@LT.lt Nat _ X.env.locals s2.heap.objs.size:=I2.lt;lia);have CL:C≠X.env.locals:=Xn (by have:@LT.lt Nat _ X.env.locals s2.heap.objs.size:=I2.lt;lia);have cellLt:∀x c,X.env.cells.lookup x=some c -> @LT.lt Nat _ c D:=fun x c e=>by obtain⟨v,q⟩:=I2.cell x c e;have:@LT.lt Nat _ c s2.heap.objs.size:=q.lt;lia
 have fpLt:∀b∈fp,@LT.lt Nat _ b D:=fun b hb=>by obtain⟨o,e,_⟩:=T.obj _ _ st2 b hb;have:=aLt e;lia
 have exLoc:∀b∈D::fp,b≠C/\(∀x c,X.env.cells.lookup x=some c->c≠b):=fun b hb=>by
  rcases kP.mp hb with e | hb
  ·subst e;exact⟨Kk (by lia),fun x c e=>Kk (cellLt x c e)⟩
  ·exact⟨Kk (by have:=fpLt b hb;lia),(f2 b hb).2.2.2.2.1⟩
 have ok':(blk X scope (Ls++Fs) cl C { s2 with heap:=h3 } H2 (D::fp)).Ok:=by
  refine⟨I2.ok.mod,S.kind,I2.ok.glob,I2.ok.blt,?_,fun x y c e1 e2=>I2.ok.inj x y c (hcl1 x c e1) (hcl1 y c e2),fun x hx=>?_,fun x c hx=>absurd hx k8,I2.ok.hd,I2.ok.frames,.inl rfl,
   fun b hb=>⟨(exLoc b hb).1,fun x c e=>(exLoc b hb).2 x c (hcl1 x c e)⟩,I3.bs,Kx I2.ok.bsz I3.sz,fun b o e hb=>?_,fun b hb=>?_,I3.stack,I3.stkFree⟩
  ·show h3.objs.size<=C;lia
  ·obtain⟨y,hy,e1,e2⟩:=Zbz S.cells hx;obtain⟨c,q⟩:=hcl2 y hy e2;exact⟨c,e1 ▸ q⟩
  ·rcases kP.mp hb with z | hb
   ·exact absurd z (Kk (by have:=aLt (I2.bk b o e);lia))
   ·rcases(f2 b hb).2.2.2.1 with z | z
    ·exact I2.ok.noex b o e z
    ·have h1:@LT.lt Nat _ b X.base.objs.size:=aLt e;have h2:@LE.le Nat _ X.base.objs.size X.s₀.heap.objs.size:=I2.ok.bsz;have h3:@LE.le Nat _ X.s₀.heap.objs.size b:=z;lia
  ·intro hz;have hz':=I2.stkSub b hz;rcases kP.mp hb with e | hb
   ·subst e;rcases kP.mp hz' with z | z
    ·exact DL z
    ·exact I2.nofs (by lia) z
   ·rcases kP.mp hz' with z | z
    ·exact(f2 b hb).2.1 z
    ·exact(f2 b hb).2.2.1 z
 obtain⟨m2,hn2,hl2⟩:=id I2.loc;have cap:∀(i:Nat)(x:Str)(v:V),(Ls++Fs)[i]? = some x->(Zcf Ls.length fi σ)[i]? = some (some v) -> ∃u c,RelV v u/\((relabel scope X.env).names.lookup x=some .cell∨(relabel scope X.env).names.lookup x=some .free) /\
   cl.lookup x=some c/\X.env.cells.lookup x=some c/\s2.heap.IsCell c (some u):=by
  intro i x v e1 e2;unfold Zcf at e2;by_cases hi:i<Ls.length
  ·rw[KH (by simpa using hi),NW,kj hi] at e2;cases e2
  ·have hi':Ls.length<=i:=N3 hi;rw[Kh hi'] at e1;rw[Kh (by simpa using hi'),K0,kE] at e2;cases e3:fi[i-Ls.length]? with
   | none=>rw[e3] at e2;cases e2
   | some j=>
    rw[e3] at e2;have e4:σ.getD j none=some v:=Kb e2;have e5:X.N[j]? = some x:=by have q:=Ky (fun l=>l[i-Ls.length]?) S.ix;simp only[kE,e3,e1,Xi] at q;exact Kb q
    have e6:σ[j]? = some (some v):=by
     rw[KO] at e4;cases e7:σ[j]? with
     | none=>rw[e7] at e4;cases e4
     | some z=>rw[e7] at e4;exact Ky some e4
    have fx:=S.fre x (k9 e1);have al:=S.all (x,.free) (qN fx) rfl;have vis:Vis X.env.scope x:=by
     rcases al with z | z
     ·exact .inr (.inl z)
     ·exact .inr (.inr z)
    obtain⟨u,ru,lk⟩:=hl2 j x v e5 e6 vis;rcases lk with⟨k,_⟩ | ⟨k,c,ec,hcell⟩
    ·have k':X.env.scope.names.lookup x=some .local:=k;rcases al with z | z
     ·rw[show X.env.scope.names.lookup x=some .cell from z] at k';cases k'
     ·rw[show X.env.scope.names.lookup x=some .free from z] at k';cases k'
    ·obtain⟨c',ec'⟩:=hcl2 (x,.free) (qN fx) rfl;have:c'=c:=Kb ((hcl1 x c' ec').symm.trans ec);subst this;exact⟨u,c',ru,ZbA fx,ec',ec,hcell⟩
 have capLen:(Zcf Ls.length fi σ).length=(Ls++Fs).length:=by unfold Zcf;have q:=Ky List.length S.ix;simp only[ke] at q;rw[kg,K0,ke,kg,q]
 have re:∀{ps:QC}{σ':St}{H':Hp}{s':Shared},Inv (blk X scope (Ls++Fs) cl C { s2 with heap:=h3 } H2 (D::fp)) ps σ' H' s'->Inv (blk X scope (Ls++Fs) cl C { s2 with heap:=h3 } H2 (D::fp)) ps (Zcf Ls.length fi σ) H' s':=by intro ps σ' H' s' J';refine⟨J'.ok,J'.os,J'.bare,J'.base,?_,J'.cell,J'.free,J'.freeC,J'.pin,J'.hok,capLen⟩;obtain⟨m,hn,_⟩:=J'.loc;refine⟨m,hn,fun i x v e1 e2 _=>?_⟩;obtain⟨u,c,ru,kk,ec,ec2,o,ho,hd⟩:=cap i x v e1 e2;obtain⟨sl,q⟩:=J'.base.any (k23 c o ho) (I2.freeC x c ec2) fun z=>(exLoc c z).2 x c ec2 rfl;exact⟨u,ru,.inr ⟨kk,c,ec,_,q,hd⟩⟩
 have I4:Inv (blk X scope (Ls++Fs) cl C { s2 with heap:=h3 } H2 (D::fp)) [(D,{ cls:=.type "list", data:=.seq ([]:QJ).toArray })] (Zcf Ls.length fi σ) H2 { s2 with heap:=h₁,toks:=s2.toks+([]:List (Str×Value)).length }:=by
  refine⟨ok',rfl,I2.bare,Un.kept k34,⟨_,hns₁,fun i x v e1 e2 _=>?_⟩,fun x c e=>?_,frC,fun x c e=>I2.freeC x c (hcl1 x c e),fun p hp=>?_,I2.hok.kept fun b o e=>k34 b o (k23 b o e),capLen⟩
  ·obtain⟨u,c,ru,kk,ec,ec2,o,ho,hd⟩:=cap i x v e1 e2;exact⟨u,ru,.inr ⟨kk,c,ec,o,k34 c o (k23 c o ho),hd⟩⟩
  ·obtain⟨v,o,ho,hd⟩:=I2.cell x c (hcl1 x c e);exact⟨v,o,k34 c o (k23 c o ho),hd⟩
  ·have hp':p=(D,{ cls:=.type "list", data:=.seq ([]:QJ).toArray }):=by
    have:p∈([]:QC) ++ [(D,{ cls:=.type "list", data:=.seq ([]:QJ).toArray })]:=hp;simpa using this
   subst hp';refine⟨k34 D _ hDo,frD,Kk (show @LT.lt Nat _ D C by lia),fun z=>?_,fun v z=>by cases z⟩;rcases kP.mp (I2.stkSub D z) with z | z
   ·exact DL z
   ·exact I2.nofs (by lia) z
 obtain⟨hg,ht,he⟩:=hb C { s2 with heap:=h3 } H2 (D::fp);have back:∀{ps:QC}{σ':St}{H':Hp}{s':Shared}{ys:QH}{its:QJ}{n:Nat},Inv (blk X scope (Ls++Fs) cl C { s2 with heap:=h3 } H2 (D::fp)) ps σ' H' s'->s'.heap.get? D=some { cls:=.type "list", data:=.seq its.toArray n } ->
   H' D=none->Vals ys its->ys.length<=sizeLine->Inv X pins σ (upd H' D (.lst ys)) s'/\Zci X pins (upd H' D (.lst ys)) C:=by
  intro ps σ' H' s' ys its n J' hDs hDn rv hz;have neD:∀b o,s2.heap.get? b=some o->b≠D:=fun b o e=>Kk (by have:=aLt e;lia);have nex:∀b,b∉fp->b≠D->b∉D::fp:=fun b h1 h2 z=>(kP.mp z).elim h2 h1;have U:Un (frs X.stack) fp H2 (upd H' D (.lst ys)) s2.heap s'.heap:=by
   refine⟨fun b o e n hb hx=>J'.base.keep b o (k23 b o e) n hb (nex b hx (neD b o e)),fun b o e n hb hx=>J'.base.slot b o (k23 b o e) n hb (nex b hx (neD b o e)),fun b o e n hx=>?_,fun b o e hx=>J'.base.there b o (k23 b o e) (nex b hx (neD b o e)),fun b xs e=>?_,fun b o u e=>?_,fun b ps e=>?_⟩
   ·rw[Zh (neD b o e)];exact J'.base.free b o (k23 b o e) n (nex b hx (neD b o e))
   ·rw[Zh (Zf e frD)];exact J'.base.tups b xs e
   ·rw[Zh (Zf e frD)];exact J'.base.frzs b o u e
   ·obtain⟨more,q⟩:=J'.base.tbls b ps e;exact⟨more,by rw[Zh (Zf e frD)];exact q⟩
  have hok':W7 X.prog X.w (upd H' D (.lst ys)) s'.heap:=fun b u q=>by
   by_cases hbD:b=D
   ·subst hbD;rw[Zc] at q;cases q;exact⟨hz,its,n,rv,hDs⟩
   ·rw[Zh hbD] at q;exact(J'.hok b u q).stay (fun c v _ r=>r) (fun c r=>by rw[Zh (Zf r hDn)];exact r) fun c xs r=>by rw[Zh (Zf r hDn)];exact r
  refine⟨I2.call' J'.os U hok' J'.bare fun b hb=>⟨(f2 b hb).2.2.2.1,(f2 b hb).2.1,(f2 b hb).2.2.2.2.1,(f2 b hb).2.2.2.2.2⟩,?_⟩;refine⟨by rw[Zh (Xn (by lia))];exact J'.free,CL,I2.nofs (by lia),.inr (by have:=I2.sz;lia),fun x c e=>Kk (by have:=cellLt x c e;lia),fun p hp=>?_⟩;have:=aLt (I2.pin p hp).1;exact Kk (by lia)
 have loop:codeAny (model X.prog X.w) X.A (.compLoop (.ListComp elt [⟨tg,iter,ifs,0⟩] scope pos) 0 (.ref it) (.ref D) (compEnvC scope cl C X.env)) (RR (.ref D) C) { s2 with heap:=h₁,toks:=s2.toks+([]:List (Str×Value)).length }:=by
  refine Ziw (fun n s'=>∃(i:Nat)(ys:QH)(H':Hp)(its:QJ)(k:Nat),Inv (blk X scope (Ls++Fs) cl C { s2 with heap:=h3 } H2 (D::fp)) [(D,{ cls:=.type "list", data:=.seq its.toArray k })] (Zcf Ls.length fi σ) H' s' /\
   Vals ys its/\tn i s'.heap/\(∀b∈fp,H' b=none)/\W i n ys H') ?_ m0 ⟨0,[],H2,[],0,I4,.nil,T.keep _ _ _ st2 fun b _ o e=>k34 b o (k23 b o e),fun b hb=>(f2 b hb).1,w0⟩
  rintro n s5 ⟨i,ys,H5,its,k,I5,rv,st5,fr5,w5⟩;have stat:∀{H':Hp}{its':QJ}{k':Nat},(∀b∈fp,H' b=none) -> ∀b∈fp,Zci (blk X scope (Ls++Fs) cl C { s2 with heap:=h3 } H2 (D::fp)) [(D,{ cls:=.type "list", data:=.seq its'.toArray k' })] H' b:=fun hn b hb=>by refine⟨hn b hb,(exLoc b (kS _ hb)).1,fun z=>ok'.exfs b (kS _ hb) z,.inl (kS _ hb),fun x c e=>(exLoc b (kS _ hb)).2 x c (hcl1 x c e),fun p hp=>?_⟩;have hp':p=_:=k7.mp hp;rw[hp'];have:=fpLt b hb;show D≠b;exact Xn this
  have pinD:=I5.pin (D,{ cls:=.type "list", data:=.seq its.toArray k }) (k7.mpr rfl);rcases turn i n ys H5 w5 with⟨stop,hz,qn⟩ | ⟨go,hz,N,hN,step⟩
  ·refine K4 (T.done i _ s5 _ H5 _ I5 (stat fr5) st5 stop) (fun r s6 ⟨hr,I6⟩=>?_) fun _ _ h=>h;subst hr;have pin6:=I6.pin (D,{ cls:=.type "list", data:=.seq its.toArray k }) (k7.mpr rfl);obtain⟨b1,b2⟩:=back I6 pin6.1 pin6.2.1 rv hz;obtain⟨m,hn,_⟩:=I6.loc;exact fin D C _ s6 m b1 (qn D pin6.2.1) hn b2
  ·refine K4 (T.item i _ s5 _ H5 _ I5 (stat fr5) st5 go) (fun r s6 ⟨u,hr,h6⟩=>?_) fun _ _ h=>h;subst hr;refine K4 h6 (fun _ s7 ⟨x,H7,I7,r7,y7,st7,fr7⟩=>?_) fun _ _ h=>h;have I7':=I7.pinned (stat fr7) (T.obj _ _ st7);refine K4 (hg _ s7 _ H7 x u _ I7' r7 (step x H7 y7)) (fun _ s8 ⟨σ8,H8,I8,q8⟩=>?_) fun _ _ h=>h;refine K4 (ht _ s8 σ8 H8 _ I8 q8) (fun ok s9 ⟨H9,I9,q9⟩=>?_) fun _ _ h=>h;have keepT:∀{σ':St}{H':Hp}{s':Shared},Inv (blk X scope (Ls++Fs) cl C { s2 with heap:=h3 } H2 (D::fp)) ([(D,{ cls:=.type "list", data:=.seq its.toArray k })]++ZcZ fp s7.heap) σ' H' s'->tn (i+1) s'.heap /\ ∀b∈fp,H' b=none:=by
    intro σ' H' s' J';refine⟨T.keep _ _ _ st7 fun b hb o e=>(J'.pin (b,o) (K8 _ (K8 _ (UA hb e)))).1,fun b hb=>?_⟩;obtain⟨o,e,d⟩:=T.obj _ _ st7 b hb;exact(J'.pin (b,o) (K8 _ (K8 _ (UA hb e)))).2.1
   cases ok with
   | false=>
    rw[kh k8] at q9 ⊢;obtain⟨m',hm,w'⟩:=hN _ _ q9;exact⟨m',hm,i+1,ys,H9,its,k,re I9.unpinned,rv,(keepT I9).1,(keepT I9).2,w'⟩
   | true=>
    rw[kj rfl] at q9 ⊢;refine K4 (he _ s9 σ8 H9 _ I9 q9) (fun v s10 ⟨y,H10,I10,r10,q10⟩=>?_) fun _ _ h=>h;obtain⟨m',hm,w'⟩:=hN _ _ q10;obtain⟨k10,f10⟩:=keepT I10;have I11:Inv (blk X scope (Ls++Fs) cl C { s2 with heap:=h3 } H2 (D::fp)) [(D,{ cls:=.type "list", data:=.seq its.toArray k })] (Zcf Ls.length fi σ) H10 s10:=re I10.unpinned;have pin11:=I11.pin (D,{ cls:=.type "list", data:=.seq its.toArray k }) (k7.mpr rfl);refine wpAny_list_append_plain ⟨k,pin11.1⟩ (fun h' hp' sb=>?_) (by rw[kF,<- rv.length];exact hz);obtain⟨k',hk'⟩:=hp';have e1:its.toArray.push v=(its ++ [v]).toArray:=by simp
    rw[e1] at hk';have I12:Inv (blk X scope (Ls++Fs) cl C { s2 with heap:=h3 } H2 (D::fp)) [] (Zcf Ls.length fi σ) H10 { s10 with heap:=h',toks:=s10.toks }:=
     (I11.pins_of (pins':=[]) fun p hp=>(nomatch hp)).turned (it:=D) (fun b o hb e=>(sb.2 b hb).trans e) pin11.2.1 pin11.2.2.1 (.inl kQ) (fun x c e=>(exLoc D kQ).2 x c (hcl1 x c e)) fun p hp=>(nomatch hp)
    have I13:Inv (blk X scope (Ls++Fs) cl C { s2 with heap:=h3 } H2 (D::fp)) [(D,{ cls:=.type "list", data:=.seq (its ++ [v]).toArray k' })] (Zcf Ls.length fi σ) H10 { s10 with heap:=h',toks:=s10.toks }:=I12.pins_of fun p hp=>by have hp':p=_:=k7.mp hp;subst hp';exact⟨hk',pin11.2.1,pin11.2.2.1,pin11.2.2.2.1,fun v z=>by cases z⟩
    refine⟨m',hm,i+1,ys ++ [y],H10,its ++ [v],k',I13,rv.append (.cons r10 .nil),?_,f10,w'⟩;exact T.keep _ _ _ k10 fun b hb o e=>(sb.2 b (Kk (fpLt b hb))).trans e
 exact codeAny_compStart_list loop (T.self _ 0 _ _ _ (T.keep _ _ _ st2 fun b _ o e=>k34 b o (k23 b o e)) loop)
theorem Ga {wi:TI}(S:ZZ X.N X.env.scope scope Ls Fs fi)(hc:X.calm=true)(hi:PI X tg iter wi)
  (hb:∀cl C s3 H3 ex,PG (blk X scope (Ls++Fs) cl C s3 H3 ex) tg g/\PTs (blk X scope (Ls++Fs) cl C s3 H3 ex) ifs tc/\PE (blk X scope (Ls++Fs) cl C s3 H3 ex) elt te)
  (hs:∀x,foldedSetIterable iter X.env x=pure x:=by intro _;rfl):PE X (.ListComp elt [⟨tg,iter,ifs,0⟩] scope pos) (tLc Ls.length fi wi g tc te):=by
 intro pins s σ H Q I h;rw[eval_ListComp];obtain⟨cl,hcl,hcl1,hcl2⟩:=Zh6 (scope:=scope) (env:=X.env) fun y hy hf=>I.ok.has y.1 (S.all y hy hf);refine NP (use:=none) rfl hs hcl S.kind S.names (K4 (hi pins s σ H _ I h) (fun v s1 h1=>K4 h1 (fun itv s2 h2=>?_) fun _ _ e=>e) fun _ _ e=>e);obtain⟨it,fp,tn,J,H2,e,I2,T,st2,f2,hW⟩:=h2;subst e;refine Zga (RR:=fun acc C=>compPost (model X.prog X.w) X.A X.xe none (EP X pins σ Q) acc C) S (hb cl) hcl1 hcl2 I2 (fun C s3 H3 ex=>Turn.at (X:=blk X scope (Ls++Fs) cl C s3 H3 ex) T hc) st2 f2 hW fun D C H' s' m I' q hn f=>?_;obtain⟨f0,f1,f2,f3,f4,f5⟩:=f;exact⟨m,hn,fun h' hs'=>⟨.ref D,H',I'.turned (it:=C) (t':=s'.toks) (fun b o hb e=>(hs'.2 b hb).trans e) f0 f1 f3 f4 f5,rfl,q⟩⟩
theorem Zdc {wi:TI}{i:Nat}{x:Str}{pos' spos:Pos}(hN:X.N.Nodup)(hi':X.N[i]? = some x)(hx:Loc X.env.scope x)(S:ZZ X.N X.env.scope scope Ls Fs fi)(hc:X.calm=true)(hi:PI X tg iter wi)
  (hb:∀cl C s3 H3 ex,PG (blk X scope (Ls++Fs) cl C s3 H3 ex) tg g/\PTs (blk X scope (Ls++Fs) cl C s3 H3 ex) ifs tc/\PE (blk X scope (Ls++Fs) cl C s3 H3 ex) elt te)
  (hsw:swapsWith (.ListComp elt [⟨tg,iter,ifs,0⟩] scope pos) (some (.Name x pos')) spos.line X.env=pure true:=by rfl)
  (hs:∀x,foldedSetIterable iter X.env x=pure x:=by intro _;rfl) (hf:X.fn x=true∨X.env.scope.names.lookup x=some .local:=by first | exact .inl rfl | exact .inr rfl | assumption):
  PS X (.Assign [.Name x pos'] (.ListComp elt [⟨tg,iter,ifs,0⟩] scope pos) spos) (W6 (tLc Ls.length fi wi g tc te) (Yw i)):=by
 intro pins s σ H D' I h;rw[exec_Assign_Name_used _ _ _ _ hsw];obtain⟨cl,hcl,hcl1,hcl2⟩:=Zh6 (scope:=scope) (env:=X.env) fun y hy hf=>I.ok.has y.1 (S.all y hy hf);refine ka (Xc (ka ?_));show wpAny _ X.A (do let _ <- comprehension (.ListComp elt [⟨tg,iter,ifs,0⟩] scope pos) scope X.env _ (newList []) false (eval iter X.env) (some (assign (.Name x pos') X.env))) _ _ s;refine ka (K4 (NP (use:=some (assign (.Name x pos') X.env)) (Q:=fun _ s'=>SP X pins D' .next s') rfl hs hcl S.kind S.names
  (K4 (hi pins s σ H _ I h) (fun v s1 h1=>K4 h1 (fun itv s2 h2=>?_) fun _ _ e=>e) fun _ _ e=>e)) (fun _ s' hq=>km (km hq)) fun _ _ e=>e)
 obtain⟨it,fp,tn,J,H2,e,I2,T,st2,f2,hW⟩:=h2;subst e;refine Zga (RR:=fun acc C=>compPost (model X.prog X.w) X.A X.xe (some (assign (.Name x pos') X.env)) (fun _ s'=>SP X pins D' .next s') acc C) (Q:=fun x H1=>Yw i x σ H1 D'.nx) S (hb cl) hcl1 hcl2 I2 (fun C s3 H3 ex=>Turn.at (X:=blk X scope (Ls++Fs) cl C s3 H3 ex) T hc) st2 f2 hW fun D C H' s' m I' q hn f=>?_;obtain⟨f0,f1,f2,f3,f4,f5⟩:=f;show wpAny _ X.A (assign (.Name x pos') X.env (.ref D)) _ _ _;refine wpAny_assign_Name (ZdT I' hN hi' hx (v:=.ref D) rfl (fun s'' I'' hch=>?_) hf);obtain⟨a,sb,ha⟩:=hch;have hCa:C≠a:=by
  rcases ha with z | z
  ·rw[z];exact f1
  ·exact(f4 x a z).symm
 exact⟨m,hn.sameBut sb hCa,fun h' hs'=>⟨_,H',I''.turned (it:=C) (t':=s''.toks) (fun b o hb e=>(hs'.2 b hb).trans e) f0 f1 f3 f4 f5,q⟩⟩
end
end L2
namespace L2
open PySem PySem.Spec PyProof.Rows PyProof.V
def Ite (K:QF)(a:Addr):It:=
 ⟨fun i H=>∃xs x,Zt K H a xs/\xs[i]? = some x,fun i H v H'=>∃p x,v = .ref p/\H p=none/\H'=upd H p (.tup [.int i,x]) /\ ∀xs,Zt K H a xs->xs[i]? = some x,fun i H=>∃xs,Zt K H a xs/\xs.length<=i⟩
theorem Ziq {P:Program}{w:World}{K:QF}{es:QV}{k:Nat}{pos:Pos}(a e it:Addr)(hei:e≠it):
  Turn P w K (.Tuple es k pos) (Ite K a) [e,it] e (fun i h=>(∃old,IsEnum h e it i old)/\h.IsListIter it a i) where
 mem:=by simp
 obj:=fun i h st b hb=>by
  obtain⟨⟨old,he⟩,o,ho,c,d⟩:=st;rcases kP.mp hb with z | z
  ·subst z;exact⟨_,he,fun v z=>by have z':Data.fields _=Data.cell v:=z;cases z'⟩
  ·have z':b=it:=by simpa using z
   subst z';exact⟨o,ho,fun v z=>by rw[d] at z;cases z⟩
 keep:=fun i h h' st k=>by obtain⟨⟨old,he⟩,hi⟩:=st;exact⟨⟨old,k e (by simp) _ he⟩,hi.at fun o x=>k it (by simp) o x⟩
 item:=by
  intro X hP hw hK hc i pins s σ H E I hf st hg;subst hP hw hK;obtain⟨xs,x,hq,hx⟩:=hg;obtain⟨its,rv,p,hz⟩:=I.list hq;obtain⟨u,hu,ru⟩:=rv.get hx;obtain⟨⟨old,he⟩,hi⟩:=st;obtain⟨e0,e1,e2,e3,e4,e5⟩:=hf e (by simp);obtain⟨f0,f1,f2,f3,f4,f5⟩:=hf it (by simp);refine wpAny_pyNext_enum_item he hi p.isList (x:=u) (by simpa using hu) hei fun h' ho hit ht hsz kk=>⟨_,rfl,?_⟩;refine wpAny_letOwnedTupleGo_enum (s:={ s with heap:=h',toks:=s.toks+1 }) ho fun h'' he'' hs''=>?_;have Tn:@LT.lt Nat _ e s.heap.objs.size:=aLt he;have kk2:∀b o,b≠e->b≠it->s.heap.get? b=some o->h''.get? b=some o:=fun b o h1 h2 q=>(hs''.2 b h1).trans (kk b o h1 h2 q);have nne:∀b u,H b=some u->b≠e/\b≠it:=fun b u q=>⟨fun z=>by (rw[z,e0] at q;cases q),fun z=>by (rw[z,f0] at q;cases q)⟩;have fr:H s.heap.objs.size=none:=I.hok.fresh (ki _);have hT:h''.get? s.heap.objs.size=some { cls:=.type "tuple", data:=.seq #[.int i s.toks,u] }:=(hs''.2 _ (Xn Tn)).trans ht;have nT:∀b o,s.heap.get? b=some o->b≠s.heap.objs.size:=fun b o q=>Kk (aLt q);have ok':W7 X.prog X.w (upd H s.heap.objs.size (.tup [.int i,x])) h'':=fun b o q=>by
   by_cases hb:b=s.heap.objs.size
   ·subst hb;rw[Zc] at q;cases q;exact⟨show 2<=sizeLine by decide,[.int i s.toks,u],.cons ⟨_,rfl⟩ (.cons ru .nil),⟨_,hT,rfl,_,rfl⟩⟩
   ·rw[Zh hb] at q;refine(I.hok b o q).stay (fun c v hc r=>?_) (fun c r=>by rw[Zh (Zf r fr)];exact r) fun c xs r=>by rw[Zh (Zf r fr)];exact r
    rcases hc with z | z
    ·subst z;exact kk2 c v (nne c o q).1 (nne c o q).2 r
    ·exact kk2 c v (nne c _ z).1 (nne c _ z).2 r
  have I1:Inv X pins σ (upd H s.heap.objs.size (.tup [.int i,x])) { s with heap:=h'',gens:=s.gens,drawn:=s.drawn,toks:=s.toks+1 }:=by
   refine I.step (ch:=[e,it]) (fun b hb=>?_) (fun b o _ _ hc q _=>kk2 b o (fun z=>hc (by simp[z])) (fun z=>hc (by simp[z])) q) (fun b o _ _ hc q _=>⟨o.slots,kk2 b o (fun z=>hc (by simp[z])) (fun z=>hc (by simp[z])) q⟩)
    (fun b o _ q n=>by rw[Zh (nT b o q)];exact n) (fun b o hc q=>⟨o,kk2 b o (fun z=>hc (by simp[z])) (fun z=>hc (by simp[z])) q⟩) (fun b xs q=>by rw[Zh (Zf q fr)];exact q) (fun b o u q=>by rw[Zh (Zf q fr)];exact q)
    (fun b ps q=>⟨#[],by rw[Zh (Zf q fr),q];simp⟩) (fun m hm=>?_) ok' I.bare
   ·rcases kP.mp hb with z | z
    ·subst z;exact⟨e3,e1,e4,e5⟩
    ·have z':b=it:=by simpa using z
     subst z';exact⟨f3,f1,f4,f5⟩
   ·obtain⟨o,es,ep,ho,r⟩:=hm;exact⟨o,es,ep,kk2 _ o (Kz e1) (Kz f1) ho,r⟩
  refine⟨.ref s.heap.objs.size,_,I1,rfl,⟨s.heap.objs.size,x,rfl,fr,rfl,fun ys hy=>by rw[I.list_inj hy hq];exact hx⟩,⟨⟨_,by simpa using he''⟩,hit.at fun o q=>(hs''.2 it (Kz hei)).trans q⟩,fun b hb=>?_⟩;have hbo:∃o,s.heap.get? b=some o:=by
   rcases kP.mp hb with z | z
   ·subst z;exact⟨_,he⟩
   ·have z':b=it:=by simpa using z
    subst z';obtain⟨o,ho,_⟩:=hi;exact⟨o,ho⟩
  obtain⟨o,hbo⟩:=hbo;rw[Zh (nT b o hbo)];exact(hf b hb).1
 done:=by intro X hP hw hK hc i pins s σ H E I hf st hg;subst hP hw hK;obtain⟨xs,hq,hx⟩:=hg;obtain⟨its,rv,p,hz⟩:=I.list hq;obtain⟨⟨old,he⟩,hi⟩:=st;obtain⟨f0,f1,f2,f3,f4,f5⟩:=hf it (by simp);have hl:=rv.length;exact wpAny_pyNext_enum_end (I.ok.hd hc) he hi p.isList (by simp;lia) fun h' eb=>⟨rfl,I.turned (t':=s.toks) (fun b o hb e=>eb b o hb e) f0 f1 f3 f4 f5⟩
 self:=fun _ _ _ _ _ st h=>by obtain⟨⟨old,he⟩,_⟩:=st;exact wpAny_pyIter_enum he h
section
variable {X:Cx}
inductive Zjr(K:QF)(R:It->Hp->Prop)(vs:QH)(H1:Hp):Prop|mk(a)(_:vs = [.ref a])(_:∃xs,Zt K H1 a xs)(_:R (Ite K a) H1)
def ZjZ (K:QF)(ta:TA):TI:=fun σ H R=>ta σ H fun vs H1=>Zjr K R vs H1
theorem Zmr {a:Expr}{ta:TA}{p pos tpos:Pos}{es:QV}{k:Nat}(hg:Gl X "enumerate")(hm:X.mg "enumerate" = none)(ha:PA X [a] ta)(hs:starEach [a] X.env = [(false,eval a X.env)]:=by rfl):
  PI X (.Tuple es k tpos) (.Call (.Name "enumerate" p) [a] [] pos) (ZjZ X.K ta):=by
 intro pins s σ H R I h;refine Call_ (Uy I hg hm boot_enumerate (qf (Yz (ha pos pins s σ H _ I h) fun us s1 ⟨vs,H1,I1,r1,q1⟩=>?_) hs rfl));obtain⟨l,e,⟨xs,hq⟩,q⟩:=q1;subst e;cases r1 with
 | cons r rr=>
  cases rr;cases r;obtain⟨its,rv,pl,hz⟩:=I1.list hq;refine call_enumerate_list pl.isList fun h' he hi hsz kk=>?_;have I2:Inv X pins σ H1 { s1 with heap:=h' }:=I1.kept (t':=s1.toks) kk;refine wpAny_pyIter_enum (s:={ s1 with heap:=h' }) he ?_;refine⟨_,[s1.heap.objs.size+1,s1.heap.objs.size],_,_,H1,rfl,I2,Ziq l _ _ (Nat.succ_ne_self _),⟨⟨_,he⟩,hi⟩,fun b hb=>?_,q⟩;have hb':s1.heap.objs.size<=b:=by
   rcases kP.mp hb with z | z
   ·subst z;exact qR _
   ·have z':b=s1.heap.objs.size:=by simpa using z
    subst z';exact ki _
  exact I1.fpOk hb' (I1.hok.fresh hb')
inductive ZeR(K:QF)(xs:QH)(H:Hp)(Q:VK):Prop|mk(x T t b)(_:xs = [x,.ty T])(_:ZbI K H x t)(_:PySem.W.kitOne K t (.type T)=some b)(_:Q (.bl b) H)
theorem Zfi:Y6 X (.builtin "isinstance") (ZeR X.K):=by intro pins s σ H xs us Q I r h;obtain⟨x,T,t,b,rfl,ty,e,q⟩:=h;obtain⟨u,v,rfl,ru,rv⟩:=r.two;cases rv;exact Zij I ru ty e fun tk=>⟨.bl b,H,I.tok _,rfl,q⟩
theorem range_all (bs:List Bool):(List.range bs.length).all (fun i=>bs.getD i false)=bs.all id:=by
 rw[qW,Xe,Xe];constructor
 ·intro h b hb;obtain⟨i,hi,rfl⟩:=TZ.mp hb;have:=h i (qa.mpr hi);simpa [hi] using this
 ·intro h i hi;have hi':i<bs.length:=qa.mp hi;have:=h bs[i] (qp hi');simpa [hi'] using this
inductive Znz(K:QF)(xs:QH)(H:Hp)(Q:VK):Prop|mk(p:Addr)(bs:List Bool)(_:xs = [.ref p])(_:Zt K H p (bs.map V.bl))(_:Q (.bl (bs.all id)) H)
theorem ZjI (hc:X.calm=true):Y6 X (.builtin "all") (Znz X.K):=by
 intro pins s σ H xs us Q I r h;obtain⟨p,bs,rfl,hq,q⟩:=h;obtain⟨u,rfl,ru⟩:=r.one;cases ru;obtain⟨its,rv,pl,hz⟩:=I.list hq;have hlen:bs.length=its.length:=by simpa using rv.length
 have hh:X.A.in1.handled=none:=I.ok.hd hc;have hp:p<s.heap.objs.size:=by obtain⟨o,ho,_⟩:=pl.isList;exact Kc ho
 refine call_all_walk (wpAny_pyIter_list pl.isList ?_);refine⟨s.heap.objs.size,_,_,_,_,_,fun i=>bs.getD i false,rfl,Walks.list hh s.heap.objs.size p (Kk hp) its.toArray,⟨⟨_,Km _ rfl,rfl,rfl⟩,?_⟩,fun i v s2 Q2 E2 hv hq2=>?_,fun h' tk kk=>?_⟩
 ·obtain⟨o,ho,r⟩:=pl.isList;exact⟨o,ko _ ho,r⟩
 ·have hv':its[i]? = some v:=by simpa using hv
  have hi:i<bs.length:=by rw[hlen];exact(kI.mp hv').1
  obtain⟨w,hw,rw'⟩:=rv.get (i:=i) (x:=.bl bs[i]) (by simp[hi]);rw[hv'] at hw;cases hw;cases rw';refine KS ?_;have e:bs.getD i false=bs[i]:=by simp[hi]
  rw[<- e];exact hq2
 ·have hk:∀b o,s.heap.get? b=some o->h'.get? b=some o:=fun b o e=>kk b o (fun z=>by
   have z':b=s.heap.objs.size:=by simpa using z
   exact qF _ (z' ▸ Kc e)) (ko _ e)
  refine⟨.bl (bs.all id),H,I.kept (t':=tk) hk,?_,q⟩;have e:its.toArray.size=bs.length:=by rw[kF,hlen]
  rw[e,range_all];rfl
theorem JW:∀{ns:QG}{vs:QJ},Vals (ns.map V.int) vs->IntsAre vs ns
 | [],_,r=>by cases r;exact .nil
 | n::ns,_,r=>by
  cases r with
  | cons r rr=>
   obtain⟨t,rfl⟩:=r;exact .cons n t (JW rr)
inductive ZeG(K:QF)(xs:QH)(H:Hp)(Q:VK):Prop|mk(p:Addr)(ns:QG)(_:xs = [.ref p])(_:Zt K H p (ns.map V.int))(_:ns.length<64)(_:∀(l:Addr)(ns':QG),H l=none->ns'.Perm ns->ns'.Pairwise (· <= ·)->Q (.ref l) (upd H l (.lst (ns'.map V.int))))
theorem Zfa:Y6 X (.builtin "sorted") (ZeG X.K):=by
 intro pins s σ H xs us Q I r h;obtain⟨p,ns,rfl,hq,h64,q⟩:=h;obtain⟨u,rfl,ru⟩:=r.one;cases ru;obtain⟨its,rv,pl,hz⟩:=I.list hq;have hlen:ns.length=its.length:=by simpa using rv.length
 refine sorted_ints pl.isList (JW rv) (by lia) fun out ns' a1 a2 a3=>?_;obtain⟨e,he⟩:=sortedAll_at s.heap its out;have fr:H (s.heap.objs.size+1)=none:=I.hok.fresh (qR _);have hl':ns'.length=ns.length:=a2.length_eq;refine⟨.ref (s.heap.objs.size+1),_,I.laid (a:=s.heap.objs.size+1) (o:=.lst (ns'.map V.int)) (t':=s.toks) (fun b o q=>sortedAll_old q) (qR _) ⟨?_,out.toList,e,Zav a1,?_⟩,rfl,q _ _ fr a2 a3⟩
 ·rw[ke];have:(ns.map V.int).length<=sizeLine:=hz;rw[ke] at this;lia
 ·simpa [seqObj] using he
inductive ZgI(K:QF)(x:V)(vs:QH)(H:Hp)(Q:VK):Prop|mk(l:Addr)(xs:QH)(y:V)(_:x = .ref l)(_:vs = [y])(_:Zt K H l xs)(_:WO y=true)(_:xs.all WO=true)(_:Q (.int (xs.countP fun z=>eqV z y)) H)
theorem ZcB {x:V}:∀{xs:QH}{us:QJ},Vals xs us->xs.all WO=true->us.countP (eqU x)=xs.countP fun y=>eqV y x
 | _,_,.nil,_=>rfl
 | _,_,.cons r rr,h=>by rw[M7,KQ] at h;rw[X8,X8,ZcB rr h.2,ZgF r h.1]
theorem ZjE:MtM X "list.count" (ZgI X.K):=by intro pins s σ H x vs v us Q I rx rv h;obtain⟨l,xs,y,rfl,rfl,hq,fy,fx,q⟩:=h;cases rx;obtain⟨u,rfl,ru⟩:=rv.one;obtain⟨its,r,pl,hz⟩:=I.list hq;obtain⟨⟨c,dd,dt,sl⟩,ho,hc,n,hd⟩:=pl.isList;simp only at hc hd;subst hc hd;refine Ti F.slot_list_count ⟨_,ho,rfl⟩ F.entry_list_count (F.args_list_count_2 _ _) (SeqAt.list_countAt l its.toArray n dd sl u (eqU y)) ⟨ho,fun w hw=>Zbo ru fy r fx w (by simpa using hw),?_⟩;refine⟨.int _,H,I.tok _,⟨_,rfl⟩,?_⟩;rw[show its.toArray.toList=its by simp,ZcB r fx];exact q
end
inductive Eqv (K:QF)(H:Hp):Nat->V->V->Prop
 | flat {n:Nat}{x:V}:WO x=true->Eqv K H n x x
 | same {n:Nat}{a:Addr}:Eqv K H n (.ref a) (.ref a)
 | lst {n:Nat}{a b:Addr}{xs ys:QH}:Zt K H a xs->Zt K H b ys->xs.length=ys.length->(∀(i:Nat)(x y:V),xs[i]? = some x->ys[i]? = some y->Eqv K H n x y)->Eqv K H (n+1) (.ref a) (.ref b)
 | tup {n:Nat}{a b:Addr}{xs ys:QH}:YJ K H a xs->YJ K H b ys->xs.length=ys.length->(∀(i:Nat)(x y:V),xs[i]? = some x->ys[i]? = some y->Eqv K H n x y)->Eqv K H (n+1) (.ref a) (.ref b)
theorem all_true (n:Nat):((List.range n).all fun _=>true)=true:=by rw[Xe];intro _ _;rfl
theorem Zi5 {x:V}(h:WO x=true):eqV x x=true:=by cases x<;>simp_all [eqV,WO]
theorem Eqv.at {X:Cx}{pins:QC}{σ:St}{H:Hp}{s:Shared}(I:Inv X pins σ H s):∀{n:Nat}{x y:V}{u v:Value}{A:Around},Eqv X.K H n x y->RelV x u->RelV y v->A.units+n<cLine->SeqAt.EqAt A s u v true:=by
 intro n x y u v A h
 induction h generalizing u v A with
 | flat f=>
  intro ru rv _;have:=Zjt (A:=A) (s:=s) ru rv f f;rw[Zi5 f] at this;exact this
 | same=>
  intro ru rv _;cases ru;cases rv;exact T6 _
 | @lst n a b xs ys ha hb hl _ ih=>
  intro ru rv hu;cases ru;cases rv;by_cases e:a=b
  ·subst e;exact T6 _
  ·obtain⟨its,r1,p1,_⟩:=I.list ha;obtain⟨its2,r2,p2,_⟩:=I.list hb;have l1:=r1.length;have l2:=r2.length;refine SeqAt.EqAt.of_refs e ?_;have q:=SeqAt.RcAt.lists (A:=A) (e:=fun _=>true) p1.isList p2.isList (by simp only[kF];lia) (by lia) fun j h1 h2=>by
    simp only[kF] at h1 h2;obtain⟨u1,e1,s1⟩:=r1.get (i:=j) (x:=xs[j]'(by lia)) (by simp);obtain⟨u2,e2,s2⟩:=r2.get (i:=j) (x:=ys[j]'(by lia)) (by simp);have z1:its.toArray[j]=u1:=by
     have:its[j]? = some its[j]:=by simp[h1]
     rw[this] at e1;simpa using Kb e1
    have z2:its2.toArray[j]=u2:=by
     have:its2[j]? = some its2[j]:=by simp[h2]
     rw[this] at e2;simpa using Kb e2
    rw[z1,z2];exact ih j _ _ (by simp) (by simp) s1 s2 (by show A.units+1+n<cLine;lia)
   rw[all_true] at q;exact q
 | @tup n a b xs ys ha hb hl _ ih=>
  intro ru rv hu;cases ru;cases rv;by_cases e:a=b
  ·subst e;exact T6 _
  ·obtain⟨its,r1,p1,_⟩:=I.tuple ha;obtain⟨its2,r2,p2,_⟩:=I.tuple hb;have l1:=r1.length;have l2:=r2.length;refine SeqAt.EqAt.of_refs e ?_;have q:=SeqAt.RcAt.tuples (A:=A) (s:=s) (l:=a) (b:=b) (items:=its.toArray) (items2:=its2.toArray) (e:=fun _=>true) p1 p2 (by lia) fun j h1 h2=>by
    simp only[kF] at h1 h2;obtain⟨u1,e1,s1⟩:=r1.get (i:=j) (x:=xs[j]'(by lia)) (by simp);obtain⟨u2,e2,s2⟩:=r2.get (i:=j) (x:=ys[j]'(by lia)) (by simp);have z1:its.toArray[j]=u1:=by
     have:its[j]? = some its[j]:=by simp[h1]
     rw[this] at e1;simpa using Kb e1
    have z2:its2.toArray[j]=u2:=by
     have:its2[j]? = some its2[j]:=by simp[h2]
     rw[this] at e2;simpa using Kb e2
    rw[z1,z2];exact ih j _ _ (by simp) (by simp) s1 s2 (by show A.units+1+n<cLine;lia)
   have e3:(its.toArray.size==its2.toArray.size)=true:=by rw[Mm];simp only[kF];lia
   rw[e3,all_true] at q;exact q
section
variable {X:Cx}
inductive ZjQ(K:QF)(b:Bool)(x y:V)(H:Hp)(Q:VK):Prop|mk(p q:Addr)(xs ys:QH)(_:x = .ref p)(_:y = .ref q)(_:Zt K H p xs)(_:Zt K H q ys)(_:xs.length=ys.length)(_:∀(i:Nat)(x y:V),xs[i]? = some x->ys[i]? = some y->Eqv K H 60 x y)(_:Q (.bl b) H)
theorem Zea {pins:QC}{σ:St}{H:Hp}{s:Shared}{xs ys:QH}{its its2:QJ}{A:Around}(I:Inv X pins σ H s)(r1:Vals xs its)(r2:Vals ys its2)(hl:xs.length=ys.length)(h:∀(i:Nat)(x y:V),xs[i]? = some x->ys[i]? = some y->Eqv X.K H 60 x y)(hu:A.units+62<cLine):
  ∀j (h1:j<its.toArray.size) (h2:j<its2.toArray.size),SeqAt.EqAt A.in1 s its.toArray[j] its2.toArray[j] ((fun _=>true) j):=fun j h1 h2=>by
 have l1:=r1.length;have l2:=r2.length;simp only[kF] at h1 h2;obtain⟨u1,e1,s1⟩:=r1.get (i:=j) (x:=xs[j]'(by lia)) (by simp);obtain⟨u2,e2,s2⟩:=r2.get (i:=j) (x:=ys[j]'(by lia)) (by simp);have z1:its.toArray[j]=u1:=by
  have:its[j]? = some its[j]:=by simp[h1]
  rw[this] at e1;simpa using Kb e1
 have z2:its2.toArray[j]=u2:=by
  have:its2[j]? = some its2[j]:=by simp[h2]
  rw[this] at e2;simpa using Kb e2
 rw[z1,z2];exact Eqv.at I (h j _ _ (by simp) (by simp)) s1 s2 (by show A.units+1+60<cLine;lia)
theorem Znt (hu:X.A.units+64<cLine):UN X (compareOp .Eq) (ZjQ X.K true):=by intro pins s σ H x y v u Q I rx ry h;obtain⟨p,q,xs,ys,rfl,rfl,hp,hq,hl,he,hQ⟩:=h;cases rx;cases ry;obtain⟨its,r1,p1,_⟩:=I.list hp;obtain⟨its2,r2,p2,_⟩:=I.list hq;have l1:=r1.length;have l2:=r2.length;refine SeqAt.eq_listAt (e:=fun _=>true) p1.isList p2.isList (by simp only[kF];lia) (by lia) (Zea I r1 r2 hl he (by lia)) ⟨.bl true,H,I,?_,hQ⟩;show Value.bool _=Value.bool true;simp
theorem Zno (hu:X.A.units+64<cLine):UN X (compareOp .NotEq) (ZjQ X.K false):=by intro pins s σ H x y v u Q I rx ry h;obtain⟨p,q,xs,ys,rfl,rfl,hp,hq,hl,he,hQ⟩:=h;cases rx;cases ry;obtain⟨its,r1,p1,_⟩:=I.list hp;obtain⟨its2,r2,p2,_⟩:=I.list hq;have l1:=r1.length;have l2:=r2.length;refine SeqAt.RcNeAt.lists (e:=fun _=>true) p1.isList p2.isList (by simp only[kF];lia) (by lia) (Zea I r1 r2 hl he (by lia)) X.prog X.w _ _ ⟨.bl false,H,I,?_,hQ⟩;show Value.bool _=Value.bool false;simp
theorem Zs {K:QF}(h:X.K=K):IxR X (ZnG K):=h ▸ Zmd
theorem ZL {K:QF}(h:X.K=K):IxR X (Zdh K):=h ▸ ZnQ
theorem Js {K:QF}(h:X.K=K):SlR X (Znk K):=h ▸ Zmn
theorem Zar {K:QF}(h:X.K=K):MtM X "list.count" (ZgI K):=h ▸ ZjE
theorem Zlk {K:QF}(h:X.K=K)(hu:X.A.units+64<cLine):UN X (compareOp .Eq) (ZjQ K true):=h ▸ Znt hu
theorem ZhU {K:QF}(h:X.K=K)(hu:X.A.units+64<cLine):UN X (compareOp .NotEq) (ZjQ K false):=h ▸ Zno hu
theorem Ys {K:QF}(h:X.K=K):Y6 X (.builtin "len") (ZjH K):=h ▸ Zes
theorem JU {K:QF}(h:X.K=K):Y6 X (.builtin "isinstance") (ZeR K):=h ▸ Zfi
theorem Zef {K:QF}(h:X.K=K)(hc:X.calm=true):Y6 X (.builtin "all") (Znz K):=h ▸ ZjI hc
theorem Zbv {K:QF}(h:X.K=K):Y6 X (.builtin "sorted") (ZeG K):=h ▸ Zfa
theorem Jc {K:QF}(h:X.K=K):Y6 X (.type "list") (Za9 K):=h ▸ Ze1
theorem Z6 {K:QF}{es:QV}{k:Nat}{t:TGs}{n:Nat}{pos:Pos}(hk:X.K=K)(hc:X.calm=true)(h:PGs X es t)(hn:(assignEach es X.env).length=n:=by rfl)(hst:(assignEach es X.env).findIdx? (·.1)=none:=by rfl):PG X (.Tuple es k pos) (ZeL K n t):=hk ▸ Zn8 hc h hn hst
theorem Yh {K:QF}{T:String}{name:Str}{r:V->List V->Hp->VK->Prop}{o e:Expr}{es:QV}{to:TE}{t:TA}{apos pos:Pos}(hk:X.K=K)(h:PE X (.Call (.Attribute o name apos) (e::es) [] pos) (tBM X.K T r to t)):PE X (.Call (.Attribute o name apos) (e::es) [] pos) (tBM K T r to t):=hk ▸ h
theorem ZT {K:QF}{l tg:Expr}{tl:TE}(hk:X.K=K)(hl:PE X l tl):PI X tg l (Zfw K tl):=hk ▸ ZlF hl
theorem Gd {K:QF}{a:Expr}{ta:TA}{p pos tpos:Pos}{es:QV}{k:Nat}(hk:X.K=K)(hg:Gl X "enumerate")(hm:X.mg "enumerate" = none)(ha:PA X [a] ta)(hs:starEach [a] X.env = [(false,eval a X.env)]:=by rfl):
  PI X (.Tuple es k tpos) (.Call (.Name "enumerate" p) [a] [] pos) (ZjZ K ta):=hk ▸ Zmr hg hm ha hs
end
section
variable {g:TG}{tc:TT}{te:TE}{σ:St}{H:Hp}{Q:VK}{K:QF}{a:Addr}{xs:QH}
theorem Zem {J:It}{n:Nat}(hn:n<=sizeLine)(Pv:Nat->List V->Hp->Prop)(h0:Pv 0 [] H)(hlen:∀i ys H,Pv i ys H->ys.length<=i)(go:∀i ys H,i<n->Pv i ys H->J.go i H)(stop:∀ys H,Pv n ys H->J.stop n H)
  (hs:∀i ys H,i<n->Pv i ys H -> ∀x H',J.yld i H x H'->g x σ H' fun σ2 H2=>tc σ2 H2 fun b H3=>if b=true then te σ2 H3 fun y H4=>Pv (i+1) (ys ++ [y]) H4 else Pv (i+1) ys H3)
  (hd:∀ys H,Pv n ys H -> ∀D,H D=none->Q (.ref D) (upd H D (.lst ys))):LcW J σ g tc te H Q:=by
 unfold LcW;refine⟨fun i m ys H=>m=n-i/\i<=n/\Pv i ys H,⟨n,by simp,KP _,h0⟩,?_⟩;rintro i m ys H ⟨rfl,hi,p⟩;have hy:=hlen i ys H p;by_cases hlt:i<n
 ·exact .inr ⟨go i ys H hlt p,by lia,Pv (i+1),fun ys' H' h2=>⟨n-(i+1),by lia,rfl,hlt,h2⟩,fun x H' y=>hs i ys H hlt p x H' y⟩
 ·have e:i=n:=by lia
  subst e;exact .inl ⟨stop ys H p,by lia,hd ys H p⟩
theorem Ja (hn:xs.length<=sizeLine)(Pv:Nat->List V->Hp->Prop)(h0:Pv 0 [] H)(hlen:∀i ys H,Pv i ys H->ys.length<=i)(hS:∀i ys H,Pv i ys H->Zt K H a xs)
  (hs:∀i x ys H,xs[i]? = some x->Pv i ys H->g x σ H fun σ2 H2=>tc σ2 H2 fun b H3=>if b=true then te σ2 H3 fun y H4=>Pv (i+1) (ys ++ [y]) H4 else Pv (i+1) ys H3)
  (hd:∀ys H,Pv xs.length ys H -> ∀D,H D=none->Q (.ref D) (upd H D (.lst ys))):LcW (Itl K a) σ g tc te H Q:=
 Zem hn Pv h0 hlen (fun i ys H hi p=>⟨xs,xs[i],hS i ys H p,by simp[hi]⟩) (fun ys H p=>⟨xs,hS _ ys H p,ki _⟩) (fun i ys H hi p x H' y=>by obtain⟨e,y⟩:=y;subst e;exact hs i x ys _ (y xs (hS i ys _ p)) p) hd
theorem Zgz {lo:Int}{n:Nat}(hn:n<=sizeLine)(Pv:Nat->List V->Hp->Prop)(h0:Pv 0 [] H)(hlen:∀i ys H,Pv i ys H->ys.length<=i)
  (hs:∀i ys H,i<n->Pv i ys H->g (.int (lo+i)) σ H fun σ2 H2=>tc σ2 H2 fun b H3=>if b=true then te σ2 H3 fun y H4=>Pv (i+1) (ys ++ [y]) H4 else Pv (i+1) ys H3)
  (hd:∀ys H,Pv n ys H -> ∀D,H D=none->Q (.ref D) (upd H D (.lst ys))):LcW (Itr lo n) σ g tc te H Q:=
 Zem hn Pv h0 hlen (fun i ys H hi p=>hi) (fun ys H p=>ki _) (fun i ys H hi p x H' y=>by obtain⟨e,y⟩:=y;subst e y;exact hs i ys _ hi p) hd
theorem ZiW (hn:xs.length<=sizeLine)(Pv:Nat->List V->Hp->Prop)(h0:Pv 0 [] H)(hlen:∀i ys H,Pv i ys H->ys.length<=i)(hS:∀i ys H,Pv i ys H->Zt K H a xs)
  (hs:∀i x p ys H,xs[i]? = some x->Pv i ys H->H p=none->g (.ref p) σ (upd H p (.tup [.int i,x])) fun σ2 H2=>tc σ2 H2 fun b H3=>if b=true then te σ2 H3 fun y H4=>Pv (i+1) (ys ++ [y]) H4 else Pv (i+1) ys H3)
  (hd:∀ys H,Pv xs.length ys H -> ∀D,H D=none->Q (.ref D) (upd H D (.lst ys))):LcW (Ite K a) σ g tc te H Q:=
 Zem hn Pv h0 hlen (fun i ys H hi p=>⟨xs,xs[i],hS i ys H p,by simp[hi]⟩) (fun ys H p=>⟨xs,hS _ ys H p,ki _⟩) (fun i ys H hi p x H' y=>by obtain⟨q,z,e1,e2,e3,y⟩:=y;subst e1 e3;exact hs i z q ys _ (y xs (hS i ys _ p)) p e2) hd
end
def YC (N:QP)(osc scope:Scope)(Fs:QP)(fi:List Nat):Bool:=
 (scope.kind == .function)&&scope.names.all (fun y=>y.2 != .cell)&&scope.names.all (fun y=>y.2 != .local||scope.names.lookup y.1==some .local)&&Fs.all (fun x=>scope.names.lookup x==some .free) &&
  scope.names.all (fun y=>y.2 != .free||osc.names.lookup y.1==some .cell||osc.names.lookup y.1==some .free)&&(fi.map (fun i=>N[i]?)==Fs.map some)
theorem ZZ.of {N:QP}{osc scope:Scope}{Ls Fs:QP}{fi:List Nat}(h:YC N osc scope Fs fi=true):ZZ N osc scope Ls Fs fi:=by
 simp only[YC,KQ,Xe,XG,Mn,Mm] at h;obtain⟨⟨⟨⟨⟨h1,h2⟩,h3⟩,h4⟩,h5⟩,h6⟩:=h;refine⟨h1,h2,fun y hy hl=>(h3 y hy).elim (fun z=>absurd hl z) id,h4,fun y hy hf=>?_,h6⟩;rcases h5 y hy with(z | z) | z
 ·exact absurd hf z
 ·exact .inl z
 ·exact .inr z
def JM (P:Program)(w:World)(K:QF)(mg:QN)(base:Heap)(k:Nat)(x:Str)(ps:QP)(sp:Sp):Prop:=
 ∃(f:Addr)(fd:FuncData),Yi P w K mg base WH k f fd ps sp/\mg x=some (.ref f)/\PySem.W.keepIn K (.ref f)=true/\Binds K fd ps []
theorem Zq {X:Cx}{j k:Nat}{x:Str}{ps:QP}{sp:Sp}{p pos:Pos}{e:Expr}{es:QV}{t:TA}(h:JM X.prog X.w X.K X.mg X.base j x ps sp)(hr:Gv k X.A)(ha:PA X (e::es) t)(hj:j<=k:=by decide)(hg:Gl X x:=by rfl)(hdb:(x==("__debug__" : Str))=false:=by decide)
  (he:starEach (e::es) X.env=(false,eval e X.env)::starEach es X.env:=by rfl) (hpl:(backTo pos (starEach es X.env)).any (·.1)=false:=by rfl):PE X (.Call (.Name x p) (e::es) [] pos) (Zb5 sp [] E0 t):=by
 obtain⟨f,fd,G,hm,hk,hb⟩:=h;exact ZhX G (hr.mono hj) hg hm hk hb .nil Zo5 ha hdb he hpl
def YK (b:Addr)(H H':Hp):Prop:=∀c o,H c=some o->c≠b->H' c=some o
theorem YK.refl (b:Addr)(H:Hp):YK b H H:=fun _ _ h _=>h
theorem YK.trans {b:Addr}{H H1 H2:Hp}(x:YK b H H1)(y:YK b H1 H2):YK b H H2:=fun c o h n=>y c o (x c o h n) n
theorem Zi.frm {b:Addr}{H H':Hp}(x:Zi H H'):YK b H H':=fun c o h _=>x c o h
theorem Zi.laid {H:Hp}{p:Addr}{o:HO}(h:H p=none):Zi H (upd H p o):=fun c u e=>by rw[Zh (Zf e h)];exact e
theorem Zi.step {H H':Hp}{p:Addr}{o:HO}(s:Zi H H')(h:H' p=none):Zi H (upd H' p o):=s.trans (.laid h)
theorem YK.upd {b:Addr}{H:Hp}{o:HO}:YK b H (upd H b o):=fun c u e n=>by rw[Zh n];exact e
theorem YK.new {b p:Addr}{H H':Hp}{o:HO}(s:YK b H H')(h:H' p=none):YK b H (L2.upd H' p o):=s.trans (Zi.laid h).frm
theorem Zi.put {H H':Hp}{p:Addr}{o:HO}(s:Zi H H')(h:H p=none):Zi H (upd H' p o):=fun c u e=>by rw[Zh (Zf e h)];exact s c u e
def Bag (H:Hp)(b:Addr):Prop:=∃g r:Int,0<=g/\H b=some (.lst [.int g,.int r])
theorem YK.free {b:Addr}{H H':Hp}(f:YK b H H')(hb:Bag H' b){p:Addr}(h:H' p=none):H p=none:=by
 cases q:H p with
 | none=>rfl
 | some o=>
  by_cases e:p=b
  ·subst e;obtain⟨g,r,_,z⟩:=hb;rw[h] at z;cases z
  ·rw[f p o q e] at h;cases h
def ZD (H:Hp)(xs:QH)(ls:QB):Prop:=Paired (fun x (p:Str×Int)=>∃t,x=V.ref t/\H t=some (.tup [.str p.1,.int p.2])) xs ls
theorem ZD.mono {H H':Hp}(h:∀t p,H t=some (.tup p)->H' t=some (.tup p)):∀{xs:QH}{ls:QB},ZD H xs ls->ZD H' xs ls
 | _,_,.nil=>.nil
 | _,_,.cons ⟨t,e,q⟩ r=>.cons ⟨t,e,h t _ q⟩ (ZD.mono h r)
theorem ZD.same {H H':Hp}(s:Zi H H'){xs:QH}{ls:QB}(h:ZD H xs ls):ZD H' xs ls:=h.mono fun t p e=>s t _ e
theorem ZD.frm {b:Addr}{H H':Hp}(s:YK b H H')(hb:Bag H b){xs:QH}{ls:QB}(h:ZD H xs ls):ZD H' xs ls:=h.mono fun t p e=>s t _ e (fun z=>by obtain⟨g,r,_,q⟩:=hb;rw[z,q] at e;cases e)
theorem ZD.len {H:Hp}{xs:QH}{ls:QB}(h:ZD H xs ls):xs.length=ls.length:=Xb h
theorem ZD.get {H:Hp}:∀{xs:QH}{ls:QB}{i:Nat}{x:V},ZD H xs ls->xs[i]? = some x -> ∃p t,ls[i]? = some p/\x = .ref t/\H t=some (.tup [.str p.1,.int p.2])
 | _,_,_,_,.nil,e=>by simp at e
 | _,_,0,_,.cons ⟨t,e1,q⟩ _,e=>by simp at e;subst e;exact⟨_,t,rfl,e1,q⟩
 | _,_,i+1,x,.cons _ r,e=>by obtain⟨p,t,h1,h2⟩:=ZD.get (i:=i) (x:=x) r (by simpa using e);exact⟨p,t,by simpa using h1,h2⟩
theorem ZD.snoc {H:Hp}{xs:QH}{ls:QB}{t:Addr}{x:Str}{k:Int}(h:ZD H xs ls)(e:H t=some (.tup [.str x,.int k])):ZD H (xs ++ [.ref t]) (ls ++ [(x,k)]):=T1 h ⟨t,rfl,e⟩
theorem ZD.append {H:Hp}:∀{xs ys:QH}{ls ms:QB},ZD H xs ls->ZD H ys ms->ZD H (xs++ys) (ls++ms)
 | _,_,_,_,.nil,s=>s
 | _,_,_,_,.cons r t,s=>.cons r (ZD.append t s)
inductive Wk:List (Str×Int)->Int->Prop
 | nil:Wk [] 0
 | born {ls:QB}{n k:Int}:Wk ls n->0<=k->k<=n->Wk (ls ++ [((("born" : Str),k):Str×Int)]) (n+2)
 | cross {ls:QB}{n k:Int}:Wk ls n->0<=k->k+1<n->Wk (ls ++ [((("cross" : Str),k):Str×Int)]) n
 | fin {ls:QB}{n k:Int}:Wk ls n->0<=k->k+1<n->Wk (ls ++ [((("end" : Str),k):Str×Int)]) (n-2)
def Kd (x:Str):Prop:=x = "born" ∨ x = "cross" ∨ x = "end"
theorem Wk.kd {ls:QB}{n:Int}(h:Wk ls n):∀p∈ls,Kd p.1:=by
 induction h with
 | nil=>intro p hp;cases hp
 | born _ _ _ ih=>intro p hp;rcases KC.mp hp with z | z;exact ih p z;rw[k7.mp z];exact .inl rfl
 | cross _ _ _ ih=>intro p hp;rcases KC.mp hp with z | z;exact ih p z;rw[k7.mp z];exact .inr (.inl rfl)
 | fin _ _ _ ih=>intro p hp;rcases KC.mp hp with z | z;exact ih p z;rw[k7.mp z];exact .inr (.inr rfl)
def Drw (H:Hp)(l:Addr)(ls:QB):Prop:=∃xs,H l=some (.lst xs)/\ZD H xs ls/\Wk ls 0/\ls.length<=60
def Ev (t:TT)(σ:St)(H:Hp)(β:Bool):Prop:=∀Q:Bool->Hp->Prop,Q β H->t σ H Q
theorem Zew {t u:TT}{σ:St}{H:Hp}{β γ:Bool}(h1:Ev t σ H β)(h2:β = true->Ev u σ H γ):Ev (Zlu t u) σ H (β && γ):=fun Q q=>h1 _ (by
 cases β with
 | true=>rw[kj rfl];exact h2 rfl _ q
 | false=>rw[kh k8];exact q)
theorem Zo8 {t u:TT}{σ:St}{H:Hp}{β γ:Bool}(h1:Ev t σ H β)(h2:β = false->Ev u σ H γ):Ev (tOr t u) σ H (β || γ):=fun Q q=>h1 _ (by
 cases β with
 | true=>rw[kj rfl];exact q
 | false=>rw[kh k8];exact h2 rfl _ q)
theorem Zo4 {t:TT}{σ:St}{H:Hp}{β:Bool}{T U:Hp->Prop}(h:Ev t σ H β)(h1:β = true->T H)(h2:β = false->U H):t σ H fun b H1=>if b=true then T H1 else U H1:=h _ (by
 cases β with
 | true=>rw[kj rfl];exact h1 rfl
 | false=>rw[kh k8];exact h2 rfl)
theorem ZgC {tc:TT}{t u:TS}{D:Ends}{σ:St}{H:Hp}{β:Bool}(h:Ev tc σ H β)(h1:β = true->t D σ H)(h2:β = false->u D σ H):ZeI tc t u D σ H:=Zo4 h h1 h2
theorem lcT {σ:St}{H:Hp}{A B:Hp->Prop}(h:A H):ZdK σ H fun b H3=>if b=true then A H3 else B H3:=by
 show if true=true then A H else B H
 exact ZaY h
theorem Wx {H H1 H2:Hp}{b l t:Addr}{xs:QH}{ls:QB}(x:Str)(k:Int)(f0:YK b H H1)(hb1:Bag H1 b)(hl:H1 l=some (.lst xs))(hL:ZD H1 xs ls)(hlb:l≠b)(hlf:H l=none)(f2:YK b H1 H2)(bag2:Bag H2 b)(ht:H2 t=none):
  (upd H2 t (.tup [.str x,.int k])) l=some (.lst xs)/\Bag (upd (upd H2 t (.tup [.str x,.int k])) l (.lst (xs ++ [.ref t]))) b/\YK b H (upd (upd H2 t (.tup [.str x,.int k])) l (.lst (xs ++ [.ref t]))) /\
   (upd (upd H2 t (.tup [.str x,.int k])) l (.lst (xs ++ [.ref t]))) l=some (.lst (xs ++ [.ref t]))/\ZD (upd (upd H2 t (.tup [.str x,.int k])) l (.lst (xs ++ [.ref t]))) (xs ++ [.ref t]) (ls ++ [(x,k)]):=by
 have hl2:H2 l=some (.lst xs):=f2 l _ hl hlb;have hlt:l≠t:=Zf hl2 ht;have hbt:b≠t:=by obtain⟨g,r,_,e⟩:=bag2;exact Zf e ht
 refine⟨by rw[Zh hlt];exact hl2,?_,fun c o e n=>?_,Zc,?_⟩
 ·obtain⟨g,r,h0,e⟩:=bag2;exact⟨g,r,h0,by rw[Zh (Kz hlb),Zh hbt];exact e⟩
 ·have e2:=f2 c o (f0 c o e n) n;rw[Zh (Zf e hlf),Zh (Zf e2 ht)];exact e2
 ·refine ZD.snoc ?_ (by rw[Zh (Kz hlt)];exact Zc);refine(hL.frm f2 hb1).mono fun t' p e=>?_;rw[Zh (J0 e hl2 (by intro z;cases z)),Zh (Zf e ht)];exact e
theorem Wk.nil0:Wk [] (2*((0:Nat):Int)):=Wk.nil
theorem Zct {ls:QB}:∀(n:Nat),Wk ls (2*(n:Int)) -> ∀m,m<=n->Wk (ls++List.replicate m ((("end" : Str),0):Str×Int)) (2*((n-m:Nat):Int))
 | n,h,0,_=>by simpa using h
 | n,h,m+1,hm=>by
  have ih:=Zct n h m (by lia);rw[qS,<- kJ];have e:(2*((n-(m+1):Nat):Int))=2*((n-m:Nat):Int)-2:=by lia
  rw[e];exact Wk.fin ih (by decide) (by lia)
theorem Zec:∀(n:Nat),Wk ((List.range n).map fun(k:Nat)=>((("born" : Str),2*(k:Int)):Str×Int)) (2*(n:Int))
 | 0=>by simpa using Wk.nil
 | n+1=>by
  rw[K7,k6];have e:(2*((n+1:Nat):Int))=2*(n:Int)+2:=by lia
  rw[e];exact Wk.born (Zec n) (by lia) (by lia)
theorem lcG {i:Nat}{v:V}{σ:St}{H:Hp}{A B:QT}(h:A (σ.set i (some v)) H):Yw i v σ H fun σ2 H2=>ZdK σ2 H2 fun b H3=>if b=true then A σ2 H3 else B σ2 H3:=by
 show if true=true then A (σ.set i (some v)) H else B (σ.set i (some v)) H
 exact ZaY h
def UW (ls:QB)(pr:Str->Bool)(i:Nat):Bool:=((ls[i]?).map fun q=>pr q.1)==some true
def Ya (ls:QB)(pr:Str->Bool)(n:Nat):QG:=(List.range n).filterMap fun i=>if UW ls pr i=true then some (i:Int) else none
theorem JS (ls:QB)(pr:Str->Bool)(n:Nat):Ya ls pr (n+1)=Ya ls pr n++(if UW ls pr n=true then[(n:Int)] else[]):=by unfold Ya;rw[K7,List.filterMap_append];by_cases h:UW ls pr n=true<;>simp[h]
theorem Zf8 {ls:QB}{pr:Str->Bool}{n:Nat}{q:Str×Int}(h:ls[n]? = some q)(hp:pr q.1=true):(Ya ls pr n).map V.int ++ [V.int n]=(Ya ls pr (n+1)).map V.int:=by
 have:UW ls pr n=true:=by unfold UW;rw[h];simp[hp]
 rw[JS,this];simp
theorem Zhd {ls:QB}{pr:Str->Bool}{n:Nat}{q:Str×Int}(h:ls[n]? = some q)(hp:pr q.1=false):(Ya ls pr n).map V.int=(Ya ls pr (n+1)).map V.int:=by
 have:UW ls pr n=false:=by unfold UW;rw[h];simp[hp]
 rw[JS,this];simp
theorem J2 (ls:QB)(pr:Str->Bool)(n:Nat):(Ya ls pr n).length<=n:=by unfold Ya;exact Kx (NQ _ _) (by simp)
theorem ZaS:∀{a b:QG},a.Perm b->a.Pairwise (· <= ·)->b.Pairwise (· <= ·)->a=b
 | [],b,p,_,_=>(List.nil_perm.mp p).symm
 | x::a,[],p,_,_=>absurd p.length_eq (by simp)
 | x::a,y::b,p,ha,hb=>by
  have hx:x∈y::b:=p.mem_iff.mp kQ;have hy:y∈x::a:=p.mem_iff.mpr kQ;have h1:y<=x:=by
   rcases kP.mp hx with e | h
   ·lia
   ·exact(qu.mp hb).1 x h
  have h2:x<=y:=by
   rcases kP.mp hy with e | h
   ·lia
   ·exact(qu.mp ha).1 y h
  have e:x=y:=by lia
  subst e;rw[ZaS (List.perm_cons x |>.mp p) (qu.mp ha).2 (qu.mp hb).2]
def ZiB (x:Str):Int:=if x = "born" then 2 else if x = "end" then -2 else 0
def ZcJ (ls:QB):Int:=(ls.map fun p=>ZiB p.1).sum
theorem ZbU (ls:QB)(p:Str×Int):ZcJ (ls ++ [p])=ZcJ ls+ZiB p.1:=by unfold ZcJ;simp
theorem ZjN {xs:QH}{t:Nat}(h:t<=xs.length):GG xs none (some (t:Int))=xs.take t:=by
 have e1:HT.Jx xs.length 0 none=0:=by unfold HT.Jx;rfl
 have e2:HT.Jx xs.length xs.length (some (t:Int))=t:=by
  have h0:¬((t:Int)<0):=by lia
  unfold HT.Jx;simp[h0];lia
 unfold GG;rw[e1,e2];simp
theorem Zd0 (ns:QG):(ns.map V.int).all WO=true:=by rw[Xe];intro x hx;obtain⟨n,_,rfl⟩:=Kq.mp hx;rfl
section
variable {X:Cx}
theorem Ze7 {v:Value}{a:Int}(h:IsPart v (some a)):RelV (.int a) v:=by
 cases h with
 | int _ t=>exact⟨t,rfl⟩
inductive ZmL(v:V)(σ:St)(Q:QT)(x:V)(lo hi:QW)(H3:Hp):Prop|mk(l b:Addr)(xs ys:QH)(a c:Int)(_:x = .ref l)(_:v = .ref b)(_:lo=some a)(_:hi=some c)(_:H3 l=some (.lst xs))(_:H3 b=some (.lst ys))(_:l≠b)(_:0<=a)(_:a<=c)(_:c<=xs.length)(_:xs.length+ys.length<=sizeLine)(_:Q σ (upd H3 l (.lst (xs.take a.toNat++ys++xs.drop c.toNat))))
def ZpU (to:TE)(tl th:TO):TG:=fun v σ H Q=>to σ H fun x H1=>tl σ H1 fun lo H2=>th σ H2 fun hi H3=>ZmL v σ Q x lo hi H3
theorem Zni {o:Expr}{lo hi:Option Expr}{to:TE}{tl th:TO}{p2 pos:Pos}(ho:PE X o to)(hl:PO X lo tl)(hu:PO X hi th):PG X (.Subscript o (.Slice lo hi none p2) pos) (ZpU to tl th):=by
 intro pins s σ H v u Q I r h;show wpAny _ _ (do
   let ov <- holding [u] (eval o X.env)
   let iv <- holding [u,ov] (eval (.Slice lo hi none p2) X.env)
   standAt pos
   holding [u,ov,iv] (setItem ov iv u)
   release [iv,u,ov] []) _ _ s
 refine ka (KJ (Yz (ho pins s σ H _ I h) fun ov s1 ⟨x,H1,I1,r1,q1⟩=>?_));refine ka (KJ (wpAny_Slice (Yz (hl pins s1 σ H1 _ I1 q1) fun vl s2 ⟨l',H2,I2,pl,q2⟩=>Yz (hu pins s2 σ H2 _ I2 q2) fun vu s3 ⟨u',H3,I3,pu,q3⟩=>?_)));rw[NO];refine km ?_;have I4:Inv X pins σ H3 { s3 with heap:=s3.heap.push { cls:=.type "slice", data:=.fields #[vl,vu,.none] } }:=I3.kept (t':=s3.toks) fun b ob q=>ko _ q;obtain⟨l,b,xs,ys,a,c,rfl,rfl,rfl,rfl,hx,hy,hne,h0,hac,hc,hz,q⟩:=q3;cases r1;cases r;refine ka (Xc (ka (KJ (ZiK I4 hx hy hne (Nj ..) (Ze7 pl) (Ze7 pu) h0 hac hc hz fun s5 I5=>?_))));exact M5 ⟨σ,_,I5,q⟩
inductive ZhP(x:V)(vs:QH)(H:Hp)(Q:VK):Prop|mk(l:Addr)(xs:QH)(i:Int)(y:V)(_:x = .ref l)(_:vs = [.int i,y])(_:H l=some (.lst xs))(_:0<=i)(_:i<=xs.length)(_:xs.length<sizeLine)(_:xs.length<2 ^ 62)(_:Q .non (upd H l (.lst (xs.take i.toNat++y::xs.drop i.toNat))))
theorem ZdU:MtM X "list.insert" ZhP:=by
 intro pins s σ H x vs v us Q I rx rv h;obtain⟨l,xs,i,y,rfl,rfl,hH,h0,h1,hz,hb,q⟩:=h;cases rx;obtain⟨u1,u,rfl,ri,ru⟩:=rv.two;obtain⟨t,rfl⟩:=ri;obtain⟨z,its,n,r,hl,e⟩:=I.lstM hH;have hfit:¬(!Builtin.List.listFitsIndex i)=true:=by unfold Builtin.List.listFitsIndex;simp;lia
 refine Ti F.slot_list_insert ⟨_,e,rfl⟩ F.entry_list_insert (F.args_list_insert_3 _ _ _) (AutoSeq1.list_insert_list_int_val_1 l its.toArray n i t u hfit (by rw[kF];lia)) ⟨e,?_⟩;refine⟨.non,_,I.lset (its':=its.take i.toNat++u::its.drop i.toNat) hH e ?_ (Vals.append (r.take _) (.cons ru (r.drop _))) ?_,rfl,q⟩
 ·have hi:¬i<0:=by lia
  have hm:min i.toNat its.toArray.size=i.toNat:=by rw[kF];lia
  simp only[kh hi,hm];simp;rw[kK (by simp)]
 ·rw[kg,K3,kL,KU];lia
end
theorem Zhk (a c:Nat)(hac:a<=c):∀(its:QJ)(i:Nat),((its.zipIdx i).filterMap fun(p:Value×Nat)=>if (a<=p.2/\p.2<c) then none else some p.1)=its.take (a-i)++its.drop (c-i)
 | [],i=>by simp
 | x::r,i=>by
  have ih:=Zhk a c hac r (i+1);rw[List.zipIdx_cons,qY];by_cases h1:i<a
  ·have e1:a-i=(a-(i+1))+1:=by lia
   have e2:c-i=(c-(i+1))+1:=by lia
   rw[kh (show ¬(a<=(x,i).2/\(x,i).2<c) by show ¬(a<=i/\i<c);lia)];simp only[ih];rw[e1,e2];simp
  ·by_cases h2:i<c
   ·have e1:a-i=0:=by lia
    have e1':a-(i+1)=0:=by lia
    have e2:c-i=(c-(i+1))+1:=by lia
    rw[kj (show (a<=(x,i).2/\(x,i).2<c) by show (a<=i/\i<c);lia)];simp only[ih];rw[e1,e1',e2];simp
   ·have e1:a-i=0:=by lia
    have e1':a-(i+1)=0:=by lia
    have e2:c-i=0:=by lia
    have e2':c-(i+1)=0:=by lia
    rw[kh (show ¬(a<=(x,i).2/\(x,i).2<c) by show ¬(a<=i/\i<c);lia)];simp only[ih];rw[e1,e1',e2,e2'];simp
section
variable {prog:Program}{w:World}{A:Around}{E:QE}{s:Shared}
theorem Zdp {l sl:Addr}{its:QJ}{n:Nat}{vl vu:Value}{a c:Nat}{Q:Unit->Shared->Prop}
  (e:s.heap.get? l=some { cls:=.type "list", data:=.seq its.toArray n }) (hs:s.heap.IsSliceOf sl vl vu .none) (pl:IsPart vl (some (a:Int))) (pu:IsPart vu (some (c:Int))) (hac:a<=c) (hc:c<=its.length)
  (hsz:its.length<=sizeLine) (h:∀f:Array Value->Array Value,f its.toArray=(its.take a++its.drop c).toArray->Q () { s with heap:=s.heap.update l (Obj.mapSeq f) }):
  wpAny (model prog w) A (delItem (.ref l) (.ref sl)) Q E s:=by
 have hl:s.heap.IsList l its.toArray:=N1 e;obtain⟨os,hos,hcs,hds⟩:=id hs;have hTs:s.TypeIs (.ref sl) "slice" := ⟨os,hos,hcs⟩;have hstep:¬((rawPart none==rawInt 0)=true):=k8;refine wpAny_delItem_slot hl.typeIs (by decide) F.slot_list_delitem (K1 F.slot_list_delitem hl.typeIs F.entry_list_delitem ?_ (F.args_list_delitem_2 _ _));show wpAny _ _ (Builtin.List.listSubscript? (.ref sl) >>= _) _ _ s;refine ka ?_;unfold Builtin.List.listSubscript?;refine ka (Xk hTs slice_no_index ?_);simp only[Lk,Tw];refine km ?_;show wpAny _ _ (typeOf (.ref sl) >>= _) _ _ s;refine ka (qG hTs ?_)
 first
  | rw[kh (by decide)]
  | refine Tj (by decide) ?_
 rw[listSliceParts_eq];refine ka (ka (qq hos hds (x:=.none) rfl (ka (XW .none ?_))));rw[kh hstep];refine ka (qq hos hds (x:=vl) rfl (ka (XW pl ?_)));refine ka (qq hos hds (x:=vu) rfl (ka (XW pu (km ?_))));unfold Builtin.List.listItems;refine ka (ka (Xs e rfl (km ?_)));refine ka (ME ((sliceIndices_raw (some (a:Int)) (some (c:Int)) none its.toArray.size (by simp)).trans (Ky (pure:Int×Int×Int->Sem (Int×Int×Int)) (Zcu hac (by rw[kF];exact hc)))) ?_);refine ka (qC ?_);have key:∀(F:Array Value->Array Value),F its.toArray=(its.take a++its.drop c).toArray -> ∀(g:Sem Fin),(∀s',Q () s'->wpAny (model prog w) A.in1 g (fun fin s'=>∃v,fin = .done (.ret v)/\Q () s') E s') ->
   wpAny (model prog w) A.in1 (Builtin.List.listUpdate (.ref l) F >>= fun _=>g) (fun fin s'=>∃v,fin = .done (.ret v)/\Q () s') E s:=fun F hF g hg=>by
  show wpAny (model prog w) A.in1 (updateSeq l F >>= fun _=>g) _ E s;refine ka (wpAny_updateSeq (hz:=by rw[kF];exact hsz) (_hz':=?_) e rfl (hg _ (h F hF)));rw[hF,kF,kg,kL,KU];lia
 refine key _ ?_ _ ?_
 ·refine Ky List.toArray ((Ky (fun f=>List.filterMap f its.zipIdx) (funext fun p=>?_)).trans (Zhk a c hac its 0));obtain⟨x,k⟩:=p;show (if (if (1:Int)>0 then decide ((a:Int)<=(k:Int))&&decide ((k:Int)<(c:Int))&&(((k:Int)-(a:Int)) % 1==0) else _)=true then none else some x)=if (a<=k/\k<c) then none else some x
  rw[kj (show (1:Int)>0 by decide)];have e0:((k:Int)-(a:Int)) % 1=0:=Int.emod_one _;by_cases h1:a<=k/\k<c
  ·rw[kj h1,kj (by rw[e0];simp;lia)]
  ·rw[kh h1,kh (by rw[e0];simp;lia)]
 ·intro s' hq;exact ka (wpAny_letGo (km ⟨.none,rfl,hq⟩))
end
section
variable {X:Cx}
inductive Zg2(D:Ends)(σ:St)(x:V)(lo hi:QW)(H3:Hp):Prop|mk(l:Addr)(xs:QH)(a c:Int)(_:x = .ref l)(_:lo=some a)(_:hi=some c)(_:H3 l=some (.lst xs))(_:0<=a)(_:a<=c)(_:c<=xs.length)(_:D.nx σ (upd H3 l (.lst (xs.take a.toNat++xs.drop c.toNat))))
def Zm8 (to:TE)(tl th:TO):TS:=fun D σ H=>to σ H fun x H1=>tl σ H1 fun lo H2=>th σ H2 fun hi H3=>Zg2 D σ x lo hi H3
theorem ZkG {o:Expr}{lo hi:Option Expr}{to:TE}{tl th:TO}{p2 p3 pos:Pos}(ho:PE X o to)(hl:PO X lo tl)(hu:PO X hi th):PS X (.Delete [.Subscript o (.Slice lo hi none p2) p3] pos) (Zm8 to tl th):=by intro pins s σ H D I h;refine wpAny_Delete (wpAny_deleteEach_cons ?_);rw[arm_delete_Subscript];refine ka (Yz (ho pins s σ H _ I h) fun ov s1 ⟨x,H1,I1,r1,q1⟩=>?_);refine ka (KJ (wpAny_Slice (Yz (hl pins s1 σ H1 _ I1 q1) fun vl s2 ⟨l',H2,I2,pl,q2⟩=>Yz (hu pins s2 σ H2 _ I2 q2) fun vu s3 ⟨u',H3,I3,pu,q3⟩=>?_)));rw[NO];refine km ?_;have I4:Inv X pins σ H3 { s3 with heap:=s3.heap.push { cls:=.type "slice", data:=.fields #[vl,vu,.none] } }:=I3.kept (t':=s3.toks) fun b ob q=>ko _ q;obtain⟨l,xs,a,c,rfl,rfl,rfl,hx,h0,hac,hc,q⟩:=q3;cases r1;obtain⟨z,its,n,r,hlen,e⟩:=I4.lstM hx;obtain⟨a',rfl⟩:=kT h0;obtain⟨c',rfl⟩:=kT (LS h0 hac);simp only[kX] at q;refine ka (Xc (ka (KJ (Zdp (a:=a') (c:=c') e (Nj ..) pl pu (by lia) (by lia) (by lia) fun f hf=>?_))));refine M5 (wpAny_deleteEach_nil ?_);refine⟨σ,_,I4.lset (its':=its.take a'++its.drop c') (t':=s3.toks) hx e hf (Vals.append (r.take _) (r.drop _)) ?_,q⟩;rw[kg,kL,KU];lia
end
theorem Zbd {K:QF}{a:Addr}{xs:QH}{g:TG}{tb:TS}{D:Ends}{σ:St}{H:Hp}(Pv:Nat->St->Hp->Prop)(h0:Pv 0 σ H)(hl:∀i σ H,i<=xs.length->Pv i σ H->Zt K H a xs)
  (hs:∀i x p σ H,xs[i]? = some x->Pv i σ H->H p=none->g (.ref p) σ (upd H p (.tup [.int i,x])) fun σ2 H2=>tb { D with nx:=Pv (i+1),ct:=Pv (i+1),bk:=D.nx } σ2 H2) (hd:∀ σ H,Pv xs.length σ H->D.nx σ H):
  Zb7 (Ite K a) g tb D σ H:=by
 refine⟨fun i m σ H=>m=xs.length-i/\i<=xs.length/\Pv i σ H,⟨xs.length,by simp,KP _,h0⟩,?_⟩;rintro i m σ H ⟨rfl,hi,p⟩;have q:=hl i σ H hi p;by_cases hlt:i<xs.length
 ·refine .inr ⟨⟨xs,xs[i],q,by simp[hlt]⟩,Pv (i+1),fun σ' H' p'=>⟨xs.length-(i+1),by lia,rfl,hlt,p'⟩,fun x H' y=>?_⟩;obtain⟨r,z,e1,e2,e3,y⟩:=y;subst e1 e3;exact hs i z r σ _ (y xs q) p e2
 ·have e:i=xs.length:=by lia
  subst e;exact .inl ⟨⟨xs,q,ki _⟩,hd σ H p⟩
def GQ (r:QG)(k:Nat):QG:=(r.set k (r.getD (k+1) 0)).set (k+1) (r.getD k 0)
def stp (s:QG×Int)(p:Str×Int):QG×Int:=
 if p.1 = "born" then(s.1.take p.2.toNat ++ [s.2,s.2+1]++s.1.drop p.2.toNat,s.2+2) else if p.1 = "cross" then(GQ s.1 p.2.toNat,s.2) else(s.1.take p.2.toNat++s.1.drop (p.2.toNat+2),s.2)
def rb (ls:QB):QG×Int:=ls.foldl stp ([],0)
theorem YM (ls:QB)(p:Str×Int):rb (ls ++ [p])=stp (rb ls) p:=by unfold rb;rw[List.foldl_append];rfl
theorem WA {s:QG×Int}{k:Int}:stp s ("born", k)=(s.1.take k.toNat ++ [s.2,s.2+1]++s.1.drop k.toNat,s.2+2):=kj rfl
theorem nb1:¬(("cross" : Str) = "born"):=by decide +kernel
theorem nb2:¬(("end" : Str) = "born"):=by decide +kernel
theorem nb3:¬(("end" : Str) = "cross"):=by decide +kernel
theorem JL {s:QG×Int}{k:Int}:stp s ("cross", k)=(GQ s.1 k.toNat,s.2):=(kh nb1).trans (kj rfl)
theorem Gx {s:QG×Int}{k:Int}:stp s ("end", k)=(s.1.take k.toNat++s.1.drop (k.toNat+2),s.2):=(kh nb2).trans (kh nb3)
theorem Zah {ls:QB}{n:Int}(h:Wk ls n):((rb ls).1.length:Int)=n:=by
 induction h with
 | nil=>rfl
 | born h h0 h1 ih=>
  rw[YM,WA];simp only[kg,kL,KU,K3,Xl];lia
 | cross h h0 h1 ih=>
  rw[YM,JL];simp only[GQ,KY];exact ih
 | fin h h0 h1 ih=>
  rw[YM,Gx];simp only[kg,kL,KU];lia
theorem Ua {α:Type}{a b:List α}{x y:α}(h:a ++ [x]=b ++ [y]):a=b/\x=y:=by have h1:=List.append_inj' h rfl;exact⟨h1.1,by simpa using h1.2⟩
theorem ZnU {l:QB}{p:Str×Int}{m:Int}(h:Wk (l ++ [p]) m):∃n,Wk l n/\((p.1 = "born" /\ 0<=p.2/\p.2<=n)∨(p.1 = "cross" /\ 0<=p.2/\p.2+1<n)∨(p.1 = "end" /\ 0<=p.2/\p.2+1<n)):=by
 generalize hq:l ++ [p]=q at h;cases h with
 | nil=>exact absurd hq (by simp)
 | born h h0 h1=>obtain⟨rfl,rfl⟩:=Ua hq;exact⟨_,h,.inl ⟨rfl,h0,h1⟩⟩
 | cross h h0 h1=>obtain⟨rfl,rfl⟩:=Ua hq;exact⟨_,h,.inr (.inl ⟨rfl,h0,h1⟩)⟩
 | fin h h0 h1=>obtain⟨rfl,rfl⟩:=Ua hq;exact⟨_,h,.inr (.inr ⟨rfl,h0,h1⟩)⟩
theorem GA {ls:QB}{n:Int}(h:Wk ls n):∀i,∃m,Wk (ls.take i) m:=by
 induction h with
 | nil=>intro i;exact⟨0,by simpa using Wk.nil⟩
 | @born l n k h h0 h1 ih=>
  intro i;by_cases hi:i<=l.length
  ·rw[Kv hi];exact ih i
  ·rw[kK (by rw[kg,Ks];lia)];exact⟨_,Wk.born h h0 h1⟩
 | @cross l n k h h0 h1 ih=>
  intro i;by_cases hi:i<=l.length
  ·rw[Kv hi];exact ih i
  ·rw[kK (by rw[kg,Ks];lia)];exact⟨_,Wk.cross h h0 h1⟩
 | @fin l n k h h0 h1 ih=>
  intro i;by_cases hi:i<=l.length
  ·rw[Kv hi];exact ih i
  ·rw[kK (by rw[kg,Ks];lia)];exact⟨_,Wk.fin h h0 h1⟩
theorem ZdC {ls:QB}{n:Int}(h:Wk ls n){i:Nat}{p:Str×Int}(hp:ls[i]? = some p):
  ls.take (i+1)=ls.take i ++ [p]/\((p.1 = "born" /\ 0<=p.2/\p.2<=((rb (ls.take i)).1.length:Int))∨(p.1 = "cross" /\ 0<=p.2/\p.2+1<((rb (ls.take i)).1.length:Int))∨(p.1 = "end" /\ 0<=p.2/\p.2+1<((rb (ls.take i)).1.length:Int))):=by
 have e:ls.take (i+1)=ls.take i ++ [p]:=by rw[Ke,hp];rfl
 refine⟨e,?_⟩;obtain⟨m,hm⟩:=GA h (i+1);rw[e] at hm;obtain⟨n',hn,c⟩:=ZnU hm;rw[Zah hn];exact c
def YS (H:Hp)(xs:QH)(rs:QA):Prop:=Paired (fun x (r:QG)=>∃t,x=V.ref t/\H t=some (.lst (r.map V.int))) xs rs
theorem YS.mono {H H':Hp}(h:∀t o,V.ref t∈xs->H t=some o->H' t=some o){rs:QA}(r:YS H xs rs):YS H' xs rs:=by
 unfold YS at *
 induction r with
 | nil=>exact .nil
 | cons a t ih=>
  obtain⟨q,e,hq⟩:=a;subst e;exact .cons ⟨q,rfl,h q _ kQ hq⟩ (ih fun t o ht=>h t o (kS _ ht))
def rowsOf (ls:QB)(i:Nat):QA:=(List.range i).map fun j=>(rb (ls.take j)).1
theorem Zaj (ls:QB)(i:Nat):rowsOf ls (i+1)=rowsOf ls i ++ [(rb (ls.take i)).1]:=by unfold rowsOf;rw[K7,k6];rfl
theorem YS.mem {H:Hp}{xs:QH}{rs:QA}(r:YS H xs rs){t:Addr}(h:V.ref t∈xs):∃q:QG,H t=some (.lst (q.map V.int)):=by
 unfold YS at r
 induction r with
 | nil=>cases h
 | cons a _ ih=>
  obtain⟨q,e,hq⟩:=a;rcases kP.mp h with z | z
  ·rw[e] at z;have:t=q:=V.ref.inj z;subst this;exact⟨_,hq⟩
  ·exact ih z
theorem YS.last {H:Hp}{rs:QA}{r:QG}:∀{xs:QH} , YS H xs (rs ++ [r]) -> ∃ys t,xs=ys ++ [V.ref t]/\H t=some (.lst (r.map V.int)):=by
 induction rs with
 | nil=>
  intro xs h;cases h with
  | cons a b=>
   cases b;obtain⟨t,e,q⟩:=a;exact⟨[],t,by rw[e];rfl,q⟩
 | cons q rs ih=>
  intro xs h;cases h with
  | @cons x _ l _ a b=>
   obtain⟨ys,t,e,q⟩:=ih b;exact⟨x::ys,t,by rw[e];rfl,q⟩
theorem YS.snoc {H:Hp}{xs:QH}{rs:QA}{t:Addr}{r:QG}(h:YS H xs rs)(e:H t=some (.lst (r.map V.int))):YS H (xs ++ [.ref t]) (rs ++ [r]):=T1 h ⟨t,rfl,e⟩
theorem YS.len {H:Hp}{xs:QH}{rs:QA}(h:YS H xs rs):xs.length=rs.length:=Xb h
theorem W3 {H H' G:Hp}{R w:Addr}{ys:QH}{ls:QB}{i:Nat}(hR:H R=none)(sm:Zi H H')(rv:YS H' ys (rowsOf ls (i+1)))(ap:∀t,V.ref t∈ys->H t=none/\t≠R)(nd:ys.Nodup)(hw:H' w=none)(hwR:w≠R)
  (k:∀c o,H' c=some o->c≠R->G c=some o) (gw:G w=some (.lst ((rb (ls.take (i+1))).1.map V.int))):
  Zi H G/\YS G (ys ++ [.ref w]) (rowsOf ls (i+2))/\(∀t,V.ref t∈ys ++ [V.ref w]->H t=none/\t≠R)/\(ys ++ [V.ref w]).Nodup:=by
 refine⟨fun c o e=>k c o (sm c o e) (Zf e hR),?_,fun t ht=>?_,?_⟩
 ·rw[Zaj];exact YS.snoc (rv.mono fun t o ht e=>k t o e (ap t ht).2) gw
 ·rcases KC.mp ht with z | z
  ·exact ap t z
  ·have:t=w:=V.ref.inj (k7.mp z);subst this;exact⟨sm.free hw,hwR⟩
 ·rw[qD];refine⟨nd,by simp,fun a ha b hb=>?_⟩;rw[k7.mp hb];intro z;subst z;obtain⟨q,e⟩:=rv.mem ha;rw[hw] at e;cases e
theorem ZbE {ls:QB}{n:Int}(h:Wk ls n):n<=2*(ls.length:Int):=by
 induction h with
 | nil=>decide
 | born _ _ _ ih=>rw[kg,Ks];lia
 | cross _ _ _ ih=>rw[kg,Ks];lia
 | fin _ _ _ ih=>rw[kg,Ks];lia
theorem Y9 {n j:Nat}(h:j<n):ixN n (j:Int)=some j:=by unfold ixN;rw[kj (by lia),kj (by lia)];simp
theorem Zhy (r:QG)(k:Nat):((r.map V.int).set k (V.int (r.getD (k+1) 0))).set (k+1) (V.int (r.getD k 0))=(GQ r k).map V.int:=by unfold GQ;rw[qZ,qZ]
theorem map_getD (r:QG){k:Nat}(h:k<r.length):(r.map V.int)[k]? = some (V.int (r.getD k 0)):=by rw[kE];simp[h]
def Zb4:Sp:=fun vs H Q _=>∃(l:Addr)(xs:QH)(ls:QB),vs = [.ref l]/\H l=some (.lst xs)/\ZD H xs ls/\ls.length<=60/\Wk ls 0 /\ ∀(p:Addr)(H':Hp)(ys:QH),H p=none->Zi H H'->H' p=some (.lst ys)->YS H' ys (rowsOf ls (ls.length+1))->(∀t,V.ref t∈ys->H t=none/\t≠p)->ys.Nodup->Q (.ref p) H'
theorem Zmj {α:Type}(r:List α)(k:Nat)(x y:α)(h:k<=r.length):(r.take k++y::r.drop k).take k++x::(r.take k++y::r.drop k).drop k=r.take k ++ [x,y]++r.drop k:=by
 have hl:(r.take k).length=k:=by rw[kL];lia
 have e1:(r.take k++y::r.drop k).take k=r.take k:=by have:=List.take_left' (l₂:=y::r.drop k) hl;exact this
 have e2:(r.take k++y::r.drop k).drop k=y::r.drop k:=List.drop_left' hl;rw[e1,e2];simp
theorem ZlY {α:Type}(r:List α)(k:Nat):(r.eraseIdx k).eraseIdx k=r.take k++r.drop (k+2):=by
 induction r generalizing k with
 | nil=>simp
 | cons x r ih=>
  cases k with
  | zero=>cases r<;>simp
  | succ k=>
   rw[N4,N4,ih];simp
theorem ZdW {n j:Nat}(h:j<n):seqIndex? (j:Int) n=some j:=by
 unfold seqIndex?;have h0:¬((j:Int)<0):=by lia
 simp[h0,h]
section
variable {κ:Type}[DecidableEq κ]
def Y5 (kvs:List (κ × V))(k:κ):QI:=(kvs.find? fun kv=>decide (kv.1=k)).map (·.2)
def putK (kvs:List (κ × V))(k:κ)(v:V):List (κ × V):=
 if (kvs.any fun kv=>decide (kv.1=k))=true then kvs.map (fun kv=>if kv.1=k then(kv.1,v) else kv) else kvs ++ [(k,v)]
theorem YA {p:κ × V}{r:List (κ × V)}{k:κ}(e:p.1=k):Y5 (p::r) k=some p.2:=by simp[Y5,qw,e]
theorem YB {p:κ × V}{r:List (κ × V)}{k:κ}(e:¬p.1=k):Y5 (p::r) k=Y5 r k:=by simp[Y5,qw,e]
theorem Za8 (k:κ):∀kvs:List (κ × V),(kvs.any fun kv=>decide (kv.1=k))=(Y5 kvs k).isSome
 | []=>rfl
 | p::r=>by
  rw[qQ];by_cases e:p.1=k
  ·simp only[YA e,kM e,Mk,Option.isSome_some]
  ·rw[YB e,Ki e,M9];exact Za8 k r
theorem Zfr (k j:κ)(y:V):∀kvs:List (κ × V),Y5 (kvs.map fun kv=>if kv.1=k then(kv.1,y) else kv) j=(Y5 kvs j).map fun x=>if j=k then y else x
 | []=>rfl
 | p::r=>by
  have ih:=Zfr k j y r;rw[kH];by_cases h:p.1=k
  ·rw[kj h];by_cases e:p.1=j
   ·rw[YA (p:=(p.1,y)) e,YA e,Xi,kj (e.symm.trans h)]
   ·rw[YB (p:=(p.1,y)) e,YB e,ih]
  ·rw[kh h];by_cases e:p.1=j
   ·rw[YA (p:=p) e,YA e,Xi,kh (fun z=>h (e.trans z))]
   ·rw[YB (p:=p) e,YB e,ih]
theorem ZdL (k j:κ)(y:V):∀kvs:List (κ × V),Y5 kvs k=none->Y5 (kvs ++ [(k,y)]) j=if j=k then some y else Y5 kvs j
 | [],_=>by
  by_cases e:k=j
  ·rw[kj e.symm];exact YA (p:=(k,y)) e
  ·rw[kh (fun z=>e z.symm)];exact YB (p:=(k,y)) e
 | p::r,hn=>by
  rw[N5];have hk:¬p.1=k:=fun z=>by rw[YA z] at hn;cases hn
  rw[YB hk] at hn;have ih:=ZdL k j y r hn;by_cases e:p.1=j
  ·rw[YA e,YA e,kh (fun z=>hk (e.trans z))]
  ·rw[YB e,YB e,ih]
theorem Zde (kvs:List (κ × V))(k j:κ)(y:V):Y5 (putK kvs k y) j=if j=k then some y else Y5 kvs j:=by
 unfold putK;by_cases a:(kvs.any fun kv=>decide (kv.1=k))=true
 ·rw[kj a,Zfr];rw[Za8] at a;by_cases e:j=k
  ·obtain⟨x,hx⟩:=NM.mp a;rw[kj e,e,hx,Xi,kj rfl]
  ·rw[kh e];cases Y5 kvs j with
   | none=>rfl
   | some x=>rw[Xi,kh e]
 ·rw[kh a];refine ZdL k j y kvs ?_;rw[Za8] at a;cases q:Y5 kvs k with
  | none=>rfl
  | some x=>rw[q] at a;exact(a rfl).elim
theorem Ww (kvs:List (κ × V))(k:κ)(v:V):(putK kvs k v).length<=kvs.length+1:=by
 unfold putK;split
 ·rw[ke];lia
 ·rw[kg,K3,Xl];lia
theorem ZbW.isSome_eq {o:QI}{u:Option Value}(r:ZbW o u):o.isSome=u.isSome:=by
 cases o with
 | none=>cases u with
  | none=>rfl
  | some _=>exact(show False from r).elim
 | some _=>cases u with
  | none=>exact(show False from r).elim
  | some _=>rfl
theorem ZbW.getD {o:QI}{u:Option Value}{d:V}{d':Value}(r:ZbW o u)(rd:RelV d d'):RelV (o.getD d) (u.getD d'):=by
 cases o with
 | none=>cases u with
  | none=>exact rd
  | some _=>exact(show False from r).elim
 | some _=>cases u with
  | none=>exact(show False from r).elim
  | some _=>exact r
theorem KV.val {kvs:List (κ × V)}{vs:List (κ × Value)}(r:KV kvs vs)(k:κ):ZbW (Y5 kvs k) (valueAt vs k):=by
 unfold KV at r
 induction r with
 | nil=>exact True.intro
 | @cons p q ps qs h t ih=>
  obtain⟨h1,h2⟩:=h;by_cases e:p.1=k
  ·have e':q.1=k:=h1.symm.trans e;have b:valueAt (q::qs) k=some q.2:=by simp[valueAt,qw,e']
   rw[YA e,b];exact h2
  ·have e':¬q.1=k:=fun z=>e (h1.trans z);have b:valueAt (q::qs) k=valueAt qs k:=by simp[valueAt,qw,e']
   rw[YB e,b];exact ih
theorem KV.any {kvs:List (κ × V)}{vs:List (κ × Value)}(r:KV kvs vs)(k:κ):(kvs.any fun kv=>decide (kv.1=k))=vs.any fun kv=>decide (kv.1=k):=by
 unfold KV at r
 induction r with
 | nil=>rfl
 | cons h t ih=>rw[qQ,qQ,ih,h.1]
theorem KV.repl {kvs:List (κ × V)}{vs:List (κ × Value)}(r:KV kvs vs)(k:κ){y:V}{u:Value}(ry:RelV y u):
  KV (kvs.map fun kv=>if kv.1=k then(kv.1,y) else kv) (vs.map fun kv=>if kv.1=k then(kv.1,u) else kv):=by
 unfold KV at r ⊢
 induction r with
 | nil=>exact .nil
 | @cons p q ps qs h t ih=>
  rw[kH,kH];refine .cons ?_ ih;obtain⟨h1,h2⟩:=h;by_cases e:p.1=k
  ·rw[kj e,kj (h1.symm.trans e)];exact⟨h1,ry⟩
  ·rw[kh e,kh (fun z=>e (h1.trans z))];exact⟨h1,h2⟩
theorem KV.put {kvs:List (κ × V)}{vs:List (κ × Value)}(r:KV kvs vs)(k:κ){y:V}{u:Value}(ry:RelV y u):KV (putK kvs k y) (stored vs k u):=by
 unfold putK stored;rw[r.any k];by_cases e:(vs.any fun kv=>decide (kv.1=k))=true
 ·rw[kj e,kj e];exact r.repl k ry
 ·rw[kh e,kh e];exact T1 r ⟨rfl,ry⟩
theorem KV.length {kvs:List (κ × V)}{vs:List (κ × Value)}(r:KV kvs vs):kvs.length=vs.length:=Xb r
end
theorem Zb6 {P:Program}{w:World}{k:Key}{u:Value}(r:RelV (kV k) u):(ZI P w).is k u=true:=by
 cases k with
 | inl i=>obtain⟨t,e⟩:=(show ∃t,u=Value.int i t from r);subst e;exact ZfJ P w i t
 | inr x=>obtain⟨t,e⟩:=(show ∃t,u=Value.str x t from r);subst e;exact Zfy P w x t
theorem ZdI {P:Program}{w:World}:∀{ks:List Key}{us:QJ},Vals (ks.map kV) us->ItemsAre (ZI P w) ks us
 | [],_,r=>by rw[Ml] at r;cases r;exact .nil
 | k::ks,_,r=>by
  rw[kH] at r;cases r with
  | cons h t=>exact .cons (Zb6 h) (ZdI t)
abbrev KT (H:Hp):List (List Key×V)->List (List Key×Addr×Value)->Prop:=Paired fun p q=>p.1=q.1/\H q.2.1=some (.tup (p.1.map kV))/\RelV p.2 q.2.2
theorem KT.val {H:Hp}{kvs:List (List Key×V)}{xs:List (List Key×Addr×Value)}(r:KT H kvs xs)(k:List Key):ZbW (Y5 kvs k) ((atKey xs k).map (·.2)):=by
 induction r with
 | nil=>exact True.intro
 | @cons p q ps qs h t ih=>
  obtain⟨h1,_,h2⟩:=h;by_cases e:p.1=k
  ·have e':q.1=k:=h1.symm.trans e;have b:atKey (q::qs) k=some q.2:=by simp[atKey,qw,e']
   rw[YA e,b];exact h2
  ·have e':¬q.1=k:=fun z=>e (h1.trans z);have b:atKey (q::qs) k=atKey qs k:=by simp[atKey,qw,e']
   rw[YB e,b];exact ih
theorem KT.repl {H:Hp}{kvs:List (List Key×V)}{xs:List (List Key×Addr×Value)}(r:KT H kvs xs)(k:List Key){y:V}{u:Value}(ry:RelV y u):
  KT H (kvs.map fun kv=>if kv.1=k then(kv.1,y) else kv) (xs.map (putAt k u)):=by
 induction r with
 | nil=>exact .nil
 | @cons p q ps qs h t ih=>
  rw[kH,kH];refine .cons ?_ ih;obtain⟨h1,h2,h3⟩:=h;unfold putAt;by_cases e:p.1=k
  ·rw[kj e,kj (h1.symm.trans e)];exact⟨h1,h2,ry⟩
  ·rw[kh e,kh (fun z=>e (h1.trans z))];exact⟨h1,h2,h3⟩
theorem KT.put {H:Hp}{kvs:List (List Key×V)}{xs:List (List Key×Addr×Value)}(r:KT H kvs xs)(k:List Key){b:Addr}{y:V}{u:Value}(hb:H b=some (.tup (k.map kV)))(ry:RelV y u):
  KT H (putK kvs k y) (storedH xs k b u):=by
 have e:(kvs.any fun kv=>decide (kv.1=k))=(atKey xs k).isSome:=by rw[Za8,(r.val k).isSome_eq,Option.isSome_map]
 unfold putK storedH;rw[e];by_cases q:(atKey xs k).isSome=true
 ·rw[kj q,kj q];exact r.repl k ry
 ·rw[kh q,kh q];exact T1 r ⟨rfl,hb,ry⟩
theorem KT.keeps {H H':Hp}{kvs:List (List Key×V)}{xs:List (List Key×Addr×Value)}(r:KT H kvs xs)(ht:∀b ys,H b=some (.tup ys)->H' b=some (.tup ys)):KT H' kvs xs:=
 Paired.mapP r fun _ _ z=>⟨z.1,ht _ _ z.2.1,z.2.2⟩
section
variable {P:Program}{w:World}{H:Hp}{h:Heap}{a:Addr}
theorem ZkW {u:HO}(ok:W7 P w H h)(e:Rd H a u):ZR P w H h a u:=e.ok ok
theorem Za6 {kvs:QD}(ok:W7 P w H h)(e:Rd H a (.dK kvs)):kvs.length<=sizeLine/\(a==sysModules)=false /\ ∃vs,KV kvs vs/\h.DictOf (ZI P w) a vs:=
 show ZR P w H h a (.dK kvs) from ZkW ok e
theorem Zh5 {kvs:QD}(ok:W7 P w H h)(e:H a=some (.dK kvs)):kvs.length<=sizeLine/\(a==sysModules)=false /\ ∃vs,KV kvs vs/\h.DictOf (ZI P w) a vs:=Za6 ok (.inl e)
theorem Zak {ks:List Key}(ok:W7 P w H h)(e:H a=some (.tup (ks.map kV))):(tupleKind (ZI P w)).is h ks a:=by obtain⟨_,its,r,o,h1,h2,n,h3⟩:=(show ZR P w H h a (.tup (ks.map kV)) from ok a _ e);exact⟨o,its.toArray,n,h1,h2,h3,by simpa using ZdI r⟩
theorem ZcO {kvs:List (List Key×V)}(ok:W7 P w H h)(e:Rd H a (.dT kvs)):kvs.length<=sizeLine/\(a==sysModules)=false /\
  ∃xs,KT H kvs xs/\h.DictOfH (tupleKind (ZI P w)) a xs:=by
 obtain⟨z,y,xs,r,o,es,ep,h1,h2,h3,h4,h5⟩:=(show ZR P w H h a (.dT kvs) from ZkW ok e);refine⟨z,y,xs,r,o,es,ep,h1,h2,h3,h4,fun x hx=>?_,h5⟩;have all:∀{l:List (List Key×V)}{m:List (List Key×Addr×Value)},KT H l m -> ∀x∈m,(tupleKind (ZI P w)).is h x.1 x.2.1:=by
  intro l m q
  induction q with
  | nil=>intro x hx;exact nomatch hx
  | @cons p q ps qs hq t ih=>
   intro x hx;rcases kP.mp hx with e | hx
   ·subst e;exact Zak ok (by rw[<- hq.1];exact hq.2.1)
   ·exact ih x hx
 exact all r x hx
theorem ZmH {kvs:List (List Key×V)}(ok:W7 P w H h)(e:H a=some (.dT kvs)):kvs.length<=sizeLine/\(a==sysModules)=false /\
  ∃xs,KT H kvs xs/\h.DictOfH (tupleKind (ZI P w)) a xs:=ZcO ok (.inl e)
end
def UQ (H:Hp)(a:Addr)(y:V)(r:QI):Prop:=
 (∃kvs k,Rd H a (.dK kvs)/\y=kV k/\r=Y5 kvs k) ∨ ∃kvs k b,Rd H a (.dT kvs)/\y = .ref b/\H b=some (.tup (k.map kV))/\r=Y5 kvs k
def ZfG (H:Hp)(a:Addr)(y v:V)(H':Hp):Prop:=
 (∃kvs k,H a=some (.dK kvs)/\y=kV k/\kvs.length<sizeLine/\H'=upd H a (.dK (putK kvs k v))) ∨
 ∃kvs k b,H a=some (.dT kvs)/\y = .ref b/\H b=some (.tup (k.map kV))/\kvs.length<sizeLine/\H'=upd H a (.dT (putK kvs k v))
theorem UQ.k {H:Hp}{a:Addr}{kvs:QD}{k:Key}(e:H a=some (.dK kvs)):UQ H a (kV k) (Y5 kvs k):=.inl ⟨kvs,k,.inl e,rfl,rfl⟩
theorem ZfG.k {H:Hp}{a:Addr}{kvs:QD}{k:Key}{v:V}(e:H a=some (.dK kvs))(hl:kvs.length<sizeLine):ZfG H a (kV k) v (upd H a (.dK (putK kvs k v))):=.inl ⟨kvs,k,e,rfl,hl,rfl⟩
section
variable {X:Cx}{pins:QC}{σ:St}{H:Hp}{s:Shared}{a:Addr}{y v:V}{u r:Value}{o:QI}{A:Around}{E:QE}
theorem Inv.big (I:Inv X pins σ H s):sysModules<s.heap.objs.size:=by have h:mainGlobals<s.heap.objs.size:=(I.mod.glob.keeps I.bk).lt;exact Nat.lt_trans (by decide) h
theorem ZiO {Q:QE}(hu:A.units+1<cLine)(I:Inv X pins σ H s)(g:UQ H a y (some v))(ry:RelV y u)(h:∀w' s',Inv X pins σ H s'->RelV v w'->Q w' s'):
  wpAny (model X.prog X.w) A (getItem (.ref a) u) Q E s:=by
 rcases g with⟨kvs,k,e,ey,l⟩ | ⟨kvs,k,b,e,ey,eb,l⟩
 ·subst ey;obtain⟨z,hd,vs,rel,dd⟩:=Za6 I.hok e;obtain⟨w',hw,rw'⟩:=ZbW.some_of (v:=v) (o:=valueAt vs k) (by rw[l];exact rel.val k);exact wpAny_getItem_of (Zb6 ry) dd.mapOf hw (h w' _ (I.tok _) rw')
 ·subst ey;cases (show u=Value.ref b from ry);obtain⟨z,hd,xs,rel,dd⟩:=ZcO I.hok e;obtain⟨w',hw,rw'⟩:=ZbW.some_of (v:=v) (o:=(atKey xs k).map (·.2)) (by rw[l];exact rel.val k);obtain⟨p,hp,hp2⟩:=Ka.mp hw;refine wpAny_getItem_heap (XD hu) (Zak I.hok eb) dd hp ?_;rw[hp2];exact h w' _ (I.tok _) rw'
theorem Zp5 {Q:QE}(hu:A.units+1<cLine)(I:Inv X pins σ H s)(g:UQ H a y o)(ry:RelV y u)(h:∀s',Inv X pins σ H s'->Q (.bool o.isSome) s'):
  wpAny (model X.prog X.w) A (compareOp .In u (.ref a)) Q E s:=by
 rcases g with⟨kvs,k,e,ey,l⟩ | ⟨kvs,k,b,e,ey,eb,l⟩
 ·subst ey;obtain⟨z,hd,vs,rel,dd⟩:=Za6 I.hok e;refine wpAny_in_of (Zb6 ry) hd dd.mapOf ?_;rw[<- (rel.val k).isSome_eq,<- l];exact h _ (I.tok _)
 ·subst ey;cases (show u=Value.ref b from ry);obtain⟨z,hd,xs,rel,dd⟩:=ZcO I.hok e;refine wpAny_in_heap (XD hu) (Zak I.hok eb) hd dd ?_;have q:=(rel.val k).isSome_eq;rw[Option.isSome_map] at q;rw[<- q,<- l];exact h _ (I.tok _)
theorem Zas {h':Heap}{t':Nat}{ob:HO}(I:Inv X pins σ H s)(mu:Mut (H a))(hs:Heap.SameBut a s.heap h')(he:∃q,h'.get? a=some q)(new:ZR X.prog X.w (upd H a ob) h' a ob):
  Inv X pins σ (upd H a ob) { s with heap:=h',toks:=t' }:=
 I.write (x:=a) (e:=a) mu (.inl rfl) (fun b q hb z=>(hs.2 b hb).trans z) he new
theorem ZgO {P:Program}{w:World}{H':Hp}{h':Heap}{kvs:QD}{vs:List (Key×Value)}(z:kvs.length<=sizeLine)(hd:(a==sysModules)=false)(rel:KV kvs vs)(dd:h'.DictOf (ZI P w) a vs):
  ZR P w H' h' a (.dK kvs):=⟨z,hd,vs,rel,dd⟩
theorem ZiR {H':Hp}{Q:Unit->Shared->Prop}(hu:A.units+1<cLine)(I:Inv X pins σ H s)(g:ZfG H a y v H')(ry:RelV y u)(rv:RelV v r)(h:∀s',Inv X pins σ H' s'->Q () s'):
  wpAny (model X.prog X.w) A (setItem (.ref a) u r) Q E s:=by
 rcases g with⟨kvs,k,e,ey,l,eH⟩ | ⟨kvs,k,b,e,ey,eb,l,eH⟩
 ·subst ey eH;obtain⟨z,hd,vs,rel,dd⟩:=Zh5 I.hok e;have hz:vs.length<=sizeLine:=by rw[<- rel.length];exact z
  have hl:(putK kvs k v).length<=sizeLine:=by have:=Ww kvs k v;lia
  refine wpAny_setItem_pairs (hsz:=hz) (Zb6 ry) dd fun h' dd' hs=>h _ ?_;have he:∃q,h'.get? a=some q:=let ⟨q,_,_,hq,_⟩:=dd';⟨q,hq⟩
  exact Zas I (by rw[e];exact True.intro) hs he (ZgO hl hd (rel.put k rv) dd')
 ·subst ey eH;cases (show u=Value.ref b from ry);obtain⟨z,hd,xs,rel,dd⟩:=ZmH I.hok e;have hz:xs.length<=sizeLine:=by rw[<- Xb rel];exact z
  have hl:(putK kvs k v).length<=sizeLine:=by have:=Ww kvs k v;lia
  refine wpAny_setItem_heap (hsz:=hz) (XD hu) (Zak I.hok eb) dd fun h' dd' hs=>h _ ?_;obtain⟨q,es,ep,hq,h2,h3,h4,_,h5⟩:=dd';refine Zas I (by rw[e];exact True.intro) hs ⟨q,hq⟩ ⟨hl,hd,_,(rel.put k eb rv).keeps fun c ys ec=>?_,q,es,ep,hq,h2,h3,h4,h5⟩;rw[Zh (J0 ec e (fun z=>nomatch z))];exact ec
end
def ZoS (i:Expr):Prop:=∀ov iv,subscripted i false ov iv=operate [ov,iv] (getItem ov iv)
theorem Zmf {prog:Program}{w:World}{A:Around}{E:QE}{s:Shared}{env:Env}{value slice:Expr}{pos:Pos}{T id:String}{Q:QE}
  (hl:typeLookup (.type T) "__getitem__" = pure (some (.builtin id))) (hs:ZoS slice)
  (h:wpAny (model prog w) A (eval value env) (fun o s₁=>wpAny (model prog w) A (eval slice env) (fun i s₂=>s₂.TypeIs o T/\wpAny (model prog w) A (getItem o i) Q E s₂) E s₁) E s):
  wpAny (model prog w) A (eval (.Subscript value slice pos) env) Q E s:=by
 refine Subscript_ (K4 h (fun o s₁ h₁=>K4 h₁ (fun i s₂ h₂=>?_) fun _ _ x=>x) fun _ _ x=>x);obtain⟨hT,h₂⟩:=h₂;unfold subscriptTail;refine ka ?_;rw[getitemInPython_of_ne hT.not_modules];refine ka (Xk hT hl ?_);have fin:wpAny (model prog w) A (subscripted slice false o i) (fun r s₃=>wpAny (model prog w) A (letTemporaryGo value o r >>= fun _=>pure r) Q E s₃) E s₂:=by rw[hs o i];exact wpAny_operating (K4 h₂ (fun r s₃ h₃=>ka (wpAny_letTemporaryGo (km h₃))) fun _ _ x=>x)
 first
  | exact km (ka fin)
  | exact ka (km (ka fin))
  | exact ka fin
theorem Zfg {X:Cx}{pins:QC}{σ:St}{H:Hp}{s:Shared}{a:Addr}{y:V}{o:QI}(I:Inv X pins σ H s)(g:UQ H a y o):s.TypeIs (.ref a) "dict" := by
 rcases g with⟨kvs,k,e,_,_⟩ | ⟨kvs,k,b,e,_,_,_⟩
 ·obtain⟨_,_,vs,_,dd⟩:=Za6 I.hok e;exact dd.typeIs
 ·obtain⟨_,_,xs,_,dd⟩:=ZcO I.hok e;exact dd.typeIs
inductive ZmK(Q:VK)(y x:V)(H2:Hp):Prop|mk(a o)(_:x = .ref a)(_:UQ H2 a y o)(_:Q (.bl o.isSome) H2)
def Zkq (ty td:TE):TE:=fun σ H Q=>ty σ H fun y H1=>td σ H1 fun x H2=>ZmK Q y x H2
section
variable {X:Cx}{o i e value:Expr}{pos pos' tpos:Pos}{td ty tv:TE}
theorem Zen (hu:X.A.units+1<cLine)(hi:PE X i ty)(ho:PE X o td):PC X .In i o (Zkq ty td):=by intro pins s σ H Q I h;refine Yz (hi pins s σ H _ I h) fun iv s1 ⟨y,H1,I1,ry,q1⟩=>Yz (ho pins s1 σ H1 _ I1 q1) fun u s2 ⟨x,H2,I2,rx,a,ov,ex,g,q2⟩=>?_;subst ex;obtain rfl:u=Value.ref a:=rx;exact Zp5 hu I2 g ry fun s3 I3=>⟨.bl ov.isSome,H2,I3,rfl,q2⟩
end
theorem Zf3 {P:Program}{w:World}{H:Hp}(h:Heap)(hb:sysModules<h.objs.size):ZR P w H (h.push { cls:=.type "dict", data:=.dict #[] }) h.objs.size (.dK []):=
 ⟨KP _,qB.mpr (Kz (Kk hb)),[],.nil,Heap.DictOf.new h⟩
theorem ZfR {P:Program}{w:World}{H:Hp}(h:Heap)(hb:sysModules<h.objs.size):ZR P w H (h.push { cls:=.type "dict", data:=.dict #[] }) h.objs.size (.dT []):=
 ⟨KP _,qB.mpr (Kz (Kk hb)),[],.nil,_,#[],0,Km _ rfl,⟨rfl,rfl,rfl⟩,rfl,rfl,MG⟩
def ZjX:TE:=fun _ H Q=>∀p,H p=none->Q (.ref p) (upd H p (.dK []))
def ZjF:TE:=fun _ H Q=>∀p,H p=none->Q (.ref p) (upd H p (.dT []))
section
variable {X:Cx}{pos:Pos}
theorem Zdi:PE X (.Dict [] [] pos) ZjX:=fun pins s σ H Q I h=>
 N6 ⟨.ref s.heap.objs.size,_,I.laid (a:=s.heap.objs.size) (o:=.dK []) (t':=s.toks) (fun _ _ q=>ko _ q) (ki _) (Zf3 s.heap I.big),rfl,h _ (I.hok.fresh (ki _))⟩
theorem ZiY:PE X (.Dict [] [] pos) ZjF:=fun pins s σ H Q I h=>
 N6 ⟨.ref s.heap.objs.size,_,I.laid (a:=s.heap.objs.size) (o:=.dT []) (t':=s.toks) (fun _ _ q=>ko _ q) (ki _) (ZfR s.heap I.big),rfl,h _ (I.hok.fresh (ki _))⟩
end
theorem ZR.there {P:Program}{w:World}{H:Hp}{h:Heap}{a:Addr}{o:HO}(x:ZR P w H h a o):∃ob,h.get? a=some ob:=by
 cases o with
 | lst xs=>obtain⟨_,_,_,_,e⟩:=x;exact⟨_,e⟩
 | tup xs=>obtain⟨_,_,_,_,e,_⟩:=x;exact⟨_,e⟩
 | dK kvs=>obtain⟨_,_,_,_,o,_,_,e,_⟩:=x;exact⟨_,e⟩
 | dT kvs=>obtain⟨_,_,_,_,o,_,_,e,_⟩:=x;exact⟨_,e⟩
 | set S n=>obtain⟨o,_,_,_,e,_⟩:=x;exact⟨_,e⟩
 | ins C dx fs=>obtain⟨_,_,_,e,_⟩:=x;exact⟨_,e⟩
 | own y=>obtain⟨_,e⟩:=x;exact⟨_,e⟩
 | xd fs=>obtain⟨_,⟨_,_,_,e,_⟩,_⟩:=x;exact⟨_,e⟩
 | rng lo hi=>obtain⟨_,_,_,e⟩:=x;exact⟨_,e⟩
 | frz ob u=>obtain⟨e,_⟩:=x;exact⟨_,e⟩
 | tbl ps=>exact⟨_,x⟩
 | met f y=>exact⟨_,x⟩
 | ext φ=>obtain⟨_,⟨_,e⟩,_⟩:=x;exact⟨_,e⟩
theorem ZjK {h:Heap}{a:Addr}{m m':QN}(x:h.Ns a m)(y:h.Ns a m'):m=m':=by obtain⟨o,es,ep,ho,hd,_,hm⟩:=x;obtain⟨o',es',ep',ho',hd',_,hm'⟩:=y;rw[ho] at ho';cases ho';rw[hd] at hd';cases hd';exact funext fun n=>(hm n).symm.trans (hm' n)
section
variable {X:Cx}{pins:QC}{σ:St}{H:Hp}{s:Shared}
theorem Inv.laidN {h':Heap}{D:Addr}{o:HO}{t':Nat}{m:QN}(I:Inv X pins σ H s)(F:Fr X.base X.env.locals s.heap m)(F':Fr X.base X.env.locals h' m)
  (N':News X.base X.env.locals h' (GD X.base s.heap X.env.locals)) (hD:s.heap.get? D=none) (hn:H D=none) (new:ZR X.prog X.w (upd H D o) h' D o):Inv X pins σ (upd H D o) { s with heap:=h',toks:=t' }:=by
 have kp:∀b u,b≠X.env.locals->s.heap.get? b=some u->h'.get? b=some u:=fun b u hb e=>by
  cases q:X.base.get? b with
  | some v=>
   have e1:=F'.keep b v q;have e2:=F.keep b v q;rw[e] at e2;cases e2;exact e1
  | none=>exact(N' (b,u) (U6 hb q e)).1
 have neL:∀b u,H b=some u->b≠X.env.locals:=fun b u e z=>by rw[z,I.free] at e;cases e
 refine I.step (g':=s.gens) (d':=s.drawn) (ch:=[]) (fun _ z=>nomatch z) (fun b ob hb _ _ e _=>kp b ob hb e) (fun b ob hb _ _ e _=>⟨ob.slots,kp b ob hb e⟩) (fun b ob _ e n=>?_) (fun b ob _ e=>?_) (fun b xs e=>?_) (fun b ob u e=>?_) (fun b ps e=>⟨#[],?_⟩) (fun m' hm=>?_) (fun b u e=>?_) I.bare
 ·rw[Zh (fun z=>by subst z;rw[hD] at e;cases e)];exact n
 ·by_cases hb:b=X.env.locals
  ·subst hb;obtain⟨ob',_,_,z,_⟩:=F'.ns;exact⟨ob',z⟩
  ·exact⟨ob,kp b ob hb e⟩
 ·rw[Zh (Zf e hn)];exact e
 ·rw[Zh (Zf e hn)];exact e
 ·rw[Zh (Zf e hn),e];simp
 ·rw[ZjK hm F.ns];exact F'.ns
 ·by_cases hb:b=D
  ·subst hb;rw[Zc] at e;cases e;exact new
  ·rw[Zh hb] at e;refine(I.hok b u e).stay (fun c v hc q=>kp c v ?_ q) (fun c q=>by rw[Zh (Zf q hn)];exact q) fun c xs q=>by rw[Zh (Zf q hn)];exact q
   rcases hc with z | z
   ·subst z;exact neL _ u e
   ·exact neL c _ z
end
section
variable {X:Cx}
inductive Zfv(xs:QH)(H:Hp)(Q:VK):Prop|mk(p:Addr)(kvs:QD)(ns:QG)(_:xs = [.ref p])(_:H p=some (.dK kvs))(_:kvs.map (·.1)=ns.map Sum.inl)(_:ns.length<64)(_:∀(l:Addr)(ns':QG),H l=none->ns'.Perm ns->ns'.Pairwise (· <= ·)->Q (.ref l) (upd H l (.lst (ns'.map V.int))))
theorem Zbk (hc:X.calm=true):Y6 X (.builtin "sorted") Zfv:=by
 intro pins s σ H xs us Q I r h;obtain⟨p,kvs,ns,rfl,hp,hk,h64,q⟩:=h;obtain⟨u,rfl,ru⟩:=r.one;cases ru;obtain⟨z,hsm,vs,rel,ob,es,ep,hd⟩:=Zh5 I.hok hp;obtain⟨m,fr⟩:=I.fr;have lv:kvs.length=vs.length:=Xb rel;have ln:kvs.length=ns.length:=by simpa using Ky List.length hk
 refine W.kdu_sorted (W.kdl_dict (knd:=ZI X.prog X.w) (kvs:=vs) (ep:=ep) hsm) (I.ok.hd hc) fr (news:=GD X.base s.heap X.env.locals) ZfT ⟨ob,es,hd⟩ (by lia) fun D h' tk ws fr' nw' lt' hlen hP=>?_;have ia:IntsAre ws ns:=by
  have key:∀(ws:QJ)(ns:QG),ws.length=ns.length->(∀(j:Nat)(v:Value)(n:Int),ws[j]? = some v->ns[j]? = some n -> ∃t,v = .int n t)->IntsAre ws ns:=by
   intro ws
   induction ws with
   | nil=>intro ns hl _;cases ns with
    | nil=>exact .nil
    | cons _ _=>cases hl
   | cons w ws ih=>
    intro ns hl h;cases ns with
    | nil=>cases hl
    | cons n ns=>
     obtain⟨t,rfl⟩:=h 0 w n rfl rfl;exact .cons n t (ih ns (by simpa using hl) fun j v n' e1 e2=>h (j+1) v n' (by simpa using e1) (by simpa using e2))
  refine key ws ns (by lia) fun j v n e1 e2=>?_;obtain⟨k,x,e3,e4⟩:=hP j v e1;have e5:(kvs.map (·.1))[j]? = some k:=by
   have hj:j<kvs.length:=by have:=(kI.mp e3).1;lia
   have key:∀(kvs:QD)(vs:List (Key×Value)),KV kvs vs -> ∀j:Nat,(kvs.map (·.1))[j]? = (vs.map (·.1))[j]?:=by
    intro kvs vs rel;unfold KV at rel
    induction rel with
    | nil=>intro j;rfl
    | cons a _ ih=>
     intro j;cases j with
     | zero=>simp[a.1]
     | succ j=>simpa using ih j
   rw[key kvs vs rel j,kE,e3];rfl
  rw[hk,kE,e2] at e5;cases e5;rcases Yu (k:=Sum.inl n) (v:=v) e4 with⟨i,t,z1,z2⟩ | ⟨x',t,z1,z2⟩
  ·cases z1;exact⟨t,z2⟩
  ·cases z1
 refine W.ksk_lsort (vs:=ws) (its:=ws.toArray) (n:=0) fr' nw' (news':=fun o=>(D,o)::GD X.base s.heap X.env.locals) (fun o=>.head fun q hq=>Kk (lt' q hq)) rfl ia h64 fun vs' ns' c h'' fr'' nw'' ia' hl' perm pw _=>?_;have hD:s.heap.get? D=none:=by
  have nb:X.base.get? D=none:=(nw' (D,W.listOf ws.toArray 0) kQ).2.2;have nL:D≠X.env.locals:=(nw' (D,W.listOf ws.toArray 0) kQ).2.1;cases e:s.heap.get? D with
  | none=>rfl
  | some o=>exact absurd (lt' (D,o) (U6 nL nb e)) (qF _)
 have fresh:H D=none:=by
  cases e:H D with
  | none=>rfl
  | some o=>
   obtain⟨ob,e2⟩:=(I.hok D o e).there;rw[hD] at e2;cases e2
 have I2:=I.laidN (o:=.lst (ns'.map V.int)) (D:=D) (h':=h'') (t':=tk) fr fr'' (fun q hq=>nw'' q (kS _ hq)) hD fresh ⟨by rw[ke,hl'];lia,vs',c,Zav ia',(nw'' _ kQ).1⟩
 exact⟨.ref D,_,I2,rfl,q D ns' fresh perm pw⟩
inductive Zlz(x y:V)(H:Hp)(Q:VK):Prop|mk(a v)(_:x = .ref a)(_:UQ H a y (some v))(_:Q v H)
theorem UI (hu:X.A.units+1<cLine):IxR X Zlz:=by intro value slice pins s σ H x y v u Q I rx ry h hs;obtain⟨a,w,rfl,g,q⟩:=h;cases rx;exact tail_any (ops:=[.ref a,u]) (Zfg I g) Ny.lookup (ZiO hu I g ry fun w' s3 I3 rw'=>⟨w,H,I3,rw',q⟩) hs
inductive Zc8(o i v:V)(H:Hp)(Q:Hp->Prop):Prop|mk(a H')(_:o = .ref a)(_:ZfG H a i v H')(_:Q H')
theorem set_dict (hu:X.A.units+1<cLine):ZlK X Zc8:=by intro pins s σ H o i v ov iv u Q I ro ri rv h;obtain⟨a,H',rfl,g,q⟩:=h;cases ro;exact ZiR hu I g ri rv fun s' I'=>⟨H',I',q⟩
inductive Znc(K:QF)(n:Nat)(t:TGs)(v:V)(σ:St)(H:Hp)(Q:QT):Prop|mk(a xs)(_:v = .ref a)(_:Zt K H a xs)(_:xs.length=n)(_:t xs σ H Q)
theorem ZnV {es:QV}{k:Nat}{t:TGs}{n:Nat}{pos:Pos}(hc:X.calm=true)(h:PGs X es t)
  (hn:(assignEach es X.env).length=n:=by rfl) (hst:(assignEach es X.env).findIdx? (·.1)=none:=by rfl):PG X (.Tuple es k pos) (Znc X.K n t):=by
 intro pins s σ H v u Q I r hw;obtain⟨a,xs,e1,hq,hl,hw⟩:=hw;subst e1;cases r;obtain⟨its,rv,p,hz⟩:=I.list hq;rw[arm_assign_Tuple];refine ka (Xc ?_);unfold unpack;rw[hst];refine ka (KJ ?_);have e:(assignEach es X.env).length=its.toArray.size:=by rw[hn,<- hl,rv.length];simp
 rw[e];refine W.kun_itemsOf (I.ok.hd hc) p.isList fun h' hx=>?_;have I1:Inv X pins σ H { s with heap:=h' }:=I.kept (t':=s.toks) fun b o e=>hx b o (Kk (Kc e)) e;exact h pins _ σ H xs _ Q I1 (by simpa using rv) hw
theorem Zcm {K:QF}{es:QV}{k:Nat}{t:TGs}{n:Nat}{pos:Pos}(hk:X.K=K)(hc:X.calm=true)(h:PGs X es t)
  (hn:(assignEach es X.env).length=n:=by rfl) (hst:(assignEach es X.env).findIdx? (·.1)=none:=by rfl):PG X (.Tuple es k pos) (Znc K n t):=hk ▸ ZnV hc h hn hst
end
def bw (x:Int):Int:=if x % 2=0 then x+1 else x-1
theorem Zcb (x:Int):bw (bw x)=x:=by unfold bw;split<;>split<;>lia
theorem Zpl (x:Int):bw x≠x:=by unfold bw;split<;>lia
structure JN (m:QX)(N:Int):Prop where
 lo:∀x,0<=x->x<N->0<=m x
 hi:∀x,0<=x->x<N->m x<N
 inv:∀x,0<=x->x<N->m (m x)=x
 ne:∀x,0<=x->x<N->m x≠x
 ev:N % 2=0
theorem Zj5 {N x:Int}(e:N % 2=0)(h0:0<=x)(h1:x<N):0<=bw x/\bw x<N:=by unfold bw;split<;>omega
def gt (m:QX)(f:Int):Nat->Int
 | 0=>f
 | i+1=>bw (m (gt m f i))
def WD (m:QX)(f:Int):Nat->List Int
 | 0=>[]
 | i+1=>WD m f i ++ [gt m f i,m (gt m f i)]
theorem Wq (m:QX)(f:Int):∀i,(WD m f i).length=2*i
 | 0=>rfl
 | i+1=>by simp only[WD,kg,Wq m f i,K3,Xl];lia
theorem Y8 {m:QX}{f x:Int}:∀{i:Nat},x∈WD m f i ↔ ∃j,j<i/\(x=gt m f j∨x=m (gt m f j))
 | 0=>by simp[WD]
 | i+1=>by
  simp only[WD,KC,Y8 (i:=i),kP,Xu,MH];constructor
  ·rintro(⟨j,h,e⟩ | h)
   ·exact⟨j,by lia,e⟩
   ·exact⟨i,by lia,h⟩
  ·rintro⟨j,h,e⟩;by_cases hj:j=i
   ·subst hj;exact .inr e
   ·exact .inl ⟨j,by lia,e⟩
section
variable {m:QX}{N f:Int}
theorem YO (M:JN m N)(h0:0<=f)(h1:f<N):∀i,0<=gt m f i/\gt m f i<N
 | 0=>⟨h0,h1⟩
 | i+1=>by obtain⟨a,b⟩:=YO M h0 h1 i;exact Zj5 M.ev (M.lo _ a b) (M.hi _ a b)
theorem Zk7 (M:JN m N)(h0:0<=f)(h1:f<N):∀d j,gt m f (j+d)≠m (gt m f j)
 | 0,j=>fun e=>M.ne _ (YO M h0 h1 j).1 (YO M h0 h1 j).2 e.symm
 | 1,j=>Zpl _
 | d+2,j=>fun e=>by
  refine Zk7 M h0 h1 d (j+1) ?_;have e1:bw (m (gt m f (j+d+1)))=m (gt m f j):=e;have e2:m (gt m f (j+d+1))=bw (m (gt m f j)):=by rw[<- e1,Zcb]
  have e3:gt m f (j+1)=m (gt m f (j+d+1)):=e2.symm;have dm:=YO M h0 h1 (j+d+1);rw[e3,M.inv _ dm.1 dm.2];congr 1;lia
theorem ZhY (M:JN m N)(h0:0<=f)(h1:f<N)(i j:Nat):gt m f i≠m (gt m f j):=by
 by_cases h:j<=i
 ·have:=Zk7 M h0 h1 (i-j) j
  rwa [show j+(i-j)=i by lia] at this
 ·intro e;refine Zk7 M h0 h1 (j-i) i ?_;rw[show i+(j-i)=j by lia,e];exact(M.inv _ (YO M h0 h1 j).1 (YO M h0 h1 j).2).symm
theorem ZmU (M:JN m N){x y:Int}(hx:0<=x/\x<N)(hy:0<=y/\y<N)(e:m x=m y):x=y:=by rw[<- M.inv x hx.1 hx.2,e,M.inv y hy.1 hy.2]
theorem Zhj (M:JN m N)(h0:0<=f)(h1:f<N):∀j d,gt m f (j+d)=gt m f j->gt m f d=f
 | 0,d,e=>by simpa [gt] using e
 | j+1,d,e=>by
  refine Zhj M h0 h1 j d (ZmU M (YO M h0 h1 _) (YO M h0 h1 _) ?_);have e1:bw (m (gt m f (j+d)))=bw (m (gt m f j)):=by
   have:j+1+d=j+d+1:=by lia
   rw[this] at e;exact e
  rw[<- Zcb (m (gt m f (j+d))),e1,Zcb]
theorem ZeE (M:JN m N)(h0:0<=f)(h1:f<N){i j:Nat}(hj:j<i)(e:gt m f i=gt m f j):gt m f (i-j)=f:=by refine Zhj M h0 h1 j (i-j) ?_;rw[show j+(i-j)=i by lia];exact e
theorem ZbJ (M:JN m N)(h0:0<=f)(h1:f<N):∀i,(∀j,1<=j->j<i->gt m f j≠f)->(WD m f i).Nodup
 | 0,_=>by simp[WD]
 | i+1,h=>by
  have ih:=ZbJ M h0 h1 i fun j a b=>h j a (by lia);show (WD m f i ++ [gt m f i,m (gt m f i)]).Nodup;rw[qD];refine⟨ih,by simp[ZhY M h0 h1 i i],fun a ha b hb=>?_⟩;obtain⟨j,hj,e⟩:=Y8.mp ha;have hb:b=gt m f i∨b=m (gt m f i):=by simpa using hb
  intro z;subst z;rcases e with e | e<;>rcases hb with z | z
  ·exact h (i-j) (by lia) (by lia) (ZeE M h0 h1 hj (z.symm.trans e))
  ·exact ZhY M h0 h1 j i (e.symm.trans z)
  ·exact ZhY M h0 h1 i j (z.symm.trans e)
  ·exact h (i-j) (by lia) (by lia) (ZeE M h0 h1 hj (ZmU M (YO M h0 h1 _) (YO M h0 h1 _) (z.symm.trans e)))
theorem ZhN (M:JN m N)(h0:0<=f)(h1:f<N){i:Nat}{x:Int}(hx:x∈WD m f i):0<=x/\x<N:=by
 obtain⟨j,_,e | e⟩:=Y8.mp hx
 ·rw[e];exact YO M h0 h1 j
 ·rw[e];exact⟨M.lo _ (YO M h0 h1 j).1 (YO M h0 h1 j).2,M.hi _ (YO M h0 h1 j).1 (YO M h0 h1 j).2⟩
theorem WB:∀(n:Nat)(l:QG),l.Nodup->(∀x∈l,0<=x/\x<(n:Int))->l.length<=n
 | 0,l,_,h=>by
  cases l with
  | nil=>simp
  | cons x _=>have:=h x kQ;lia
 | n+1,l,nd,h=>by
  by_cases hn:(n:Int)∈l
  ·have h1:=WB n (l.erase (n:Int)) (nd.erase _) fun x hx=>by
    have h2:=(nd.mem_erase_iff).mp hx;have:=h x h2.2;have:=h2.1;lia
   rw[NR hn] at h1;lia
  ·have h1:=WB n l nd fun x hx=>by
    have:=h x hx;have h3:x≠(n:Int):=fun z=>hn (z ▸ hx);lia
   lia
theorem Ud (M:JN m N)(h0:0<=f)(h1:f<N){i:Nat}(h:∀j,1<=j->j<i->gt m f j≠f):2*(i:Int)<=N:=by
 have:=WB N.toNat (WD m f i) (ZbJ M h0 h1 i h) fun x hx=>by have:=ZhN M h0 h1 hx;lia
 rw[Wq] at this;lia
theorem ZkQ (M:JN m N)(h0:0<=f)(h1:f<N){i:Nat}(h:∀j,1<=j->j<i->gt m f j≠f):gt m f i∈WD m f i ↔ (1<=i/\gt m f i=f):=by
 constructor
 ·intro hx;obtain⟨j,hj,e | e⟩:=Y8.mp hx
  ·have:=ZeE M h0 h1 hj e;by_cases z:j=0
   ·subst z;exact⟨by lia,this⟩
   ·exact absurd this (h (i-j) (by lia) (by lia))
  ·exact absurd e (ZhY M h0 h1 i j)
 ·rintro⟨a,e⟩;exact Y8.mpr ⟨0,by lia,.inl e⟩
end
def Jk (m:QX)(f:Int)(T:QG):Prop:=∃L,1<=L/\gt m f L=f/\(∀j,1<=j->j<L->gt m f j≠f)/\T=WD m f L
theorem Jk.uniq {m:QX}{f:Int}{T T':QG}(a:Jk m f T)(b:Jk m f T'):T=T':=by
 obtain⟨L,h1,e1,n1,rfl⟩:=a;obtain⟨L',h2,e2,n2,rfl⟩:=b;have:L=L':=by
  rcases Nat.lt_trichotomy L L' with z | z | z
  ·exact absurd e1 (n2 L h1 z)
  ·exact z
  ·exact absurd e2 (n1 L' h2 z)
 rw[this]
theorem Jk.self {m:QX}{f:Int}{T:QG}(a:Jk m f T):f∈T:=by obtain⟨L,h1,e1,n1,rfl⟩:=a;exact Y8.mpr ⟨0,by lia,.inl rfl⟩
theorem Jk.dom {m:QX}{N f:Int}{T:QG}(M:JN m N)(h0:0<=f)(h1:f<N)(a:Jk m f T):∀x∈T,0<=x/\x<N:=by obtain⟨L,_,_,_,rfl⟩:=a;exact fun x hx=>ZhN M h0 h1 hx
theorem Jk.nodup {m:QX}{N f:Int}{T:QG}(M:JN m N)(h0:0<=f)(h1:f<N)(a:Jk m f T):T.Nodup:=by obtain⟨L,_,_,n,rfl⟩:=a;exact ZbJ M h0 h1 L n
theorem Jk.len {m:QX}{N f:Int}{T:QG}(M:JN m N)(h0:0<=f)(h1:f<N)(a:Jk m f T):(T.length:Int)<=N:=by obtain⟨L,_,_,n,rfl⟩:=a;have:=Ud M h0 h1 n;rw[Wq];lia
theorem Jk.closed {m:QX}{N f:Int}{T:QG}(M:JN m N)(h0:0<=f)(h1:f<N)(a:Jk m f T):∀x∈T,m x∈T/\bw x∈T:=by
 obtain⟨L,hL,eL,n,rfl⟩:=a;intro x hx;obtain⟨j,hj,e | e⟩:=Y8.mp hx
 ·subst e;refine⟨Y8.mpr ⟨j,hj,.inr rfl⟩,?_⟩;cases j with
  | zero=>
   refine Y8.mpr ⟨L-1,by lia,.inr ?_⟩;have:gt m f (L-1+1)=f:=by rw[show L-1+1=L by lia];exact eL
   have e2:bw (m (gt m f (L-1)))=f:=this;show bw f=_;rw[<- e2,Zcb,e2]
  | succ j=>exact Y8.mpr ⟨j,by lia,.inr (Zcb _)⟩
 ·subst e;refine⟨?_,?_⟩
  ·rw[M.inv _ (YO M h0 h1 j).1 (YO M h0 h1 j).2];exact Y8.mpr ⟨j,hj,.inl rfl⟩
  ·by_cases z:j+1=L
   ·refine Y8.mpr ⟨0,by lia,.inl ?_⟩;show gt m f (j+1)=f;rw[z,eL]
   ·exact Y8.mpr ⟨j+1,by lia,.inl rfl⟩
theorem Zb3 {m:QX}{N f:Int}(M:JN m N)(h0:0<=f)(h1:f<N){S:QG}(cl:∀x∈S,m x∈S/\bw x∈S)(hf:f∉S):∀i,gt m f i∉S/\m (gt m f i)∉S
 | 0=>⟨hf,fun h=>hf (by
  have:m (m f)∈S:=(cl _ h).1
  rwa [M.inv _ h0 h1] at this)⟩
 | i+1=>by
  have ih:=Zb3 M h0 h1 cl hf i;have a:gt m f (i+1)∉S:=fun h=>ih.2 (by
   have:=(cl _ h).2
   rwa [show bw (gt m f (i+1))=m (gt m f i) from Zcb _] at this)
  refine⟨a,fun h=>a ?_⟩;have:=(cl _ h).1
  rwa [M.inv _ (YO M h0 h1 (i+1)).1 (YO M h0 h1 (i+1)).2] at this
inductive GU (m:QX):Nat->List QG->Prop
 | nil:GU m 0 []
 | add {i:Nat}{ts:QA}{T:QG}:GU m i ts->(i:Int)∉ts.flatten->Jk m (i:Int) T->GU m (i+1) (ts ++ [T])
 | skip {i:Nat}{ts:QA}:GU m i ts->(i:Int)∈ts.flatten->GU m (i+1) ts
theorem GU.uniq {m:QX}{i:Nat}{ts:QA}(a:GU m i ts):∀{ts':QA},GU m i ts'->ts=ts':=by
 induction a with
 | nil=>intro ts' b;cases b;rfl
 | add a h t ih=>
  intro ts' b;cases b with
  | add b h' t'=>rw[ih b,t.uniq t']
  | skip b h'=>rw[ih b] at h;exact absurd h' h
 | skip a h ih=>
  intro ts' b;cases b with
  | add b h' t'=>rw[ih b] at h;exact absurd h h'
  | skip b h'=>exact ih b
theorem GU.mem {m:QX}{i:Nat}{ts:QA}(a:GU m i ts):∀j:Nat,j<i->(j:Int)∈ts.flatten:=by
 induction a with
 | nil=>intro j hj;lia
 | @add i ts T a h t ih=>
  intro j hj;rw[Kr,KC];by_cases e:j=i
  ·subst e;exact .inr (by simpa using t.self)
  ·exact .inl (ih j (by lia))
 | @skip i ts a h ih=>
  intro j hj;by_cases e:j=i
  ·subst e;exact h
  ·exact ih j (by lia)
theorem GU.good {m:QX}{N:Int}(M:JN m N){i:Nat}{ts:QA}(a:GU m i ts)(hi:(i:Int)<=N):ts.flatten.Nodup/\(∀x∈ts.flatten,0<=x/\x<N)/\(∀x∈ts.flatten,m x∈ts.flatten/\bw x∈ts.flatten):=by
 induction a with
 | nil=>simp
 | @add i ts T a h t ih=>
  obtain⟨n,d,c⟩:=ih (by lia);have h0:(0:Int)<=(i:Int):=by lia
  have h1:(i:Int)<N:=by lia
  rw[Kr];have e:[T].flatten=T:=by simp
  rw[e];refine⟨?_,fun x hx=>?_,fun x hx=>?_⟩
  ·rw[qD];refine⟨n,t.nodup M h0 h1,fun a ha b hb z=>?_⟩;subst z;obtain⟨L,_,_,_,rfl⟩:=t;obtain⟨j,_,e | e⟩:=Y8.mp hb
   ·exact(Zb3 M h0 h1 c h j).1 (e ▸ ha)
   ·exact(Zb3 M h0 h1 c h j).2 (e ▸ ha)
  ·rcases KC.mp hx with z | z
   ·exact d x z
   ·exact t.dom M h0 h1 x z
  ·rw[KC,KC];rcases KC.mp hx with z | z
   ·exact⟨.inl (c x z).1,.inl (c x z).2⟩
   ·exact⟨.inr (t.closed M h0 h1 x z).1,.inr (t.closed M h0 h1 x z).2⟩
 | skip a h ih=>exact ih (by lia)
theorem GU.jump {m:QX}{ts:QA}{i:Nat}(a:GU m i ts):∀d:Nat,(∀j:Nat,i<=j->j<i+d->(j:Int)∈ts.flatten)->GU m (i+d) ts
 | 0,_=>a
 | d+1,h=>by have:=GU.jump a d fun j x y=>h j x (by lia);exact GU.skip this (h (i+d) (by lia) (by lia))
theorem GU.len {m:QX}{N:Int}(M:JN m N){i:Nat}{ts:QA}(a:GU m i ts)(hi:(i:Int)<=N):ts.length<=i:=by
 induction a with
 | nil=>simp
 | add a h t ih=>have:=ih (by lia);simp;lia
 | skip a h ih=>have:=ih (by lia);lia
def rowAt (ls:QB)(t:Nat):QG:=(rb (ls.take t)).1
def Jo (ls:QB)(t:Nat):Int×Int:=((rowAt ls t).getD ((ls.getD t ("", 0)).2.toNat) 0,(rowAt ls t).getD ((ls.getD t ("", 0)).2.toNat+1) 0)
def Ub:Str->Bool:=fun x=>decide (x = "end")
def Jr (ls:QB)(i:Nat):QL:=(Ya ls Ub i).map fun t=>Jo ls t.toNat
def ZK (ps:QL):QG:=ps.flatMap fun p=>[p.1,p.2]
theorem Y7 (a b:QL):ZK (a++b)=ZK a++ZK b:=by simp[ZK]
theorem Ue (ps:QL):(ZK ps).length=2*ps.length:=by
 induction ps with
 | nil=>rfl
 | cons p r ih=>
  have:ZK (p::r) = [p.1,p.2]++ZK r:=by simp[ZK]
  rw[this,kg,ih];simp;lia
theorem W2 (ls:QB)(i:Nat):Jr ls (i+1)=Jr ls i++(if UW ls Ub i=true then[Jo ls i] else[]):=by unfold Jr;rw[JS,k6];by_cases h:UW ls Ub i=true<;>simp[h]
def UR (n:Nat):QG:=(List.range n).map fun(x:Nat)=>(x:Int)
theorem ZkM (n:Nat):UR (n+2)=UR n ++ [(n:Int),(n:Int)+1]:=by unfold UR;rw[K7,K7];simp
theorem YY {n:Nat}{x:Int}:x∈UR n ↔ 0<=x/\x<(n:Int):=by
 unfold UR;rw[Kq];constructor
 ·rintro⟨a,h,rfl⟩;have:=qa.mp h;lia
 ·rintro⟨h0,h1⟩;exact⟨x.toNat,qa.mpr (by lia),by lia⟩
theorem Gr (n:Nat):(UR n).Nodup:=by unfold UR;rw[Nk,qE];exact(Nk.mp List.nodup_range).imp fun h e=>h (by lia)
theorem Uc (n:Nat):(UR n).length=n:=by simp[UR]
theorem Zll (r:QG)(k:Nat)(h:k+1<r.length):r=r.take k ++ [r.getD k 0,r.getD (k+1) 0]++r.drop (k+2):=by
 have e1:r.drop k=r[k]::r.drop (k+1):=KZ (by lia);have e2:r.drop (k+1)=r[k+1]::r.drop (k+2):=KZ h;have e:r.take k++r.drop k=r:=Kt k r;rw[e1,e2] at e;have h1:r.getD k 0=r[k]:=by simp[show k<r.length by lia]
 have h2:r.getD (k+1) 0=r[k+1]:=by simp[h]
 rw[h1,h2];simpa using e.symm
theorem Zmx (r:QG)(k:Nat)(h:k+1<r.length):GQ r k=r.take k ++ [r.getD (k+1) 0,r.getD k 0]++r.drop (k+2):=by
 have hl:(r.take k).length=k:=by rw[kL];lia
 unfold GQ;generalize ha:r.getD k 0=a;generalize hb:r.getD (k+1) 0=b;have e:=Zll r k h;rw[ha,hb] at e;generalize r.take k=p at e hl ⊢;generalize r.drop (k+2)=q at e ⊢;subst e;rw[kJ,TK _ _ (by lia),hl,TK _ _ (by lia),hl];simp
theorem ZbC {ls:QB}(hW:Wk ls 0):∀i,i<=ls.length->0<=(rb (ls.take i)).2/\(rb (ls.take i)).2 % 2=0/\(rowAt ls i++ZK (Jr ls i)).Perm (UR (rb (ls.take i)).2.toNat)
 | 0,_=>by
  refine⟨qK _,rfl,?_⟩;exact XX _
 | i+1,hi=>by
  obtain⟨ih0,ih1,ih⟩:=ZbC hW i (by omega);have hq:ls[i]? = some ls[i]:=by simp[show i<ls.length by omega]
  obtain⟨tk,c⟩:=ZdC hW hq;have gd:ls.getD i ("", 0)=ls[i]:=by simp[show i<ls.length by omega]
  unfold rowAt at ih ⊢;generalize hp:ls[i]=p at *;obtain⟨px,pk⟩:=p;rw[tk,YM,W2];have kk:∀pr:Str->Bool,UW ls pr i=pr px:=fun pr=>by unfold UW;rw[hq];cases h:pr px<;>simp[h]
  rw[kk];rcases c with⟨e,b0,b1⟩ | ⟨e,b0,b1⟩ | ⟨e,b0,b1⟩
  ·have e:px = "born" := e;subst e;rw[WA];have hf:Ub "born" = false:=by unfold Ub;decide +kernel
   rw[hf];simp only[qe,Xf,KL];generalize hr:rb (ls.take i)=s at *;obtain⟨r,b⟩:=s;refine⟨by omega,by omega,?_⟩;have e2:(b+2).toNat=b.toNat+2:=by omega
   rw[e2,ZkM];have e3:((b.toNat:Nat):Int)=b:=by omega
   rw[e3];have p1:(r.take pk.toNat ++ [b,b+1]++r.drop pk.toNat).Perm (r ++ [b,b+1]):=by rw[kJ];refine(KD _ KG).trans ?_;rw[<- kJ,Kt]
   refine(p1.append_right _).trans ?_;rw[kJ];refine(KD _ KG).trans ?_;rw[<- kJ];exact ih.append_right _
  ·have e:px = "cross" := e;subst e;rw[JL];have hf:Ub "cross" = false:=by unfold Ub;decide +kernel
   rw[hf];simp only[qe,Xf,KL];refine⟨ih0,ih1,?_⟩;have hk:pk.toNat+1<(rb (ls.take i)).1.length:=by have b1:pk+1<_:=b1;have b0:0<=pk:=b0;omega
   refine List.Perm.trans ?_ ih;refine qy _ ?_;rw[Zmx _ _ hk]
   conv=>rhs;rw[Zll _ _ hk]
   exact qy _ (KD _ (List.Perm.swap _ _ _))
  ·have e:px = "end" := e;subst e;rw[Gx];have hf:Ub "end" = true:=by unfold Ub;simp
   rw[hf];simp only[Tw];refine⟨ih0,ih1,?_⟩;have hk:pk.toNat+1<(rb (ls.take i)).1.length:=by have b1:pk+1<_:=b1;have b0:0<=pk:=b0;omega
   refine List.Perm.trans ?_ ih;rw[Y7];have pr:ZK [Jo ls i] = [(rb (ls.take i)).1.getD pk.toNat 0,(rb (ls.take i)).1.getD (pk.toNat+1) 0]:=by unfold Jo rowAt;rw[gd];simp[ZK]
   rw[pr]
   conv=>rhs;rw[Zll _ _ hk]
   generalize (rb (ls.take i)).1.take pk.toNat=A;generalize (rb (ls.take i)).1.drop (pk.toNat+2)=B;generalize [(rb (ls.take i)).1.getD pk.toNat 0,(rb (ls.take i)).1.getD (pk.toNat+1) 0]=C;generalize ZK (Jr ls i)=F;rw[kJ,kJ,kJ];refine KD _ ?_;rw[<- kJ];exact KG
def Jd (ls:QB):QL:=Jr ls ls.length
def Jl (ls:QB):Nat:=2*(Jd ls).length
theorem Wy {ls:QB}(hW:Wk ls 0):(ZK (Jd ls)).Perm (UR (Jl ls)):=by
 obtain⟨h0,h1,h2⟩:=ZbC hW ls.length (ki _);have e:rowAt ls ls.length = []:=by unfold rowAt;rw[kK (ki _)];have:=Zah hW;exact K9.mp (by lia)
 rw[e,qX] at h2;have hl:=h2.length_eq;rw[Uc,Ue] at hl;show (ZK (Jr ls ls.length)).Perm (UR (2*(Jr ls ls.length).length));rw[hl];exact h2
def Jv:List (Int×Int)->Int->Int
 | [],_=>0
 | p::r,x=>if x=p.1 then p.2 else if x=p.2 then p.1 else Jv r x
theorem ZcG:∀{ps:QL}{u l:Int},(ZK ps).Nodup->(u,l)∈ps->Jv ps u=l/\Jv ps l=u
 | [],_,_,_,h=>by cases h
 | p::r,u,l,nd,h=>by
  have e:ZK (p::r)=p.1::p.2::ZK r:=by simp[ZK]
  rw[e] at nd;obtain⟨n1,nd2⟩:=Kl.mp nd;obtain⟨n2,nd3⟩:=Kl.mp nd2;rcases kP.mp h with z | z
  ·subst z;refine⟨by simp[Jv],?_⟩;have:l≠u:=fun z=>n1 (by simp[z]);simp[Jv,this]
  ·have m1:u∈ZK r:=KW.mpr ⟨(u,l),z,by simp⟩;have m2:l∈ZK r:=KW.mpr ⟨(u,l),z,by simp⟩;have ih:=ZcG nd3 z;have a1:u≠p.1:=fun z=>n1 (kS _ (z ▸ m1));have a2:u≠p.2:=fun z=>n2 (z ▸ m1);have a3:l≠p.1:=fun z=>n1 (kS _ (z ▸ m2));have a4:l≠p.2:=fun z=>n2 (z ▸ m2);simp only[Jv,a1,a2,a3,a4,Xf];exact ih
theorem Za2 {ps:QL}(nd:(ZK ps).Nodup){u l:Int}(h:(u,l)∈ps):u≠l:=by
 induction ps with
 | nil=>cases h
 | cons p r ih=>
  have e:ZK (p::r)=p.1::p.2::ZK r:=by simp[ZK]
  rw[e] at nd;obtain⟨n1,nd2⟩:=Kl.mp nd;obtain⟨n2,nd3⟩:=Kl.mp nd2;rcases kP.mp h with z | z
  ·subst z;intro z;exact n1 (by simp[z])
  ·exact ih nd3 z
theorem Wc {ls:QB}(hW:Wk ls 0):JN (Jv (Jd ls)) (Jl ls):=by
 have pm:=Wy hW;have nd:(ZK (Jd ls)).Nodup:=pm.nodup_iff.mpr (Gr _);have get:∀x:Int,0<=x->x<(Jl ls:Int) -> ∃u l,(u,l)∈Jd ls/\(x=u∨x=l):=fun x h0 h1=>by have:x∈ZK (Jd ls):=pm.mem_iff.mpr (YY.mpr ⟨h0,h1⟩);obtain⟨p,hp,hx⟩:=KW.mp this;exact⟨p.1,p.2,hp,by simpa using hx⟩
 have dom:∀u l,(u,l)∈Jd ls->(0<=u/\u<(Jl ls:Int))/\(0<=l/\l<(Jl ls:Int)):=fun u l h=>
  ⟨YY.mp (pm.mem_iff.mp (KW.mpr ⟨(u,l),h,by simp⟩)),YY.mp (pm.mem_iff.mp (KW.mpr ⟨(u,l),h,by simp⟩))⟩
 refine⟨fun x h0 h1=>?_,fun x h0 h1=>?_,fun x h0 h1=>?_,fun x h0 h1=>?_,by unfold Jl;lia⟩
 all_goals
  obtain⟨u,l,hm,rfl | rfl⟩:=get x h0 h1
  all_goals
   obtain⟨a,b⟩:=ZcG nd hm;obtain⟨d1,d2⟩:=dom _ _ hm;have ne:=Za2 nd hm
   first
    | (rw[a];exact d2.1)
    | (rw[b];exact d1.1)
    | (rw[a];exact d2.2)
    | (rw[b];exact d1.2)
    | (rw[a,b])
    | (rw[b,a])
    | (rw[a];exact Kz ne)
    | (rw[b];exact ne)
theorem Zm7 {x:Int}(h:0<=x):Builtin.bitXor x 1=bw x:=by
 obtain⟨n,rfl⟩:=kT h;unfold bw;have ho:Builtin.bitOr (n:Int) 1=((n ||| 1:Nat):Int):=by
  have e1:decide (0<=Builtin.bitNot (n:Int))=false:=by unfold Builtin.bitNot;rw[Tq];omega
  have e2:decide (0<=Builtin.bitNot (1:Int))=false:=by decide
  have e3:(Builtin.bitNot (Builtin.bitNot (n:Int))).toNat=n:=by unfold Builtin.bitNot;omega
  have e4:(Builtin.bitNot (Builtin.bitNot (1:Int))).toNat=1:=by decide
  unfold Builtin.bitOr Builtin.bitAnd;rw[e1,e2];simp only[e3,e4];unfold Builtin.bitNot;omega
 have ha:Builtin.bitAnd (n:Int) 1=((n &&& 1:Nat):Int):=by unfold Builtin.bitAnd;simp
 unfold Builtin.bitXor;rw[ho,ha];have h1:n &&& 1=n % 2:=Lq n;have h2:n ||| 1=n+1-n % 2:=by
  have d:(n ||| 1) / 2=n / 2:=by rw[Nat.or_div_two];simp
  have m:(n ||| 1) % 2=1:=Nat.or_mod_two_eq_one.mpr (.inr rfl);omega
 rw[h1,h2];split<;>omega
section
variable {X:Cx}
inductive Zgg(K:QF)(x y:V)(H:Hp)(Q:VK):Prop|mk(p q:Addr)(xs:QH)(_:x = .ref p)(_:y = .ref q)(_:Zt K H p xs)(_:Zt K H q [])(_:Q (.bl (!xs.isEmpty)) H)
theorem Zki (hu:X.A.units+64<cLine):UN X (compareOp .NotEq) (Zgg X.K):=by
 intro pins s σ H x y v u Q I rx ry h;obtain⟨p,q,xs,rfl,rfl,hp,hq,hQ⟩:=h;cases rx;cases ry;obtain⟨its,r1,p1,_⟩:=I.list hp;obtain⟨its2,r2,p2,_⟩:=I.list hq;have l1:=r1.length;have l2:=r2.length;cases xs with
 | nil=>
  refine SeqAt.RcNeAt.lists (e:=fun _=>true) p1.isList p2.isList (by simp only[kF];lia) (by lia) (fun j h1 h2=>?_) X.prog X.w _ _ ⟨.bl false,H,I,?_,hQ⟩
  ·rw[kF] at h1;have:its.length=0:=by simpa using l1.symm
   lia
  ·show Value.bool _=Value.bool false;simp
 | cons z zs=>
  refine SeqAt.RcNeAt.lists_lengths p1.isList p2.isList (by simp only[kF];rw[Mn];simp at l1 l2;lia) (by lia) X.prog X.w _ _ ⟨.bl true,H,I,rfl,hQ⟩
theorem Zid {K:QF}(h:X.K=K)(hu:X.A.units+64<cLine):UN X (compareOp .NotEq) (Zgg K):=h ▸ Zki hu
theorem ZaI {K:QF}(h:X.K=K):UN X (compareOp .NotIn) (rIn K true):=h ▸ ZeZ
end
theorem ZfS {x:Int}{ns:QG}:inV (.int x) (ns.map V.int)=decide (x∈ns):=by
 unfold inV
 induction ns with
 | nil=>simp
 | cons n ns ih=>
  rw[kH,qQ,ih];have e:eqV (V.int n) (V.int x)=decide (n=x):=by unfold eqV;by_cases h:n=x<;>simp[h]
  rw[e,<- Bool.decide_or];exact Xv.mpr (by rw[kP];exact⟨fun h=>h.imp Eq.symm id,fun h=>h.imp Eq.symm id⟩)
def JD (H:Hp)(ys:QH)(ps:QL):Prop:=Paired (fun v (p:Int×Int)=>∃a,v=V.ref a/\H a=some (.tup [.int p.1,.int p.2])) ys ps
theorem JD.mono {H H':Hp}(h:∀t p,H t=some (.tup p)->H' t=some (.tup p)):∀{xs:QH}{ps:QL},JD H xs ps->JD H' xs ps
 | _,_,.nil=>.nil
 | _,_,.cons ⟨t,e,q⟩ r=>.cons ⟨t,e,h t _ q⟩ (JD.mono h r)
theorem JD.len {H:Hp}{xs:QH}{ps:QL}(h:JD H xs ps):xs.length=ps.length:=Xb h
theorem JD.get {H:Hp}:∀{xs:QH}{ps:QL}{i:Nat}{x:V},JD H xs ps->xs[i]? = some x -> ∃p t,ps[i]? = some p/\x = .ref t/\H t=some (.tup [.int p.1,.int p.2])
 | _,_,_,_,.nil,e=>by simp at e
 | _,_,0,_,.cons ⟨t,e1,q⟩ _,e=>by simp at e;subst e;exact⟨_,t,rfl,e1,q⟩
 | _,_,i+1,x,.cons _ r,e=>by obtain⟨p,t,h1,h2⟩:=JD.get (i:=i) (x:=x) r (by simpa using e);exact⟨p,t,by simpa using h1,h2⟩
theorem JD.snoc {H:Hp}{xs:QH}{ps:QL}{t:Addr}{p:Int×Int}(h:JD H xs ps)(e:H t=some (.tup [.int p.1,.int p.2])):JD H (xs ++ [.ref t]) (ps ++ [p]):=T1 h ⟨t,rfl,e⟩
theorem YS.at {H:Hp}:∀{xs:QH}{rs:QA}{i:Nat}{r:QG},YS H xs rs->rs[i]? = some r -> ∃p,xs[i]? = some (.ref p)/\H p=some (.lst (r.map V.int))
 | _,_,_,_,.nil,e=>by simp at e
 | _,_,0,_,.cons ⟨t,e1,q⟩ _,e=>by simp at e;subst e;exact⟨t,by simp[e1],q⟩
 | _,_,i+1,r,.cons _ rr,e=>by obtain⟨p,h1,h2⟩:=YS.at (i:=i) (r:=r) rr (by simpa using e);exact⟨p,by simpa using h1,h2⟩
theorem YS.atX {H:Hp}:∀{xs:QH}{rs:QA}{i:Nat}{x:V},YS H xs rs->xs[i]? = some x -> ∃(p:Addr)(r:QG),rs[i]? = some r/\x = .ref p/\H p=some (.lst (r.map V.int))
 | _,_,_,_,.nil,e=>by simp at e
 | _,_,0,_,.cons ⟨t,e1,q⟩ _,e=>by simp at e;subst e;exact⟨t,_,rfl,e1,q⟩
 | _,_,i+1,x,.cons _ r,e=>by obtain⟨p,q,h1,h2⟩:=YS.atX (i:=i) (x:=x) r (by simpa using e);exact⟨p,q,by simpa using h1,h2⟩
theorem Zax (ls:QB){i n:Nat}(h:i<n):(rowsOf ls n)[i]? = some (rowAt ls i):=by unfold rowsOf rowAt;rw[kE];simp[h]
theorem Zfl {ls:QB}(hW:Wk ls 0){t:Nat}{q:Str×Int}(hq:ls[t]? = some q)(hb:q.1 ≠ "born"):0<=q.2/\q.2.toNat+1<(rowAt ls t).length/\Jo ls t=((rowAt ls t).getD q.2.toNat 0,(rowAt ls t).getD (q.2.toNat+1) 0):=by
 obtain⟨_,c⟩:=ZdC hW hq;have gd:ls.getD t ("", 0)=q:=by simp[hq]
 have e:Jo ls t=((rowAt ls t).getD q.2.toNat 0,(rowAt ls t).getD (q.2.toNat+1) 0):=by unfold Jo;rw[gd]
 rcases c with⟨z,_⟩ | ⟨_,b0,b1⟩ | ⟨_,b0,b1⟩
 ·exact absurd z hb
 ·exact⟨b0,by unfold rowAt;lia,e⟩
 ·exact⟨b0,by unfold rowAt;lia,e⟩
theorem Wb {ns:QG}{i:Nat}{x:V}(h:(ns.map V.int)[i]? = some x):∃t,ns[i]? = some t/\x=V.int t:=by
 rw[kE] at h;cases e:ns[i]? with
 | none=>rw[e] at h;cases h
 | some z=>rw[e] at h;exact⟨z,rfl,(Kb h).symm⟩
theorem Jg {α β:Type}{ns:List α}{i:Nat}{t:α}(f:α -> β)(h:ns[i]? = some t):(ns.take (i+1)).map f=(ns.take i).map f ++ [f t]:=by rw[Ke,h];simp
theorem Zfx {ls:QB}{pr:Str->Bool}{n:Nat}{x:Int}(h:x∈Ya ls pr n):0<=x/\x.toNat<n /\ ∃q,ls[x.toNat]? = some q/\pr q.1=true:=by
 unfold Ya at h;obtain⟨i,hi,e⟩:=qo.mp h;have hi':=qa.mp hi;by_cases hk:UW ls pr i=true
 ·rw[kj hk] at e;have e:(i:Int)=x:=Kb e;subst e;refine⟨by lia,by simpa using hi',?_⟩;unfold UW at hk;cases hq:ls[i]? with
  | none=>rw[hq] at hk;cases hk
  | some q=>
   rw[hq] at hk;refine⟨q,by simpa using hq,by simpa using hk⟩
 ·rw[kh hk] at e;cases e
theorem Wh {ls:QB}(hl:ls.length<=60):Jl ls<=120:=by unfold Jl Jd Jr;rw[ke];have:=J2 ls Ub ls.length;lia
section
variable {X:Cx}{pins:QC}{σ:St}{H:Hp}{s:Shared}
theorem Inv.keptN {h':Heap}{t':Nat}{m:QN}(I:Inv X pins σ H s)(F:Fr X.base X.env.locals s.heap m)(F':Fr X.base X.env.locals h' m)
  (N':News X.base X.env.locals h' (GD X.base s.heap X.env.locals)):Inv X pins σ H { s with heap:=h',toks:=t' }:=by
 have kp:∀b u,b≠X.env.locals->s.heap.get? b=some u->h'.get? b=some u:=fun b u hb e=>by
  cases q:X.base.get? b with
  | some v=>
   have e1:=F'.keep b v q;have e2:=F.keep b v q;rw[e] at e2;cases e2;exact e1
  | none=>exact(N' (b,u) (U6 hb q e)).1
 have neL:∀b u,H b=some u->b≠X.env.locals:=fun b u e z=>by rw[z,I.free] at e;cases e
 refine I.step (g':=s.gens) (d':=s.drawn) (ch:=[]) (fun _ z=>nomatch z) (fun b ob hb _ _ e _=>kp b ob hb e) (fun b ob hb _ _ e _=>⟨ob.slots,kp b ob hb e⟩) (fun b ob _ e n=>n) (fun b ob _ e=>?_) (fun b xs e=>e) (fun b ob u e=>e) (fun b ps e=>⟨#[],by rw[e];simp⟩) (fun m' hm=>?_) (fun b u e=>?_) I.bare
 ·by_cases hb:b=X.env.locals
  ·subst hb;obtain⟨ob',_,_,z,_⟩:=F'.ns;exact⟨ob',z⟩
  ·exact⟨ob,kp b ob hb e⟩
 ·rw[ZjK hm F.ns];exact F'.ns
 ·refine(I.hok b u e).stay (fun c v hc q=>kp c v ?_ q) (fun c q=>q) fun c xs q=>q;rcases hc with z | z
  ·subst z;exact neL _ u e
  ·exact neL c _ z
end
section
variable {X:Cx}
inductive Znh(K:QF)(xs:QH)(H:Hp)(Q:VK):Prop|mk(p:Addr)(ns:QG)(_:xs = [.ref p])(_:Zt K H p (ns.map V.int))(_:Q (.int ns.sum) H)
theorem Zja (hc:X.calm=true):Y6 X (.builtin "sum") (Znh X.K):=by intro pins s σ H xs us Q I r h;obtain⟨p,ns,rfl,hq,q⟩:=h;obtain⟨u,rfl,ru⟩:=r.one;cases ru;obtain⟨its,rv,pl,hz⟩:=I.list hq;obtain⟨m,fr⟩:=I.fr;refine LSm.sum_ints fr (news:=GD X.base s.heap X.env.locals) ZfT (I.ok.hd hc) pl.isList (JW rv) fun h' tk t' fr' nw'=>?_;exact⟨.int ns.sum,H,I.keptN fr fr' nw',⟨t',rfl⟩,q⟩
theorem ZdO {K:QF}(h:X.K=K)(hc:X.calm=true):Y6 X (.builtin "sum") (Znh K):=h ▸ Zja hc
end
theorem Zma {x:Int}(h:0<=x):Builtin.bitAnd x 1=x % 2:=by
 obtain⟨n,rfl⟩:=kT h;have ha:Builtin.bitAnd (n:Int) 1=((n &&& 1:Nat):Int):=by unfold Builtin.bitAnd;simp
 rw[ha,Lq];omega
end L2
namespace L2
open PySem PySem.Spec PyProof.Rows PyProof.V
def Itz (K:QF)(a b:Addr):It:=
  ⟨fun i H=>∃xs ys x y,Zt K H a xs/\Zt K H b ys/\xs[i]? = some x/\ys[i]? = some y,
   fun i H v H'=>∃p x y,v = .ref p/\H p=none/\H'=upd H p (.tup [x,y])/\(∀xs,Zt K H a xs->xs[i]? = some x)/\(∀ys,Zt K H b ys->ys[i]? = some y),
   fun i H=>∃xs ys,Zt K H a xs/\Zt K H b ys/\(xs.length<=i∨ys.length<=i)⟩
theorem ZkI {P:Program}{w:World}{K:QF}{es:QV}{k:Nat}{pos:Pos}(a b z TI TO i1 i2:Addr)(ap:ZipApart z TI TO i1 i2 a b):
  Turn P w K (.Tuple es k pos) (Itz K a b) [z,TI,TO,i1,i2] z (fun i h=>IsZip h z TI TO .none/\IsPair h TI (.ref i1) (.ref i2)/\(∃u v,IsPair h TO u v)/\h.IsListIter i1 a i/\h.IsListIter i2 b i) where
 mem:=by simp
 obj:=fun i h st c hc=>by
  obtain⟨h1,h2,⟨u,v,h3⟩,⟨o1,ho1,c1,d1⟩,⟨o2,ho2,c2,d2⟩⟩:=st;simp only[kP,Xu,MH] at hc;rcases hc with e | e | e | e | e
  ·subst e;exact⟨_,h1,fun v z=>by have z':Data.fields _=Data.cell v:=z;cases z'⟩
  ·subst e;exact⟨_,h2,fun v z=>by have z':Data.seq _ _=Data.cell v:=z;cases z'⟩
  ·subst e;exact⟨_,h3,fun v z=>by have z':Data.seq _ _=Data.cell v:=z;cases z'⟩
  ·subst e;exact⟨o1,ho1,fun v z=>by rw[d1] at z;cases z⟩
  ·subst e;exact⟨o2,ho2,fun v z=>by rw[d2] at z;cases z⟩
 keep:=fun i h h' st k=>by obtain⟨h1,h2,⟨u,v,h3⟩,h4,h5⟩:=st;exact⟨k z (by simp) _ h1,k TI (by simp) _ h2,⟨u,v,k TO (by simp) _ h3⟩,h4.at fun o x=>k i1 (by simp) o x,h5.at fun o x=>k i2 (by simp) o x⟩
 item:=by
  intro X hP hw hK hc i pins s σ H E I hf st hg;subst hP hw hK;obtain⟨xs,ys,x,y,hq1,hq2,hx,hy⟩:=hg;obtain⟨its1,rv1,p1,hz1⟩:=I.list hq1;obtain⟨its2,rv2,p2,hz2⟩:=I.list hq2;obtain⟨u,hu,ru⟩:=rv1.get hx;obtain⟨v,hv,rv⟩:=rv2.get hy;obtain⟨h1,h2,⟨oa,ob,h3⟩,h4,h5⟩:=st;refine wpAny_pyNext_zip_item ap h1 h2 h3 h4 h5 p1.isList p2.isList (x:=u) (y:=v) (by simpa using hu) (by simpa using hv) fun h' g1 g2 g3 g4 g5 hsz kk=>⟨_,rfl,?_⟩;refine wpAny_letOwnedTupleGo_zip (s:={ s with heap:=h' }) g1 fun h'' e1 hs''=>?_;have lt:∀c ∈ [z,TI,TO,i1,i2],@LT.lt Nat _ c s.heap.objs.size:=fun c hc=>by
   simp only[kP,Xu,MH] at hc;rcases hc with e | e | e | e | e
   ·subst e;exact aLt h1
   ·subst e;exact aLt h2
   ·subst e;exact aLt h3
   ·subst e;obtain⟨o,ho,_⟩:=h4;exact aLt ho
   ·subst e;obtain⟨o,ho,_⟩:=h5;exact aLt ho
  have kk2:∀c o,c≠z->c≠TO->c≠i1->c≠i2->s.heap.get? c=some o->h''.get? c=some o:=fun c o n1 n2 n3 n4 q=>(hs''.2 c n1).trans (kk c o n1 n2 n3 n4 q);have nne:∀c o,H c=some o->c≠z/\c≠TO/\c≠i1/\c≠i2:=fun c o q=>by
   refine⟨fun e=>?_,fun e=>?_,fun e=>?_,fun e=>?_⟩
   ·rw[e,(hf z (by simp)).1] at q;cases q
   ·rw[e,(hf TO (by simp)).1] at q;cases q
   ·rw[e,(hf i1 (by simp)).1] at q;cases q
   ·rw[e,(hf i2 (by simp)).1] at q;cases q
  have fr:H s.heap.objs.size=none:=I.hok.fresh (ki _);have hT:h''.get? s.heap.objs.size=some { cls:=.type "tuple", data:=.seq #[u,v] }:=(hs''.2 _ (Xn (lt z (by simp)))).trans g5;have nT:∀c o,s.heap.get? c=some o->c≠s.heap.objs.size:=fun c o q=>Kk (aLt q);have ok':W7 X.prog X.w (upd H s.heap.objs.size (.tup [x,y])) h'':=fun c o q=>by
   by_cases hb:c=s.heap.objs.size
   ·subst hb;rw[Zc] at q;cases q;exact⟨show 2<=sizeLine by decide,[u,v],.cons ru (.cons rv .nil),⟨_,hT,rfl,_,rfl⟩⟩
   ·rw[Zh hb] at q;refine(I.hok c o q).stay (fun d v hd r=>?_) (fun d r=>by rw[Zh (Zf r fr)];exact r) fun d xs r=>by rw[Zh (Zf r fr)];exact r
    rcases hd with e | e
    ·subst e;obtain⟨n1,n2,n3,n4⟩:=nne d o q;exact kk2 d v n1 n2 n3 n4 r
    ·obtain⟨n1,n2,n3,n4⟩:=nne d _ e;exact kk2 d v n1 n2 n3 n4 r
  have notin:∀c,c ∉ [z,TI,TO,i1,i2]->c≠z/\c≠TO/\c≠i1/\c≠i2:=fun c hc=>by simp only[kP,Xu,MH,Om] at hc;exact⟨hc.1,hc.2.2.1,hc.2.2.2.1,hc.2.2.2.2⟩
  have I1:Inv X pins σ (upd H s.heap.objs.size (.tup [x,y])) { s with heap:=h'',gens:=s.gens,drawn:=s.drawn,toks:=s.toks }:=by
   refine I.step (ch:=[z,TI,TO,i1,i2]) (fun c hc=>?_) (fun c o _ _ hc q _=>?_) (fun c o _ _ hc q _=>⟨o.slots,?_⟩)
    (fun c o _ q n=>by rw[Zh (nT c o q)];exact n) (fun c o hc q=>⟨o,?_⟩) (fun c xs q=>by rw[Zh (Zf q fr)];exact q) (fun c o u q=>by rw[Zh (Zf q fr)];exact q)
    (fun c ps q=>⟨#[],by rw[Zh (Zf q fr),q];simp⟩) (fun m hm=>?_) ok' I.bare
   ·obtain⟨f0,f1,f2,f3,f4,f5⟩:=hf c hc;exact⟨f3,f1,f4,f5⟩
   ·obtain⟨n1,n2,n3,n4⟩:=notin c hc;exact kk2 c o n1 n2 n3 n4 q
   ·obtain⟨n1,n2,n3,n4⟩:=notin c hc;exact kk2 c o n1 n2 n3 n4 q
   ·obtain⟨n1,n2,n3,n4⟩:=notin c hc;exact kk2 c o n1 n2 n3 n4 q
   ·obtain⟨o,es,ep,ho,r⟩:=hm;exact⟨o,es,ep,kk2 _ o (Kz (hf z (by simp)).2.1) (Kz (hf TO (by simp)).2.1) (Kz (hf i1 (by simp)).2.1) (Kz (hf i2 (by simp)).2.1) ho,r⟩
  refine⟨.ref s.heap.objs.size,_,I1,rfl,⟨s.heap.objs.size,x,y,rfl,fr,rfl,fun zs hz=>by rw[I.list_inj hz hq1];exact hx,fun zs hz=>by rw[I.list_inj hz hq2];exact hy⟩,
   ⟨e1,kk2 TI _ ap.TIz ap.TITO ap.TIi1 ap.TIi2 h2,⟨u,v,(hs''.2 TO ap.TOz).trans g2⟩,g3.at fun o q=>(hs''.2 i1 ap.i1z).trans q,g4.at fun o q=>(hs''.2 i2 ap.i2z).trans q⟩,fun c hc=>?_⟩
  rw[Zh (Kk (lt c hc))];exact(hf c hc).1
 done:=by
  intro X hP hw hK hc i pins s σ H E I hf st hg;subst hP hw hK;obtain⟨xs,ys,hq1,hq2,hx⟩:=hg;obtain⟨its1,rv1,p1,hz1⟩:=I.list hq1;obtain⟨its2,rv2,p2,hz2⟩:=I.list hq2;obtain⟨h1,h2,⟨oa,ob,h3⟩,h4,h5⟩:=st;have l1:=rv1.length;have l2:=rv2.length;refine wpAny_pyNext_zip_end (I.ok.hd hc) ap h1 h2 h3 h4 h5 p1.isList p2.isList (by rcases hx with e | e;exact .inl (by simp;lia);exact .inr (by simp;lia)) fun h' kk=>⟨rfl,?_⟩;have nne:∀c o,H c=some o->c≠z/\c≠TO/\c≠i1/\c≠i2:=fun c o q=>by
   refine⟨fun e=>?_,fun e=>?_,fun e=>?_,fun e=>?_⟩
   ·rw[e,(hf z (by simp)).1] at q;cases q
   ·rw[e,(hf TO (by simp)).1] at q;cases q
   ·rw[e,(hf i1 (by simp)).1] at q;cases q
   ·rw[e,(hf i2 (by simp)).1] at q;cases q
  have notin:∀c,c ∉ [z,TI,TO,i1,i2]->c≠z/\c≠TO/\c≠i1/\c≠i2:=fun c hc=>by simp only[kP,Xu,MH,Om] at hc;exact⟨hc.1,hc.2.2.1,hc.2.2.2.1,hc.2.2.2.2⟩
  have ok':W7 X.prog X.w H h':=fun c o q=>by
   refine(I.hok c o q).stay (fun d v hd r=>?_) (fun d r=>r) fun d xs r=>r;rcases hd with e | e
   ·subst e;obtain⟨n1,n2,n3,n4⟩:=nne d o q;exact kk d v n1 n2 n3 n4 r
   ·obtain⟨n1,n2,n3,n4⟩:=nne d _ e;exact kk d v n1 n2 n3 n4 r
  refine I.step (g':=s.gens) (d':=s.drawn) (t':=s.toks) (ch:=[z,TI,TO,i1,i2]) (fun c hc=>?_) (fun c o _ _ hc q _=>?_) (fun c o _ _ hc q _=>⟨o.slots,?_⟩)
    (fun c o _ q n=>n) (fun c o hc q=>⟨o,?_⟩) (fun c xs q=>q) (fun c o u q=>q) (fun c ps q=>⟨#[],by rw[q];simp⟩) (fun m hm=>?_) ok' I.bare
  ·obtain⟨f0,f1,f2,f3,f4,f5⟩:=hf c hc;exact⟨f3,f1,f4,f5⟩
  ·obtain⟨n1,n2,n3,n4⟩:=notin c hc;exact kk c o n1 n2 n3 n4 q
  ·obtain⟨n1,n2,n3,n4⟩:=notin c hc;exact kk c o n1 n2 n3 n4 q
  ·obtain⟨n1,n2,n3,n4⟩:=notin c hc;exact kk c o n1 n2 n3 n4 q
  ·obtain⟨o,es,ep,ho,r⟩:=hm;exact⟨o,es,ep,kk _ o (Kz (hf z (by simp)).2.1) (Kz (hf TO (by simp)).2.1) (Kz (hf i1 (by simp)).2.1) (Kz (hf i2 (by simp)).2.1) ho,r⟩
 self:=fun _ _ _ _ _ st h=>N7 st.1 h
section
variable {X:Cx}
inductive ZmB(K:QF)(R:It->Hp->Prop)(vs:QH)(H1:Hp):Prop|mk(a b)(_:vs = [.ref a,.ref b])(_:∃xs,Zt K H1 a xs)(_:∃ys,Zt K H1 b ys)(_:R (Itz K a b) H1)
def Zn6 (K:QF)(ta:TA):TI:=fun σ H R=>ta σ H fun vs H1=>ZmB K R vs H1
theorem Zm5 {a b:Expr}{ta:TA}{p pos tpos:Pos}{es:QV}{k:Nat}(hg:Gl X "zip")(hm:X.mg "zip" = none)(ha:PA X [a,b] ta)(hs:starEach [a,b] X.env = [(false,eval a X.env),(false,eval b X.env)]:=by rfl)(hs2:starEach [b] X.env = [(false,eval b X.env)]:=by rfl):
  PI X (.Tuple es k tpos) (.Call (.Name "zip" p) [a,b] [] pos) (Zn6 X.K ta):=by
 intro pins s σ H R I h;refine Call_ (Uy I hg hm boot_zip (qf (Yz (ha pos pins s σ H _ I h) fun us s1 ⟨vs,H1,I1,r1,q1⟩=>?_) (by rw[hs,hs2]) (by rw[hs2];rfl)));obtain⟨l1,l2,e,⟨xs,hq1⟩,⟨ys,hq2⟩,q⟩:=q1;subst e;obtain⟨u,v,rfl,ru,rv⟩:=r1.two;cases ru;cases rv;obtain⟨its1,rv1,p1,hz1⟩:=I1.list hq1;obtain⟨its2,rv2,p2,hz2⟩:=I1.list hq2;have L1:@LT.lt Nat _ l1 s1.heap.objs.size:=by obtain⟨o,ho,_⟩:=p1.isList;exact aLt ho
 have L2:@LT.lt Nat _ l2 s1.heap.objs.size:=by obtain⟨o,ho,_⟩:=p2.isList;exact aLt ho
 refine call_zip_2 p1.isList p2.isList fun h' g1 g2 g3 g4 g5 hsz kk=>?_;have I2:Inv X pins σ H1 { s1 with heap:=h' }:=I1.kept (t':=s1.toks) kk;refine N7 (s:={ s1 with heap:=h' }) g1 ?_;have ap:ZipApart (s1.heap.objs.size+4) (s1.heap.objs.size+2) (s1.heap.objs.size+3) s1.heap.objs.size (s1.heap.objs.size+1) l1 l2:=by constructor<;>(intro e;have e':@Eq Nat _ _:=e;lia)
 refine⟨_,[s1.heap.objs.size+4,s1.heap.objs.size+2,s1.heap.objs.size+3,s1.heap.objs.size,s1.heap.objs.size+1],_,_,H1,rfl,I2,ZkI l1 l2 _ _ _ _ _ ap,⟨g1,g2,⟨_,_,g3⟩,g4,g5⟩,fun c hc=>?_,q⟩;have hb':@LE.le Nat _ s1.heap.objs.size c:=by simp only[kP,Xu,MH] at hc;rcases hc with e | e | e | e | e<;>(subst e;first | exact ki _ | exact N2 _ _)
 exact I1.fpOk hb' (I1.hok.fresh hb')
theorem Zh0 {K:QF}{a b:Expr}{ta:TA}{p pos tpos:Pos}{es:QV}{k:Nat}(hk:X.K=K)(hg:Gl X "zip")(hm:X.mg "zip" = none)(ha:PA X [a,b] ta)(hs:starEach [a,b] X.env = [(false,eval a X.env),(false,eval b X.env)]:=by rfl)(hs2:starEach [b] X.env = [(false,eval b X.env)]:=by rfl):
  PI X (.Tuple es k tpos) (.Call (.Name "zip" p) [a,b] [] pos) (Zn6 K ta):=hk ▸ Zm5 hg hm ha hs hs2
end
end L2
namespace L2
open PySem PySem.Spec PyProof.Rows PyProof.V
section
variable {X:Cx}{st:Stmt}{rest:List Stmt}{t u:TS}
inductive Zox(t u:TS)(D:Ends)(σ:St)(H:Hp):Prop|mk(I:QT)(_:t { D with nx:=I } σ H)(_:∀ σ' H',I σ' H'->u D σ' H')
theorem Zmc (h1:PS X st t)(h2:PSs X rest u):PSs X (st::rest) (Zox t u):=by
 intro pins s σ H D I h;obtain⟨W,a,b⟩:=h;have c:PSs X (st::rest) (WR (fun D' σ' H'=>σ' = σ /\ H'=H/\D' = { D with nx:=u D } /\ t { D with nx:=W } σ H) u):=by
  refine Zd (fun pins s σ' H' D' I' q=>?_) h2;obtain⟨rfl,rfl,rfl,q⟩:=q;refine Yz (h1 pins s σ' H' _ I' q) fun f s' z=>?_;cases f with
  | next=>obtain⟨σ2,H2,I2,q2⟩:=z;exact⟨σ2,H2,I2,b σ2 H2 q2⟩
  | _=>exact z
 exact c pins s σ H D I ⟨rfl,rfl,rfl,a⟩
end
def Exc (h:Heap)(a T:Addr)(C:Value):Prop:=
 ∃oe vs oT ts,h.get? a=some oe/\oe.cls=C/\oe.data = .fields vs/\vs[1]? = some (.ref T)/\h.get? T=some oT/\oT.data = .fields ts/\ts[3]? = some .none/\T≠a/\vs[2]? = some .none
section
variable {M:Model}{A:Around}{E:QE}{s:Shared}{env:Env}{outer:List Env}{L a T:Addr}{C:Value}{base h:Heap}{Q:Unit->Shared->Prop}
theorem Zmb {o:Obj}{vs:QY}{k:Nat}{x:Value}(ho:s.heap.get? a=some o)(hd:o.data = .fields vs)(hk:k<vs.size)
  (h:∀h',(∃o',h'.get? a=some o'/\o'.cls=o.cls/\o'.data = .fields (vs.setIfInBounds k x))->Heap.SameBut a s.heap h'->Q () { s with heap:=h' }):wpAny M A (setField (.ref a) k x) Q E s:=
 MJ ho hd hk (h _ ⟨_,TJ _ ho (Obj.isFreed_of_fields (Obj.data_mapFields hd _)),Obj.cls_mapFields ..,Obj.data_mapFields hd _⟩ (Heap.SameBut.update ..))
theorem Zhw {oe:Obj}{vs:QY}{T:Option Addr}(hfr:A.frames=some (env::outer))(hf:env.frame=some L)(hl:s.heap.FunFrames base (env::outer))(ha:s.heap.get? a=some oe)(hv:oe.data = .fields vs)(h1:vs[1]? = some (T.elim .none .ref))(h2:vs[2]? = some .none)
  (hT:∀t,T=some t->t≠a /\ ∃oT ts,s.heap.get? t=some oT/\oT.data = .fields ts/\ts[3]? = some .none)
  (hQ:∀h' T',(∀b o,s.heap.get? b=some o->b∉frs (env::outer)->b≠a->T≠some b->h'.get? b=some o)->(∀b o,s.heap.get? b=some o->b∈frs (env::outer) -> ∃sl,h'.get? b=some { o with slots:=sl }) ->
   Exc h' a T' oe.cls->s.heap.get? T'=none->Q () { s with heap:=h' }):wpAny M A (noteFrame (.ref a) env) (fun _ s₂=>wpAny M A (setFlight (.ref a) none) Q E s₂) E s:=by
 have nf:∀b o,s.heap.get? b=some o->(∃ws,o.data = .fields ws)->b∉frs (env::outer):=fun b o e ⟨ws,d⟩ hb=>by obtain⟨_,o',e',n⟩:=hl.mem hb;rw[e] at e';cases e';exact n ws d
 have sz:2<vs.size:=(Nl.mp h2).1;have entry:∀(head:Value)(nx:Bool)(h0:Heap),(∀b o,s.heap.get? b=some o->T≠some b->h0.get? b=some o)->(∀b o,s.heap.get? b=some o -> ∃o',h0.get? b=some o')->h0.FunFrames base (env::outer) ->
   wpAny M A (do let f <- frameOf env;let pl <- entryPlaceOf L nx;let b <- EntryCells.newEntry head f .none (rawInt L) .none pl;setField (.ref a) 1 b) (fun _ s₂=>wpAny M A (setFlight (.ref a) none) Q E s₂) E { s with heap:=h0 }:=by
  intro head nx h0 k0 n0 hl0;have a0:h0.get? a=some oe:=k0 a oe ha fun z=>(hT a z).1 rfl;refine ka (wpAny_frameOf_fun hfr hl0 hf fun h₁ so=>ka (wpAny_entryPlaceOf fun pl hpl=>?_));unfold EntryCells.newEntry newFields;refine ka (qb ?_ (hpl.sizeOk5 _ _ _ _ _));generalize hob:([head,Value.ref L,.none,rawInt L,.none]++(if pl.isEmpty then List.replicate 6 Value.none else pl)).toArray=ts;have t3:3<ts.size:=by rw[<- hob];simp only[kF,kg,K3,Xl];lia
  have a1:h₁.get? a=some oe:=(so.2.1 a (nf a oe ha ⟨vs,hv⟩)).trans a0;have ne:h₁.objs.size≠a:=Xn (Kc a1);refine Zmb (ko _ a1) hv (by lia) fun g2 ⟨o2,e2,c2,d2⟩ sb2=>?_;have eT:g2.get? h₁.objs.size=some _:=(sb2.2 _ ne).trans (Km h₁ rfl);unfold setFlight;refine ka (qq (x:=.ref h₁.objs.size) e2 d2 (by simp[show 1<vs.size by lia]) ?_);rw[kj (by simp)];refine Zmb eT rfl t3 fun h3 ⟨o3,e3,c3,d3⟩ sb3=>?_;have old:∀b o,h₁.get? b=some o->b≠a->h3.get? b=some o:=fun b o e z=>(sb3.2 b (Kk (Kc e))).trans ((sb2.2 b z).trans (ko _ e));have fresh:s.heap.get? h₁.objs.size=none:=by
   cases q:s.heap.get? h₁.objs.size with
   | none=>rfl
   | some o=>
    exfalso;obtain⟨o',z⟩:=n0 _ o q;obtain⟨sl,y⟩:=so.2.2 _ _ z;exact qF _ (Kc y)
  refine hQ h3 h₁.objs.size (fun b o e n na nt=>old b o ((so.2.1 b n).trans (k0 b o e nt)) na) (fun b o e hb=>?_) ⟨o2,_,o3,_,(sb3.2 a (Kz ne)).trans e2,c2,d2,by simp[show 1<vs.size by lia],e3,d3,by simp[t3],ne,by rw[Array.getElem?_setIfInBounds_ne (by decide)];exact h2⟩ fresh;obtain⟨_,o',e',n⟩:=hl.mem hb;rw[e] at e';cases e';obtain⟨sl,y⟩:=so.2.2 b o (k0 b o e fun z=>by obtain⟨_,oT,ts,q,d,_⟩:=hT b z;rw[e] at q;cases q;exact n _ d);exact⟨sl,old b _ y fun z=>by rw[z,ha] at e;cases e;exact n _ hv⟩
 unfold noteFrame;simp only[hf];refine ka (qq ha hv h1 ?_);cases T with
 | none=>
  rw[kh (by decide)];exact entry _ _ s.heap (fun b o e _=>e) (fun b o e=>⟨o,e⟩) hl
 | some t=>
  obtain⟨nt,oT,ts,eT,dT,f3⟩:=hT t rfl;show wpAny M A (if (Value.ref t != Value.none)=true then _ else _) _ _ s;rw[kj (by simp)];refine ka (qq eT dT f3 ?_);rw[kh (by simp[rawInt])];refine ka (Zmb eT dT (Nl.mp f3).1 fun h' ⟨o1,g1,_⟩ sb=>?_);refine entry _ _ h' (fun b o e n=>(sb.2 b fun z=>n (by rw[z])).trans e) (fun b o e=>by
   by_cases z:b=t
   ·exact⟨o1,by rw[z];exact g1⟩
   ·exact⟨o,(sb.2 b z).trans e⟩) (hl.of_keeps fun b o e n=>⟨o,(sb.2 b fun z=>?_).trans e,rfl⟩)
  rw[z,eT] at e;cases e;exact n _ dT
theorem ZgQ {args:QJ}(hfr:A.frames=some (env::outer))(hf:env.frame=some L)(hl:h.FunFrames base (env::outer))(hx:Heap.MadeExcOf h s.heap a C args)
  (hQ:∀h' T,(∀b o,h.get? b=some o->b∉frs (env::outer)->h'.get? b=some o)->(∀b o,h.get? b=some o->b∈frs (env::outer) -> ∃sl,h'.get? b=some { o with slots:=sl }) ->
   Exc h' a T C->h.get? a=none->h.get? T=none->Q () { s with heap:=h' }):wpAny M A (leaving env (.ref a)) Q E s:=by
 obtain⟨t,ha,_⟩:=hx.there;have was:∀b,s.heap.get? b=none->h.get? b=none:=fun b e=>by
  cases q:h.get? b with
  | none=>rfl
  | some o=>rw[hx.keeps b o q] at e;cases e
 exact ka (Zhw (T:=none) hfr hf (hl.of_keeps fun b o e _=>⟨o,hx.keeps b o e,rfl⟩) ha rfl rfl rfl (fun _ z=>nomatch z) fun h' T' k1 k2 ex nT=>
  hQ h' T' (fun b o e n=>k1 b o (hx.keeps b o e) n (fun z=>by rw[z,hx.new] at e;cases e) (fun z=>nomatch z)) (fun b o e hb=>k2 b o (hx.keeps b o e) hb) ex hx.new (was _ nT))
theorem looked (hfr:A.frames=some (env::outer))(hf:env.frame=some L)(hl:s.heap.FunFrames base (env::outer))(hx:Exc s.heap a T C)
  (hQ:∀h' T',(∀b o,s.heap.get? b=some o->b∉frs (env::outer)->b≠a->b≠T->h'.get? b=some o)->(∀b o,s.heap.get? b=some o->b∈frs (env::outer) -> ∃sl,h'.get? b=some { o with slots:=sl }) ->
   Exc h' a T' C->(T'=T∨s.heap.get? T'=none)->Q () { s with heap:=h' }):wpAny M A (noteFrame (.ref a) env) (fun _ s₂=>wpAny M A (setFlight (.ref a) none) Q E s₂) E s:=by
 obtain⟨oe,vs,oT,ts,p1,rfl,p3,p4,p5,p6,p7,p8,p9⟩:=hx;exact Zhw (T:=some T) hfr hf hl p1 p3 p4 p9 (fun t z=>by cases z;exact⟨p8,oT,ts,p5,p6,p7⟩) fun h' T' k1 k2 ex nT=>hQ h' T' (fun b o e n na nt=>k1 b o e n na fun z=>nt (Kb z).symm) k2 ex (.inr nT)
theorem Zk0 (hfr:A.frames=some (env::outer))(hf:env.frame=some L)(hl:s.heap.FunFrames base (env::outer))(hx:Exc s.heap a T C)
  (hQ:∀h' T',(∀b o,s.heap.get? b=some o->b∉frs (env::outer)->b≠a->b≠T->h'.get? b=some o)->(∀b o,s.heap.get? b=some o->b∈frs (env::outer) -> ∃sl,h'.get? b=some { o with slots:=sl }) ->
   Exc h' a T' C->(T'=T∨s.heap.get? T'=none)->Q () { s with heap:=h' }):wpAny M A (leaving env (.ref a)) Q E s:=ka (looked hfr hf hl hx hQ)
end
def CX1 (P:Program)(w:World):CXT:=fun outer H s E e s'=>∃(a T C:Addr)(H':Hp),e = .ref a/\s'.os=s.os/\AllBare s'.gens/\Un (frs outer) [] H H' s.heap s'.heap/\W7 P w H' s'.heap /\
 Exc s'.heap a T (.ref C)/\s.heap.get? a=none/\s.heap.get? T=none/\H' a=none/\H' T=none/\E (.ref C) none H'
section
variable {P:Program}{w:World}{K:QF}{mg:QN}{base:Heap}{N:QP}{qual:Str}{scope:Scope}{f:Addr}{cd:Value}{A:Around}{outer:List Env}{s₀ s:Shared}{H₀ H:Hp}{E:XK}{CX:CXT}{pins:QC}{σ:L2.St}
theorem Zdq {h:Heap}{b:Addr}{o:HO}(ok:W7 P w H h)(e:H b=some o):∃ob,h.get? b=some ob:=(ok b o e).there
theorem JY {h:Heap}{b:Addr}(ok:W7 P w H h)(e:h.get? b=none):H b=none:=by
 cases q:H b with
 | none=>rfl
 | some o=>
  obtain⟨ob,z⟩:=Zdq ok q;rw[e] at z;cases z
theorem Zd5 {a T:Addr}{h':Heap}(I:Inv (WW CX P w K mg base N qual scope f cd A outer s₀ H₀ E) pins σ H s)
  (na:H a=none/\s₀.heap.get? a=none) (nT:H T=none/\s₀.heap.get? T=none)
  (keep:∀b o,s.heap.get? b=some o->b∉frs (WW CX P w K mg base N qual scope f cd A outer s₀ H₀ E).stack->b≠a->b≠T->h'.get? b=some o)
  (slot:∀b o,s.heap.get? b=some o->b∈frs (WW CX P w K mg base N qual scope f cd A outer s₀ H₀ E).stack -> ∃sl,h'.get? b=some { o with slots:=sl }):
  Un (frs outer) [] H₀ H s₀.heap h'/\W7 P w H h':=by
 have B:Un (frs outer) [] H₀ H s₀.heap s.heap:=I.base;have neL:∀b o,s₀.heap.get? b=some o->b∉frs outer->b∉frs (WW CX P w K mg base N qual scope f cd A outer s₀ H₀ E).stack:=fun b o e nb hb=>by
  rcases kP.mp (I.stkSub b hb) with z | z
  ·exact absurd (KR (Kc e) I.ok.above) (by rw[z];exact qF _)
  ·exact nb z
 have nea:∀b o,s₀.heap.get? b=some o->b≠a/\b≠T:=fun b o e=>⟨(fun z=>by rw[z,na.2] at e;cases e),(fun z=>by rw[z,nT.2] at e;cases e)⟩;have any:∀b o,s.heap.get? b=some o->b≠a->b≠T -> ∃o',h'.get? b=some o':=fun b o e z1 z2=>by
  by_cases hb:b∈frs (WW CX P w K mg base N qual scope f cd A outer s₀ H₀ E).stack
  ·obtain⟨sl,q⟩:=slot b o e hb;exact⟨_,q⟩
  ·exact⟨o,keep b o e hb z1 z2⟩
 refine⟨⟨fun b o e n hb hx=>keep b o (B.keep b o e n hb hx) (neL b o e hb) (nea b o e).1 (nea b o e).2,fun b o e n hb hx=>?_,B.free,fun b o e hx=>?_,B.tups,B.frzs,B.tbls⟩,fun b u e=>?_⟩
 ·obtain⟨sl,q⟩:=B.slot b o e n hb hx;obtain⟨sl',q'⟩:=slot b _ q (by
   show b∈frs (envOfC qual scope s₀.heap.objs.size f cd::outer);unfold frs;rw[qY];exact kS _ hb)
  exact⟨sl',q'⟩
 ·obtain⟨o',q⟩:=B.there b o e hx;exact any b o' q (nea b o e).1 (nea b o e).2
 ·refine(I.hok b u e).stay (fun c v hc q=>?_) (fun _ q=>q) fun _ _ q=>q;have hH:H c≠none:=by
   rcases hc with rfl | z
   ·rw[e];exact fun z=>nomatch z
   ·rw[z];exact fun z=>nomatch z
  exact keep c v q (fun z=>hH (I.stkFree c z)) (fun z=>hH (by rw[z];exact na.1)) (fun z=>hH (by rw[z];exact nT.1))
theorem J3 {b:Addr}(I:Inv (WW CX P w K mg base N qual scope f cd A outer s₀ H₀ E) pins σ H s)(e:s.heap.get? b=none):s₀.heap.get? b=none:=by
 cases q:s₀.heap.get? b with
 | none=>rfl
 | some o=>
  obtain⟨o',z⟩:=I.base.there b o q (fun y=>nomatch y);rw[e] at z;cases z
theorem Zln {a C:Addr}{args:QJ}{h':Heap}{tk:Nat}(I:Inv (WW (CX1 P w) P w K mg base N qual scope f cd A outer s₀ H₀ E) pins σ H s)(hx:Heap.MadeExcOf s.heap h' a (.ref C) args)(hE:E (.ref C) none H):
  (WW (CX1 P w) P w K mg base N qual scope f cd A outer s₀ H₀ E).xe (.ref a) { s with heap:=h',toks:=tk }:=by
 refine ZgQ (L:=s₀.heap.objs.size) I.ok.frames rfl I.stack (s:={ s with heap:=h',toks:=tk }) hx fun h2 T keep slot ex na nT=>?_;obtain⟨u,ok⟩:=Zd5 I ⟨JY I.hok na,J3 I na⟩ ⟨JY I.hok nT,J3 I nT⟩ (fun b o e n _ _=>keep b o e n) slot;exact⟨a,T,C,H,rfl,I.os,I.bare,u,ok,ex,J3 I na,J3 I nT,JY I.hok na,JY I.hok nT,hE⟩
theorem ZoB:Passes (CX1 P w) (WW (CX1 P w) P w K mg base N qual scope f cd A outer s₀ H₀ E) E:=by
 intro pins σ H s e s' I c;obtain⟨a,T,C,H',rfl,os,bare,un,ok,ex,na,nT,ha,hT,hE⟩:=c;have I':Inv (WW (CX1 P w) P w K mg base N qual scope f cd A outer s₀ H₀ E) pins σ H' s':=I.call' os un ok bare (fun b z=>nomatch z);refine Zk0 (L:=s₀.heap.objs.size) I'.ok.frames rfl I'.stack ex fun h2 T' keep slot ex' oT=>?_;obtain⟨u,ok'⟩:=Zd5 I' ⟨ha,J3 I na⟩ ⟨hT,J3 I nT⟩ keep slot;refine⟨a,T',C,H',rfl,I'.os,I'.bare,u,ok',ex',J3 I na,?_,ha,?_,hE⟩
 ·rcases oT with z | z
  ·rw[z];exact J3 I nT
  ·exact J3 I' z
 ·rcases oT with z | z
  ·rw[z];exact hT
  ·exact JY I'.hok z
end
theorem ZnT {K:QF}{C:Addr}{bmB:QJ}{newId:String}{h:Heap}(KI:K.In h)(hq:PySem.W.excIn K C bmB newId=true):
  ∃bm N nm qn bs hd sn sub ab col dd k0 k1 k2 k3 k5 mN,h.get? C=some (excClassObj nm qn C N bs bm hd sn sub ab col dd k0 k1 k2 k3 k5 newId)/\h.Ns N mN/\mN "__init__" = none/\OwnTail h bmB bm:=by
 unfold PySem.W.excIn at hq;split at hq
 ·rename_i dd dat slots hob
  split at hq
  ·rename_i C2 tail k0 k1 k2 k3 nid k5 hmro hsl
   simp only[KQ,Bool.not_eq_true',Mm] at hq;obtain⟨⟨⟨⟨⟨e1,e2⟩,e3⟩,e4⟩,e5⟩,e6⟩:=hq;subst e1;subst e2;obtain⟨nm,bs,mro,ns,qn,hd,sn,sub,ab,col,del⟩:=dat;simp only at hmro e3 e5 e6;subst hmro;subst e3;obtain⟨sl⟩:=slots;simp only at hsl;subst hsl;exact⟨tail,ns,nm,qn,bs,hd,sn,sub,ab,col,dd,k0,k1,k2,k3,k5,_,KI _ _ hob,.of_isNs (PySem.W.isNs_of_in KI e5),PySem.W.nsMap_none_of_in KI e5 e6,PySem.W.tail_of_in KI e4⟩
  ·exact nomatch hq
 ·exact nomatch hq
def bmV:QJ:=[.type "ValueError", .type "Exception", .type "BaseException", .type "object"]
def Znm (C:Addr)(E:XK)(ta:TA):TS:=fun _ σ H=>ta σ H fun vs H1=>vs.length<=sizeLine/\E (.ref C) none H1
section
variable {P:Program}{w:World}{K:QF}{mg:QN}{base:Heap}{N:QP}{qual:Str}{scope:Scope}{f:Addr}{cd:Value}{A:Around}{outer:List Env}{s₀:Shared}{H₀:Hp}{E:XK}
theorem ZjJ {x:Str}{C:Addr}{e:Expr}{es:QV}{ta:TA}{np cpos pos:Pos}(hg:Gl (WW (CX1 P w) P w K mg base N qual scope f cd A outer s₀ H₀ E) x)(hm:mg x=some (.ref C))(hc:PySem.W.excIn K C bmV "ValueError.__new__" = true)
  (ha:PA (WW (CX1 P w) P w K mg base N qual scope f cd A outer s₀ H₀ E) (e::es) ta)
  (he:starEach (e::es) (WW (CX1 P w) P w K mg base N qual scope f cd A outer s₀ H₀ E).env=(false,eval e (WW (CX1 P w) P w K mg base N qual scope f cd A outer s₀ H₀ E).env)::starEach es (WW (CX1 P w) P w K mg base N qual scope f cd A outer s₀ H₀ E).env:=by rfl)
  (hp:(backTo cpos (starEach es (WW (CX1 P w) P w K mg base N qual scope f cd A outer s₀ H₀ E).env)).any (·.1)=false:=by rfl) (hd:(x==("__debug__" : Str))=false:=by decide):
  PS (WW (CX1 P w) P w K mg base N qual scope f cd A outer s₀ H₀ E) (.Raise (some (.Call (.Name x np) (e::es) [] cpos)) none pos) (Znm C E ta):=by
 intro pins s σ H D I h;obtain⟨bm,NN,nm,qn,bs,hdc,sn,sub,ab,col,dd,k0,k1,k2,k3,k5,mN,hC,hN,hni,T⟩:=ZnT I.mod.kin hc;have hb:bmV.contains (.type "BaseException")=true:=Nm.hasBase;refine wpAny_Raise_call_subT (C:=C) (nm:=nm) (q:=qn) (N:=NN) (bs:=bs) (bm:=bm) (bmB:=bmV) (hdct:=hdc) (sn:=sn) (sub:=sub) (ab:=ab) (col:=col) (dd:=dd) (k0:=k0) (k1:=k1) (k2:=k2) (k3:=k3) (k5:=k5)
  (newId := "ValueError.__new__") Nm (mN:=mN) (T.hasType hb) (I.ok.hd rfl) (by rw[he];show (false||(backTo cpos (starEach es _)).any (·.1))=false;rw[hp];rfl) hni (Zg8 I hg hm ⟨rfl,?_⟩ hd)
 have hz:=ha cpos pins s σ H _ I h;rw[he] at hz ⊢;refine Xo (K4 hz (fun us s2 ⟨vs,H2,I2,rv,hl,hE⟩=>?_) fun _ _ y=>y);refine⟨rfl,by rw[<- rv.length];exact hl,I2.bk _ _ hC,hN.keeps I2.bk,T.keeps I2.bk,fun h' a mk=>?_⟩;exact Zln (tk:=s2.toks) I2 mk hE
end
section
variable {P:Program}{w:World}{K:QF}{mg:QN}{base:Heap}
theorem WC.okX {x qual:Str}{st:Stmt}{f:Addr}{fd:FuncData}{N ps:QP}{k:Nat}{sp:Sp}(F:WC K x qual st f fd)(S:ZA N ps (Zj st))(len:∀vs H Q E,sp vs H Q E->vs.length=ps.length)
  (hbody:∀(cdv:Value)(A:Around)(outer:List Env)(s:Shared)(H:Hp)(vs:QH)(Q:VK)(E:XK),Gv k (A.deeper (envOfC qual (Zj st) s.heap.objs.size f cdv))->sp vs H Q E ->
   ∃t,PSs (WW (CX1 P w) P w K mg base N qual (Zj st) f cdv A outer s H E) (WQ st) t/\t { nx:=fun _ H'=>Q .non H',rt:=Q } (start N vs) H):Yi P w K mg base (CX1 P w) (k+1) f fd ps sp:=by
 obtain⟨oc,od,kV,doc,pm,an,cdv,ct,osl,rfl,lk,hcd⟩:=F.ex;exact ZmP lk hcd S len fun A outer s H vs Q E hr hsp=>hbody cdv A outer s H vs Q E hr hsp
def ZjB (P:Program)(w:World)(K:QF)(mg:QN)(base:Heap)(k:Nat)(x:Str)(ps:QP)(sp:Sp):Prop:=
 ∃(f:Addr)(fd:FuncData),Yi P w K mg base (CX1 P w) k f fd ps sp/\mg x=some (.ref f)/\PySem.W.keepIn K (.ref f)=true/\Binds K fd ps []
theorem Zg7 {X:Cx}{k:Nat}{x:Str}{ps:QP}{sp:Sp}{p pos:Pos}{e:Expr}{es:QV}{t:TA}{E:XK}(h:ZjB X.prog X.w X.K X.mg X.base k x ps sp)(hr:Gv k X.A)(hx:Passes (CX1 X.prog X.w) X E)(ha:PA X (e::es) t)(hg:Gl X x:=by rfl)(hdb:(x==("__debug__" : Str))=false:=by decide)
  (he:starEach (e::es) X.env=(false,eval e X.env)::starEach es X.env:=by rfl) (hpl:(backTo pos (starEach es X.env)).any (·.1)=false:=by rfl):PE X (.Call (.Name x p) (e::es) [] pos) (Zb5 sp [] E t):=by
 obtain⟨f,fd,G,hm,hk,hb⟩:=h;exact ZhX G hr hg hm hk hb .nil hx ha hdb he hpl
end
def ZgW:List (TE×TE)->St->Hp->(List (V×V)->Hp->Prop)->Prop
 | [],_,H,Q=>Q [] H
 | (tk,tv)::r,σ,H,Q=>tk σ H fun x H1=>tv σ H1 fun y H2=>ZgW r σ H2 fun ps H3=>Q ((x,y)::ps) H3
abbrev VV:List (V×V)->List (Value×Value)->Prop:=Paired fun p q=>RelV p.1 q.1/\RelV p.2 q.2
def PPs (X:Cx)(pos:Pos)(keys:List (Option Expr))(values:QV)(trs:List (TE×TE)):Prop:=
 ∀(pins:QC)(s:Shared)(σ:St)(H:Hp)(Q:List (V×V)->Hp->Prop),Inv X pins σ H s->ZgW trs σ H Q ->
  wpAny (model X.prog X.w) X.A (evalPairs (pairTrees keys values X.env pos)) (fun vs s'=>∃ps H',Inv X pins σ H' s'/\VV ps vs/\Q ps H') X.xe s
theorem Zl7 {X:Cx}{pos:Pos}:PPs X pos [] [] []:=fun pins s σ H Q I h=>Nn ⟨[],H,I,.nil,h⟩
theorem Zfz {X:Cx}{pos:Pos}{k v:Expr}{ks:List (Option Expr)}{vs:QV}{tk tv:TE}{trs:List (TE×TE)}(hk:PE X k tk)(hv:PE X v tv)(hr:PPs X pos ks vs trs):
  PPs X pos (some k::ks) (v::vs) ((tk,tv)::trs):=fun pins s σ H Q I h=>
 Nb (Yz (hk pins s σ H _ I h) fun u s1 ⟨x,H1,I1,rx,q1⟩=>Yz (hv pins s1 σ H1 _ I1 q1) fun w2 s2 ⟨y,H2,I2,ry,q2⟩=>
  Yz (hr pins s2 σ H2 _ I2 q2) fun ws s3 ⟨ps,H3,I3,rel,q3⟩=>⟨(x,y)::ps,H3,I3,.cons ⟨rx,ry⟩ rel,q3⟩)
def ZbP (kvs more:QD):QD:=more.foldl (fun acc kv=>putK acc kv.1 kv.2) kvs
theorem KV.merge:∀{more:QD}{rs:List (Key×Value)}{kvs:QD}{vs:List (Key×Value)},KV more rs->KV kvs vs->KV (ZbP kvs more) (merged vs rs):=by
 intro more rs kvs vs r;unfold KV at r
 induction r generalizing kvs vs with
 | nil=>intro q;exact q
 | @cons p q ps qs h t ih=>
  intro r0;have e:KV (putK kvs p.1 p.2) (stored vs q.1 q.2):=by have:=r0.put p.1 h.2;rw[<- h.1];exact this
  exact ih e
theorem ZaL:∀(more kvs:QD),(ZbP kvs more).length<=kvs.length+more.length
 | [],kvs=>by show kvs.length<=kvs.length+0;lia
 | p::r,kvs=>by have h1:=ZaL r (putK kvs p.1 p.2);have h2:=Ww kvs p.1 p.2;show (ZbP (putK kvs p.1 p.2) r).length<=_;rw[K3];lia
theorem Zc7 {P:Program}{w:World}:∀{kvs:QD}{ws:List (Value×Value)},VV (kvs.map fun kv=>(kV kv.1,kv.2)) ws -> ∃rs,Carries (ZI P w) ws rs/\KV kvs rs
 | [],_,r=>by rw[Ml] at r;cases r;exact⟨[],True.intro,.nil⟩
 | p::kvs,_,r=>by
  rw[kH] at r;cases r with
  | @cons a b as bs h t=>
   obtain⟨rs,c,q⟩:=Zc7 (P:=P) (w:=w) t;obtain⟨b1,b2⟩:=b;exact⟨(p.1,b2)::rs,⟨Zb6 h.1,rfl,c⟩,.cons ⟨rfl,h.2⟩ q⟩
def ZoJ (trs:List (TE×TE)):TE:=fun σ H Q=>∀p,H p=none->ZgW trs σ (upd H p (.dK [])) fun ps H2=>H2 p=some (.dK []) /\ ∃kvs:QD,ps=kvs.map (fun kv=>(kV kv.1,kv.2))/\kvs.length<=15/\Q (.ref p) (upd H2 p (.dK (ZbP [] kvs)))
theorem ZlL {X:Cx}{pos:Pos}{keys:List (Option Expr)}{values:QV}{trs:List (TE×TE)}(h:PPs X pos keys values trs)(hall:keys.all (·.isSome)=true)(hl:keys.length=values.length)(h0:keys ≠ [])
  (h15:keys.length<=15):PE X (.Dict keys values pos) (ZoJ trs):=by
 intro pins s σ H Q I q;have hn:=I.hok.fresh (ki s.heap.objs.size);have I1:=I.laid (a:=s.heap.objs.size) (o:=.dK []) (h':=s.heap.push { cls:=.type "dict", data:=.dict #[] }) (t':=s.toks) (fun _ _ q=>ko _ q) (ki _) (Zf3 s.heap I.big);refine wpAny_Dict_walk (knd:=ZI X.prog X.w) hall hl h0 h15 (Yz (h pins _ σ _ _ I1 (q _ hn)) fun ws s2 ⟨ps,H2,I2,rel,e,kvs,ep,lk,q2⟩=>?_);subst ep;obtain⟨rs,c,rk⟩:=Zc7 (P:=X.prog) (w:=X.w) rel;obtain⟨z,hd,vs0,r0,dd⟩:=Zh5 I2.hok e;cases r0;refine⟨rs,c,dd,fun h' dd' hs=>⟨.ref s.heap.objs.size,_,?_,rfl,q2⟩⟩;have hz:(ZbP [] kvs).length<=sizeLine:=by have h1:=ZaL kvs [];rw[Xl] at h1;rw[Kn];lia
 have he:∃q,h'.get? s.heap.objs.size=some q:=let ⟨q,_,_,hq,_⟩:=dd';⟨q,hq⟩
 exact Zas I2 (by rw[e];exact True.intro) hs he (ZgO hz hd (rk.merge .nil) dd')
def Zny (lo:Int)(n:Nat):It:=⟨fun i _=>i<n,fun i H x H'=>H'=H/\x = .int (lo+i*2),fun i _=>n<=i⟩
theorem ZfA {P:Program}{w:World}{K:QF}{tg:Expr}(it:Addr)(lo:Int)(n:Nat):Turn P w K tg (Zny lo n) [it] it (fun i h=>IsRangeIter h it (lo+(i:Nat)*2) ((n:Int)-(i:Nat)) 2) where
 mem:=by simp
 obj:=fun i h st b hb=>by
  have e:b=it:=by simpa using hb
  subst e;exact⟨_,st,fun v z=>by have z':Data.fields _=Data.cell v:=z;cases z'⟩
 keep:=fun i h h' st k=>k it (by simp) _ st
 item:=by intro X hP hw hK hc i pins s σ H E I hf st hg;subst hP hw hK;obtain⟨f0,f1,f2,f3,f4,f5⟩:=hf it (by simp);have W:=Walks.range (prog:=X.prog) (w:=X.w) (I.ok.hd hc) it lo 2 n;refine W.item i s _ _ hg st fun v h' tk hv st' kk=>?_;obtain⟨t,rfl⟩:=hv;have I1:Inv X pins σ H { s with heap:=h',toks:=tk }:=I.turned (fun b o hb e=>kk b o (by simpa using hb) e) f0 f1 f3 f4 f5;exact⟨_,rfl,ZfQ (s:={ s with heap:=h',toks:=tk }) (n := "range_iterator") st' rfl rfl (by decide) ⟨.int (lo+i*2),H,I1,⟨t,rfl⟩,⟨rfl,rfl⟩,st',fun b hb=>(hf b hb).1⟩⟩
 done:=by intro X hP hw hK hc i pins s σ H E I hf st hg;subst hP hw hK;obtain⟨f0,f1,f2,f3,f4,f5⟩:=hf it (by simp);exact wpAny_pyNext_range_end (I.ok.hd hc) st (by have:n<=i:=hg;lia) fun h' eb=>⟨rfl,I.turned (t':=s.toks) (fun b o hb e=>eb b o hb e) f0 f1 f3 f4 f5⟩
 self:=fun _ _ _ _ _ st h=>wpAny_pyIter_rangeiter st h
section
variable {X:Cx}{tg:Expr}
inductive Zjb(R:It->Hp->Prop)(vs:QH)(H1:Hp):Prop|mk(n:Nat)(_:vs = [.int 0,.int (2*n),.int 2])(_:n<100000)(_:R (Zny 0 n) H1)
def Zpr (ta:TA):TI:=fun σ H R=>ta σ H fun vs H1=>Zjb R vs H1
theorem ZfU (n:Nat):Builtin.Range.rangeSize 0 (2*(n:Int)) 2=n:=by unfold Builtin.Range.rangeSize;rw[kj (by decide)];split<;>lia
theorem Gf {i:Int}(h0 : -1<=i)(h1:i<1000000):Builtin.Range.rangeFitsLong i=true:=by unfold Builtin.Range.rangeFitsLong;rw[KQ];exact⟨kM (by lia),kM (by lia)⟩
theorem Zib {n:Nat}(h:n<100000):Builtin.Range.small 0 (2*(n:Int)) 2=true:=by unfold Builtin.Range.small;rw[ZfU];rw[kj (by decide),Gf (i:=0) (by lia) (by lia),Gf (i:=2*(n:Int)) (by lia) (by lia),Gf (i:=2) (by lia) (by lia),Gf (i:=(n:Int)) (by lia) (by lia),Gf (i:=2*(n:Int)+(2-1)) (by lia) (by lia)];simp
theorem Zih {a b c:Expr}{ta:TA}{p pos:Pos}(hg:Gl X "range")(hm:X.mg "range" = none)(ha:PA X [a,b,c] ta)(hs:starEach [a,b,c] X.env = [(false,eval a X.env),(false,eval b X.env),(false,eval c X.env)]:=by rfl)(hs2:starEach [b,c] X.env = [(false,eval b X.env),(false,eval c X.env)]:=by rfl):
  PI X tg (.Call (.Name "range" p) [a,b,c] [] pos) (Zpr ta):=by
 intro pins s σ H R I h;refine Call_ (Uy I hg hm boot_range (qf (Yz (ha pos pins s σ H _ I h) fun us s1 ⟨vs,H1,I1,r1,q1⟩=>?_) (by rw[hs,hs2]) (by rw[hs2];rfl)));obtain⟨n,e,hn,q⟩:=q1;subst e;cases r1 with
 | cons r rr=>
  cases rr with
  | cons r' rr=>
   cases rr with
   | cons r2 rr=>
    cases rr;obtain⟨t,rfl⟩:=r;obtain⟨t',rfl⟩:=r';obtain⟨t2,rfl⟩:=r2;refine call_range_3 (by decide) ?_ (Or.inl (Mh (by lia)));refine wpAny_pyIter_range (IsRange.new ..) (Zib hn) ?_;have I2:Inv X pins σ H1 { s1 with heap:=s1.heap.push { cls:=.type "range", data:=.fields #[.int 0 t,.int (2*(n:Int)) t',.int 2 t2] } }:=I1.kept (t':=s1.toks) fun b o e=>ko _ e;refine⟨(s1.heap.push { cls:=.type "range", data:=.fields #[.int 0 t,.int (2*(n:Int)) t',.int 2 t2] }).objs.size,[(s1.heap.push { cls:=.type "range", data:=.fields #[.int 0 t,.int (2*(n:Int)) t',.int 2 t2] }).objs.size],_,_,H1,rfl,
     I2.kept (t':=s1.toks) fun b o e=>ko _ e,ZfA _ 0 n,?_,fun b hb=>?_,q⟩
    ·have e1:(0:Int)+((0:Nat):Int)*2=0:=by simp
     have e2:((n:Nat):Int)-((0:Nat):Int)=Builtin.Range.rangeSize 0 (2*(n:Int)) 2:=by rw[ZfU];simp
     show IsRangeIter _ _ ((0:Int)+((0:Nat):Int)*2) (((n:Nat):Int)-((0:Nat):Int)) 2;rw[e1,e2];exact Km _ rfl
    ·have e:b=(s1.heap.push { cls:=.type "range", data:=.fields #[.int 0 t,.int (2*(n:Int)) t',.int 2 t2] }).objs.size:=by simpa using hb
     subst e;exact I2.fpOk (ki _) (I2.hok.fresh (ki _))
end
theorem Zgo {lo:Int}{n:Nat}{g:TG}{tb:TS}{D:Ends}{σ:L2.St}{H:Hp}(Pv:Nat->L2.St->Hp->Prop)(h0:Pv 0 σ H)
  (hs:∀i σ H,i<n->Pv i σ H->g (.int (lo+i*2)) σ H fun σ2 H2=>tb { D with nx:=Pv (i+1),ct:=Pv (i+1),bk:=D.nx } σ2 H2) (hd:∀ σ H,Pv n σ H->D.nx σ H):
  Zb7 (Zny lo n) g tb D σ H:=by
 refine⟨fun i m σ H=>m=n-i/\i<=n/\Pv i σ H,⟨n,by simp,KP _,h0⟩,?_⟩;rintro i m σ H ⟨rfl,hi,p⟩;by_cases hlt:i<n
 ·refine .inr ⟨hlt,Pv (i+1),fun σ' H' p'=>⟨n-(i+1),by lia,rfl,hlt,p'⟩,fun x H' y=>?_⟩;obtain⟨rfl,rfl⟩:=y;exact hs i σ _ hlt p
 ·exact .inl ⟨by show n<=i;lia,hd σ H ((show i=n by lia) ▸ p)⟩
theorem Zht {K:QF}{a b:Addr}{xs ys:QH}{g:TG}{tb:TS}{D:Ends}{σ:L2.St}{H:Hp}(hl:xs.length=ys.length)(Pv:Nat->L2.St->Hp->Prop)(h0:Pv 0 σ H)(hS:∀i σ H,Pv i σ H->Zt K H a xs/\Zt K H b ys)
  (hs:∀i x y p σ H,xs[i]? = some x->ys[i]? = some y->Pv i σ H->H p=none->g (.ref p) σ (upd H p (.tup [x,y])) fun σ2 H2=>tb { D with nx:=Pv (i+1),ct:=Pv (i+1),bk:=D.nx } σ2 H2) (hd:∀ σ H,Pv xs.length σ H->D.nx σ H):
  Zb7 (Itz K a b) g tb D σ H:=by
 refine⟨fun i m σ H=>m=xs.length-i/\i<=xs.length/\Pv i σ H,⟨xs.length,by simp,KP _,h0⟩,?_⟩;rintro i m σ H ⟨rfl,hi,p⟩;obtain⟨s1,s2⟩:=hS i σ H p;by_cases hlt:i<xs.length
 ·refine .inr ⟨⟨xs,ys,xs[i],ys[i]'(by lia),s1,s2,by simp[hlt],by simp[show i<ys.length by lia]⟩,Pv (i+1),fun σ' H' p'=>⟨xs.length-(i+1),by lia,rfl,hlt,p'⟩,fun x H' y=>?_⟩;obtain⟨q,u,v,e1,e2,e3,y1,y2⟩:=y;subst e1 e3;exact hs i u v q σ _ (y1 xs s1) (y2 ys s2) p e2
 ·exact .inl ⟨⟨xs,ys,s1,s2,.inl (by lia)⟩,hd σ H ((show i=xs.length by lia) ▸ p)⟩
end L2
namespace L2
open PySem PySem.Spec PyProof.Rows PyProof.V
section
variable {X:Cx}
inductive ZnI(K:QF)(x y:V)(H:Hp)(Q:VK):Prop|mk(p q:Addr)(ns ms:QG)(_:x = .ref p)(_:y = .ref q)(_:Zt K H p (ns.map V.int))(_:Zt K H q (ms.map V.int))(_:Q (.bl (decide (ns=ms))) H)
theorem Zhq {ns:QG}{its:QJ}(r:Vals (ns.map V.int) its){j:Nat}(h:j<its.toArray.size):∃t,its.toArray[j] = .int (ns.getD j 0) t:=by
 have l:=r.length;rw[ke] at l;have hj:j<ns.length:=by simp only[kF] at h;lia
 obtain⟨u,e,ru⟩:=r.get (i:=j) (x:=V.int ns[j]) (by simp[hj]);obtain⟨t,q⟩:=(show ∃t,u=Value.int ns[j] t from ru);have hi:j<its.length:=by lia
 refine⟨t,?_⟩;have:its[j]? = some its[j]:=by simp[hi]
 rw[this] at e;have e2:=Kb e;simp[hj];rw[e2,q]
theorem ZnB (hu:X.A.units+64<cLine):UN X (compareOp .Eq) (ZnI X.K):=by
 intro pins s σ H x y v u Q I rx ry h;obtain⟨p,q,ns,ms,rfl,rfl,hp,hq,hQ⟩:=h;cases rx;cases ry;obtain⟨its,r1,p1,_⟩:=I.list hp;obtain⟨its2,r2,p2,_⟩:=I.list hq;have l1:=r1.length;have l2:=r2.length;rw[ke] at l1 l2;by_cases hl:ns.length=ms.length
 ·refine SeqAt.eq_listAt (e:=fun j=>ns.getD j 0==ms.getD j 0) p1.isList p2.isList (by simp only[kF];lia) (by lia) (fun j h1 h2=>?_) ⟨.bl (decide (ns=ms)),H,I,?_,hQ⟩
  ·obtain⟨t1,e1⟩:=Zhq r1 h1;obtain⟨t2,e2⟩:=Zhq r2 h2;rw[e1,e2];exact SeqAt.EqAt.int_int _ _ _ _
  ·show Value.bool _=Value.bool _;congr 1;rw[qW,Xe,decide_eq_true_iff];constructor
   ·intro z;refine List.ext_getElem hl fun i h1 h2=>?_;have:=z i (qa.mpr (by simp only[kF];lia));simpa [h1,h2] using this
   ·intro z i _;rw[z];simp
 ·refine SeqAt.eq_list_lengthsAt p1.isList p2.isList (by simp only[kF];rw[Mn];lia) (by lia) ⟨.bl (decide (ns=ms)),H,I,?_,hQ⟩;rw[Ki (fun z=>hl (by rw[z]))];rfl
theorem ZlB {K:QF}(h:X.K=K)(hu:X.A.units+64<cLine):UN X (compareOp .Eq) (ZnI K):=h ▸ ZnB hu
end
def Zlj:Bool->Keyed->Array Keyed->Nat->Nat->Nat->StateT SortSt Sem (Option Nat):=sortPriv% PySem.Builtin.gallop
def ZkZ:Array Keyed->Array Keyed->StateT SortSt Sem QS:=sortPriv% PySem.Builtin.mergeLo
def Zld:Array Keyed->Array Keyed->StateT SortSt Sem QS:=sortPriv% PySem.Builtin.mergeHi
def ZfX:Nat->StateT SortSt Sem Bool:=sortPriv% PySem.Builtin.mergeAt
structure Wo (lt:Keyed->Keyed->Bool):Prop where
 irr:∀p,lt p p=false
 asym:∀p q,lt p q=true->lt q p=false
 neg:∀p q r,lt p r=true->lt p q=true∨lt q r=true
theorem Wo.leT {lt : Keyed -> Keyed -> Bool}(C : Wo lt){p q r : Keyed}(h1 : lt q p = false)(h2 : lt r q = false) : lt r p = false := by
  cases h : lt r p with
  | false => rfl
  | true => rcases C.neg r q p h with z | z
            · rw[z] at h2; cases h2
            · rw[z] at h1; cases h1
structure Cmp (prog:Program)(w:World)(A:Around)(E:QE)(s:Shared)(kd:SortKind)(D:Keyed->Prop)(lt:Keyed->Keyed->Bool):Prop where
 cmp:∀(p q:Keyed)(st:SortSt)(Q:Option Bool->SortSt->Prop),D p->D q->kindOf st=kd->Q (some (lt p q)) st->wpS (model prog w) A E s (lt' p q) Q st
 wo:Wo lt
section
variable {prog:Program}{w:World}{A:Around}{E:QE}{s:Shared}{kd:SortKind}{D:Keyed->Prop}{lt:Keyed->Keyed->Bool}
def byd (lt:Keyed->Keyed->Bool)(left:Bool)(key:Keyed)(arr:QS)(base i:Nat):Bool:=match arr[base+i]? with
 | some x=>if left=true then lt x key else !lt key x
 | none=>false
theorem Zc1 (C:Cmp prog w A E s kd D lt){left:Bool}{key:Keyed}{arr:QS}{base i:Nat}{st:SortSt}{Q:Option Bool->SortSt->Prop}(hk:D key)(hx:∃x,arr[base+i]? = some x/\D x)(hs:kindOf st=kd)
  (h:Q (some (byd lt left key arr base i)) st):wpS (model prog w) A E s (elem' arr (base+i) >>= fun x=>if left=true then lt' x key else(lt' key x >>= fun r=>pure (r.map fun x=>!x))) Q st:=by
 obtain⟨x,e,d⟩:=hx;unfold byd at h;rw[e] at h;rw[elem'_eq,e];refine kC (kG ?_);cases left with
 | true=>rw[kj rfl];exact C.cmp x key st Q d hk hs (by simpa using h)
 | false=>
  rw[kh (by simp)];exact kC (C.cmp key x st _ hk d hs (kG (by simpa using h)))
def Srt (lt:Keyed->Keyed->Bool)(l:QR):Prop:=l.Pairwise fun p q=>lt q p=false
theorem YF {arr:QS}{i:Nat}{x:Keyed}{st:SortSt}{Q:Keyed->SortSt->Prop}{M:Model}(e:arr[i]? = some x)(h:Q x st):wpS M A E s (elem' arr i) Q st:=by rw[elem'_eq,e];exact kG h
def Eqg (st st':SortSt):Prop:=kindOf st'=kindOf st/\arrOf st'=arrOf st/\pendingOf st'=pendingOf st/\failedOf st'=failedOf st
theorem Eqg.refl (st:SortSt):Eqg st st:=⟨rfl,rfl,rfl,rfl⟩
theorem Wd {l:QS}{i k:Nat}:(l.extract i (i+k)).toList=(l.toList.drop i).take k:=by rw[XY,Xh];congr 1;lia
theorem YV {l:QS}{i:Nat}:(l.extract i).toList=l.toList.drop i:=by rw[XY,Xh];exact kK (by simp)
section
variable {β:Type}{st:SortSt}{Q:β -> SortSt->Prop}{M:Model}
theorem ZV {c:Bool}{X Y:StateT SortSt Sem β}(h1:c=true->wpS M A E s X Q st)(h2:c=false->wpS M A E s Y Q st):wpS M A E s (if c=true then X else Y) Q st:=by
 cases c with
 | true=>exact h1 rfl
 | false=>exact h2 rfl
theorem Wl {k n:Nat}{X Y:StateT SortSt Sem β}(h1:k>n->wpS M A E s X Q st)(h2:k<=n->wpS M A E s Y Q st):wpS M A E s (if k>n then X else Y) Q st:=by
 by_cases h:k>n
 ·rw[kj h];exact h1 h
 ·rw[kh h];exact h2 (by lia)
end
theorem Yo {m n:Nat}(h:(m==n)=false):m≠n:=fun e=>by rw[e] at h;simp at h
end
def Zin:Nat->Nat->StateT SortSt Sem (Option Nat):=sortPriv% PySem.Builtin.countRun
def ZfP:Nat->Nat->Nat->StateT SortSt Sem Bool:=sortPriv% PySem.Builtin.binarySort
def Zat:StateT SortSt Sem Unit:=sortPriv% PySem.Builtin.sortRuns
theorem Zfn:∀(M:QR)(n o:Nat)(arr:QS)(A B C:QR),arr.toList=A++(B++C)->A.length=o+n->B.length=M.length ->
  ((M.zipIdx n).foldl (fun a x=>match x with | (p,j)=>a.setIfInBounds (o+j) p) arr).toList=A++(M++C)
 | [],n,o,arr,A,B,C,h,_,hb=>by
  obtain rfl:B = []:=K9.mp hb;simpa using h
 | x::M,n,o,arr,A,[],C,h,_,hb=>by cases hb
 | x::M,n,o,arr,A,y::B,C,h,ha,hb=>by
  rw[List.zipIdx_cons,List.foldl_cons];have e:(arr.setIfInBounds (o+n) x).toList=(A ++ [x])++(B++C):=by rw[Np,h,<- ha,TK _ _ (ki _),XE];simp
  have:=Zfn M (n+1) o _ (A ++ [x]) B C e (by simp;lia) (by simpa using hb);rw[this];simp
section
variable {prog:Program}{w:World}{A:Around}{E:QE}{s:Shared}{kd:SortKind}{D:Keyed->Prop}{lt:Keyed->Keyed->Bool}
theorem ZlV {M:Model}{st st':SortSt}{Q:PUnit->SortSt->Prop}(h:Q ⟨⟩ st'):wpS M A E s (set st':StateT SortSt Sem PUnit) Q st:=by unfold wpS;rw[StateT.run_set];exact km ⟨rfl,h⟩
def Zbf (lt:Keyed->Keyed->Bool)(arr:QS)(lo m:Nat):Prop:=∀i j p q,i<=j->j<m->arr[lo+i]? = some p->arr[lo+j]? = some q->lt q p=false
def Zbp (lt:Keyed->Keyed->Bool)(arr:QS)(lo m:Nat):Prop:=∀i j p q,i<=j->j<m->arr[lo+i]? = some p->arr[lo+j]? = some q->lt p q=false
def EqS (lt:Keyed->Keyed->Bool)(arr:QS)(b e:Nat):Prop:=∀i j p q,b<=i->i<e->b<=j->j<e->arr[i]? = some p->arr[j]? = some q->lt p q=false
structure Kp (lo n:Nat)(st st':SortSt):Prop where
 kind:kindOf st'=kindOf st
 pend:pendingOf st'=pendingOf st
 fail:failedOf st'=failedOf st
 perm:(arrOf st').toList.Perm (arrOf st).toList
 out:∀i,i<lo∨lo+n<=i->(arrOf st')[i]? = (arrOf st)[i]?
theorem Kp.refl (lo n:Nat)(st:SortSt):Kp lo n st st:=⟨rfl,rfl,rfl,.refl _,fun _ _=>rfl⟩
theorem Kp.trans {lo n:Nat}{a b c:SortSt}(x:Kp lo n a b)(y:Kp lo n b c):Kp lo n a c:=⟨y.kind.trans x.kind,y.pend.trans x.pend,y.fail.trans x.fail,y.perm.trans x.perm,fun i h=>(y.out i h).trans (x.out i h)⟩
theorem Kp.size {lo n:Nat}{a b:SortSt}(x:Kp lo n a b):(arrOf b).size=(arrOf a).size:=by have:=x.perm.length_eq;simpa using this
theorem ZfC {arr:QS}{i:Nat}(h:i<arr.size):∃x,arr[i]? = some x:=⟨arr[i],LX arr i h⟩
theorem J5 (C:Cmp prog w A E s kd D lt){st:SortSt}{i j:Nat}{Q:Option Bool->SortSt->Prop}(hi:i<(arrOf st).size)(hj:j<(arrOf st).size)(hD:∀x∈(arrOf st).toList,D x)(hk:kindOf st=kd)
  (h:∀p q,(arrOf st)[i]? = some p->(arrOf st)[j]? = some q->Q (some (lt p q)) st):wpS (model prog w) A E s (ltAt' i j) Q st:=by
 obtain⟨p,hp⟩:=ZfC hi;obtain⟨q,hq⟩:=ZfC hj;rw[ltAt'_eq];refine kC (Xp ?_);show wpS _ _ _ _ (elem' (arrOf st) i >>= fun x=>elem' (arrOf st) j >>= fun y=>lt' x y) Q st;refine kC (YF hp (kC (YF hq (C.cmp p q st Q (hD p ?_) (hD q ?_) hk (h p q hp hq)))))
 ·exact k9 (by rw[Ko];exact hp)
 ·exact k9 (by rw[Ko];exact hq)
theorem Uv {M:Model}{i j:Nat}{st:SortSt}{Q:Unit->SortSt->Prop}(h:Q () (setArr st (mirror (arrOf st) i j ((j-i) / 2)))):wpS M A E s (reverseSlice' i j) Q st:=by rw[reverseSlice'_eq];exact qI h
theorem JB {lo n i j:Nat}{st:SortSt}(h1:lo<=i)(h2:j<=lo+n)(h3:lo+n<=(arrOf st).size):Kp lo n st (setArr st (mirror (arrOf st) i j ((j-i) / 2))):=by refine⟨rfl,rfl,rfl,Nq.mp (mirror_perm _ _ _ _),fun k hk=>?_⟩;show (mirror (arrOf st) i j ((j-i) / 2))[k]? = _;rw[Nc (by lia),kh (by lia)]
theorem Gm {arr:QS}{lo m b e:Nat}(h:Zbp lt arr lo m)(he:EqS lt arr b e)(h1:lo<=b)(h2:e<=lo+m)(h3:lo+m<=arr.size):Zbp lt (mirror arr b e ((e-b) / 2)) lo m:=by
 intro i j p q hij hj hp hq;rw[Nc (by lia)] at hp hq;by_cases ci:b<=lo+i/\lo+i<e<;>by_cases cj:b<=lo+j/\lo+j<e
 ·rw[kj ci] at hp;rw[kj cj] at hq;exact he _ _ p q (by lia) (by lia) (by lia) (by lia) hp hq
 ·rw[kj ci] at hp;rw[kh cj] at hq;exact h (b+e-1-(lo+i)-lo) j p q (by lia) hj (by rw[show lo+(b+e-1-(lo+i)-lo)=b+e-1-(lo+i) by lia];exact hp) hq
 ·rw[kh ci] at hp;rw[kj cj] at hq;exact h i (b+e-1-(lo+j)-lo) p q (by lia) (by lia) hp (by rw[show lo+(b+e-1-(lo+j)-lo)=b+e-1-(lo+j) by lia];exact hq)
 ·rw[kh ci] at hp;rw[kh cj] at hq;exact h i j p q hij hj hp hq
theorem Ux {arr:QS}{lo m:Nat}(h:Zbp lt arr lo m)(h3:lo+m<=arr.size):Zbf lt (mirror arr lo (lo+m) ((lo+m-lo) / 2)) lo m:=by intro i j p q hij hj hp hq;rw[Nc (by lia),kj (by lia)] at hp hq;exact h (m-1-j) (m-1-i) q p (by lia) (by lia) (by rw[<- hq];congr 1;lia) (by rw[<- hp];congr 1;lia)
theorem GY (C:Wo lt){arr:QS}{lo m:Nat}(h:Zbp lt arr lo m)(hm:0<m){d e:Keyed}(hd:arr[lo+m-1]? = some d)(he:arr[lo+m]? = some e)(hde:lt d e=false):Zbp lt arr lo (m+1):=by
 intro i j p q hij hj hp hq;by_cases c:j<m
 ·exact h i j p q hij c hp hq
 ·obtain rfl:j=m:=by lia
  rw[he] at hq;cases hq;by_cases c2:i=j
  ·subst c2;rw[he] at hp;cases hp;exact C.irr _
  ·exact C.leT hde (h i (j-1) p d (by lia) (by lia) hp (by rw[show lo+(j-1)=lo+j-1 by lia];exact hd))
theorem ZiI (C:Wo lt){arr:QS}{lo m:Nat}(h:Zbf lt arr lo m)(hm:0<m){d e:Keyed}(hd:arr[lo+m-1]? = some d)(he:arr[lo+m]? = some e)(hde:lt e d=false):Zbf lt arr lo (m+1):=by
 intro i j p q hij hj hp hq;by_cases c:j<m
 ·exact h i j p q hij c hp hq
 ·obtain rfl:j=m:=by lia
  rw[he] at hq;cases hq;by_cases c2:i=j
  ·subst c2;rw[he] at hp;cases hp;exact C.irr _
  ·exact C.leT (h i (j-1) p d (by lia) (by lia) hp (by rw[show lo+(j-1)=lo+j-1 by lia];exact hd)) hde
theorem ZbR (C:Wo lt){x lo:Nat}(arr:QS):EqS lt arr (lo+x-(0+1)) (lo+x):=fun i j p q i1 i2 j1 j2 hp hq=>by
 obtain rfl:i=j:=by lia
 rw[hp] at hq;cases hq;exact C.irr _
theorem Zhg (C:Wo lt){arr:QS}{b e:Nat}(h:EqS lt arr b e)(hb:b<e){d x:Keyed}(hd:arr[e-1]? = some d)(hx:arr[e]? = some x)(h1:lt x d=false)(h2:lt d x=false):EqS lt arr b (e+1):=fun i j p q i1 i2 j1 j2 hp hq=>by
 by_cases ci:i<e<;>by_cases cj:j<e
 ·exact h i j p q i1 ci j1 cj hp hq
 ·obtain rfl:j=e:=by lia
  rw[hx] at hq;cases hq;exact C.leT h2 (h i (j-1) p d i1 ci (by lia) (by lia) hp hd)
 ·obtain rfl:i=e:=by lia
  rw[hx] at hp;cases hp;exact C.leT (h (i-1) j d q (by lia) (by lia) j1 cj hd hq) h1
 ·obtain rfl:i=e:=by lia
  obtain rfl:j=i:=by lia
  rw[hp] at hq;cases hq;exact C.irr _
theorem U8 (C:Cmp prog w A E s kd D lt){lo n a:Nat}{st:SortSt}{Q:Option (Option Nat)×Nat->SortSt->Prop}{body:Nat->Option (Option Nat)×Nat->StateT SortSt Sem (ForInStep (Option (Option Nat)×Nat))}
  (hb:∀x m (R:ForInStep (Option (Option Nat)×Nat)->SortSt->Prop),1<=m->m<n->(∀p q,(arrOf st)[lo+m]? = some p->(arrOf st)[lo+m-1]? = some q->R (if lt p q=true then .done (none,m) else .yield (none,m+1)) st)->wpS (model prog w) A E s (body x (none,m)) R st)
  (ha:1<=a) (han:a<=n) (hsz:lo+n<=(arrOf st).size) (hs:Zbf lt (arrOf st) lo a)
  (h:∀m,a<=m->m<=n->Zbf lt (arrOf st) lo m->(m<n -> ∀p q,(arrOf st)[lo+m]? = some p->(arrOf st)[lo+m-1]? = some q->lt p q=true)->Q (none,m) st):wpS (model prog w) A E s (forIn [a:n] (none,a) body) Q st:=by
 refine K6 (I:=fun x c st'=>st'=st/\c=(none,x)/\Zbf lt (arrOf st) lo x) ?_ ?_ ⟨rfl,rfl,hs⟩
 ·rintro x c st' hax hxn ⟨rfl,rfl,g⟩;refine hb x x _ (by lia) hxn fun p q hp hq=>?_;cases e:lt p q with
  | true=>
   exact h x hax (by lia) g fun _ p' q' hp' hq'=>by
    rw[hp] at hp';rw[hq] at hq';cases hp';cases hq';exact e
  | false=>exact⟨rfl,rfl,ZiI C.wo g (by lia) hq hp e⟩
 ·rintro c st' ⟨rfl,rfl,g⟩;rw[show max a n=n by lia] at g ⊢;exact h n han (ki _) g fun z=>by lia
theorem Zb8 (C:Cmp prog w A E s kd D lt){lo n:Nat}{st:SortSt}{Q:Option Nat->SortSt->Prop}(hn:0<n)(hsz:lo+n<=(arrOf st).size)(hD:∀x∈(arrOf st).toList,D x)(hk:kindOf st=kd)
  (h:∀m st',1<=m->m<=n->Kp lo n st st'->Zbf lt (arrOf st') lo m->Q (some m) st'):wpS (model prog w) A E s (Zin lo n) Q st:=by
 have s1:∀arr:QS,Zbf lt arr lo 1:=fun arr i j p q hij hj hp hq=>by
  obtain rfl:i=0:=by lia
  obtain rfl:j=0:=by lia
  rw[hp] at hq;cases hq;exact C.wo.irr _
 refine kC (U8 C (lo:=lo) (n:=n) (a:=1) (st:=st) (fun x m R h1 h2 hR=>?_) (ki _) hn hsz (s1 _) fun m hm1 hm2 g nx=>?_)
 ·refine kC (J5 C (by lia) (by lia) hD hk fun p q hp hq=>?_);have:=hR p q hp hq;cases e:lt p q with
  | true=>rw[e] at this;exact kG this
  | false=>rw[e] at this;exact kG this
 refine ZV (c:=(m==n)) (fun c1=>kG (h m st hm1 hm2 (Kp.refl _ _ _) g)) (fun c1=>?_);have c1':=Yo c1;obtain⟨pl,hpl⟩:=ZfC (show lo+m<(arrOf st).size by lia);obtain⟨ql,hql⟩:=ZfC (show lo+m-1<(arrOf st).size by lia);have less:=nx (by lia) pl ql hpl hql;refine Wl (k:=m) (n:=1) (fun z=>?_) (fun z=>?_)
 ·refine kC (J5 C (i:=lo) (j:=lo+m-1) (by lia) (by lia) hD hk fun p q hp hq=>?_);cases e:lt p q with
  | true=>exact kG (h m st hm1 hm2 (Kp.refl _ _ _) g)
  | false=>
   have eqs:EqS lt (arrOf st) lo (lo+m):=fun i j a b i1 i2 j1 j2 ha hb=>by
    have ha':(arrOf st)[lo+(i-lo)]? = some a:=by rw[show lo+(i-lo)=i by lia];exact ha
    have hb':(arrOf st)[lo+(j-lo)]? = some b:=by rw[show lo+(j-lo)=j by lia];exact hb
    have l1:=g (i-lo) (m-1) a q (by lia) (by lia) ha' (by rw[<- hq];congr 1;lia);have l2:=g 0 (j-lo) p b (by lia) (by lia) (by rw[Nd];exact hp) hb';have l3:=g 0 (i-lo) p a (by lia) (by lia) (by rw[Nd];exact hp) ha';have l4:=g (j-lo) (m-1) b q (by lia) (by lia) hb' (by rw[<- hq];congr 1;lia);exact C.wo.leT l4 (C.wo.leT e l3)
   refine kC (Uv (i:=lo) (j:=lo+m) ?_);have k1:=JB (lo:=lo) (n:=n) (i:=lo) (j:=lo+m) (st:=st) (ki _) (by lia) hsz;have non0:Zbp lt (arrOf st) lo m:=fun i j a b hij hj ha hb=>eqs _ _ a b (by lia) (by lia) (by lia) (by lia) ha hb;have non1:Zbp lt (arrOf (setArr st (mirror (arrOf st) lo (lo+m) ((lo+m-lo) / 2)))) lo (m+1):=Gm (GY C.wo non0 (by lia) hql hpl (C.wo.asym _ _ less)) eqs (ki _) (by lia) (by lia);generalize setArr st (mirror (arrOf st) lo (lo+m) ((lo+m-lo) / 2))=st1 at k1 non1 ⊢;refine kC (Tx (qC ⟨rfl,?_⟩));refine kC (qO (K6 (a:=m+1) (b:=n) (I:=fun x c st'=>∃neq,c=(none,x,neq)/\Kp lo n st st'/\Zbp lt (arrOf st') lo x/\neq+1<=x/\EqS lt (arrOf st') (lo+x-(neq+1)) (lo+x))
    (Q:=fun c st'=>∃x neq,c=(none,x,neq)/\m+1<=x/\x<=n/\Kp lo n st st'/\Zbp lt (arrOf st') lo x/\neq+1<=x/\EqS lt (arrOf st') (lo+x-(neq+1)) (lo+x)) ?_ ?_ ⟨0,rfl,k1,non1,by lia,ZbR C.wo _⟩) ?_)
   ·rintro x c st2 hx1 hx2 ⟨neq,rfl,k2,g2,e1,e2⟩;have z2:=k2.size;have hD2:∀y∈(arrOf st2).toList,D y:=fun y hy=>hD y (k2.perm.mem_iff.mp hy);have hk2:=k2.kind.trans hk;refine kC (J5 C (i:=lo+x) (j:=lo+x-1) (by lia) (by lia) hD2 hk2 fun p q hp hq=>?_);cases e:lt p q with
    | true=>
     have gs:=GY C.wo g2 (by lia) hq hp (C.wo.asym _ _ e);refine Wl (k:=neq) (n:=0) (fun z=>?_) (fun z=>?_)
     ·refine kC (Uv (i:=lo+x-(neq+1)) (j:=lo+x) ?_);exact kG ⟨0,rfl,k2.trans (JB (by lia) (by lia) (by lia)),Gm gs e2 (by lia) (by lia) (by lia),by lia,ZbR C.wo _⟩
     ·exact kG ⟨0,rfl,k2,gs,by lia,ZbR C.wo _⟩
    | false=>
     refine kC (J5 C (i:=lo+x-1) (j:=lo+x) (by lia) (by lia) hD2 hk2 fun q' p' hq' hp'=>?_);rw[hq] at hq';rw[hp] at hp';cases hq';cases hp';cases e':lt q p with
     | true=>exact kG ⟨x,neq,rfl,hx1,by lia,k2,g2,e1,e2⟩
     | false=>
      refine kG ⟨neq+1,rfl,k2,GY C.wo g2 (by lia) hq hp e',by lia,?_⟩;have:=Zhg C.wo e2 (by lia) hq hp e e';rw[show lo+(x+1)-(neq+1+1)=lo+x-(neq+1) by lia];exact this
   ·rintro c st2 ⟨neq,rfl,k2,g2,e1,e2⟩;rw[show max (m+1) n=n by lia] at g2 e1 e2 ⊢;exact⟨n,neq,rfl,by lia,ki _,k2,g2,e1,e2⟩
   ·rintro c st2 ⟨x,neq,rfl,x1,x2,k2,g2,e1,e2⟩;have z2:=k2.size;refine Wl (k:=neq) (n:=0) (fun z=>?_) (fun z=>?_)
    ·refine kC (Uv (i:=lo+x-(neq+1)) (j:=lo+x) ?_);have k3:=k2.trans (JB (lo:=lo) (n:=n) (i:=lo+x-(neq+1)) (j:=lo+x) (st:=st2) (by lia) (by lia) (by lia));have g3:Zbp lt (arrOf (setArr st2 (mirror (arrOf st2) (lo+x-(neq+1)) (lo+x) ((lo+x-(lo+x-(neq+1))) / 2)))) lo x:=Gm g2 e2 (by lia) (by lia) (by lia);generalize setArr st2 (mirror (arrOf st2) (lo+x-(neq+1)) (lo+x) ((lo+x-(lo+x-(neq+1))) / 2))=st3 at k3 g3 ⊢;refine kC (Uv (i:=lo) (j:=lo+x) ?_);have z3:=k3.size;have k4:=k3.trans (JB (lo:=lo) (n:=n) (i:=lo) (j:=lo+x) (st:=st3) (ki _) (by lia) (by lia));have g4:=Ux g3 (by lia);refine kC (U8 C (lo:=lo) (n:=n) (a:=x) (st:=setArr st3 (mirror (arrOf st3) lo (lo+x) ((lo+x-lo) / 2))) (fun y m' R h1 h2 hR=>?_) (by lia) x2 (by rw[k4.size];exact hsz) g4 fun m' a1 a2 g5 _=>kG (h m' _ (by lia) a2 k4 g5));refine kC (J5 C (by rw[k4.size];lia) (by rw[k4.size];lia) (fun y hy=>hD y (k4.perm.mem_iff.mp hy)) (k4.kind.trans hk) fun p q hp hq=>?_);have:=hR p q hp hq;cases e:lt p q with
     | true=>rw[e] at this;exact kG this
     | false=>rw[e] at this;exact kG this
    ·have k3:=k2;have g3:=g2;refine kC (Uv (i:=lo) (j:=lo+x) ?_);have z3:=k3.size;have k4:=k3.trans (JB (lo:=lo) (n:=n) (i:=lo) (j:=lo+x) (st:=st2) (ki _) (by lia) (by lia));have g4:=Ux g3 (by lia);refine kC (U8 C (lo:=lo) (n:=n) (a:=x) (st:=setArr st2 (mirror (arrOf st2) lo (lo+x) ((lo+x-lo) / 2))) (fun y m' R h1 h2 hR=>?_) (by lia) x2 (by rw[k4.size];exact hsz) g4 fun m' a1 a2 g5 _=>kG (h m' _ (by lia) a2 k4 g5));refine kC (J5 C (by rw[k4.size];lia) (by rw[k4.size];lia) (fun y hy=>hD y (k4.perm.mem_iff.mp hy)) (k4.kind.trans hk) fun p q hp hq=>?_);have:=hR p q hp hq;cases e:lt p q with
     | true=>rw[e] at this;exact kG this
     | false=>rw[e] at this;exact kG this
 ·obtain rfl:m=1:=by lia
  have k1:=Kp.refl lo n st;have non1:Zbp lt (arrOf st) lo (1+1):=GY C.wo (fun i j a b hij hj ha hb=>by
   obtain rfl:i=0:=by lia
   obtain rfl:j=0:=by lia
   rw[ha] at hb;cases hb;exact C.wo.irr _) (by lia) hql hpl (C.wo.asym _ _ less)
  refine kC (Tx (qC ⟨rfl,?_⟩));refine kC (qO (K6 (a:=1+1) (b:=n) (I:=fun x c st'=>∃neq,c=(none,x,neq)/\Kp lo n st st'/\Zbp lt (arrOf st') lo x/\neq+1<=x/\EqS lt (arrOf st') (lo+x-(neq+1)) (lo+x))
   (Q:=fun c st'=>∃x neq,c=(none,x,neq)/\1+1<=x/\x<=n/\Kp lo n st st'/\Zbp lt (arrOf st') lo x/\neq+1<=x/\EqS lt (arrOf st') (lo+x-(neq+1)) (lo+x)) ?_ ?_ ⟨0,rfl,k1,non1,by lia,ZbR C.wo _⟩) ?_)
  ·rintro x c st2 hx1 hx2 ⟨neq,rfl,k2,g2,e1,e2⟩;have z2:=k2.size;have hD2:∀y∈(arrOf st2).toList,D y:=fun y hy=>hD y (k2.perm.mem_iff.mp hy);have hk2:=k2.kind.trans hk;refine kC (J5 C (i:=lo+x) (j:=lo+x-1) (by lia) (by lia) hD2 hk2 fun p q hp hq=>?_);cases e:lt p q with
   | true=>
    have gs:=GY C.wo g2 (by lia) hq hp (C.wo.asym _ _ e);refine Wl (k:=neq) (n:=0) (fun z=>?_) (fun z=>?_)
    ·refine kC (Uv (i:=lo+x-(neq+1)) (j:=lo+x) ?_);exact kG ⟨0,rfl,k2.trans (JB (by lia) (by lia) (by lia)),Gm gs e2 (by lia) (by lia) (by lia),by lia,ZbR C.wo _⟩
    ·exact kG ⟨0,rfl,k2,gs,by lia,ZbR C.wo _⟩
   | false=>
    refine kC (J5 C (i:=lo+x-1) (j:=lo+x) (by lia) (by lia) hD2 hk2 fun q' p' hq' hp'=>?_);rw[hq] at hq';rw[hp] at hp';cases hq';cases hp';cases e':lt q p with
    | true=>exact kG ⟨x,neq,rfl,hx1,by lia,k2,g2,e1,e2⟩
    | false=>
     refine kG ⟨neq+1,rfl,k2,GY C.wo g2 (by lia) hq hp e',by lia,?_⟩;have:=Zhg C.wo e2 (by lia) hq hp e e';rw[show lo+(x+1)-(neq+1+1)=lo+x-(neq+1) by lia];exact this
  ·rintro c st2 ⟨neq,rfl,k2,g2,e1,e2⟩;rw[show max (1+1) n=n by lia] at g2 e1 e2 ⊢;exact⟨n,neq,rfl,by lia,ki _,k2,g2,e1,e2⟩
  ·rintro c st2 ⟨x,neq,rfl,x1,x2,k2,g2,e1,e2⟩;have z2:=k2.size;refine Wl (k:=neq) (n:=0) (fun z=>?_) (fun z=>?_)
   ·refine kC (Uv (i:=lo+x-(neq+1)) (j:=lo+x) ?_);have k3:=k2.trans (JB (lo:=lo) (n:=n) (i:=lo+x-(neq+1)) (j:=lo+x) (st:=st2) (by lia) (by lia) (by lia));have g3:Zbp lt (arrOf (setArr st2 (mirror (arrOf st2) (lo+x-(neq+1)) (lo+x) ((lo+x-(lo+x-(neq+1))) / 2)))) lo x:=Gm g2 e2 (by lia) (by lia) (by lia);generalize setArr st2 (mirror (arrOf st2) (lo+x-(neq+1)) (lo+x) ((lo+x-(lo+x-(neq+1))) / 2))=st3 at k3 g3 ⊢;refine kC (Uv (i:=lo) (j:=lo+x) ?_);have z3:=k3.size;have k4:=k3.trans (JB (lo:=lo) (n:=n) (i:=lo) (j:=lo+x) (st:=st3) (ki _) (by lia) (by lia));have g4:=Ux g3 (by lia);refine kC (U8 C (lo:=lo) (n:=n) (a:=x) (st:=setArr st3 (mirror (arrOf st3) lo (lo+x) ((lo+x-lo) / 2))) (fun y m' R h1 h2 hR=>?_) (by lia) x2 (by rw[k4.size];exact hsz) g4 fun m' a1 a2 g5 _=>kG (h m' _ (by lia) a2 k4 g5));refine kC (J5 C (by rw[k4.size];lia) (by rw[k4.size];lia) (fun y hy=>hD y (k4.perm.mem_iff.mp hy)) (k4.kind.trans hk) fun p q hp hq=>?_);have:=hR p q hp hq;cases e:lt p q with
    | true=>rw[e] at this;exact kG this
    | false=>rw[e] at this;exact kG this
   ·have k3:=k2;have g3:=g2;refine kC (Uv (i:=lo) (j:=lo+x) ?_);have z3:=k3.size;have k4:=k3.trans (JB (lo:=lo) (n:=n) (i:=lo) (j:=lo+x) (st:=st2) (ki _) (by lia) (by lia));have g4:=Ux g3 (by lia);refine kC (U8 C (lo:=lo) (n:=n) (a:=x) (st:=setArr st2 (mirror (arrOf st2) lo (lo+x) ((lo+x-lo) / 2))) (fun y m' R h1 h2 hR=>?_) (by lia) x2 (by rw[k4.size];exact hsz) g4 fun m' a1 a2 g5 _=>kG (h m' _ (by lia) a2 k4 g5));refine kC (J5 C (by rw[k4.size];lia) (by rw[k4.size];lia) (fun y hy=>hD y (k4.perm.mem_iff.mp hy)) (k4.kind.trans hk) fun p q hp hq=>?_);have:=hR p q hp hq;cases e:lt p q with
    | true=>rw[e] at this;exact kG this
    | false=>rw[e] at this;exact kG this
theorem ZlJ {M:Model}{i j:Nat}{st:SortSt}{Q:Unit->SortSt->Prop}(h:Q () (setArr st (bubble (arrOf st) i (i-j)))):wpS M A E s (moveDown' i j) Q st:=by rw[moveDown'_eq];exact qI h
theorem ZaG (C:Cmp prog w A E s kd D lt){lo n ok:Nat}{st:SortSt}{Q:Bool->SortSt->Prop}(h1:1<=ok)(hok:ok<=n)(hsz:lo+n<=(arrOf st).size)(hD:∀x∈(arrOf st).toList,D x)(hk:kindOf st=kd)(hs:Zbf lt (arrOf st) lo ok)
  (h:∀st',Kp lo n st st'->Zbf lt (arrOf st') lo n->Q true st'):wpS (model prog w) A E s (ZfP lo n ok) Q st:=by
 refine kC (qO (K6 (a:=max ok 1) (b:=n) (I:=fun k c st'=>c=(none,())/\Kp lo n st st'/\Zbf lt (arrOf st') lo k) (Q:=fun c st'=>c=(none,())/\Kp lo n st st'/\Zbf lt (arrOf st') lo n) ?_ ?_ ⟨rfl,Kp.refl _ _ _,by rw[show max ok 1=ok by lia];exact hs⟩) ?_)
 ·rintro k c st1 hk1 hk2 ⟨rfl,kp,g⟩;have z1:=kp.size;obtain⟨e,he⟩:=ZfC (show lo+k<(arrOf st1).size by lia);refine kC (qO (K6 (a:=0) (b:=k) (I:=fun x c st'=>st'=st1 /\ ∃l r,c=(none,l,r)/\l<=r/\r<=k/\r-l<=k-x/\(∀i p,i<l->(arrOf st1)[lo+i]? = some p->lt e p=false) /\ ∀i p,r<=i->i<k->(arrOf st1)[lo+i]? = some p->lt e p=true)
   (Q:=fun c st'=>st'=st1 /\ ∃l r,c=(none,l,r)/\l<=k/\(∀i p,i<l->(arrOf st1)[lo+i]? = some p->lt e p=false) /\ ∀i p,l<=i->i<k->(arrOf st1)[lo+i]? = some p->lt e p=true) ?_ ?_ ⟨rfl,0,k,rfl,by lia,by lia,by lia,fun i p hi=>by lia,fun i p h1 h2=>by lia⟩) ?_)
  ·rintro x c st' _ hx ⟨rfl,l,r,rfl,g1,g2,g3,g4,g5⟩;dsimp only;by_cases hge:l>=r
   ·rw[kj hge];obtain rfl:l=r:=by lia
    exact kG ⟨rfl,l,l,rfl,g2,g4,g5⟩
   ·rw[kh hge];refine kC (J5 C (i:=lo+k) (j:=lo+(l+r) / 2) (by lia) (by lia) (fun y hy=>hD y (kp.perm.mem_iff.mp hy)) (kp.kind.trans hk) fun p q hp hq=>?_);rw[he] at hp;cases hp;cases c:lt e q with
    | true=>
     refine kG ⟨rfl,l,(l+r) / 2,rfl,by lia,by lia,by lia,g4,fun i p i1 i2 hp=>?_⟩;rcases C.wo.neg e p q c with z | z
     ·exact z
     ·rw[g ((l+r) / 2) i q p i1 i2 hq hp] at z;cases z
    | false=>
     refine kG ⟨rfl,(l+r) / 2+1,r,rfl,by lia,by lia,by lia,fun i p i1 hp=>?_,g5⟩;exact C.wo.leT (g i ((l+r) / 2) p q (by lia) (by lia) hp hq) c
  ·rintro c st' ⟨rfl,l,r,rfl,g1,g2,g3,g4,g5⟩;obtain rfl:l=r:=by lia
   exact⟨rfl,l,l,rfl,g2,g4,g5⟩
  ·rintro c st' ⟨rfl,l,r,rfl,g2,g4,g5⟩;refine kC (ZlJ (i:=lo+k) (j:=lo+l) ?_);have sz:lo+k<(arrOf st').size:=by lia
   refine kG ⟨rfl,kp.trans ⟨rfl,rfl,rfl,Nq.mp (bubble_perm _ _ _),fun i hi=>?_⟩,fun i j p q hij hj hp hq=>?_⟩
   ·show (bubble (arrOf st') (lo+k) (lo+k-(lo+l)))[i]? = _;rw[getElem?_bubble sz _ (by lia),kh (by lia),kh (by lia)]
   ·rw[show arrOf (setArr st' (bubble (arrOf st') (lo+k) (lo+k-(lo+l))))=bubble (arrOf st') (lo+k) (lo+k-(lo+l)) from rfl,getElem?_bubble sz _ (by lia)] at hp hq;rw[show lo+k-(lo+k-(lo+l))=lo+l by lia] at hp hq;by_cases ci:i=l<;>by_cases cj:j=l
    ·subst ci;subst cj;rw[kj rfl] at hp hq;rw[hp] at hq;cases hq;exact C.wo.irr _
    ·subst ci;rw[kj rfl,he] at hp;cases hp;rw[kh (by lia),kj (by lia)] at hq;exact C.wo.asym _ _ (g5 (j-1) q (by lia) (by lia) (by rw[<- hq];congr 1;lia))
    ·subst cj;rw[kh (by lia),kh (by lia)] at hp;rw[kj rfl,he] at hq;cases hq;exact g4 i p (by lia) hp
    ·rw[kh (by lia)] at hp hq;by_cases di:i<l<;>by_cases dj:j<l
     ·rw[kh (by lia)] at hp hq;exact g i j p q hij (by lia) hp hq
     ·rw[kh (by lia)] at hp;rw[kj (by lia)] at hq;exact g i (j-1) p q (by lia) (by lia) hp (by rw[<- hq];congr 1;lia)
     ·lia
     ·rw[kj (by lia)] at hp hq;exact g (i-1) (j-1) p q (by lia) (by lia) (by rw[<- hp];congr 1;lia) (by rw[<- hq];congr 1;lia)
 ·rintro c st1 ⟨rfl,kp,g⟩;rw[show max (max ok 1) n=n by lia] at g;exact⟨rfl,kp,g⟩
 ·rintro c st1 ⟨rfl,kp,g⟩;exact kG (h st1 kp g)
def GR (p:List (Nat×Nat×Nat))(rs:List QR):Prop:=p.length=rs.length /\ ∀i r,rs[i]? = some r -> ∃pw,p[i]? = some ((rs.take i).flatten.length,r.length,pw)
theorem ZkU:GR [] []:=⟨rfl,fun i r h=>by simp at h⟩
theorem Zim {p:List (Nat×Nat×Nat)}{rs:List QR}(h:GR p rs)(r:QR)(pw:Nat):GR (p ++ [(rs.flatten.length,r.length,pw)]) (rs ++ [r]):=by
 refine⟨by simp[h.1],fun i x hx=>?_⟩;by_cases c:i<rs.length
 ·rw[KH c] at hx;obtain⟨q,hq⟩:=h.2 i x hx;exact⟨q,by rw[KH (by rw[h.1];exact c),hq,Kv (by lia)]⟩
 ·have hi:i=rs.length:=by
   have:=(kI.mp hx).1;rw[kg,Ks] at this;lia
  subst hi;rw[Kh (ki _),XE] at hx;simp at hx;subst hx;refine⟨pw,?_⟩;rw[<- h.1,Kh (ki _),XE,h.1,Kv (ki _),kK (ki _)];rfl
theorem Zj6 {p:List (Nat×Nat×Nat)}{rs:List QR}(h:GR p rs)(k:Nat)(f:Nat×Nat×Nat->Nat×Nat×Nat)(hf:∀a b c,∃d,f (a,b,c)=(a,b,d)):GR (p.modify k f) rs:=by
 refine⟨by rw[List.length_modify];exact h.1,fun i x hx=>?_⟩;obtain⟨q,hq⟩:=h.2 i x hx;rw[List.getElem?_modify,hq];by_cases c:k=i
 ·obtain⟨d,hd⟩:=hf (rs.take i).flatten.length x.length q;exact⟨d,by rw[Option.map_eq_map,Xi,kj c,hd]⟩
 ·exact⟨q,by simp[c]⟩
theorem Zgx {p:List (Nat×Nat×Nat)}{U B:List QR}{X Y Z:QR}{pw:Nat}(h:GR p (U++(X::Y::B)))(hz:Z.length=X.length+Y.length):GR ((p.set U.length (U.flatten.length,X.length+Y.length,pw)).eraseIdx (U.length+1)) (U++(Z::B)):=by
 have hl:=h.1;simp only[kg,K3] at hl;refine⟨by rw[Nr (by rw[KY];lia),KY];simp only[kg,K3];lia,fun i x hx=>?_⟩;rw[List.getElem?_eraseIdx];by_cases c1:i<U.length
 ·rw[kj (by lia),XU (by lia)];rw[KH c1] at hx;obtain⟨q,hq⟩:=h.2 i x (by rw[KH c1];exact hx);refine⟨q,?_⟩;rw[hq,Kv (by lia),Kv (by lia)]
 ·by_cases c2:i=U.length
  ·subst c2;rw[Kh (ki _),XE] at hx;simp at hx;subst hx;refine⟨pw,?_⟩;rw[kj (by lia),Tu (by lia),hz,Kv (ki _),kK (ki _)]
  ·rw[kh (by lia),XU (by lia)];obtain⟨j,rfl⟩:∃j,i=U.length+(j+1):=⟨i-U.length-1,by lia⟩;rw[Kh (by lia),qt,Tr] at hx;obtain⟨q,hq⟩:=h.2 (U.length+(j+1+1)) x (by
    rw[Kh (by lia),qt,Tr,Tr];exact hx)
   refine⟨q,?_⟩;rw[show U.length+(j+1)+1=U.length+(j+1+1) by lia,hq];congr 2;rw[N8,N8,kK (l:=U) (by lia),kK (l:=U) (by lia),qt,qt];simp only[MY,Kr,Ku,kg];lia
theorem Zi3 {c:Bool}{k:Nat}:(if c=true then k-1 else k)<=k:=by split<;>lia
theorem Zgd {β:Type}{M:Model}{st:SortSt}{Q:β -> SortSt->Prop}{k n:Nat}{X Y:StateT SortSt Sem β}(h1:k<=n->wpS M A E s X Q st)(h2:n<k->wpS M A E s Y Q st):wpS M A E s (if k<=n then X else Y) Q st:=by
 by_cases h:k<=n
 ·rw[kj h];exact h1 h
 ·rw[kh h];exact h2 (by lia)
theorem Zkp {β:Type}{M:Model}{st:SortSt}{Q:β -> SortSt->Prop}{k n:Nat}{X Y:StateT SortSt Sem β}(h1:k<n->wpS M A E s X Q st)(h2:n<=k->wpS M A E s Y Q st):wpS M A E s (if k<n then X else Y) Q st:=by
 by_cases h:k<n
 ·rw[kj h];exact h1 h
 ·rw[kh h];exact h2 (by lia)
end
def lexLt:List Int->List Int->Bool
 | [],[]=>false
 | [],_::_=>true
 | _::_,[]=>false
 | a::as,b::bs=>if a=b then lexLt as bs else decide (a<b)
theorem ZiE:∀{xs ys:QG}{i:Nat},(xs.length<=i∨ys.length<=i)->lexLt (xs.drop i) (ys.drop i)=decide (xs.length-i<ys.length-i):=fun {xs ys i} h=>by
 rcases Tz i xs.length with h1 | h1
 ·rw[KZ h1,show ys.drop i = [] from qc (by lia)];simp[lexLt];lia
 ·rw[qc h1];rcases Tz i ys.length with h2 | h2
  ·rw[KZ h2];simp[lexLt];lia
  ·rw[qc h2];simp[lexLt];lia
theorem Zkb {xs ys:QG}{i:Nat}(h1:i<xs.length)(h2:i<ys.length):lexLt (xs.drop i) (ys.drop i)=if xs[i]=ys[i] then lexLt (xs.drop (i+1)) (ys.drop (i+1)) else decide (xs[i]<ys[i]):=by
 conv=>lhs;rw[KZ h1,KZ h2]
 rfl
theorem ints_get:∀{vs:QJ}{ns:QG},IntsAre vs ns -> ∀(i:Nat)(h:i<vs.length)(h':i<ns.length),∃t,vs[i] = .int ns[i] t
 | _,_,.cons n t hr,0,_,_=>⟨t,rfl⟩
 | _,_,.cons n t hr,i+1,h,h'=>by obtain⟨t',e⟩:=ints_get hr i (by simpa using h) (by simpa using h');exact⟨t',by simpa using e⟩
open PySem.SeqAt AutoSeq1 in
theorem ZcS (l b:Addr)(items items2:QY)(n n2:Nat)(dd dd2:Option Addr)(sl sl2:Array (Option Value))(xs ys:QG)(hx:IntsAre items.toList xs)(hy:IntsAre items2.toList ys):
  Meets (Builtin.«tuple.__lt__» ⟨[.ref l,.ref b],[]⟩) (fun A R s=>s.heap.get? l=some { cls:=.type "tuple", dict:=dd,data:=.seq items n,slots:=sl } /\ s.heap.get? b=some { cls:=.type "tuple", dict:=dd2,data:=.seq items2 n2,slots:=sl2 } /\ R (.ok (.ret (.bool (lexLt xs ys)))) s):=
 .of_wp fun prog w A R s h=>by
  obtain⟨hp,g,d,tk,os⟩:=s;obtain⟨hl,hb,h⟩:=h;have:=AutoSeq1.sub_tuple_tuple;have lx:items.size=xs.length:=by rw[<- K2];exact XZ hx
  have ly:items2.size=ys.length:=by rw[<- K2];exact XZ hy
  wp_walk using wpAny_loadPart' hl,wpAny_loadPart' hb,wpAny_forIn_list _ (fun rest r s'=>r.1=none/\s' = ⟨hp,g,d,tk,os⟩ /\ ∃us vs ps qs,rest=us.zip vs/\IntsAre us ps/\IntsAre vs qs/\lexLt xs ys=lexLt ps qs/\(xs.length<ys.length ↔ ps.length<qs.length)) _
  case turn=>
   rintro _ rest r s' ⟨_,rfl,us,vs,ps,qs,e,hu,hv,le,ln⟩;cases hu with
   | nil=>cases e
   | cons p t hu=>
    cases hv with
    | nil=>cases e
    | cons q u hv=>
     cases e;rw[lexLt] at le;refine ka (TU ?_);by_cases z:p=q
     ·rw[kh (by simp[z])];exact km ⟨rfl,rfl,_,_,_,_,rfl,hu,hv,by rw[le,kj z],by simpa using ln⟩
     ·rw[kj (by simp[z])];rw[le,kh z] at h;refine ka (qC (ka (wpAny_lt_int ?_)))
      wp_walk
      exact⟨_,rfl,h⟩
  case fin=>
   rintro⟨_,_⟩ s' ⟨hr,rfl,us,vs,ps,qs,e,hu,hv,le,ln⟩;cases hr;have:lexLt ps qs=decide (items.size<items2.size):=by
    rw[lx,ly,show decide (xs.length<ys.length)=decide (ps.length<qs.length) from Xv.mpr ln];cases hu with
    | nil=>cases hv<;>simp[lexLt]
    | cons=>cases hv with
     | nil=>simp[lexLt]
     | cons=>cases e
   rw[le,this] at h
   wp_walk
   exact⟨_,rfl,h⟩
  case h=>exact⟨rfl,rfl,_,_,_,_,rfl,hx,hy,rfl,Iff.rfl⟩
theorem Zbe:∀xs:QG,lexLt xs xs=false
 | []=>rfl
 | a::as=>by rw[lexLt,kj rfl];exact Zbe as
theorem ZeP:∀(xs ys zs:QG),lexLt xs zs=true->lexLt xs ys=true∨lexLt ys zs=true
 | [],[],[],h=>by simp[lexLt] at h
 | [],[],_::_,h=>.inr rfl
 | [],_::_,_,h=>.inl rfl
 | _::_,_,[],h=>by simp[lexLt] at h
 | _::_,[],_::_,h=>.inr rfl
 | a::as,b::bs,c::cs,h=>by
  simp only[lexLt] at h ⊢;by_cases e1:a=c
  ·subst e1;rw[kj rfl] at h;by_cases e2:a=b
   ·subst e2;rw[kj rfl,kj rfl];exact ZeP as bs cs h
   ·rw[kh e2,kh (Kz e2),KA,KA];lia
  ·rw[kh e1,KA] at h;by_cases e2:a=b
   ·subst e2;rw[kh e1];exact .inr (kM h)
   ·rw[kh e2];by_cases e3:b=c
    ·subst e3;exact .inl (kM h)
    ·rw[kh e3,KA,KA];lia
theorem Zdf:∀(xs ys:QG),lexLt xs ys=true->lexLt ys xs=false
 | [],[],h=>by simp[lexLt] at h
 | [],_::_,_=>rfl
 | _::_,[],h=>by simp[lexLt] at h
 | a::as,b::bs,h=>by
  simp only[lexLt] at h ⊢;by_cases e:a=b
  ·subst e;rw[kj rfl] at h ⊢;exact Zdf as bs h
  ·rw[kh e,KA] at h;rw[kh (Kz e)];exact Ki (by lia)
theorem Zee:∀{xs ys:QG},lexLt xs ys=false->lexLt ys xs=false->xs=ys
 | [],[],_,_=>rfl
 | [],_::_,h,_=>by simp[lexLt] at h
 | _::_,[],_,h=>by simp[lexLt] at h
 | a::as,b::bs,h1,h2=>by
  simp only[lexLt] at h1 h2;by_cases e:a=b
  ·subst e;rw[kj rfl] at h1 h2;rw[Zee h1 h2]
  ·rw[kh e,Tq] at h1;rw[kh (Kz e),Tq] at h2;lia
section
variable {prog:Program}{w:World}{A:Around}{E:QE}{s:Shared}{a b:Addr}{xs ys:QG}
def J9 (T:String)(h:Heap)(a:Addr)(ks:QG):Prop:=∃(vs:QY)(dd:Option Addr)(n:Nat)(sl:Array (Option Value)),h.get? a=some { cls:=.type T,dict:=dd,data:=.seq vs n,slots:=sl } /\ IntsAre vs.toList ks
abbrev ZbN:=J9 "tuple"
theorem Zjw {Q:QE}(ha:ZbN s.heap a xs)(hb:ZbN s.heap b ys)(hu:A.units<cLine)(h:Q (.bool (lexLt xs ys)) s):wpAny (model prog w) A (richCompare .Lt (.ref a) (.ref b)) Q E s:=by obtain⟨vs,dd,n,sl,e,i⟩:=ha;obtain⟨vs2,dd2,n2,sl2,e2,i2⟩:=hb;exact richCompare_meets_room (op:=.Lt) ⟨_,e,rfl⟩ ⟨_,e2,rfl⟩ Ms F.entry_tuple_lt (F.args_tuple_lt_2 _ _) (ZcS a b vs vs2 n n2 dd dd2 sl sl2 xs ys i i2) ⟨e,e2,show Value.bool (lexLt xs ys)≠Value.notImplemented/\Q _ s from⟨(fun x=>nomatch x),h⟩⟩ hu
theorem Zly {Q:Bool->Shared->Prop}(ha:ZbN s.heap a xs)(hb:ZbN s.heap b ys)(hu:A.units<cLine)(h:Q (lexLt xs ys) s):wpAny (model prog w) A (oneLt' false (.ref a) (.ref b)) Q E s:=by rw[oneLt'_eq];simp only[qe,Xf];exact ka (Zjw ha hb hu (KS h))
def Zff (h:Heap):Value->List Int
 | .ref a=>match h.get? a with
  | some o=>match o.data with
   | .seq vs _=>vs.toList.map numOf
   | _=>[]
  | none=>[]
 | _=>[]
theorem J9.key {T:String}{h:Heap}(x:J9 T h a xs):Zff h (.ref a)=xs:=by obtain⟨vs,dd,n,sl,e,i⟩:=x;show (match h.get? a with | some o=>_ | none=>_)=_;rw[e];exact i.nums
theorem J9.kept {T:String}{h h':Heap}(x:J9 T h a xs)(k:∀o,h.get? a=some o->h'.get? a=some o):J9 T h' a xs:=
 let ⟨vs,dd,n,sl,e,i⟩:=x;⟨vs,dd,n,sl,k _ e,i⟩
theorem Zmm {Q:Bool->Shared->Prop}(ha:ZbN s.heap a xs)(hb:ZbN s.heap b ys)(hu:A.units<cLine)(h:Q (lexLt xs ys) s):wpAny (model prog w) A (oneLt' true (.ref a) (.ref b)) Q E s:=by rw[oneLt'_eq];simp only[Tw];refine ka (wpAny_cRoomFor hu ?_);obtain⟨vs,dd,n,sl,e,i⟩:=ha;obtain⟨vs2,dd2,n2,sl2,e2,i2⟩:=hb;refine ka (TV (T := "tuple") ⟨_,e,rfl⟩ Ms ?_);refine Ti Ms ⟨_,e,rfl⟩ F.entry_tuple_lt (F.args_tuple_lt_2 _ _) (ZcS a b vs vs2 n n2 dd dd2 sl sl2 xs ys i i2) ⟨e,e2,?_⟩;exact ka (KS (km h))
theorem ZhR {c:Bool}{Q:Bool->Shared->Prop}:∀{us vs:QJ}{xs ys:QG},IntsAre us xs->IntsAre vs ys -> ∀(i:Nat)(fin:Bool),(xs.length<ys.length ↔ fin=true)->Q (lexLt xs ys) s->W.KatLex prog w A c fin Q (us.zip vs) i s
 | _,_,_,_,.nil,.nil,i,fin,hf,h=>by
  have:fin=false:=by cases fin with | false=>rfl | true=>exact absurd (hf.mpr rfl) (by simp)
  subst this;exact h
 | _,_,_,_,.nil,.cons n t hr,i,fin,hf,h=>by
  have:fin=true:=hf.mp (by simp);subst this;exact h
 | _,_,_,_,.cons n t hr,.nil,i,fin,hf,h=>by
  have:fin=false:=by cases fin with | false=>rfl | true=>exact absurd (hf.mpr rfl) (by simp)
  subst this;exact h
 | _,_,_,_,.cons n t hr,.cons m u hs,i,fin,hf,h=>by
  refine W.kat_cons (TU ?_);rw[lexLt] at h;by_cases e:n=m
  ·rw[kj e] at h;rw[show (n==m)=true by simp[e]];exact W.kat_yes (ZhR hr hs (i+1) fin (by simpa using hf) h)
  ·rw[kh e] at h;rw[show (n==m)=false by simp[e]];refine W.kat_no ?_;cases hc:(c&&i==0) with
   | true=>exact oneLt_int h
   | false=>exact W.kat_one _ _ (wpAny_lt_int h)
theorem Zne {c:Bool}{Q:Bool->Shared->Prop}(ha:ZbN s.heap a xs)(hb:ZbN s.heap b ys)(h:Q (lexLt xs ys) s):wpAny (model prog w) A (keyLt' (tuples' c) (.ref a) (.ref b)) Q E s:=by obtain⟨vs,dd,n,sl,e,i⟩:=ha;obtain⟨vs2,dd2,n2,sl2,e2,i2⟩:=hb;refine W.kat_lt e rfl e2 rfl (ZhR i i2 0 _ ?_ h);have l1:=XZ i;have l2:=XZ i2;rw[K2] at l1 l2;rw[KA];lia
def Kd3 (kd:SortKind):Prop:=(∃c,kd=tuples' c)∨kd=general'∨kd=oneType'
def DS (T:String)(s:Shared)(p:Keyed):Prop:=∃a ks,p.1 = .ref a/\J9 T s.heap a ks
def ltW (s:Shared)(p q:Keyed):Bool:=lexLt (Zff s.heap p.1) (Zff s.heap q.1)
theorem Zd2 {kd:SortKind}(hkd:Kd3 kd)(hu:A.units<cLine):Cmp prog w A E s kd (DS "tuple" s) (ltW s) where
 wo:=⟨fun p=>Zbe _,fun p q h=>Zdf _ _ h,fun p q r h=>ZeP _ _ _ h⟩
 cmp:=fun p q st Q ⟨a,ks,e1,h1⟩ ⟨b,js,e2,h2⟩ hk h=>by
  unfold ltW at h;rw[e1,e2,h1.key,h2.key] at h;rw[lt'_eq];refine kC (Xp ?_);rw[hk,e1,e2];refine kC (Tx (TY ?_));rcases hkd with⟨c,rfl⟩ | rfl | rfl
  ·exact Zne h1 h2 ⟨rfl,kG h⟩
  ·exact Zly h1 h2 hu ⟨rfl,kG h⟩
  ·exact Zmm h1 h2 hu ⟨rfl,kG h⟩
theorem Zdd {M:Model}:∀(vs:QJ){Q:List (Option Value)->Shared->Prop},(∀v∈vs,∃a ks,v = .ref a/\ZbN s.heap a ks)->(∀fs:List (Option Value),(∀f∈fs,f=none ∨ ∃n t,f=some (.int n t))->Q fs s)->wpAny M A (vs.mapM firstOfTuple') Q E s
 | [],Q,_,h=>by rw[List.mapM_nil];exact km (h [] fun f hf=>by cases hf)
 | v::vs,Q,hv,h=>by
  obtain⟨a,ks,rfl,ws,dd,n,sl,e,i⟩:=hv v kQ;rw[List.mapM_cons];refine ka ?_;rw[W.kas_first_eq];refine ka (qG (T := "tuple") ⟨_,e,rfl⟩ ?_);rw[kh (by first | decide | simp)];refine ka (listItems_at e rfl (km ?_));refine ka (Zdd vs (fun v hv'=>hv v (kS _ hv')) fun fs hfs=>km (h _ fun f hf=>?_));rcases kP.mp hf with rfl | hf
  ·cases e0:ws[0]? with
   | none=>exact .inl rfl
   | some x=>
    obtain⟨t,et⟩:=IntsAre.int_at i 0 x (by rw[Ko];exact e0);exact .inr ⟨_,t,by rw[et]⟩
  ·exact hfs f hf
theorem Zcv {M:Model}{vs:QJ}{Q:SortKind->Shared->Prop}(hv:∀v∈vs,∃a ks,v = .ref a/\ZbN s.heap a ks)(h:∀kd,Kd3 kd->Q kd s):wpAny M A (keyKind' vs.toArray) Q E s:=by
 rw[kat_kind_eq,XS,X9];refine ka (ka (Zdd vs hv fun fs hfs=>km ?_));refine T7 (fun _=>?_) (fun _=>T7 (fun _=>km (h _ (.inr (.inl rfl)))) fun _=>?_)
 ·refine ka (qC ?_);have hfm:(fs.toArray.filterMap id)=(fs.filterMap id).toArray:=by simp
  rw[hfm,oneTypeOnly'_eq,XS,X9];refine ka (ka (ka (W.kas_mapM (r:=.type "int") _ (fun v hv' Q' hq=>?_) (km ?_))))
  ·obtain⟨f,hf,ef⟩:=qo.mp hv';rcases hfs f hf with rfl | ⟨n,t,rfl⟩
   ·cases ef
   ·cases ef;exact qG (Lj s n t) hq
  ·split
   ·exact km (km (h _ (.inl ⟨_,rfl⟩)))
   ·exact km (km (h _ (.inl ⟨_,rfl⟩)))
 ·rw[oneTypeOnly'_eq,XS,X9];refine ka (ka (ka (W.kas_mapM (r:=.type "tuple") _ (fun v hv' Q' hq=>?_) (km ?_))))
  ·obtain⟨a,ks,rfl,ws,dd,n,sl,e,i⟩:=hv v hv';exact qG (T := "tuple") ⟨_,e,rfl⟩ hq
  ·split
   ·refine km (km (h _ ?_));split
    ·exact .inr (.inr rfl)
    ·exact .inr (.inl rfl)
   ·exact km (km (h _ (.inr (.inl rfl))))
def ZfW (h:Heap)(l:QJ):Prop:=l.Pairwise fun u v=>lexLt (Zff h v) (Zff h u)=false
theorem Ziy {M:Model}{α β:Type}{c:Prop}[Decidable c]{m n:Sem α}{f:α -> Sem β}{Q:β -> Shared->Prop}(R:α -> Prop)(h1:c -> ∀Q':α -> Shared->Prop,(∀x,R x->Q' x s)->wpAny M A m Q' E s)(h2:¬c -> ∀Q':α -> Shared->Prop,(∀x,R x->Q' x s)->wpAny M A n Q' E s)
  (h:∀x,R x->wpAny M A (f x) Q E s):wpAny M A (if c then m >>= f else n >>= f) Q E s:=by
 split
 ·exact ka (h1 (by assumption) _ h)
 ·exact ka (h2 (by assumption) _ h)
end
def DAt (h:Heap)(d:Addr)(es:Array DictEntry)(ep:Nat):Prop:=∃o,h.get? d=some o/\o.ExactDict/\o.data = .dict es ep
section
variable {prog:Program}{w:World}{A:Around}{E:QE}{s:Shared}{d it:Addr}{es:Array DictEntry}{ep i:Nat}
theorem DAt.typeIs (x:DAt s.heap d es ep):s.TypeIs (.ref d) "dict" := let ⟨o,e,c,_⟩:=x;⟨o,e,c.1⟩
theorem Zoc {Q:QE}(hd:(d==sysModules)=false)(x:DAt s.heap d es ep)
  (hQ:Q (.ref s.heap.objs.size) { s with heap:=s.heap.push { cls:=.type "dict_keyiterator", data:=.fields #[.ref d,.int 0 0,.int es.size 0,.int ep 0] } }):wpAny (model prog w) A (pyIter (.ref d)) Q E s:=by
 obtain⟨o,g1,g2,g3⟩:=id x;have ty:=x.typeIs;refine NG ty F.slot_dict_iter (K1 F.slot_dict_iter ty F.entry_dict_iter ?_ (F.args_dict_iter_1 _));unfold Builtin.«dict.__iter__» Builtin.Dict.dictSlotNone Builtin.Dict.showsAll
 wp_walk using XO ty,Mu hd,TB g1 g3,T8 g1 g3,qb
 ·exact⟨_,rfl,_,_,⟨_,Km _ rfl,rfl⟩,XH.lookup,hQ⟩
 ·size_fits
theorem Zdg {α:Type}{Q:α -> Shared->Prop}(hh:A.handled=none)(h:∀h' a,(∀b o,s.heap.get? b=some o->h'.get? b=some o)->Shared.TypeIs { s with heap:=h' } (.ref a) "StopIteration" -> E (.ref a) { s with heap:=h' }):
  wpAny (model prog w) A ((newExc (.type "StopIteration") [] >>= raiseNew:Sem α)) Q E s:=by
 wp_walk using qb,wpAny_raiseNew_none hh
 ·exact h _ _ (fun b o e=>ko _ (ko _ e)) ⟨_,Km _ rfl,rfl⟩
 all_goals size_fits
theorem ZkN {Q:Option Value->Shared->Prop}(hit:s.heap.IsKeyIter it d i es.size ep)(hm:DAt s.heap d es ep)
  (hQ:∀e,es[i]? = some e -> ∀h',h'.IsKeyIter it d (i+1) es.size ep->Heap.SameBut it s.heap h'->Q (some e.key) { s with heap:=h' })
  (hE:es.size<=i->A.handled=none /\ ∀h',Heap.ExtBut it s.heap h'->Q none { s with heap:=h' }):wpAny (model prog w) A (pyNext (.ref it)) Q E s:=by
 obtain⟨hp,g,dr,tk,os⟩:=s;obtain⟨o1,f1,f2,f3⟩:=id hit;obtain⟨o2,k1,k2,k3⟩:=hm;have ty:=hit.typeIs;unfold pyNext;refine ka (TY (qJ (name:=Str.ofString "__next__") ty XH (K1 XH ty F.entry_dict_keyiterator_next ?_ (F.args_dict_keyiterator_next_1 _))))
 wp_walk using TB k1 k3,T8 k1 k3,XB ty,wpAny_fieldsOf f1 f3
 rw[kh (by lia),kX];cases hx:es[i]? with
 | some e=>
  wp_walk using XB ty,wpAny_isOneOf_keyiter ty,Zmb f1 f3
  ·show 1<4;decide
  rintro h1 ⟨o3,n1,n2,n3⟩ sb;have n:h1.IsKeyIter it d (i+1) es.size ep:=⟨o3,n1,n2.trans f2,n3⟩;have ty1:Shared.TypeIs ⟨h1,g,dr,tk,os⟩ (.ref it) "dict_keyiterator" := n.typeIs
  wp_walk using wpAny_isOneOf_keyiter ty1
  exact⟨_,rfl,km (hQ e hx _ n sb)⟩
 | none=>
  obtain⟨hh,hE⟩:=hE (by simpa using hx)
  wp_walk using XB ty,MJ f1 f3
  ·show 0<4;decide
  refine Zdg hh fun h' a k ty=>?_
  wp_walk using Xw (T := "StopIteration") (b:=true) ty MK
  exact hE h' fun b o hb e=>k b o ((qL _ _ (Kz hb)).trans e)
end
def Je (H:Hp)(v:V)(ks:QG):Prop:=∃a,v = .ref a/\H a=some (.tup (ks.map V.int))
abbrev Words (H:Hp)(xs:QH)(ws:QA):Prop:=Paired (Je H) xs ws
theorem Paired.Zd3 {α β:Type}{F:α -> β -> Prop}{l:List α}{m m':List β}(p:m.Perm m'):Paired F l m -> ∃l',l.Perm l'/\Paired F l' m':=by
 induction p generalizing l with
 | nil=>intro r;cases r;exact⟨[],.nil,.nil⟩
 | cons x _ ih=>intro r;cases r with | cons h t=>obtain⟨l',a,b⟩:=ih t;exact⟨_::l',a.cons _,.cons h b⟩
 | swap x y t=>intro r;cases r with | cons h t=>cases t with | cons h2 t=>exact⟨_,.swap _ _ _,.cons h2 (.cons h t)⟩
 | trans _ _ i1 i2=>intro r;obtain⟨l1,a,b⟩:=i1 r;obtain⟨l2,c,d⟩:=i2 b;exact⟨l2,a.trans c,d⟩
theorem Paired.flip {α β:Type}{F:α -> β -> Prop}:∀{l:List α}{m:List β},Paired F l m->Paired (fun b a=>F a b) m l
 | _,_,.nil=>.nil
 | _,_,.cons h t=>.cons h (Paired.flip t)
theorem Paired.mem1 {α β:Type}{F:α -> β -> Prop}:∀{l:List α}{m:List β},Paired F l m -> ∀a∈l,∃b∈m,F a b
 | _,_,.nil,a,h=>by cases h
 | _,_,.cons r t,a,h=>by
  rcases kP.mp h with rfl | h
  ·exact⟨_,kQ,r⟩
  ·obtain⟨b,hb,f⟩:=Paired.mem1 t a h;exact⟨b,kS _ hb,f⟩
def ZfN (ws:QA):Prop:=ws.Pairwise fun u v=>lexLt v u=false
section
variable {X:Cx}{pins:QC}{σ:St}{H:Hp}{s:Shared}
theorem ZlC {P:Program}{w:World}{h:Heap}{a:Addr}{ks:QG}(ok:W7 P w H h)(e:H a=some (.tup (ks.map V.int))):ZbN h a ks:=by obtain⟨_,its,r,o,h1,h2,n,h3⟩:=(show ZR P w H h a (.tup (ks.map V.int)) from ok a _ e);obtain⟨cls,dd,data,sl⟩:=o;dsimp only at h2 h3;subst h2 h3;exact⟨its.toArray,dd,n,sl,h1,by simpa using JW r⟩
theorem ZfO {P:Program}{w:World}{h:Heap}{v:V}{u:Value}{ks:QG}(ok:W7 P w H h)(x:Je H v ks)(r:RelV v u):∃a,u = .ref a/\H a=some (.tup (ks.map V.int))/\ZbN h a ks:=by obtain⟨a,rfl,e⟩:=x;exact⟨a,r,e,ZlC ok e⟩
theorem Zfd {T:String}{F:V->List Int->Prop}{h h1:Heap}(hF:∀{v u ks},F v ks->RelV v u -> ∃a,u = .ref a/\J9 T h a ks){xs:QH}{us out:QJ}{ws:QA}(r:Vals xs us)(x:Paired F xs ws)(hp:out.Perm us)
  (hk:∀a ks,J9 T h a ks->J9 T h1 a ks) (hr:ZfW h1 out):∃ys vs,Vals ys out/\Paired F ys vs/\ys.Perm xs/\vs.Perm ws/\ZfN vs:=by
 obtain⟨ys,p1,r1⟩:=Paired.Zd3 hp.symm r;obtain⟨vs,p2,r2⟩:=Paired.Zd3 p1 (Paired.flip x);have x2:Paired F ys vs:=Paired.flip r2;refine⟨ys,vs,r1,x2,p1.symm,p2.symm,?_⟩;have key:∀{ys:QH}{out:QJ}{vs:QA},Vals ys out->Paired F ys vs->out.map (Zff h1)=vs:=by
  intro ys out vs a b
  induction a generalizing vs with
  | nil=>cases b;rfl
  | cons r _ ih=>
   cases b with
   | cons f t=>
    obtain⟨q,e1,e3⟩:=hF f r;rw[kH,ih t,e1,(hk _ _ e3).key]
 rw[<- key r1 x2];unfold ZfN;rw[qE];exact hr
end
def kW (ks:QG):List Key:=ks.map Sum.inl
theorem ZjT (ks:QG):(kW ks).map kV=ks.map V.int:=by unfold kW;rw[qh];rfl
theorem Zei {a b:QG}(h:kW a=kW b):a=b:=(List.map_inj_right (fun x y h=>by injection h)).mp h
section
variable {X:Cx}
inductive Zg3(x y:V)(H:Hp)(Q:VK):Prop|mk(a b:QG)(_:Je H x a)(_:Je H y b)(_:a.length+b.length<=sizeLine)(_:a = []->Q y H)(_:b = []->Q x H)(_:∀p,H p=none->Q (.ref p) (upd H p (.tup ((a++b).map V.int))))
theorem Zcr:UN X (binaryOp .Add) Zg3:=by
 intro pins s σ H x y v u Q I rx ry h;obtain⟨a,b,⟨p,rfl,hp⟩,⟨r,rfl,hr⟩,hz,q1,q2,q3⟩:=h;cases rx;cases ry;obtain⟨_,its,r1,p1⟩:=(show ZR X.prog X.w H s.heap p (.tup (a.map V.int)) from I.hok p _ hp);obtain⟨_,its2,r2,p2⟩:=(show ZR X.prog X.w H s.heap r (.tup (b.map V.int)) from I.hok r _ hr);have l1:a.length=its.length:=by simpa using r1.length
 have l2:b.length=its2.length:=by simpa using r2.length
 by_cases e:its = []
 ·obtain⟨⟨cls,dd,data,sl⟩,ho,hc,n,hd⟩:=id p1;obtain⟨⟨cls2,dd2,data2,sl2⟩,ho2,hc2,n2,hd2⟩:=id p2;simp only at hc hd hc2 hd2;subst hc hd hc2 hd2;have ea:a = []:=by rw[e] at l1;exact K9.mp l1
  exact concat_meets ⟨_,ho,rfl⟩ ⟨_,ho2,rfl⟩ NX M6 Tv Tp (Te _ _)
   (tuple_addW0 p r its.toArray its2.toArray n n2 dd dd2 sl sl2 (by simp[e])) ⟨ho,ho2,⟨.ref r,H,I,rfl,q1 ea⟩⟩
 ·refine HT.ZlR p1 p2 e (fun z=>⟨.ref p,H,I,rfl,q2 (by rw[z] at l2;exact K9.mp l2)⟩) (fun z=>?_) (by rw[<- l1,<- l2];exact hz);refine⟨.ref s.heap.objs.size,_,I.laid (t':=s.toks) (o:=.tup ((a++b).map V.int)) (fun b ob q=>ko _ q) (ki _) ?_,rfl,q3 _ (I.hok.fresh (ki _))⟩;exact⟨by rw[ke,kg];exact hz,_,by rw[k6];exact r1.append r2,IsTup.new _ _⟩
end
end L2
namespace L2
open PySem PySem.Spec PyProof.Rows PyProof.V
section
variable {X:Cx}
theorem Zh4 {K:QF}{l tg:Expr}{tl:TE}(hk:X.K=K)(hl:PE X l tl):PI X tg l (Zpb K tl):=hk ▸ ZnC hl
end
section
variable {g:TG}{tc:TT}{te:TE}{σ:St}{H:Hp}{Q:VK}{K:QF}{a b:Addr}{xs ys:QH}
theorem Zk9 (hn:xs.length<=sizeLine)(Pv:Nat->List V->Hp->Prop)(h0:Pv 0 [] H)(hlen:∀i ys H,Pv i ys H->ys.length<=i)(hS:∀i ys H,Pv i ys H->YJ K H a xs)
  (hs:∀i x ys H,xs[i]? = some x->Pv i ys H->g x σ H fun σ2 H2=>tc σ2 H2 fun b H3=>if b=true then te σ2 H3 fun y H4=>Pv (i+1) (ys ++ [y]) H4 else Pv (i+1) ys H3)
  (hd:∀ys H,Pv xs.length ys H -> ∀D,H D=none->Q (.ref D) (upd H D (.lst ys))):LcW (Itt K a) σ g tc te H Q:=
 Zem hn Pv h0 hlen (fun i ys H hi p=>⟨xs,xs[i],hS i ys H p,by simp[hi]⟩) (fun ys H p=>⟨xs,hS _ ys H p,ki _⟩) (fun i ys H hi p x H' y=>by obtain⟨e,y⟩:=y;subst e;exact hs i x ys _ (y xs (hS i ys _ p)) p) hd
end
abbrev WS:=QA
theorem Je.mono {H H':Hp}{v:V}{w:QG}(k:∀t p,H t=some (.tup p)->H' t=some (.tup p))(x:Je H v w):Je H' v w:=let ⟨a,e,q⟩:=x;⟨a,e,k _ _ q⟩
theorem Words.mono {H H':Hp}{xs:QH}{L:WS}(k:∀t p,H t=some (.tup p)->H' t=some (.tup p))(x:Words H xs L):Words H' xs L:=Paired.mapP x fun _ _ q=>Je.mono k q
theorem Words.same {H H':Hp}{xs:QH}{L:WS}(s:Zi H H')(x:Words H xs L):Words H' xs L:=Words.mono (fun t p e=>s t _ e) x
theorem Je.same {H H':Hp}{v:V}{w:QG}(s:Zi H H')(x:Je H v w):Je H' v w:=Je.mono (fun t p e=>s t _ e) x
section
variable {X:Cx}
inductive Zjs(xs:QH)(H:Hp)(Q:VK):Prop|mk(p ys)(_:xs = [.ref p])(_:H p=some (.lst ys))(_:∀l,H l=none->Q (.ref l) (upd H l (.tup ys)))
theorem Wv:Y6 X (.type "tuple") Zjs:=by intro pins s σ H xs us Q I r ⟨p,ys,e,hp,q⟩;exact Zdj pins s σ H xs us Q I r ⟨p,ys,e,.inl ⟨Zt.of hp,q⟩⟩
end
end L2
namespace L2
open PySem PySem.Spec PyProof.Rows PyProof.V
theorem Zla:entryFor table "zip.__getattribute__" = some Builtin.«object.__getattribute__»:=entryFor_alias (id' := "object.__getattribute__") (by kernel_rfl) (by decide +kernel) (by decide +kernel) (by kernel_rfl)
theorem Zmi:typeLookup (.type "zip") "__getattr__" = pure none:=by rw[typeLookup_type,builtinLookup_eq_fast];kernel_rfl
theorem ZgM:typeLookup (.type "zip") "keys" = pure none:=by rw[typeLookup_type,builtinLookup_eq_fast];kernel_rfl
abbrev Zjp (f0 f1:Value)(TI TO:Addr):Obj:={ cls:=.type "zip", dict:=none,data:=.fields #[f0,f1,.bool false,.ref TI,.ref TO],slots:=#[] }
theorem Zlw (a TI TO:Addr)(f0 f1:Value)(u:Tok):Meets (Builtin.«object.__getattribute__» ⟨[.ref a,.str "keys" u],[]⟩) (fun A R s=>s.heap.get? a=some (Zjp f0 f1 TI TO)/\raisesAttr (.ref a) "keys" A R s):=
 .of_wp fun prog w A R ⟨hp,g,d,tk,os⟩ ⟨hx,hn,hr⟩=>by
  have ty:Shared.TypeIs ⟨hp,g,d,tk,os⟩ (.ref a) "zip" := ⟨_,hx,rfl⟩;have no:=ZgM
  wp_walk
  exact wpAny_raiseAttrError hn hr (attrMsg_fits (by decide +kernel) (by decide))
theorem Zmu {prog:Program}{w:World}{A:Around}{E:QE}{s:Shared}{a TI TO:Addr}{f0 f1:Value}{Q:Option Value->Shared->Prop}(hx:s.heap.get? a=some (Zjp f0 f1 TI TO))(hA:A.handled=none)
  (h:∀h' tk,(∀b o,s.heap.get? b=some o->h'.get? b=some o)->Q none { s with heap:=h',toks:=tk }):wpAny (model prog w) A (getAttr? (.ref a) "keys") Q E s:=by
 obtain⟨hp,g,d,tk,os⟩:=s;have ty:∀t,Shared.TypeIs ⟨hp,g,d,t,os⟩ (.ref a) "zip" := fun _=>⟨_,hx,rfl⟩;have kind:=sub_AttributeError;have own:=Xx.lookup;have bound:=Xx.bind (.ref a);have hook:=Zmi;have said:∀{A':Around}{R:Result->Shared->Prop}(t:Nat)(u:Tok),A'.handled=none->(∀h' tk e,Heap.NewAttrErr hp h' e (.ref a) "keys" -> R (.error (.ref e)) ⟨h',g,d,tk,os⟩)->codeAny (model prog w) A' (.call (.builtin "zip.__getattribute__") ⟨[.ref a,.str "keys" u],[]⟩) R ⟨hp,g,d,t,os⟩:=
  fun {A' R} t u hA' k=>codeAny_call_builtin Xx.plain Zla (Xx.check _ _ _ _ _ _ _ _ (ty t) (F.args_zip_getattribute_2 _ _) (Zlw a TI TO f0 f1 u _ _ A' R _ ⟨hx,hA',k⟩))
 unfold getAttr? getAttrBy? getAttrBy
 wp_walk
 refine said _ _ hA fun h' tk' e new=>?_;obtain⟨t',u',there⟩:=new.there;unfold getattributeRaised
 wp_walk
 exact h _ _ new.1
section
variable {prog:Program}{w:World}{A:Around}{E:QE}{s:Shared}
theorem Ze9 {a:Addr}{Q:Option Obj->Shared->Prop}(h:Q (s.heap.get? a) s):wpAny (model prog w) A (loadIfAlive a) Q E s:=fun Γ p _=>by unfold loadIfAlive;rw[Sem.wp_loadIfAlive];exact h
abbrev Zcw (h:Heap)(z TI TO T:Addr)(b:Bool):Prop:=
 h.get? z=some { cls:=.type "zip", dict:=none,data:=.fields #[rawInt T,.bool b,.bool false,.ref TI,.ref TO],slots:=#[] }
theorem Zgt {z TI TO T:Addr}{bb:Bool}{oT:Obj}{Q:Bool->Shared->Prop}(hz:Zcw s.heap z TI TO T bb)(hT:s.heap.get? T=some oT)
  (h:∀h₁,Zcw h₁ z TI TO T true->Heap.SameBut z s.heap h₁->Q false { s with heap:=h₁ }):wpAny (model prog w) A (Builtin.SmallTypes.ownedTupleIsFree (.ref z)) Q E s:=by
 unfold Builtin.SmallTypes.ownedTupleIsFree
 wp_walk using Ze9,qq hz rfl rfl
 cases bb with
 | true=>exact km (h s.heap hz ⟨rfl,fun _ _=>rfl⟩)
 | false=>exact ka (wpAny_setField_rec hz (by simp) fun h₁ a b=>km (h h₁ a b))
theorem ZjG {z TI TO T i1 i2 l1 l2:Addr}{k:Nat}{bb:Bool}{oT:Obj}{xs ys:QY}{R:Fin->Shared->Prop}(D:ZipApart z TI TO i1 i2 l1 l2)
  (hz:Zcw s.heap z TI TO T bb) (hT:s.heap.get? T=some oT) (hTI:IsPair s.heap TI (.ref i1) (.ref i2))
  (h1:s.heap.IsListIter i1 l1 k) (h2:s.heap.IsListIter i2 l2 k) (hl1:s.heap.IsList l1 xs) (hl2:s.heap.IsList l2 ys)
  (more:∀x y h',xs[k]? = some x->ys[k]? = some y->Zcw h' z TI TO T true->h'.IsListIter i1 l1 (k+1)->h'.IsListIter i2 l2 (k+1)->IsPair h' s.heap.objs.size x y->h'.objs.size=s.heap.objs.size+1 ->
   (∀c o,c≠z->c≠i1->c≠i2->s.heap.get? c=some o->h'.get? c=some o)->R (.done (.ret (.ref s.heap.objs.size))) { s with heap:=h' })
  (over:xs[k]? = none->A.handled=none /\ ∀h' e,(∀c o,c≠z->c≠i1->s.heap.get? c=some o->h'.get? c=some o)->(∃o,h'.get? e=some o/\o.cls = .type "StopIteration")->E (.ref e) { s with heap:=h' })
  (even:∀x,xs[k]? = some x -> ∃y,ys[k]? = some y):
  wpAny (model prog w) A (Builtin.«zip.__next__» ⟨[.ref z],[]⟩) R E s:=by
 unfold Builtin.«zip.__next__»;refine ka (show wpAny _ _ (pure (Value.ref z,[])) _ _ _ from km ?_);dsimp only;refine ka (qq hz rfl rfl (ka (qq hz rfl rfl (ka (Xs hTI rfl ?_)))));refine ka (Zgt hz hT fun h₁ hz₁ hs₁=>?_);simp only[qe,Xf,List.forIn_toArray,qH,Xt];have b1:=h1.extBut hs₁.extBut D.i1z;have b2:=hl1.extBut hs₁.extBut D.l1z;refine ka (ka (ka (KJ ?_)));show wpAny _ _ (Builtin.SmallTypes.nextOf (.ref i1) >>= fun v=>pure (some v)) _ _ _;cases hx:xs[k]? with
 | none=>
  obtain⟨hh,fin⟩:=over hx;exact ka (wpAny_nextOf_list_end hh b1 b2 hx fun h₂ e keep stop=>fin h₂ e (fun c o n1 n2 g=>keep c o n2 (hs₁.extBut c o n1 g)) stop)
 | some x=>
  obtain⟨y,hy⟩:=even x hx;refine ka (wpAny_nextOf_list_item b1 b2 hx fun h₂ c1 hs₂=>km (km ?_));refine ka (ka (KJ ?_));show wpAny _ _ (Builtin.SmallTypes.nextOf (.ref i2) >>= fun v=>pure (some v)) _ _ _;refine ka (wpAny_nextOf_list_item ((h2.extBut hs₁.extBut D.i2z).extBut hs₂.extBut D.i12.symm) ((hl2.extBut hs₁.extBut D.l2z).extBut hs₂.extBut D.l2i1) hy fun h₃ c2 hs₃=>km (km (km ?_)));show wpAny _ _ (newTuple [x,y] >>= ret) _ _ _;have size:h₃.objs.size=s.heap.objs.size:=hs₃.1.trans (hs₂.1.trans hs₁.1);refine ka (ML (km ?_));show R (.done (.ret (.ref h₃.objs.size))) _;rw[size];have lay:∀c o,h₃.get? c=some o->(h₃.push { cls:=.type "tuple", data:=.seq #[x,y] }).get? c=some o:=fun c o=>ko _;refine more x y _ hx hy (lay _ _ (hs₃.extBut _ _ D.i2z.symm (hs₂.extBut _ _ D.i1z.symm hz₁))) ((c1.extBut hs₃.extBut D.i12).at fun o=>lay _ o) (c2.at fun o=>lay _ o) ?_ (by rw[MF,size]) fun c o n1 n2 n3 g=>lay _ _ (hs₃.extBut _ _ n3 (hs₂.extBut _ _ n2 (hs₁.extBut _ _ n1 g)));rw[<- size];exact Km _ rfl
theorem Zg9 {z:Addr}{Q:Option Value->Shared->Prop}(ty:s.TypeIs (.ref z) "zip")
  (h:∀E',(∀e s',(∃o,s'.heap.get? e=some o/\o.cls = .type "StopIteration")->Q none s'->E' (.ref e) s') -> ∀A',A'.handled=A.handled->wpAny (model prog w) A' (Builtin.«zip.__next__» ⟨[.ref z],[]⟩) (fun fin s'=>∃v,fin = .done (.ret v)/\wpAny (model prog w) A (pure (some v)) Q E s') E' s):wpAny (model prog w) A (pyNext (.ref z)) Q E s:=by
 unfold pyNext;refine ka (TY (qJ (name:=Str.ofString "__next__") ty F.slot_zip_next (K1 F.slot_zip_next ty F.entry_zip_next (h _ (fun e s' ⟨o,g,c⟩ q=>?_) _ rfl) (F.args_zip_next_1 _))));exact ka (Xw (T := "StopIteration") (b:=true) ⟨o,g,c⟩ MK (km q))
structure ZS (h:Heap)(z TI TO i1 i2 l1 l2:Addr)(k:Nat):Prop where
 zp:(IsZip h z TI TO .none /\ ∃a b,IsPair h TO a b) ∨ ∃T b o,Zcw h z TI TO T b/\h.get? T=some o/\o.cls = .type "tuple" /\ T≠z/\T≠TO/\T≠i1/\T≠i2
 ti:IsPair h TI (.ref i1) (.ref i2)
 j1:h.IsListIter i1 l1 k
 j2:h.IsListIter i2 l2 k
theorem ZS.keep {h h':Heap}{z TI TO i1 i2 l1 l2:Addr}{k:Nat}(x:ZS h z TI TO i1 i2 l1 l2 k)(kk:∀c o,h.get? c=some o->o.cls ≠ .type "dict" -> h'.get? c=some o):ZS h' z TI TO i1 i2 l1 l2 k:=by
 refine⟨?_,kk _ _ x.ti (by show Value.type "tuple" ≠ _;decide),?_,?_⟩
 ·rcases x.zp with⟨a,p,q,b⟩ | ⟨T,b,o,a,c,d,e⟩
  ·exact .inl ⟨kk _ _ a (by show Value.type "zip" ≠ _;decide),p,q,kk _ _ b (by show Value.type "tuple" ≠ _;decide)⟩
  ·exact .inr ⟨T,b,o,kk _ _ a (by show Value.type "zip" ≠ _;decide),kk _ _ c (by rw[d];decide),d,e⟩
 ·obtain⟨o,ho,hc,r⟩:=x.j1;exact⟨o,kk _ _ ho (by rw[hc];decide),hc,r⟩
 ·obtain⟨o,ho,hc,r⟩:=x.j2;exact⟨o,kk _ _ ho (by rw[hc];decide),hc,r⟩
theorem Zlv {z TI TO i1 i2 l1 l2:Addr}{k:Nat}{xs ys:QY}{x y:Value}{Q:Option Value->Shared->Prop}(D:ZipApart z TI TO i1 i2 l1 l2)(Z:ZS s.heap z TI TO i1 i2 l1 l2 k)
  (hl1:s.heap.IsList l1 xs) (hl2:s.heap.IsList l2 ys) (hx:xs[k]? = some x) (hy:ys[k]? = some y)
  (hQ:∀h',ZS h' z TI TO i1 i2 l1 l2 (k+1)->IsPair h' s.heap.objs.size x y->h'.objs.size=s.heap.objs.size+1->(∀c o,c≠z->c≠TO->c≠i1->c≠i2->s.heap.get? c=some o->h'.get? c=some o)->Q (some (.ref s.heap.objs.size)) { s with heap:=h' }):
  wpAny (model prog w) A (pyNext (.ref z)) Q E s:=by
 have lt:∀{c:Addr}{o:Obj},s.heap.get? c=some o->s.heap.objs.size≠c:=fun e=>Kz (Kk (Kc e));have n1:s.heap.objs.size≠i1:=by obtain⟨o,ho,_⟩:=Z.j1;exact lt ho
 have n2:s.heap.objs.size≠i2:=by obtain⟨o,ho,_⟩:=Z.j2;exact lt ho
 rcases Z.zp with⟨hz,a,b,hTO⟩ | ⟨T,b,o,hz,hT,hc,t1,t2,t3,t4⟩
 ·exact wpAny_pyNext_zip_item D hz Z.ti hTO Z.j1 Z.j2 hl1 hl2 hx hy fun h' a1 a2 a3 a4 a5 a6 a7=>
   hQ h' ⟨.inr ⟨s.heap.objs.size,false,_,a1,a5,rfl,lt hz,lt hTO,n1,n2⟩,a7 _ _ D.TIz D.TITO D.TIi1 D.TIi2 Z.ti,a3,a4⟩ a5 a6 a7
 ·refine Zg9 ⟨_,hz,rfl⟩ fun E' _ A' _=>ZjG D hz hT Z.ti Z.j1 Z.j2 hl1 hl2 (fun x' y' h' e1 e2 a1 a3 a4 a5 a6 a7=>⟨_,rfl,km ?_⟩) (fun e=>by rw[hx] at e;cases e) (fun _ _=>⟨y,hy⟩);rw[hx] at e1;rw[hy] at e2;cases e1;cases e2;exact hQ h' ⟨.inr ⟨T,true,o,a1,a7 _ _ t1 t3 t4 hT,hc,t1,t2,t3,t4⟩,a7 _ _ D.TIz D.TIi1 D.TIi2 Z.ti,a3,a4⟩ a5 a6 fun c o c1 _ c3 c4 e=>a7 c o c1 c3 c4 e
theorem Zoa {z TI TO i1 i2 l1 l2:Addr}{k:Nat}{xs ys:QY}{Q:Option Value->Shared->Prop}(hh:A.handled=none)(D:ZipApart z TI TO i1 i2 l1 l2)(Z:ZS s.heap z TI TO i1 i2 l1 l2 k)
  (hl1:s.heap.IsList l1 xs) (hl2:s.heap.IsList l2 ys) (hx:xs[k]? = none)
  (hQ:∀h',(∀c o,c≠z->c≠TO->c≠i1->c≠i2->s.heap.get? c=some o->h'.get? c=some o)->Q none { s with heap:=h' }):
  wpAny (model prog w) A (pyNext (.ref z)) Q E s:=by
 rcases Z.zp with⟨hz,a,b,hTO⟩ | ⟨T,b,o,hz,hT,hc,t1,t2,t3,t4⟩
 ·exact wpAny_pyNext_zip_end hh D hz Z.ti hTO Z.j1 Z.j2 hl1 hl2 (.inl hx) hQ
 ·exact Zg9 ⟨_,hz,rfl⟩ fun E' out A' hA=>ZjG D hz hT Z.ti Z.j1 Z.j2 hl1 hl2 (fun x' y' h' e1=>by rw[hx] at e1;cases e1) (fun _=>⟨hA.trans hh,fun h' e keep stop=>out e _ stop (hQ h' fun c o c1 _ c3 _ g=>keep c o c1 c3 g)⟩) (fun x' e=>by rw[hx] at e;cases e)
end
theorem ZfD:entryFor table "dict.update.loop" = some Builtin.«dict.update.loop»:=entryFor_of_tree (by kernel_rfl)
theorem Zbm:plainId "dict.update.loop" = true:=by decide +kernel
def Zj8 (kvs:List (Key×Value))(ps:List (Key×Value)):List (Key×Value):=ps.foldl (fun a p=>stored a p.1 p.2) kvs
section
variable {prog:Program}{w:World}{A:Around}{R:Result->Shared->Prop}
theorem Zn0 {E:QE}{s:Shared}{d:Addr}{kvs:List (Key×Value)}{k:Int}{t:Tok}{v:Value}{Q:Unit->Shared->Prop}(hm:s.heap.DictOf (ZI prog w) d kvs)(hsz:kvs.length<=sizeLine)
  (hQ:∀h',h'.DictOf (ZI prog w) d (stored kvs (Sum.inl k) v)->Heap.SameBut d s.heap h'->Q () { s with heap:=h',toks:=s.toks+1 }):wpAny (model prog w) A (dictSet d (.int k t) v) Q E s:=by
 unfold dictSet
 try with_reducible refine KJ ?_
 refine ka (wpAny_pyHash_int ?_);exact wpAny_dictSetHashed_pairs (knd:=ZI prog w) (k:=Sum.inl k) (by show Value.isInt k (.int k t)=true;simp[Value.isInt]) (s:={ s with toks:=s.toks+1 }) hm hQ hsz
theorem Zl9 {z TI TO i1 i2 l1 l2 d:Addr}{xs ys:QY}{ps:List (Key×Value)}(D:ZipApart z TI TO i1 i2 l1 l2)(hh:A.handled=none)(hn:xs.size=ys.size)(hz:xs.size<=100000)
  (hp:ps.length=xs.size) (hps:∀(i:Nat)(k:Key)(v:Value),ps[i]? = some (k,v) -> ∃(a:Int)(t:Tok),k=Sum.inl a/\xs[i]? = some (Value.int a t)/\ys[i]? = some v)
  (dz:d≠z/\d≠TO/\d≠i1/\d≠i2/\l1≠d/\l2≠d):
  ∀(m k:Nat)(s:Shared)(kvs:List (Key×Value)),m+k=xs.size->ZS s.heap z TI TO i1 i2 l1 l2 k->s.heap.IsList l1 xs->s.heap.IsList l2 ys->s.heap.DictOf (ZI prog w) d kvs->kvs.length<=k ->
   (∀h' tk,h'.DictOf (ZI prog w) d (Zj8 kvs (ps.drop k))->(∀c o,c≠z->c≠TO->c≠i1->c≠i2->c≠d->s.heap.get? c=some o->h'.get? c=some o)->R (.ok (.ret .none)) { s with heap:=h',toks:=tk }) ->
   codeAny (model prog w) A (.builtin "dict.update.loop" ⟨[.ref d,.ref z,rawInt (k:Int),.none],[]⟩) R s:=by
 intro m
 induction m with
 | zero=>
  intro k s kvs hk Z hl1 hl2 hd hlen fin;refine T9 ZfD ?_;rw[X0 Zbm _];show wpAny _ A.in1 (pyNext (.ref z) >>= _) _ _ s;refine ka (Zoa (A:=A.in1) hh D Z hl1 hl2 (by rw[XF];lia) fun h' kk=>?_);refine km ?_;have e:ps.drop k = []:=qc (by lia);rw[e] at fin;refine fin h' s.toks ?_ fun c o c1 c2 c3 c4 _ x=>kk c o c1 c2 c3 c4 x;obtain⟨o,es,ep,ho,r⟩:=hd;exact⟨o,es,ep,kk _ _ dz.1 dz.2.1 dz.2.2.1 dz.2.2.2.1 ho,r⟩
 | succ m ih=>
  intro k s kvs hk Z hl1 hl2 hd hlen fin;refine T9 ZfD ?_;rw[X0 Zbm _];show wpAny _ A.in1 (pyNext (.ref z) >>= _) _ _ s;obtain⟨⟨pk,pv⟩,hpk⟩:∃p,ps[k]? = some p:=⟨ps[k]'(by lia),by simp⟩;obtain⟨a,t,rfl,hx,hy⟩:=hps k pk pv hpk;refine ka (Zlv (A:=A.in1) D Z hl1 hl2 hx hy fun h' Z' hpair hsz kk=>?_);refine ka (KJ ?_);refine ka (wpAny_tryCatch ?_);unfold Builtin.Dict.pairItems;refine ka (qG (T := "tuple") ⟨_,hpair,rfl⟩ ?_);refine wpAny_ite ?_;rw[kj (by decide)];refine ka (Xs hpair rfl ?_);refine km ?_;show wpAny _ _ (holding [.int a t,pv] (dictSet d (.int a t) pv)) _ _ _;have hd':h'.DictOf (ZI prog w) d kvs:=by obtain⟨o,es,ep,ho,r⟩:=hd;exact⟨o,es,ep,kk _ _ dz.1 dz.2.1 dz.2.2.1 dz.2.2.2.1 ho,r⟩
  have lst:∀{h h2:Heap}{l:Addr}{zs:QY},h.IsList l zs->(∀o,h.get? l=some o->h2.get? l=some o)->h2.IsList l zs:=fun {h h2 l zs} q k=>by obtain⟨o,ho,r⟩:=q;exact⟨o,k o ho,r⟩
  refine KJ (Zn0 (s:={ s with heap:=h' }) hd' (by rw[Kn];lia) fun h2 hd2 sb=>?_);refine km ⟨NS Zbm _,?_⟩;have hk2:∀c o,c≠z->c≠TO->c≠i1->c≠i2->c≠d->s.heap.get? c=some o->h2.get? c=some o:=fun c o c1 c2 c3 c4 c5 e=>sb.extBut _ _ c5 (kk c o c1 c2 c3 c4 e);have e:((k:Int)+1)=((k+1:Nat):Int):=by lia
  rw[e];have e2:ps.drop k=(Sum.inl a,pv)::ps.drop (k+1):=by obtain⟨h1,h3⟩:=kI.mp hpk;rw[<- h3];exact KZ h1
  refine ih (k+1) { s with heap:=h2,toks:=s.toks+1 } _ (by lia) (Z'.keep fun c o e nd=>sb.extBut _ _ (fun q=>?_) e) (lst hl1 fun o e=>hk2 _ o D.l1z D.l1TO D.l1i1 D.l1i2 dz.2.2.2.2.1 e) (lst hl2 fun o e=>hk2 _ o D.l2z D.l2TO D.l2i1 D.l2i2 dz.2.2.2.2.2 e) hd2 ?_ fun h3 tk hd3 k3=>?_
  ·obtain⟨o',es,ep,ho,hc,_⟩:=hd';rw[q,ho] at e;cases e;exact nd hc.1
  ·have:=stored_length_le kvs (Sum.inl a:Key) pv;lia
  ·refine fin h3 tk ?_ fun c o c1 c2 c3 c4 c5 e=>k3 c o c1 c2 c3 c4 c5 (hk2 c o c1 c2 c3 c4 c5 e);rw[e2];exact hd3
theorem Zl0 {z TI TO i1 i2 l1 l2:Addr}{E:QE}{s:Shared}{xs ys:QY}{ps:List (Key×Value)}{Q:QE}(D:ZipApart z TI TO i1 i2 l1 l2)(hh:A.handled=none)(hn:xs.size=ys.size)(hz:xs.size<=100000)
  (hp:ps.length=xs.size) (hps:∀(i:Nat)(k:Key)(v:Value),ps[i]? = some (k,v) -> ∃(a:Int)(t:Tok),k=Sum.inl a/\xs[i]? = some (Value.int a t)/\ys[i]? = some v)
  (hzp:IsZip s.heap z TI TO .none) (hTI:IsPair s.heap TI (.ref i1) (.ref i2)) (hTO:∃a b,IsPair s.heap TO a b) (h1:s.heap.IsListIter i1 l1 0) (h2:s.heap.IsListIter i2 l2 0) (hl1:s.heap.IsList l1 xs) (hl2:s.heap.IsList l2 ys)
  (h:∀h' tk,h'.DictOf (ZI prog w) s.heap.objs.size (Zj8 [] ps)->(∀c o,c≠z->c≠TO->c≠i1->c≠i2->s.heap.get? c=some o->h'.get? c=some o)->Q (.ref s.heap.objs.size) { s with heap:=h',toks:=tk }):
  wpAny (model prog w) A (call (.type "dict") [.ref z]) Q E s:=by
 refine callType_codes (Q₁:=fun obj s₁=>obj = .ref s.heap.objs.size/\s₁ = { s with heap:=s.heap.push { cls:=.type "dict", data:=.dict #[] } }) F.kt_called_dict (F.kt_typeCall_dict_1 _) F.entry_dict_init (kt_code_dict_new _ ⟨rfl,rfl⟩) ?_;rintro obj s₁ ⟨rfl,rfl⟩;have hnew:(s.heap.push { cls:=.type "dict", data:=.dict #[] }).DictOf (ZI prog w) s.heap.objs.size []:=Heap.DictOf.new s.heap;have up:∀c o,s.heap.get? c=some o->(s.heap.push { cls:=.type "dict", data:=.dict #[] }).get? c=some o:=fun c o e=>ko _ e;refine⟨hnew.typeIs,F.args_dict_init_2 _ _,?_⟩;unfold Builtin.«dict.__init__»;refine ka ?_;unfold Builtin.Dict.selfAndRest;refine ka (XO hnew.typeIs ?_);show wpAny _ _ (pure (s.heap.objs.size,[Value.ref z])) _ _ _;refine km ?_;show wpAny _ _ (Builtin.Dict.updateFrom "dict.__init__" s.heap.objs.size (.ref z) [] .none) _ _ _;unfold Builtin.Dict.updateFrom;refine ka (qG (T := "zip") ⟨_,up _ _ hzp,rfl⟩ ?_);rw[kj (by decide)];refine ka (Zmu (up _ _ hzp) hh fun h' tk kk=>?_);rw[kj (by rfl)];refine ka (qC ?_);refine ka (N7 (kk _ _ (up _ _ hzp)) ?_);have U:∀c o,s.heap.get? c=some o->h'.get? c=some o:=fun c o e=>kk c o (up c o e);have lt:∀{c:Addr}{o:Obj},s.heap.get? c=some o->s.heap.objs.size≠c:=fun e=>Kz (Kk (Kc e));obtain⟨ta,tb,hto⟩:=hTO;have n1:s.heap.objs.size≠i1:=by obtain⟨o,ho,_⟩:=h1;exact lt ho
 have n2:s.heap.objs.size≠i2:=by obtain⟨o,ho,_⟩:=h2;exact lt ho
 have n3:l1≠s.heap.objs.size:=by obtain⟨o,ho,_⟩:=hl1;exact(lt ho).symm
 have n4:l2≠s.heap.objs.size:=by obtain⟨o,ho,_⟩:=hl2;exact(lt ho).symm
 have cp:∀{l:Addr}{zs:QY},s.heap.IsList l zs->h'.IsList l zs:=fun {l zs} q=>by obtain⟨o,ho,r⟩:=q;exact⟨o,U _ _ ho,r⟩
 have ci:∀{i l:Addr}{k:Nat},s.heap.IsListIter i l k->h'.IsListIter i l k:=fun {i l k} q=>by obtain⟨o,ho,r⟩:=q;exact⟨o,U _ _ ho,r⟩
 have hd':h'.DictOf (ZI prog w) s.heap.objs.size []:=by obtain⟨o,es,ep,ho,r⟩:=hnew;exact⟨o,es,ep,kk _ _ ho,r⟩
 refine km ⟨NS Zbm _,?_⟩;refine Zl9 (A:=A.in1) D hh hn hz hp hps ⟨lt hzp,lt hto,n1,n2,n3,n4⟩ xs.size 0 _ [] rfl ⟨.inl ⟨U _ _ hzp,ta,tb,U _ _ hto⟩,U _ _ hTI,ci h1,ci h2⟩ (cp hl1) (cp hl2) hd' (ki _) fun h3 tk3 d3 k3=>?_;exact⟨rfl,h h3 tk3 d3 fun c o c1 c2 c3 c4 e=>k3 c o c1 c2 c3 c4 (lt e).symm (U c o e)⟩
end
def Zac (acc:QD)(ps:List (Int×V)):QD:=ps.foldl (fun a p=>putK a (Sum.inl p.1) p.2) acc
inductive Zpn(K:QF)(Q:VK)(vs:QH)(H1:Hp):Prop|mk(a b:Addr)(ns:QG)(ys:QH)(_:vs = [.ref a,.ref b])(_:Zt K H1 a (ns.map V.int))(_:Zt K H1 b ys)(_:ns.length=ys.length)(_:ns.length<=100000)(_:∀D,H1 D=none->Q (.ref D) (upd H1 D (.dK (Zac [] (ns.zip ys)))))
def tDz (K:QF)(ta:TA):TE:=fun σ H Q=>ta σ H fun vs H1=>Zpn K Q vs H1
theorem Zg4:∀{ns:QG}{ys:QH}{us vs:QJ}{acc:QD}{acc':List (Key×Value)},Vals (ns.map V.int) us->Vals ys vs->KV acc acc'->KV (Zac acc (ns.zip ys)) (Zj8 acc' ((ns.map fun n=>(Sum.inl n:Key)).zip vs))
 | [],_,_,_,_,_,_,_,r=>r
 | n::ns,[],_,_,_,_,_,h,r=>by cases h;exact r
 | n::ns,y::ys,_,_,_,_,h1,h2,r=>by
  cases h1 with
  | cons a1 t1=>
   cases h2 with
   | cons a2 t2=>exact Zg4 (ns:=ns) (ys:=ys) t1 t2 (r.put (Sum.inl n) a2)
theorem Zd6:∀(ps:List (Int×V))(acc:QD),(Zac acc ps).length<=acc.length+ps.length
 | [],acc=>ki _
 | p::ps,acc=>by have h1:=Zd6 ps (putK acc (Sum.inl p.1) p.2);have h2:=Ww acc (Sum.inl p.1:Key) p.2;show (Zac (putK acc (Sum.inl p.1) p.2) ps).length<=_;rw[K3];lia
section
variable {X:Cx}
theorem Zdz:∀{xs:QH}{us:QJ}{i:Nat}{x:V},Vals xs us->xs[i]? = some x -> ∃u,us[i]? = some u/\RelV x u
 | _,_,_,_,.nil,h=>by simp at h
 | _,_,0,_,.cons r _,h=>by simp at h;subst h;exact⟨_,rfl,r⟩
 | _,_,i+1,x,.cons _ t,h=>by obtain⟨b,h1,h2⟩:=Zdz (i:=i) (x:=x) t (by simpa using h);exact⟨b,by simpa using h1,h2⟩
theorem ZgB {K:QF}{a b:Expr}{ta:TA}{p p2 pos pos2:Pos}(hK:X.K=K)(hc:X.calm=true)(hgd:Gl X "dict")(hmd:X.mg "dict" = none)(hgz:Gl X "zip")(hmz:X.mg "zip" = none)(ha:PA X [a,b] ta)
  (hs:starEach [a,b] X.env = [(false,eval a X.env),(false,eval b X.env)]:=by rfl) (hs2:starEach [b] X.env = [(false,eval b X.env)]:=by rfl)
  (he:starEach [Expr.Call (.Name "zip" p2) [a,b] [] pos2] X.env=(false,eval (Expr.Call (.Name "zip" p2) [a,b] [] pos2) X.env)::starEach [] X.env:=by rfl) (hpl:(backTo pos (starEach [] X.env)).any (·.1)=false:=by rfl):
  PE X (.Call (.Name "dict" p) [.Call (.Name "zip" p2) [a,b] [] pos2] [] pos) (tDz K ta):=by
 subst hK;intro pins s σ H Q I h;refine Th (Uy I hgd hmd boot_dict ?_ (by decide) (by decide));refine qf ?_ he hpl;rw[he];show wpAny _ _ (spliced ((false,eval (Expr.Call (.Name "zip" p2) [a,b] [] pos2) X.env)::backTo pos (starEach [] X.env))) _ _ s;refine qP ?_;refine Call_ (Uy I hgz hmz boot_zip (qf (Yz (ha pos2 pins s σ H _ I h) fun us s1 ⟨vs,H1,I1,r1,q1⟩=>?_) (by rw[hs,hs2]) (by rw[hs2];rfl)));obtain⟨l1,l2,ns,ys,e,hq1,hq2,hl,hz,q⟩:=q1;subst e;obtain⟨u,v,rfl,ru,rv⟩:=r1.two;cases ru;cases rv;obtain⟨its1,rv1,p1,hz1⟩:=I1.list hq1;obtain⟨its2,rv2,p2',hz2⟩:=I1.list hq2;have L1:@LT.lt Nat _ l1 s1.heap.objs.size:=by obtain⟨o,ho,_⟩:=p1.isList;exact aLt ho
 have L2:@LT.lt Nat _ l2 s1.heap.objs.size:=by obtain⟨o,ho,_⟩:=p2'.isList;exact aLt ho
 refine call_zip_2 p1.isList p2'.isList fun h' g1 g2 g3 g4 g5 hsz kk=>?_;have ap:ZipApart (s1.heap.objs.size+4) (s1.heap.objs.size+2) (s1.heap.objs.size+3) s1.heap.objs.size (s1.heap.objs.size+1) l1 l2:=by constructor<;>(intro e;have e':@Eq Nat _ _:=e;lia)
 refine XR ?_;have le1:its1.length=ns.length:=by rw[<- rv1.length,ke]
 have le2:its2.length=ys.length:=rv2.length.symm;have hb:@LT.lt Nat _ sysModules h'.objs.size:=by have:@LT.lt Nat _ sysModules s1.heap.objs.size:=I1.big;rw[hsz];lia
 have cp:∀{l:Addr}{zs:QY},s1.heap.IsList l zs->h'.IsList l zs:=fun {l zs} q=>by obtain⟨o,ho,r⟩:=q;exact⟨o,kk _ _ ho,r⟩
 refine Zl0 (s:={ s1 with heap:=h' }) (ps:=(ns.map fun n=>(Sum.inl n:Key)).zip its2) ap (I1.ok.hd hc) (by simp;lia) (by simp;lia) (by simp;lia) (fun i k v hi=>?_) g1 g2 ⟨_,_,g3⟩ g4 g5 (cp p1.isList) (cp p2'.isList) fun h2 tk hd k2=>?_
 ·obtain⟨e1,e2⟩:=List.getElem?_zip_eq_some.mp hi;rw[kE] at e1;obtain⟨a,ha',rfl⟩:=Ka.mp e1;obtain⟨u,hu,t,rfl⟩:=Zdz rv1 (i:=i) (x:=.int a) (by rw[kE,ha'];rfl);exact⟨a,t,rfl,by simpa using hu,by simpa using e2⟩
 ·have keep:∀c o,s1.heap.get? c=some o->h2.get? c=some o:=fun c o e=>by
   have lt:@LT.lt Nat _ c s1.heap.objs.size:=aLt e;refine k2 c o ?_ ?_ ?_ ?_ (kk c o e)<;>(intro e;have e':@Eq Nat _ _:=e;lia)
  have le:@LE.le Nat _ s1.heap.objs.size h'.objs.size:=by rw[hsz];lia
  refine⟨.ref h'.objs.size,_,I1.laid (a:=h'.objs.size) (o:=.dK (Zac [] (ns.zip ys))) (h':=h2) (t':=tk) keep le (ZgO ?_ (qB.mpr (Kz (Kk hb))) (Zg4 rv1 rv2 .nil) hd),rfl,q _ (I1.hok.fresh le)⟩;have:=Zd6 (ns.zip ys) [];rw[List.length_zip,Xl] at this;rw[Kn];lia
end
open AutoSeq1 (wpAny_loadPart') in
theorem Zcp (xs:QH)(k:Nat):GG xs none (some (k:Int))=xs.take k:=by unfold GG;rw[HT.Zcz,HT.Zbs,MM,L5,List.take_eq_take_iff];lia
theorem Zcs (xs:QH)(k:Nat):GG xs (some (k:Int)) none=xs.drop k:=by
 unfold GG;rw[HT.Zcz,HT.Zbs];by_cases h:k<=xs.length
 ·rw[Mv h,kK (by rw[KU];lia)]
 ·rw[N9 (by lia),qc (ki _),qc (by lia),La]
end L2
namespace L2
open PySem PySem.Spec PyProof.Rows HT
section
variable {prog:Program}{w:World}{A:Around}{E:QE}{s:Shared}
set_option maxHeartbeats 6400000 in
end
end L2
namespace L2
open PySem PyProof.Rows
open PySem PySem.Spec PyProof.Rows
end L2
namespace L2
open PySem PySem.Spec PyProof.Rows MeetsSeq3
section
variable {l b:Addr}{us vs:QY}{m n:Nat}{p q:Option Addr}{sl st:Array (Option Value)}{xs ys:QG}
theorem Zk4 (hx:IntsAre us.toList xs)(hy:IntsAre vs.toList ys):∀k i:Nat,i+k=min xs.length ys.length->Meets (Builtin.«list.__eq__.loop» ⟨[.ref l,.ref b,rawInt i,rawInt 0],[]⟩)
  (fun A R s=>(s.heap.get? l=some ⟨.type "list", p,.seq us m,sl⟩/\s.heap.get? b=some ⟨.type "list", q,.seq vs n,st⟩)/\R (.ok (.ret (.bool (lexLt (xs.drop i) (ys.drop i))))) s):=by
 have lu:us.size=xs.length:=K2.symm.trans (XZ hx);have lv:vs.size=ys.length:=K2.symm.trans (XZ hy);intro k
 induction k with
 | zero=>
  rintro i hi prog w A R ⟨hp,g,d,tk,os⟩ ⟨⟨hl,hb⟩,h⟩;rw[ZiE (by lia),show decide (xs.length-i<ys.length-i)=decide (us.size<vs.size) from Xv.mpr ⟨fun z=>by lia,fun z=>by lia⟩] at h
  wp_walk
  have no:us[((i:Nat):Int).toNat]? = none∨vs[((i:Nat):Int).toNat]? = none:=by simp;lia
  cases e1:us[((i:Nat):Int).toNat]? with
  | none=>
   wp_walk
   exact h
  | some _=>
   cases e2:vs[((i:Nat):Int).toNat]? with
   | none=>
    wp_walk
    exact h
   | some _=>
    rw[e1,e2] at no;rcases no with no | no<;>cases no
 | succ k ih=>
  rintro i hi prog w A R ⟨hp,g,d,tk,os⟩ ⟨⟨hl,hb⟩,h⟩;have i1:i<us.size:=by lia
  have i2:i<vs.size:=by lia
  obtain⟨t1,e1⟩:=ints_get hx i (by simpa using i1) (by lia);obtain⟨t2,e2⟩:=ints_get hy i (by simpa using i2) (by lia);have g1:us[((i:Nat):Int).toNat]? = some (.int (xs[i]'(by lia)) t1):=by rw[<- e1];simp[i1]
  have g2:vs[((i:Nat):Int).toNat]? = some (.int (ys[i]'(by lia)) t2):=by rw[<- e2];simp[i2]
  rw[Zkb (by lia) (by lia)] at h
  wp_walk
  rw[g1,g2];refine ka (TU ?_);by_cases z:xs[i]'(by lia)=ys[i]'(by lia)
  ·rw[kj z] at h;rw[Mm.mpr z]
   wp_walk
   refine⟨NS plain_eq_loop _,T9 entry_eq_loop ?_⟩;rw[X0 plain_eq_loop _];exact ih (i+1) (by lia) prog w A R _ ⟨⟨hl,hb⟩,h⟩
  ·rw[kh z] at h;rw[qB.mpr z]
   wp_walk
   rw[g1,g2];refine ka (wpAny_lt_int ?_)
   wp_walk
   exact h
theorem ZdG (hx:IntsAre us.toList xs)(hy:IntsAre vs.toList ys):Meets (Builtin.«list.__lt__» ⟨[.ref l,.ref b],[]⟩)
  (fun A R s=>(s.heap.get? l=some ⟨.type "list", p,.seq us m,sl⟩/\s.heap.get? b=some ⟨.type "list", q,.seq vs n,st⟩)/\R (.ok (.ret (.bool (lexLt xs ys)))) s):=by
 rintro prog w A R ⟨hp,g,d,tk,os⟩ ⟨⟨hl,hb⟩,h⟩;have su:=AutoSeq1.sub_list_list
 wp_walk
 refine⟨NS plain_eq_loop _,T9 entry_eq_loop ?_⟩;rw[X0 plain_eq_loop _];exact Zk4 hx hy _ 0 (L6 _) prog w A R _ ⟨⟨hl,hb⟩,h⟩
end
section
variable {prog:Program}{w:World}{A:Around}{E:QE}{s:Shared}{a b:Addr}{xs ys:QG}
theorem Zfe {c:Bool}{Q:Bool->Shared->Prop}(ha:J9 "list" s.heap a xs)(hb:J9 "list" s.heap b ys)(hu:A.units<cLine)(h:Q (lexLt xs ys) s):wpAny (model prog w) A (oneLt' c (.ref a) (.ref b)) Q E s:=by
 obtain⟨_,_,_,_,e,i⟩:=ha;obtain⟨_,_,_,_,e2,i2⟩:=hb;rw[oneLt'_eq];cases c with
 | false=>exact ka (richCompare_meets_room (op:=.Lt) ⟨_,e,rfl⟩ ⟨_,e2,rfl⟩ MN F.entry_list_lt (F.args_list_lt_2 _ _) (ZdG i i2) ⟨⟨e,e2⟩,⟨(fun x=>nomatch x),KS h⟩⟩ hu)
 | true=>exact ka (wpAny_cRoomFor hu (ka (TV (T := "list") ⟨_,e,rfl⟩ MN (Ti MN ⟨_,e,rfl⟩ F.entry_list_lt (F.args_list_lt_2 _ _) (ZdG i i2) ⟨⟨e,e2⟩,ka (KS (km h))⟩))))
def Kd2 (kd:SortKind):Prop:=kd=general'∨kd=oneType'
theorem Zic {kd:SortKind}(hkd:Kd2 kd)(hu:A.units<cLine):Cmp prog w A E s kd (DS "list" s) (ltW s) where
 wo:=⟨fun p=>Zbe _,fun p q h=>Zdf _ _ h,fun p q r h=>ZeP _ _ _ h⟩
 cmp:=fun p q st Q ⟨a,ks,e1,h1⟩ ⟨b,js,e2,h2⟩ hk h=>by
  unfold ltW at h;rw[e1,e2,h1.key,h2.key] at h;rw[lt'_eq];refine kC (Xp ?_);rw[hk,e1,e2];refine kC (Tx (TY ?_));rcases hkd with rfl | rfl
  ·exact Zfe (c:=false) h1 h2 hu (by exact⟨rfl,kG h⟩)
  ·exact Zfe (c:=true) h1 h2 hu (by exact⟨rfl,kG h⟩)
theorem Zb9 {M:Model}:∀(vs:QJ){Q:List (Option Value)->Shared->Prop},(∀v∈vs,∃a ks,v = .ref a/\J9 "list" s.heap a ks)->(∀fs:List (Option Value),(∀f∈fs,f=none)->fs.length=vs.length->Q fs s)->wpAny M A (vs.mapM firstOfTuple') Q E s
 | [],Q,_,h=>by rw[List.mapM_nil];exact km (h [] (fun f hf=>by cases hf) rfl)
 | v::vs,Q,hv,h=>by
  obtain⟨a,ks,rfl,ws,dd,n,sl,e,i⟩:=hv v kQ;rw[List.mapM_cons];refine ka ?_;rw[W.kas_first_eq];refine ka (qG (T := "list") ⟨_,e,rfl⟩ ?_);rw[kj (by first | decide | simp)];refine km ?_;refine ka (Zb9 vs (fun v hv'=>hv v (kS _ hv')) fun fs hfs hl=>km (h _ (fun f hf=>?_) (by simp[hl])));rcases kP.mp hf with rfl | hf
  ·rfl
  ·exact hfs f hf
theorem Zgh {M:Model}{vs:QJ}{Q:SortKind->Shared->Prop}(hne:vs ≠ [])(hv:∀v∈vs,∃a ks,v = .ref a/\J9 "list" s.heap a ks)(h:∀kd,Kd2 kd->Q kd s):wpAny M A (keyKind' vs.toArray) Q E s:=by
 rw[kat_kind_eq,XS,X9];refine ka (ka (Zb9 vs hv fun fs hfs hfl=>km ?_));have n0:∃rest,fs=none::rest:=by
  cases fs with
  | nil=>exact absurd (XC hfl.symm) hne
  | cons f r=>exact⟨r,by rw[hfs f kQ]⟩
 obtain⟨rest,rfl⟩:=n0;refine T7 (fun q=>?_) (fun _=>T7 (fun _=>km (h _ (.inl rfl))) fun _=>?_)
 ·exfalso;simp at q
 ·rw[oneTypeOnly'_eq,XS,X9];refine ka (ka (ka (W.kas_mapM (r:=.type "list") _ (fun v hv' Q' hq=>?_) (km ?_))))
  ·obtain⟨a,ks,rfl,ws,dd,n,sl,e,i⟩:=hv v hv';exact qG (T := "list") ⟨_,e,rfl⟩ hq
  ·split
   ·refine km (km (h _ ?_));split
    ·exact .inr rfl
    ·exact .inl rfl
   ·exact km (km (h _ (.inl rfl)))
end
def Zo7 (H:Hp)(v:V)(ks:QG):Prop:=∃a,v = .ref a/\H a=some (.lst (ks.map V.int))
abbrev ZmD (H:Hp):List V->List QG->Prop:=Paired (Zo7 H)
theorem Zf6 {H:Hp}{P:Program}{w:World}{h:Heap}{v:V}{u:Value}{ks:QG}(ok:W7 P w H h)(x:Zo7 H v ks)(r:RelV v u):∃a,u = .ref a/\H a=some (.lst (ks.map V.int))/\J9 "list" h a ks:=by obtain⟨a,rfl,e⟩:=x;obtain⟨_,its,n,r',h1⟩:=(show ZR P w H h a (.lst (ks.map V.int)) from ok a _ e);exact⟨a,r,e,its.toArray,_,n,_,h1,by simpa using JW r'⟩
end L2
namespace HT
open PySem PySem.Spec PyProof.Rows
section
variable {prog:Program}{w:World}{A:Around}{E:QE}{s:Shared}
theorem ZaD {t sl:Addr}{items:QY}{vl vu:Value}{lo hi:QW}{Q:QE}(ht:IsTup s.heap t items)(hs:s.heap.IsSliceOf sl vl vu .none)(pl:IsPart vl lo)(pu:IsPart vu hi)
  (hw:Jx items.size 0 lo=0/\Jx items.size items.size hi=items.size) (h:Q (.ref t) s):wpAny (model prog w) A (getItem (.ref t) (.ref sl)) Q E s:=by
 obtain⟨os,hos,hcs,hds⟩:=id hs;have hTs:s.TypeIs (.ref sl) "slice" := ⟨os,hos,hcs⟩;unfold getItem
 try with_reducible refine KJ ?_
 first | refine ka (km ?_) | skip
 refine ka (NF ht.typeIs (by decide) ?_);refine ka (qJ (name:=Str.ofString "__getitem__") ht.typeIs qg
  (K1 qg ht.typeIs entry_tuple_getitem ?_ (args_tuple_getitem _ _)))
 show wpAny _ _ (Builtin.Tuple.tupleItemsOf (.ref t) >>= _) _ _ s;refine ka (tupleItemsOf_ ht ?_);refine ka (qG hTs ?_);rw[kj (by decide)];refine ka (Uh hs pl pu ?_);have hyes:((((Jx items.size 0 lo:Nat):Int)==0&&(1:Int)==1&&(Jx items.size items.size hi-Jx items.size 0 lo)==items.size)=true):=by rw[hw.1,hw.2];simp
 show wpAny _ _ (if (((Jx items.size 0 lo:Nat):Int)==0&&(1:Int)==1&&(Jx items.size items.size hi-Jx items.size 0 lo)==items.size)=true then _ else _) _ _ s;rw[kj hyes];refine ka (m:=Builtin.Tuple.tupleIsExact _) (ka (qG ht.typeIs (km ?_)));rw[kj (by decide)];exact ka (qC (km ⟨_,rfl,km h⟩))
end
end HT
namespace L2
open PySem PySem.Spec PyProof.Rows
inductive ZkH(K:QF)(x:V)(lo hi:QW)(H:Hp)(Q:VK):Prop|mk(a xs)(_:x = .ref a)(_:YJ K H a xs)(_:GG xs lo hi=xs->Q x H)(_:∀p,H p=none->Q (.ref p) (upd H p (.tup (GG xs lo hi))))
theorem Zlq {X:Cx}:SlR X (ZkH X.K):=by
 intro pins s σ H x v vl vu lo hi sl Q I rx hs pl pu h;obtain⟨a,xs,rfl,hx,h1,q⟩:=h;by_cases hw:HT.Jx xs.length 0 lo=0/\HT.Jx xs.length xs.length hi=xs.length
 ·have e:GG xs lo hi=xs:=by unfold GG;rw[hw.1,hw.2,MM,L5,qz]
  cases rx;obtain⟨its,r,ht,hz⟩:=I.tuple hx;have hlen:its.toArray.size=xs.length:=by rw[kF];exact r.length.symm
  refine⟨"tuple", _,qg.lookup,ht.typeIs,?_⟩;exact HT.ZaD ht hs pl pu (by rw[hlen];exact hw) ⟨.ref a,H,I,rfl,h1 e⟩
 ·exact ZnS pins s σ H _ v vl vu lo hi sl Q I rx hs pl pu ⟨a,xs,rfl,hx,hw,q⟩
theorem Zbq {X:Cx}{K:QF}(h:X.K=K):SlR X (ZkH K):=h ▸ Zlq
theorem Zjy {K:QF}{G:Hp}{x:V}{w:QG}{k:Nat}{Q:VK}(hx:Je G x w)(q:∀v G',Zi G G'->Je G' v (w.take k)->Q v G'):ZkH K x none (some (k:Int)) G Q:=by
 obtain⟨a,rfl,ha⟩:=hx;refine⟨a,_,rfl,YJ.of ha,fun z=>q _ _ (Zi.refl _) ⟨a,rfl,?_⟩,fun p hp=>q _ _ (Zi.laid hp) ⟨p,rfl,?_⟩⟩
 ·rw[ha,<- z,Zcp,Xq]
 ·rw[Zc,Zcp,Xq]
theorem ZkE {K:QF}{G:Hp}{x:V}{w:QG}{k:Nat}{i:Int}{Q:VK}(hi:i=(k:Int))(hx:Je G x w)(q:∀v G',Zi G G'->Je G' v (w.drop k)->Q v G'):ZkH K x (some i) none G Q:=by
 subst hi;obtain⟨a,rfl,ha⟩:=hx;refine⟨a,_,rfl,YJ.of ha,fun z=>q _ _ (Zi.refl _) ⟨a,rfl,?_⟩,fun p hp=>q _ _ (Zi.laid hp) ⟨p,rfl,?_⟩⟩
 ·rw[ha,<- z,Zcs,XM]
 ·rw[Zc,Zcs,XM]
theorem Zbl {G:Hp}{x y:V}{a b:QG}{Q:VK}(hx:Je G x a)(hy:Je G y b)(hz:a.length+b.length<=sizeLine)(k:∀v G',Zi G G'->Je G' v (a++b)->Q v G'):Zg3 x y G Q:=
 ⟨a,b,hx,hy,hz,fun e=>k y G (Zi.refl _) (by rw[e];exact hy),fun e=>k x G (Zi.refl _) (by rw[e,KL];exact hx),fun p fp=>k _ _ (Zi.laid fp) ⟨p,rfl,Zc⟩⟩
section
variable {prog:Program}{w:World}{A:Around}{E:QE}{s:Shared}{v d it:Addr}{es:Array DictEntry}{ep i:Nat}{ok ov:Value}
theorem Zko {Q:QE}(hv:s.heap.IsItemsView v d)(hm:DAt s.heap d es ep)
  (hQ:Q (.ref s.heap.objs.size) { s with heap:=s.heap.push { cls:=.type "dict_itemiterator", data:=.fields #[.none,.bool false,.ref d,.int 0 0,.int es.size 0,.int ep 0,.none,.none] } }):
  wpAny (model prog w) A (pyIter (.ref v)) Q E s:=by
 obtain⟨o1,g1,g2,g3⟩:=id hv;obtain⟨o2,k1,k2,k3⟩:=hm;refine NG hv.typeIs F.slot_dict_items_iter (K1 F.slot_dict_items_iter hv.typeIs F.entry_dict_items_iter ?_ (F.args_dict_items_iter_1 _));unfold Builtin.«dict_items.__iter__» Builtin.Dict_items.dictOf Builtin.Dict_items.newIterator newFields
 wp_walk using qq g1 g3 (x:=.ref d) rfl,TB k1 k3,T8 k1 k3,qb
 ·exact⟨_,rfl,_,_,⟨_,Km _ rfl,rfl⟩,qT.lookup,hQ⟩
 ·simp[sizeOk,Builtin.Dict_items.ownsTuple,Builtin.Dict_items.ownedTupleFields,Kn]
theorem Zfm {Q:Option Value->Shared->Prop}(hit:IsItemIter s.heap it d i es.size ep ok ov)(hm:DAt s.heap d es ep)
  (hQ:∀e,es[i]? = some e -> ∀h',IsItemIterOut h' it d (i+1) es.size ep e.key e.val s.heap.objs.size->h'.get? s.heap.objs.size=some { cls:=.type "tuple", data:=.seq #[e.key,e.val] } ->
   (∀b o,b≠it->s.heap.get? b=some o->h'.get? b=some o)->Q (some (.ref s.heap.objs.size)) { s with heap:=h' })
  (hE:es.size<=i->A.handled=none /\ ∀h',(∀b o,b≠it->s.heap.get? b=some o->h'.get? b=some o)->Q none { s with heap:=h' }):wpAny (model prog w) A (pyNext (.ref it)) Q E s:=by
 obtain⟨hp,g,dr,tk,os⟩:=s;obtain⟨o2,k1,k2,k3⟩:=hm;have hT:Shared.TypeIs ⟨hp,g,dr,tk,os⟩ (.ref it) "dict_itemiterator" := ⟨_,hit,rfl⟩;unfold pyNext;refine ka (TY (qJ (name:=Str.ofString "__next__") hT qT (K1 qT hT F.entry_dict_itemiterator_next ?_ (F.args_dict_itemiterator_next_1 _))))
 wp_walk using TB k1 k3,T8 k1 k3,Xy hT,wpAny_fieldsOf hit rfl,TC hT
 rw[kh (by lia),kX];cases hx:es[i]? with
 | some e=>
  wp_walk using Xy hT,TC hT,wpAny_setField_rec hit
  ·show 3<8;decide
  intro h1 e1 s1;have e1:IsItemIter h1 it d (i+1) es.size ep ok ov:=e1;have hT1:Shared.TypeIs ⟨h1,g,dr,tk,os⟩ (.ref it) "dict_itemiterator" := ⟨_,e1,rfl⟩;have e2:=ko { cls:=.type "tuple", data:=.seq #[e.key,e.val] } e1
  wp_walk using TC hT1,ML,qq e2 rfl (x:=.none) rfl
  ·have z:=s1.1;have il:it≠hp.objs.size:=Kk (Kc hit);obtain⟨up,eu⟩:∃up,up=fun(h:Heap) k x=>h.update it (Obj.mapFields fun y=>y.setIfInBounds k x):=⟨_,rfl⟩;have uo:∀h k x b,b≠it->(up h k x).get? b=h.get? b:=fun h k x b n=>by rw[eu];exact qL _ _ (Kz n)
   have us:∀h k x vs,h.get? it=some { cls:=.type "dict_itemiterator", dict:=none,data:=.fields vs,slots:=#[] } -> (up h k x).get? it=some { cls:=.type "dict_itemiterator", dict:=none,data:=.fields (vs.setIfInBounds k x),slots:=#[] }:=fun h k x vs e=>by rw[eu];exact TJ _ e rfl
   refine⟨_,rfl,km ?_⟩;show Q (some (.ref h1.objs.size)) ⟨_,g,dr,tk,os⟩;rw[z];refine hQ e hx _ ?_ ?_ fun b o n q=>?_
   ·have:=us _ 1 (.bool false) _ (us _ 0 (rawInt h1.objs.size) _ (us _ 7 e.val _ (us _ 6 e.key _ e2)));rw[eu,z] at this;exact this
   ·have:=(uo (up (up (up (h1.push { cls:=.type "tuple", data:=.seq #[e.key,e.val] }) 6 e.key) 7 e.val) 0 (rawInt h1.objs.size)) 1 (.bool false) _ il.symm).trans ((uo _ _ _ _ il.symm).trans ((uo _ _ _ _ il.symm).trans ((uo _ _ _ _ il.symm).trans (show (h1.push { cls:=.type "tuple", data:=.seq #[e.key,e.val] }).get? hp.objs.size=some { cls:=.type "tuple", data:=.seq #[e.key,e.val] } from z ▸ Km _ rfl))));rw[eu,z] at this;exact this
   ·have:=(uo (up (up (up (h1.push { cls:=.type "tuple", data:=.seq #[e.key,e.val] }) 6 e.key) 7 e.val) 0 (rawInt h1.objs.size)) 1 (.bool false) _ n).trans ((uo _ _ _ _ n).trans ((uo _ _ _ _ n).trans ((uo _ _ _ _ n).trans (ko _ ((s1.2 b n).trans q)))));rw[eu,z] at this;exact this
  ·size_fits
 | none=>
  obtain⟨hh,hE⟩:=hE (by simpa using hx)
  wp_walk using Xy hT,MJ hit rfl
  ·show 2<8;decide
  refine Zdg hh fun h' a k ty=>?_
  wp_walk using Xw (T := "StopIteration") (b:=true) ty MK
  exact hE h' fun b o hb e=>k b o ((qL _ _ (Kz hb)).trans e)
end
section
variable {X:Cx}{pins:QC}{σ:St}{H:Hp}{s:Shared}{d:Addr}{kvs:List (List Key×V)}{o:Obj}
theorem Inv.froze (I:Inv X pins σ H s)(e:H d=some (.dT kvs))(eo:s.heap.get? d=some o):Inv X pins σ (upd H d (.frz o (.dT kvs))) s:=by
 have nd:∀b u,H b=some u->u ≠ .dT kvs->b≠d:=fun b u q n z=>n (by rw[z,e] at q;exact(Kb q).symm);have hok:W7 X.prog X.w (upd H d (.frz o (.dT kvs))) s.heap:=fun b u q=>by
  have st:∀{c:Addr}{v:HO},ZR X.prog X.w H s.heap c v->ZR X.prog X.w (upd H d (.frz o (.dT kvs))) s.heap c v:=fun x=>
   x.stay (fun _ _ _ q=>q) (fun c q=>by rw[Zh (nd c _ q (by intro z;cases z))];exact q) fun c xs q=>by rw[Zh (nd c _ q (by intro z;cases z))];exact q
  by_cases hb:b=d
  ·subst hb;rw[Zc] at q;cases q;exact⟨eo,st (I.hok b _ e)⟩
  ·rw[Zh hb] at q;exact st (I.hok b u q)
 exact I.step (h':=s.heap) (g':=s.gens) (d':=s.drawn) (t':=s.toks) (ch:=[]) (fun _ z=>nomatch z) (fun b o _ _ _ q _=>q) (fun b o _ _ _ q _=>⟨o.slots,q⟩)
  (fun b o _ _ n=>by rw[Zh (fun z=>by rw[z,e] at n;cases n)];exact n) (fun b o _ q=>⟨o,q⟩) (fun b xs q=>by rw[Zh (nd b _ q (by intro z;cases z))];exact q) (fun b o u q=>by rw[Zh (nd b _ q (by intro z;cases z))];exact q)
  (fun b ps q=>⟨#[],by rw[Zh (nd b _ q (by intro z;cases z)),q];simp⟩) (fun m hm=>hm) hok I.bare
end
def Itm (d:Addr)(o:Obj):It:=
  ⟨fun i H=>∃kvs p,H d=some (.frz o (.dT kvs))/\kvs[i]? = some p,
   fun i H v H'=>∃(t b:Addr)(kvs:List (List Key×V))(k:List Key)(x:V),v = .ref t/\H t=none/\H d=some (.frz o (.dT kvs))/\kvs[i]? = some (k,x)/\H b=some (.tup (k.map kV))/\H'=upd H t (.tup [.ref b,x]),
   fun i H=>∃kvs,H d=some (.frz o (.dT kvs))/\kvs.length<=i⟩
theorem Zkg {H:Hp}:∀{kvs:List (List Key×V)}{xs:List (List Key×Addr×Value)}{i:Nat}{p:List Key×V},KT H kvs xs->kvs[i]? = some p -> ∃q,xs[i]? = some q/\H q.2.1=some (.tup (p.1.map kV))/\RelV p.2 q.2.2
 | _,_,_,_,.nil,e=>by simp at e
 | _,_,0,_,.cons r _,e=>by simp at e;subst e;exact⟨_,rfl,r.2⟩
 | _,_,i+1,_,.cons _ t,e=>by obtain⟨q,h1,h2⟩:=Zkg (i:=i) t (by simpa using e);exact⟨q,by simpa using h1,h2⟩
theorem Zjn {H:Hp}:∀{kvs:List (List Key×V)}{xs:List (List Key×Addr×Value)},KT H kvs xs->kvs.length=xs.length
 | _,_,.nil=>rfl
 | _,_,.cons _ t=>Ky (· + 1) (Zjn t)
theorem Zje {P:Program}{w:World}{K:QF}{es:QV}{k:Nat}{pos:Pos}(d it:Addr)(o:Obj)(ents:Array DictEntry)(ep:Nat)(ho:o.data = .dict ents ep)(hne:d≠it):
  Turn P w K (.Tuple es k pos) (Itm d o) [it] it (fun i h=>∃ok ov,IsItemIter h it d i ents.size ep ok ov) where
 mem:=by simp
 obj:=fun i h st b hb=>by
  obtain⟨ok,ov,he⟩:=st;have z:b=it:=by simpa using hb
  subst z;exact⟨_,he,fun v z=>by have z':Data.fields _=Data.cell v:=z;cases z'⟩
 keep:=fun i h h' st k=>by obtain⟨ok,ov,he⟩:=st;exact⟨ok,ov,k it (by simp) _ he⟩
 item:=by
  intro X hP hw hK hc i pins s σ H E I hf st hg;subst hP hw hK;obtain⟨kvs,⟨kk,x⟩,hd,hx⟩:=hg;obtain⟨hod,z,y,xs,r,o',es',ep',h1,h2,h3,h4,h5⟩:=(show ZR X.prog X.w H s.heap d (.frz o (.dT kvs)) from I.hok d _ hd);rw[hod] at h1;cases h1;rw[ho] at h3;cases h3;obtain⟨ok,ov,he⟩:=st;obtain⟨e0,e1,e2,e3,e4,e5⟩:=hf it (by simp);obtain⟨⟨k',b,v⟩,hq,hb,rv⟩:=Zkg r hx;have hent:ents[i]? = some (entryOfKey (tupleKind (ZI X.prog X.w)) (k',b,v)):=by rw[<- Ko,h4,kE,hq];rfl
  refine Zfm he ⟨o,hod,h2,ho⟩ (fun e hx' h' ho' ht kp=>?_) (fun z=>by rw[XF z] at hent;cases hent);cases hent.symm.trans hx';refine⟨_,rfl,?_⟩;refine wpAny_letOwnedTupleGo_items (s:={ s with heap:=h' }) ho' fun h'' he'' hs''=>?_;have Tn:@LT.lt Nat _ it s.heap.objs.size:=aLt he;have kk2:∀b o,b≠it->s.heap.get? b=some o->h''.get? b=some o:=fun b o h1 q=>(hs''.2 b h1).trans (kp b o h1 q);have nne:∀b u,H b=some u->b≠it:=fun b u q z=>by rw[z,e0] at q;cases q
  have fr:H s.heap.objs.size=none:=I.hok.fresh (ki _);have hT:h''.get? s.heap.objs.size=some { cls:=.type "tuple", data:=.seq #[.ref b,v] }:=(hs''.2 _ (Xn Tn)).trans ht;have nT:∀b o,s.heap.get? b=some o->b≠s.heap.objs.size:=fun b o q=>Kk (aLt q);have ok':W7 X.prog X.w (upd H s.heap.objs.size (.tup [.ref b,x])) h'':=fun c u q=>by
   by_cases hb':c=s.heap.objs.size
   ·subst hb';rw[Zc] at q;cases q;exact⟨show 2<=sizeLine by decide,[.ref b,v],.cons rfl (.cons rv .nil),⟨_,hT,rfl,_,rfl⟩⟩
   ·rw[Zh hb'] at q;refine(I.hok c u q).stay (fun c' v' hc' r'=>?_) (fun c' r'=>by rw[Zh (Zf r' fr)];exact r') fun c' xs' r'=>by rw[Zh (Zf r' fr)];exact r'
    rcases hc' with z | z
    ·subst z;exact kk2 c' v' (nne c' u q) r'
    ·exact kk2 c' v' (nne c' _ z) r'
  have I1:Inv X pins σ (upd H s.heap.objs.size (.tup [.ref b,x])) { s with heap:=h'',gens:=s.gens,drawn:=s.drawn,toks:=s.toks }:=by
   refine I.step (ch:=[it]) (fun b hb=>?_) (fun b o _ _ hc q _=>kk2 b o (fun z=>hc (by simp[z])) q) (fun b o _ _ hc q _=>⟨o.slots,kk2 b o (fun z=>hc (by simp[z])) q⟩)
    (fun b o _ q n=>by rw[Zh (nT b o q)];exact n) (fun b o hc q=>⟨o,kk2 b o (fun z=>hc (by simp[z])) q⟩) (fun b xs q=>by rw[Zh (Zf q fr)];exact q) (fun b o u q=>by rw[Zh (Zf q fr)];exact q)
    (fun b ps q=>⟨#[],by rw[Zh (Zf q fr),q];simp⟩) (fun m hm=>?_) ok' I.bare
   ·have z':b=it:=by simpa using hb
    subst z';exact⟨e3,e1,e4,e5⟩
   ·obtain⟨o,es,ep,ho,r⟩:=hm;exact⟨o,es,ep,kk2 _ o (Kz e1) ho,r⟩
  refine⟨.ref s.heap.objs.size,_,I1,rfl,⟨s.heap.objs.size,b,kvs,kk,x,rfl,fr,hd,hx,hb,rfl⟩,⟨_,_,he''⟩,fun c hc'=>?_⟩;have z:c=it:=by simpa using hc'
  subst z;rw[Zh (nT c _ he)];exact e0
 done:=by
  intro X hP hw hK hc i pins s σ H E I hf st hg;subst hP hw hK;obtain⟨kvs,hd,hx⟩:=hg;obtain⟨hod,z,y,xs,r,o',es',ep',h1,h2,h3,h4,h5⟩:=(show ZR X.prog X.w H s.heap d (.frz o (.dT kvs)) from I.hok d _ hd);rw[hod] at h1;cases h1;rw[ho] at h3;cases h3;obtain⟨ok,ov,he⟩:=st;obtain⟨f0,f1,f2,f3,f4,f5⟩:=hf it (by simp);have hl:=Zjn r;have hes:ents.size=kvs.length:=by rw[<- K2,h4,ke,hl]
  exact Zfm he ⟨o,hod,h2,ho⟩ (fun e z=>by rw[XF (by lia)] at z;cases z) fun _=>⟨I.ok.hd hc,fun h' eb=>⟨rfl,I.turned (t':=s.toks) eb f0 f1 f3 f4 f5⟩⟩
 self:=fun _ _ _ _ _ st h=>by obtain⟨ok,ov,he⟩:=st;have hT:Shared.TypeIs _ (.ref it) "dict_itemiterator" := ⟨_,he,rfl⟩;refine NG hT T2 (K1 T2 hT (entryFor_alias (b:=Builtin.«dict_keyiterator.__iter__») (id' := "dict_keyiterator.__iter__") (by kernel_rfl) rfl (by decide +kernel) (by kernel_rfl)) ?_ (F.args_dict_itemiterator_iter_1 _));show wpAny _ _ (ret (.ref it)) _ _ _;exact km ⟨_,rfl, "dict_itemiterator", _,hT,qT.lookup,h⟩
section
variable {X:Cx}
def Zky (td:TE):TI:=fun σ H R=>td σ H fun x H1=>∃d kvs,x = .ref d/\H1 d=some (.dT kvs) /\ ∀o,R (Itm d o) (upd H1 d (.frz o (.dT kvs)))
theorem ZkR {o:Expr}{td:TE}{es:QV}{k:Nat}{apos cpos tpos:Pos}(ho:PE X o td)
  (hbase:attributeBase o "items" X.env (eval o X.env)=eval o X.env:=by rfl) (hline:(apos.endLine==cpos.line)=true:=by rfl):
  PI X (.Tuple es k tpos) (.Call (.Attribute o "items" apos) [] [] cpos) (Zky td):=by
 intro pins s σ H R I h;refine wpAny_Call_method0_late hbase hline (Yz (ho pins s σ H _ I h) fun v s1 ⟨x,H1,I1,r1,d,kvs,ex,hd,q1⟩=>?_);subst ex;cases (show v=Value.ref d from r1);obtain⟨z,y,xs,r,ob,ents,ep,h1,h2,h3,h4,h5⟩:=(show ZR X.prog X.w H1 s1.heap d (.dT kvs) from I1.hok d _ hd);have ty:s1.TypeIs (.ref d) "dict" := ⟨ob,h1,h2.1⟩;refine⟨"dict", "dict.items", qU,Mb,Mc,ty,fun b q=>?_,?_⟩
 ·cases q;exact⟨ob,h1,h2.2.1⟩
 refine qM rfl (MZ ?_);refine K1 F.slot_dict_items ty F.entry_dict_items ?_ (F.args_dict_items_1 _);unfold Builtin.«dict.items» Builtin.Dict.noArgs Builtin.Dict.showsAll
 wp_walk using XO ty,qb,Mu y
 rotate_left
 ·size_fits
 refine⟨_,rfl,?_⟩;have I2:Inv X pins σ (upd H1 d (.frz ob (.dT kvs))) s1:=I1.froze hd h1;have dl:d<s1.heap.objs.size:=Kc h1;refine Zko (es:=ents) (ep:=ep) (d:=d) ⟨_,Km _ rfl,rfl,rfl⟩ ⟨ob,ko _ h1,h2,h3⟩ ?_;obtain⟨h8,eh8⟩:∃h8,h8=(s1.heap.push { cls:=.type "dict_items", data:=.fields #[.ref d] }).push { cls:=.type "dict_itemiterator", data:=.fields #[.none,.bool false,.ref d,.int 0 0,.int ents.size 0,.int ep 0,.none,.none] }:=⟨_,rfl⟩;have I3:Inv X pins σ (upd H1 d (.frz ob (.dT kvs))) { s1 with heap:=h8 }:=I2.kept (t':=s1.toks) fun b o q=>by rw[eh8];exact ko _ (ko _ q)
 have sz:(s1.heap.push { cls:=.type "dict_items", data:=.fields #[.ref d] }).objs.size=s1.heap.objs.size+1:=MF ..;show PIE X pins σ _ R (.ref (s1.heap.push { cls:=.type "dict_items", data:=.fields #[.ref d] }).objs.size) { s1 with heap:=(s1.heap.push { cls:=.type "dict_items", data:=.fields #[.ref d] }).push { cls:=.type "dict_itemiterator", data:=.fields #[.none,.bool false,.ref d,.int 0 0,.int ents.size 0,.int ep 0,.none,.none] } };rw[<- eh8,sz];refine⟨_,[s1.heap.objs.size+1],_,_,_,rfl,I3,Zje d _ ob ents ep h3 (Kk (NH dl)),⟨.none,.none,?_⟩,fun b hb=>?_,q1 ob⟩
 ·show h8.get? _=_;rw[eh8,<- sz];exact Km _ rfl
 ·have z':b=s1.heap.objs.size+1:=by simpa using hb
  subst z';exact I2.fpOk (qR _) (I2.hok.fresh (qR _))
end
theorem ZiG {d:Addr}{o:Obj}{kvs:List (List Key×V)}{g:TG}{tb:TS}{D:Ends}{σ:St}{H:Hp}(Pv:Nat->St->Hp->Prop)(h0:Pv 0 σ H)(hl:∀i σ H,i<=kvs.length->Pv i σ H->H d=some (.frz o (.dT kvs)))
  (hs:∀i k x t b σ H,kvs[i]? = some (k,x)->Pv i σ H->H t=none->H b=some (.tup (k.map kV))->g (.ref t) σ (upd H t (.tup [.ref b,x])) fun σ2 H2=>tb { D with nx:=Pv (i+1),ct:=Pv (i+1),bk:=D.nx } σ2 H2) (hd:∀ σ H,Pv kvs.length σ H->D.nx σ H):
  Zb7 (Itm d o) g tb D σ H:=by
 refine⟨fun i m σ H=>m=kvs.length-i/\i<=kvs.length/\Pv i σ H,⟨kvs.length,by simp,KP _,h0⟩,?_⟩;rintro i m σ H ⟨rfl,hi,p⟩;have q:=hl i σ H hi p;by_cases hlt:i<kvs.length
 ·refine .inr ⟨⟨kvs,kvs[i],q,by simp[hlt]⟩,Pv (i+1),fun σ' H' p'=>⟨kvs.length-(i+1),by lia,rfl,hlt,p'⟩,fun x H' y=>?_⟩;obtain⟨t,b,kvs',k,z,e1,e2,e3,e4,e5,e6⟩:=y;rw[q] at e3;injection e3 with e3
  injection e3 with _ e3
  injection e3 with e3
  subst e3 e1 e6;exact hs i k z t b σ _ e4 p e2 e5
 ·have e:i=kvs.length:=by lia
  subst e;exact .inl ⟨⟨kvs,q,ki _⟩,hd σ H p⟩
structure M1 (X:Cx)(o:Expr)(m:Str)(apos:Pos)(e:Expr)(cpos:Pos):Prop where
 base:attributeBase o m X.env (eval o X.env)=eval o X.env
 few:((backTo cpos (starEach [e] X.env)).all (fun x=>!x.1)&&(backToKw cpos (keywordEach [] X.env)).all (fun x=>x.1.isSome)
  && decide (([e]:QV).length+([]:List Keyword).length+(if ([]:List Keyword).isEmpty then 0 else 1)<30))=true
 line:(apos.endLine==cpos.line)=true
 trees:backTo cpos (starEach [e] X.env) = [(false,eval e X.env)]
structure M2 (X:Cx)(o:Expr)(m:Str)(apos:Pos)(e f:Expr)(cpos:Pos):Prop where
 base:attributeBase o m X.env (eval o X.env)=eval o X.env
 few:((backTo cpos (starEach [e,f] X.env)).all (fun x=>!x.1)&&(backToKw cpos (keywordEach [] X.env)).all (fun x=>x.1.isSome)
  && decide (([e,f]:QV).length+([]:List Keyword).length+(if ([]:List Keyword).isEmpty then 0 else 1)<30))=true
 line:(apos.endLine==cpos.line)=true
 trees:backTo cpos (starEach [e,f] X.env) = [(false,eval e X.env),(false,eval f X.env)]
def IsD (H:Hp)(a:Addr):Prop:=(∃kvs,Rd H a (.dK kvs)) ∨ ∃kvs,Rd H a (.dT kvs)
theorem ZkD {X:Cx}{pins:QC}{σ:St}{H:Hp}{s:Shared}{a:Addr}(I:Inv X pins σ H s)(d:IsD H a):
  s.TypeIs (.ref a) "dict" /\ (∀b,Value.ref a = .ref b -> ∃ob,s.heap.get? b=some ob/\ob.dict=none)/\(a==sysModules)=false:=by
 rcases d with⟨kvs,e⟩ | ⟨kvs,e⟩
 ·obtain⟨_,hd,vs,_,dd⟩:=Za6 I.hok e;refine⟨dd.typeIs,fun b q=>?_,hd⟩;cases q;obtain⟨ob,_,_,h1,h2,_⟩:=dd;exact⟨ob,h1,h2.2.1⟩
 ·obtain⟨_,hd,xs,_,dd⟩:=ZcO I.hok e;refine⟨dd.typeIs,fun b q=>?_,hd⟩;cases q;obtain⟨ob,_,_,h1,h2,_⟩:=dd;exact⟨ob,h1,h2.2.1⟩
section
variable {X:Cx}{pins:QC}{σ:St}{H:Hp}{s:Shared}{a:Addr}{y d:V}{u r:Value}{o:QI}{A:Around}{E:QE}
theorem ZnE {Q:QE}(hu:A.units+1<cLine)(I:Inv X pins σ H s)(g:UQ H a y o)(ry:RelV y u)(h:∀w' s',Inv X pins σ H s'->RelV (o.getD .non) w'->Q w' s'):
  wpAny (model X.prog X.w) A (call (.builtin "dict.get") [.ref a,u]) Q E s:=by
 rcases g with⟨kvs,k,e,ey,l⟩ | ⟨kvs,k,b,e,ey,eb,l⟩
 ·subst ey;obtain⟨z,hd,vs,rel,dd⟩:=Za6 I.hok e;refine Nf qr dd.typeIs Xa (Md _ _) (meets_dict_get (ZI X.prog X.w) a (Zb6 ry) hd) ⟨_,dd.mapOf,h _ _ (I.tok _) ?_⟩;rw[l];exact(rel.val k).getD rfl
 ·subst ey;cases (show u=Value.ref b from ry);obtain⟨z,hd,xs,rel,dd⟩:=ZcO I.hok e;refine Nf qr dd.typeIs Xa (Md _ _) (meetsH_dict_get (tupleKind (ZI X.prog X.w)) a b hd) ⟨XD hu,k,xs,Zak I.hok eb,dd,h _ _ (I.tok _) ?_⟩;rw[l];exact(rel.val k).getD rfl
theorem ZnL {Q:QE}(hu:A.units+1<cLine)(I:Inv X pins σ H s)(g:UQ H a y o)(ry:RelV y u)(rd:RelV d r)(h:∀w' s',Inv X pins σ H s'->RelV (o.getD d) w'->Q w' s'):
  wpAny (model X.prog X.w) A (call (.builtin "dict.get") [.ref a,u,r]) Q E s:=by
 rcases g with⟨kvs,k,e,ey,l⟩ | ⟨kvs,k,b,e,ey,eb,l⟩
 ·subst ey;obtain⟨z,hd,vs,rel,dd⟩:=Za6 I.hok e;refine Nf qr dd.typeIs Xa (Ts _ _ _) (meets_dict_get_default (ZI X.prog X.w) a (Zb6 ry) hd r) ⟨_,dd.mapOf,h _ _ (I.tok _) ?_⟩;rw[l];exact(rel.val k).getD rd
 ·subst ey;cases (show u=Value.ref b from ry);obtain⟨z,hd,xs,rel,dd⟩:=ZcO I.hok e;refine Nf qr dd.typeIs Xa (Ts _ _ _) (meetsH_dict_get_default (tupleKind (ZI X.prog X.w)) a b hd r) ⟨XD hu,k,xs,Zak I.hok eb,dd,h _ _ (I.tok _) ?_⟩;rw[l];exact(rel.val k).getD rd
end
inductive Zh2(ty:TE)(σ:St)(Q:VK)(x:V)(H1:Hp):Prop|mk(a)(_:x = .ref a)(_:IsD H1 a)(_:ty σ H1 fun y H2=>∃o,UQ H2 a y o/\Q (o.getD .non) H2)
def Zkd (td ty:TE):TE:=fun σ H Q=>td σ H fun x H1=>Zh2 ty σ Q x H1
def Zeq (td ty tx:TE):TE:=fun σ H Q=>td σ H fun x H1=>∃a,x = .ref a/\IsD H1 a/\ty σ H1 fun y H2=>tx σ H2 fun z H3=>∃o,UQ H3 a y o/\Q (o.getD z) H3
section
variable {X:Cx}{o e f:Expr}{apos cpos:Pos}{td ty tx:TE}
theorem Zkm (hu:X.A.units+1<cLine)(ho:PE X o td)(he:PE X e ty)(m:M1 X o "get" apos e cpos):PE X (.Call (.Attribute o "get" apos) [e] [] cpos) (Zkd td ty):=by intro pins s σ H Q I h;refine NI m.base m.few m.line qU qr TL (Yz (ho pins s σ H _ I h) fun u s1 ⟨x,H1,I1,rx,a,ex,d,q1⟩=>?_);subst ex;obtain rfl:u=Value.ref a:=rx;obtain⟨t1,t2,_⟩:=ZkD I1 d;refine⟨t1,t2,?_⟩;rw[m.trees];refine qM rfl (Xo (qP (Yz (he pins s1 σ H1 _ I1 q1) fun iv s2 ⟨y,H2,I2,ry,ov,g,q2⟩=>XR ?_)));exact ZnE hu I2 g ry fun w' s3 I3 rw'=>⟨_,H2,I3,rw',q2⟩
theorem Zc2 (hu:X.A.units+1<cLine)(ho:PE X o td)(he:PE X e ty)(hf:PE X f tx)(m:M2 X o "get" apos e f cpos):PE X (.Call (.Attribute o "get" apos) [e,f] [] cpos) (Zeq td ty tx):=by
 intro pins s σ H Q I h;refine NI m.base m.few m.line qU qr TL (Yz (ho pins s σ H _ I h) fun u s1 ⟨x,H1,I1,rx,a,ex,d,q1⟩=>?_);subst ex;obtain rfl:u=Value.ref a:=rx;obtain⟨t1,t2,_⟩:=ZkD I1 d;refine⟨t1,t2,?_⟩;rw[m.trees];refine qM rfl (Xo (qP (Yz (he pins s1 σ H1 _ I1 q1) fun iv s2 ⟨y,H2,I2,ry,q2⟩=>
  qP (Yz (hf pins s2 σ H2 _ I2 q2) fun fv s3 ⟨z,H3,I3,rz,ov,g,q3⟩=>XR ?_))))
 exact ZnL hu I3 g ry rz fun w' s4 I4 rw'=>⟨_,H3,I4,rw',q3⟩
end
def Zi4 (tk tv:TE):TE:=fun σ H Q=>∀p,H p=none->tk σ (upd H p (.dT [])) fun x H1=>tv σ H1 fun y H2=>H2 p=some (.dT []) /\ ∃b ks,x = .ref b/\H2 b=some (.tup (ks.map kV))/\Q (.ref p) (upd H2 p (.dT [(ks,y)]))
theorem Zjv {X:Cx}{pos:Pos}{k v:Expr}{tk tv:TE}(hu:X.A.units+1<cLine)(hk:PE X k tk)(hv:PE X v tv):PE X (.Dict [some k] [v] pos) (Zi4 tk tv):=by intro pins s σ H Q I q;have hn:=I.hok.fresh (ki s.heap.objs.size);have I1:=I.laid (a:=s.heap.objs.size) (o:=.dT []) (h':=s.heap.push { cls:=.type "dict", data:=.dict #[] }) (t':=s.toks) (fun _ _ q=>ko _ q) (ki _) (ZfR s.heap I.big);rw[arm_eval_Dict,zip_pairTrees [some k] [v] X.env pos rfl rfl,dictDisplay_pairs _ (by intro z;cases z) (by show 1<17;decide)];refine ka (Xc (ka ?_));unfold subDict;refine ka (wpAny_alloc ?_);refine ka (KJ ?_);rw[kj (show (pairTrees [some k] [v] X.env pos).length<=15 from(by show 1<=15;decide))];refine ka (Nb (Yz (hk pins _ σ _ _ I1 (q _ hn)) fun u s1 ⟨x,H1,I1',rx,q1⟩=>Yz (hv pins s1 σ H1 _ I1' q1) fun w2 s2 ⟨y,H2,I2,ry,e,b,ks,ex,eb,q2⟩=>Nn ?_));subst ex;cases (show u=Value.ref b from rx);obtain⟨z,hd,xs,rel,dd⟩:=ZmH I2.hok e;cases rel;refine KJ ?_;rw[qH];refine ka (ka (ka (wpAny_dictSet_heap (hsz:=by size_fits) (XT hu) (Zak I2.hok eb) dd fun h' dd' hs=>km ?_)));dsimp only;rw[Xt];refine km (km (km (km ⟨.ref s.heap.objs.size,_,?_,rfl,q2⟩)));obtain⟨q',es,ep,hq,h2,h3,h4,_,h5⟩:=dd';refine Zas I2 (by rw[e];exact True.intro) hs ⟨q',hq⟩ ⟨sz1,hd,[(ks,b,w2)],.cons ⟨rfl,?_,ry⟩ .nil,q',es,ep,hq,h2,h3,h4,h5⟩;rw[Zh (J0 eb e (fun z=>nomatch z))];exact eb
section
variable {prog:Program}{w:World}{A:Around}{E:QE}{s:Shared}
theorem ZcW {T:String}(c:Bool)(kp:SortKind->Prop){D:Addr}{vs:QJ}{n:Nat}{P:PySem.Fin->Shared->Prop}(sr:∀(s':Shared)(kd:SortKind),kp kd->(∀p∈(pairsOf vs).toList,DS T s' p) -> ¬vs.toArray.size<2->wpS (model prog w) A E s' Zat (fun _ st'=>(arrOf st').toList.Perm (pairsOf vs).toList/\(c=true->Srt (ltW s') (arrOf st').toList)/\failedOf st'=none) (SortSt.mk' kd (vs.toArray.zip vs.toArray) #[] 7 none))
  (kn:∀(s':Shared)(Q:SortKind->Shared->Prop),vs ≠ []->(∀v∈vs,∃a ks,v = .ref a/\J9 T s'.heap a ks)->(∀kd,kp kd->Q kd s')->wpAny (model prog w) A (keyKind' vs.toArray) Q E s')
  (ho:s.heap.get? D=some (seqObj "list" vs.toArray n)) (hv:∀v∈vs,∃a ks,v = .ref a/\a≠D/\J9 T s.heap a ks) (hz:vs.length<=sizeLine)
  (h:∀out:QY,out.toList.Perm vs->(c=true->ZfW s.heap out.toList)->P (.done (.ret .none)) { s with heap:=sortedHeap s.heap D vs out }):
  wpAny (model prog w) A (Builtin.«list.sort» ⟨[.ref D],[]⟩) P E s:=by
 rw[list_sort_plain];obtain⟨ep,he⟩:∃ep,(s.heap.update D (Obj.mapSeq fun _=>#[])).get? D=some (seqObj "list" #[] ep):=⟨_,get?_update_seq ho fun _=>#[]⟩;refine ka (listItems_at ho rfl (ka (listUpdate_at ho rfl (ka (seqEpoch_at he rfl (ka (ML (ka (Lb (KJ ?_))) (by simpa using hz))))) (by simpa using hz))));obtain⟨u,eu⟩:∃u:Shared,u = { s with heap:=((s.heap.update D (Obj.mapSeq fun _=>#[])).push (seqObj "tuple" vs.toArray 0)).push (seqObj "list" #[] 0) }:=⟨_,rfl⟩;have keep:∀b o,b≠D->s.heap.get? b=some o->u.heap.get? b=some o:=fun b o hb e=>by rw[eu];exact ko _ (ko _ ((qL _ _ (Kz hb)).trans e))
 have hD:u.heap.get? D=some (seqObj "list" #[] ep):=by rw[eu];exact ko _ (ko _ he)
 have hu4:∀v∈vs,(∃a ks,v = .ref a/\J9 T u.heap a ks)/\Zff u.heap v=Zff s.heap v:=fun v hv'=>by obtain⟨a,ks,rfl,ne,t⟩:=hv v hv';have t':=t.kept fun o q=>keep a o ne q;exact⟨⟨a,ks,rfl,t'⟩,by rw[t.key,t'.key]⟩
 show wpAny (model prog w) A _ P E { s with heap:=((s.heap.update D (Obj.mapSeq fun _=>#[])).push (seqObj "tuple" vs.toArray 0)).push (seqObj "list" #[] 0) };rw[<- eu];dsimp only;refine Ziy (fun kd=>vs.toArray.size<2∨kp kd) (fun h2 Q' q=>km (q _ (.inl h2))) (fun h2 Q' q=>kn u Q' (fun z=>h2 (by rw[z];decide)) (fun v hv'=>(hu4 v hv').1) fun kd hk=>q kd (.inr hk)) fun kd hk=>?_;refine ka (K4 (Q:=fun r s''=>s''=u/\(arrOf r.2).toList.Perm (pairsOf vs).toList/\(c=true->Srt (ltW u) (arrOf r.2).toList)/\failedOf r.2=none) ?_ (fun r s'' hr=>?_) fun _ _ e=>e)
 ·by_cases h2:vs.toArray.size<2
  ·rw[kj h2,StateT.run_pure];refine km ⟨rfl,XX _,fun _=>?_,rfl⟩;have lp:(pairsOf vs).toList.length<2:=by rw[K2,TF];simpa using h2
   show Srt _ (pairsOf vs).toList;generalize (pairsOf vs).toList=L at lp ⊢;cases L with
   | nil=>exact .nil
   | cons x t=>
    cases t with
    | nil=>exact List.pairwise_singleton _ _
    | cons y t=>exact absurd lp (by simp)
  ·rw[kh h2];refine K4 (sr u kd (hk.resolve_left h2) (fun p hp=>?_) h2) (fun r s'' x=>x) fun _ _ e=>e;have hp':p∈(pairsOf vs).toList:=hp;rw[pairsOf_toList] at hp';exact(hu4 _ (mem_zip_self hp').2).1
 obtain⟨rfl,hp,hs,hf⟩:=hr;refine ka (seqEpoch_at hD rfl (ka (listUpdate_at hD rfl ?_ (hsz2:=by have:=hp.length_eq;rw[K2,K2,TF] at this;rw[Array.size_map,this];lia))))
 have same:∀p∈(arrOf r.2).toList,p.1=p.2/\p.1∈vs:=fun p hp'=>by have:=hp.mem_iff.mp hp';rw[pairsOf_toList] at this;exact mem_zip_self this
 have:=h ((arrOf r.2).map (·.2)) (by
  rw[Array.toList_map];refine(hp.map _).trans ?_;rw[pairsOf_toList,List.map_snd_zip (ki _)]) (fun hc=>by
  rw[Array.toList_map];refine qE.mpr (NT (fun {p q} hp' hq' x=>?_) (hs hc));rw[<- (same p hp').1,<- (same q hq').1,<- (hu4 _ (same p hp').2).2,<- (hu4 _ (same q hq').2).2];exact x)
 unfold sortedHeap at this;subst eu;rw[hf,kh (by simp)];exact km this
theorem Za5 {T:String}(c:Bool)(kp:SortKind->Prop){l:Addr}{vs:QJ}{Q:QE}(sr:∀(A:Around)(E:QE),A.units<cLine -> ∀(s':Shared)(kd:SortKind),kp kd->(∀p∈(pairsOf vs).toList,DS T s' p) -> ¬vs.toArray.size<2->wpS (model prog w) A E s' Zat (fun _ st'=>(arrOf st').toList.Perm (pairsOf vs).toList/\(c=true->Srt (ltW s') (arrOf st').toList)/\failedOf st'=none) (SortSt.mk' kd (vs.toArray.zip vs.toArray) #[] 7 none))
  (kn:∀(A:Around) E (s':Shared) (Q:SortKind->Shared->Prop),vs ≠ []->(∀v∈vs,∃a ks,v = .ref a/\J9 T s'.heap a ks)->(∀kd,kp kd->Q kd s')->wpAny (model prog w) A (keyKind' vs.toArray) Q E s')
  (hu:A.units+2<cLine) (hl:s.heap.IsList l vs.toArray) (hv:∀v∈vs,∃a ks,v = .ref a/\J9 T s.heap a ks) (hz:vs.length<=sizeLine)
  (h:∀(out:QY),out.toList.Perm vs->(∃h1:Heap,(∀a ks,J9 T s.heap a ks->J9 T h1 a ks)/\(c=true->ZfW h1 out.toList))->Q (.ref (s.heap.objs.size+1)) { s with heap:=sortedAll s.heap vs out }):
  wpAny (model prog w) A (call (.builtin "sorted") [.ref l]) Q E s:=by
 refine Nz kind_sorted plain_sorted entry_sorted (args_sorted1 _) ?_;unfold Builtin.«sorted»;refine ka (ME (a:=()) rfl (ka (collect_list hl (ka (Lb ?_ hz)) hz)));obtain⟨u,eu⟩:∃u:Heap,u=(s.heap.push (seqObj "list" #[] 0)).update s.heap.objs.size (Obj.mapSeq (· ++ vs.toArray)):=⟨_,rfl⟩;have zu:u.objs.size=s.heap.objs.size+1:=by rw[eu,Heap.size_update,size_push']
 have kp':∀b o,s.heap.get? b=some o->(u.push (seqObj "list" vs.toArray 0)).get? b=some o:=fun b o e=>ko _ (by rw[eu,Heap.get?_update_ne _ _ _ _ (Kk (Kc e))];exact ko _ e)
 have nw:(u.push (seqObj "list" vs.toArray 0)).get? (s.heap.objs.size+1)=some (seqObj "list" vs.toArray 0):=zu ▸ Km _ rfl;show wpAny _ _ _ _ _ { s with heap:=((s.heap.push (seqObj "list" #[] 0)).update s.heap.objs.size (Obj.mapSeq (· ++ vs.toArray))).push (seqObj "list" vs.toArray 0) };unfold sortedAll at h;rw[<- eu] at h ⊢;rw[zu];refine ka (KJ (K1 slot_list_sort ⟨_,nw,rfl⟩ entry_list_sort (ZcW c kp (sr _ _ (by exact hu)) (kn _ _) nw (fun v hv'=>?_) hz fun out a2 a3=>⟨_,rfl,km ⟨_,rfl,h out a2 ⟨_,fun a ks t=>t.kept fun o e=>kp' a o e,a3⟩⟩⟩) (args_list_sort _)));obtain⟨a,ks,e,t⟩:=hv v hv';refine⟨a,ks,e,?_,t.kept fun o e=>kp' a o e⟩;obtain⟨_,_,_,_,e',_⟩:=t;exact Kk (NH (Kc e'))
end
section
variable {prog:Program}{w:World}{A:Around}{E:QE}{s:Shared}{kd:SortKind}{D:Keyed->Prop}{lt:Keyed->Keyed->Bool}
theorem Zik {arr:QS}{n:Nat}(hn:arr.size=n)(h:Zbf lt arr 0 n):Srt lt arr.toList:=by
 refine NA.mpr fun i j hi hj hij=>?_;rw[K2] at hi hj;refine h i j _ _ (KN hij) (by lia) ?_ ?_<;>rw[L6,<- Ko]
 ·exact kU _
 ·exact kU _
theorem ZbB (C:Cmp prog w A E s kd D lt){st:SortSt}{Q:Unit->SortSt->Prop}(hD:∀x∈(arrOf st).toList,D x)(hk:kindOf st=kd)(hf:failedOf st=none)(hp:pendingOf st = #[])(h0:0<(arrOf st).size)(h64:(arrOf st).size<64)
  (h:∀st',(arrOf st').toList.Perm (arrOf st).toList->Srt lt (arrOf st').toList->failedOf st'=none->Q () st'):wpS (model prog w) A E s Zat Q st:=by
 obtain⟨n,en⟩:∃n,n=(arrOf st).size:=⟨_,rfl⟩;have mr:(sortPriv% PySem.Builtin.minRun) n n 0=n:=by
  cases n with
  | zero=>lia
  | succ f=>exact(minRun'_succ f (f+1) 0).trans (kj (by lia))
 have last:∀(m:Nat)(st':SortSt),Kp 0 n st st'->Zbf lt (arrOf st') 0 n->m=n ->
   ((none:Option Unit),0+m)=(none,n)/\(arrOf st').toList.Perm (arrOf st).toList/\Srt lt (arrOf st').toList/\failedOf st'=none/\((pendingOf st').push (0,m,0)).size<=1:=fun m st' k g e=>by
  subst e;refine⟨by rw[L6],k.perm,Zik (by rw[k.size,en]) g,k.fail.trans hf,?_⟩;rw[k.pend,hp];exact ki _
 refine kC (Xp ?_);refine kC (qO (K6 (a:=0) (b:=(arrOf st).size) (I:=fun x c st'=>(x=0/\c=(none,0)/\st'=st)∨(c=(none,n)/\(arrOf st').toList.Perm (arrOf st).toList/\Srt lt (arrOf st').toList/\failedOf st'=none/\(pendingOf st').size<=1))
  (Q:=fun c st'=>c.1=none/\(arrOf st').toList.Perm (arrOf st).toList/\Srt lt (arrOf st').toList/\failedOf st'=none/\(pendingOf st').size<=1) ?_ ?_ (.inl ⟨rfl,rfl,rfl⟩)) ?_)
 ·rw[<- en];rintro x c st1 _ hx (⟨rfl,rfl,rfl⟩ | ⟨rfl,z⟩)
  ·show wpS _ _ _ _ (if 0>=n then _ else _) _ _;rw[kh (by lia)];refine kC (Zb8 C (lo:=0) (n:=n-0) (by lia) (by lia) hD hk fun m st2 m1 m2 kp sm=>?_);show wpS _ _ _ _ (if m<(sortPriv% PySem.Builtin.minRun) n n 0 then _ else _) _ _;rw[mr];refine Zkp (fun c1=>?_) (fun c1=>?_)
   ·refine kC (Tx (qC ⟨rfl,?_⟩));have en':min (n-0) n=n:=by lia
    rw[en'];have z2:=kp.size;refine kC (ZaG C (lo:=0) (n:=n) (ok:=m) m1 (by lia) (by lia) (fun y hy=>hD y (kp.perm.mem_iff.mp hy)) (kp.kind.trans hk) sm fun st3 kp3 sm3=>?_);have k3:Kp 0 n st1 st3:=Kp.trans kp kp3;refine kC (Xp ?_);have hb:(pendingOf st3).back? = none:=by rw[k3.pend,hp];rfl
    show wpS _ _ _ _ (match (pendingOf st3).back? with | some (_,_,_)=>_ | _=>_) _ _;rw[hb];exact kC (qI (kG (Or.inr (last n st3 k3 sm3 rfl))))
   ·refine kC (Xp ?_);have hb:(pendingOf st2).back? = none:=by rw[kp.pend,hp];rfl
    show wpS _ _ _ _ (match (pendingOf st2).back? with | some (_,_,_)=>_ | _=>_) _ _;rw[hb];have e:m=n:=by lia
    exact kC (qI (kG (Or.inr (last m st2 kp (e ▸ sm) e))))
  ·show wpS _ _ _ _ (if n>=n then _ else _) _ _;rw[kj (ki _)];exact kG ⟨rfl,z⟩
 ·rintro c st1 (⟨e,_⟩ | ⟨rfl,z⟩)
  ·lia
  ·exact⟨rfl,z⟩
 ·rintro⟨c1,c2⟩ st1 ⟨hc,p1,p2,p3,p4⟩;dsimp only at hc;subst hc;refine kC (qO (K6 (a:=0) (b:=(arrOf st).size) (I:=fun _ c st'=>st'=st1/\c=(none,())) (Q:=fun c st'=>st'=st1/\c=(none,())) ?_ (fun _ _ z=>z) ⟨rfl,rfl⟩) ?_)
  ·rintro y c st4 _ _ ⟨rfl,rfl⟩;refine kC (Xp ?_);show wpS _ _ _ _ (if (pendingOf st4).size<=1 then _ else _) _ _;rw[kj p4];exact kG ⟨rfl,rfl⟩
  ·rintro c st4 ⟨rfl,rfl⟩;exact kG (h _ p1 p2 p3)
theorem Zgj {T:String}(kp:SortKind->Prop){D:Addr}{vs:QJ}{n:Nat}{P:PySem.Fin->Shared->Prop}(cm:∀s' kd,kp kd->Cmp prog w A E s' kd (DS T s') (ltW s'))
  (kn:∀(s':Shared)(Q:SortKind->Shared->Prop),vs ≠ []->(∀v∈vs,∃a ks,v = .ref a/\J9 T s'.heap a ks)->(∀kd,kp kd->Q kd s')->wpAny (model prog w) A (keyKind' vs.toArray) Q E s')
  (ho:s.heap.get? D=some (seqObj "list" vs.toArray n)) (hv:∀v∈vs,∃a ks,v = .ref a/\a≠D/\J9 T s.heap a ks) (hz:vs.length<=sizeLine) (h64:vs.length<64)
  (h:∀out:QY,out.toList.Perm vs->ZfW s.heap out.toList->P (.done (.ret .none)) { s with heap:=sortedHeap s.heap D vs out }):
  wpAny (model prog w) A (Builtin.«list.sort» ⟨[.ref D],[]⟩) P E s:=
 ZcW true kp (fun s' kd hk hd h2=>ZbB (cm s' kd hk) hd rfl rfl rfl (by
  have z:(arrOf (SortSt.mk' kd (vs.toArray.zip vs.toArray) #[] 7 none)).size=vs.length:=TF vs;have h2:¬vs.length<2:=h2;lia) (by
  have z:(arrOf (SortSt.mk' kd (vs.toArray.zip vs.toArray) #[] 7 none)).size=vs.length:=TF vs;lia) fun st' a1 a2 a3=>⟨a1,fun _=>a2,a3⟩) kn ho hv hz fun out p r=>h out p (r rfl)
theorem ZeX {T:String}(kp:SortKind->Prop){l:Addr}{vs:QJ}{Q:QE}(cm:∀A,A.units<cLine -> ∀E s' kd,kp kd->Cmp prog w A E s' kd (DS T s') (ltW s'))
  (kn:∀(A:Around) E (s':Shared) (Q:SortKind->Shared->Prop),vs ≠ []->(∀v∈vs,∃a ks,v = .ref a/\J9 T s'.heap a ks)->(∀kd,kp kd->Q kd s')->wpAny (model prog w) A (keyKind' vs.toArray) Q E s')
  (hu:A.units+2<cLine) (hl:s.heap.IsList l vs.toArray) (hv:∀v∈vs,∃a ks,v = .ref a/\J9 T s.heap a ks) (hz:vs.length<=sizeLine) (h64:vs.length<64)
  (h:∀(out:QY),out.toList.Perm vs->(∃h1:Heap,(∀a ks,J9 T s.heap a ks->J9 T h1 a ks)/\ZfW h1 out.toList)->Q (.ref (s.heap.objs.size+1)) { s with heap:=sortedAll s.heap vs out }):
  wpAny (model prog w) A (call (.builtin "sorted") [.ref l]) Q E s:=
 Za5 true kp (fun A E hu s' kd hk hd h2=>ZbB (cm A hu E s' kd hk) hd rfl rfl rfl (by
  have z:(arrOf (SortSt.mk' kd (vs.toArray.zip vs.toArray) #[] 7 none)).size=vs.length:=TF vs;have h2:¬vs.length<2:=h2;lia) (by
  have z:(arrOf (SortSt.mk' kd (vs.toArray.zip vs.toArray) #[] 7 none)).size=vs.length:=TF vs;lia) fun st' a1 a2 a3=>⟨a1,fun _=>a2,a3⟩) kn hu hl hv hz fun out p ⟨h1,k,r⟩=>h out p ⟨h1,k,r rfl⟩
end
section
variable {X:Cx}
inductive Zex(K:QF)(xs:QH)(H:Hp)(Q:VK):Prop|mk(p:Addr)(ys:QH)(ws:QA)(_:xs = [.ref p])(_:Zt K H p ys)(_:ZmD H ys ws)(_:ys.length<64)(_:∀(l:Addr)(zs:QH)(vs:QA),H l=none->zs.Perm ys->vs.Perm ws->ZmD H zs vs->ZfN vs->Q (.ref l) (upd H l (.lst zs)))
theorem Zdn (hu:X.A.units+64<cLine):Y6 X (.builtin "sorted") (Zex X.K):=by
 intro pins s σ H xs us Q I r h;obtain⟨p,ys,ws,rfl,hq,hw,h64,q⟩:=h;obtain⟨u,rfl,ru⟩:=r.one;cases ru;obtain⟨its,rv,pl,hz⟩:=I.list hq;have hlen:ys.length=its.length:=rv.length;refine ZeX Kd2 (fun A hu E s' kd hk=>Zic hk hu) (fun A E s' Q hn hv h=>Zgh hn hv h) (by lia) pl.isList (fun v hv=>?_) (by lia) (by lia) fun out a2 ⟨h1,k1,a3⟩=>?_
 ·obtain⟨y,hy,ry⟩:=Paired.mem1 (Paired.flip rv) v hv;obtain⟨ks,_,hk⟩:=Paired.mem1 hw y hy;obtain⟨a,e1,e2,e3⟩:=Zf6 I.hok hk ry;exact⟨a,ks,e1,e3⟩
 obtain⟨zs,vs,b1,b2,b3,b4,b5⟩:=Zfd (fun f r=>(Zf6 I.hok f r).imp fun _ z=>⟨z.1,z.2.2⟩) rv hw a2 k1 a3;obtain⟨e,he⟩:=sortedAll_at s.heap its out;have fr:H (s.heap.objs.size+1)=none:=I.hok.fresh (qR _);refine⟨.ref (s.heap.objs.size+1),_,I.laid (a:=s.heap.objs.size+1) (o:=.lst zs) (t':=s.toks) (fun b o q=>sortedAll_old q) (qR _) ⟨?_,out.toList,e,b1,?_⟩,rfl,q _ _ _ fr b3 b4 b2 b5⟩
 ·rw[b3.length_eq];lia
 ·simpa [seqObj] using he
theorem ZcC {K:QF}(h:X.K=K)(hu:X.A.units+64<cLine):Y6 X (.builtin "sorted") (Zex K):=h ▸ Zdn hu
end
section
variable {prog:Program}{w:World}{K:Type}[DecidableEq K](knd:KeyKind prog w K)
def ZaE (h:Heap)(x:List K×K)(a:Addr):Prop:=∃o n b v,h.get? a=some o/\o.cls = .type "tuple" /\ o.data = .seq #[.ref b,v] n/\IsTupleKey knd h x.1 b/\knd.is x.2 v=true
variable {knd}{A:Around}{E:QE}{s:Shared}
theorem ZaE.typeIs {x:List K×K}{a:Addr}(h:ZaE knd s.heap x a):s.TypeIs (.ref a) "tuple" := let ⟨o,_,_,_,ho,hc,_⟩:=h;⟨o,ho,hc⟩
theorem Zl8 {x:List K×K}{a:Addr}{Q:Int->Shared->Prop}(hu:A.units+1<cLine)(hk:ZaE knd s.heap x a)(h:Q (reduceHash (Builtin.Tuple.tupleHashOf [tupleKeyHash knd x.1,knd.hash x.2])) { s with toks:=s.toks+(x.1.length+3) }):
  wpAny (model prog w) A (pyHash (.ref a)) Q E s:=by
 have ty:=hk.typeIs;obtain⟨o,n,b,v,ho,_,hd,hb,hv⟩:=hk;unfold pyHash pyHashByItsType;refine ka (wpAny_cRoomFor_or (.inr (XT hu)) ?_);refine ka (Xk ty TH.lookup ?_);dsimp only;rw[kh (by rw[beq_builtin_none];exact k8)];refine ka (Xk ty TH.lookup ?_);refine ka (wpAny_callSpecialIfBoundUnlessNone?_slot ty TH (K1 TH ty F.entry_tuple_hash ?_ (F.args_tuple_hash_1 _)));show wpAny _ _ (Builtin.Tuple.tupleItemsOf (.ref a) >>= _) _ _ s;refine ka (Nt ho hd (ka ?_));rw[<- Nu];show wpAny _ _ (forIn [Value.ref b,v] #[] _) _ _ s;rw[qH];refine ka (ka (wpAny_pyHash_tuple (show A.in1.units<cLine from hu) hb (km ?_)));dsimp only;rw[qH];refine ka (ka (knd.pyHash hv (km ?_)));dsimp only;rw[Xt];refine km ?_;show wpAny _ _ (retInt (Builtin.Tuple.tupleHashOf [tupleKeyHash knd x.1,knd.hash x.2])) _ _ _;refine wpAny_ret_mkInt ?_;have et:s.toks+(x.1.length+1)+1+1=s.toks+(x.1.length+3):=by lia
 rw[<- et] at h;unfold reduceHash at h;generalize Builtin.Tuple.tupleHashOf [tupleKeyHash knd x.1,knd.hash x.2]=i at *;show wpAny _ _ (if (decide (-(2:Int) ^ 63<=i)&&decide (i<2 ^ 63))=true then _ else _) Q E _;split
 ·rename_i c
  rw[kj c] at h;exact km h
 ·rename_i c
  rw[kh c] at h;exact ka (qC (km h))
theorem ZgH {x y:List K×K}{a b:Addr}{P:PySem.Fin->Shared->Prop}(hu:A.units+1<cLine)(hx:ZaE knd s.heap x a)(hy:ZaE knd s.heap y b)(h:P (.done (.ret (.bool (decide (x=y))))) s):
  wpAny (model prog w) A (Builtin.«tuple.__eq__» ⟨[.ref a,.ref b],[]⟩) P E s:=by
 have ty:=hy.typeIs;obtain⟨o1,n1,b1,v1,ho1,_,hd1,hb1,hv1⟩:=hx;obtain⟨o2,n2,b2,v2,ho2,_,hd2,hb2,hv2⟩:=hy;show wpAny _ _ (isInstance (.ref b) (.type "tuple") >>= _) _ _ s;refine ka (Xw ty TM ?_);simp only[Lc,qe,Xf];refine ka (Nt ho1 hd1 (ka (Nt ho2 hd2 (ka ?_))));show wpAny _ _ (forIn [(Value.ref b1,Value.ref b2),(v1,v2)] _ _) _ _ s;rw[qH];refine ka (ka (wpAny_eqBool_tuple (XT hu) hb1 hb2 ?_));by_cases c:x.1=y.1
 ·rw[kM c];refine km ?_;dsimp only;rw[qH];refine ka (ka (knd.eqBool hv1 hv2 ?_));by_cases d:x.2=y.2
  ·rw[kM d];refine km ?_;dsimp only;rw[Xt];refine km (km ?_);rw[kM (NY c d)] at h;exact h
  ·rw[Ki d];rw[Ki fun z=>d (Ky Prod.snd z)] at h;exact ka (km (km (km (km h))))
 ·rw[Ki c];rw[Ki fun z=>c (Ky Prod.fst z)] at h;exact ka (km (km (km (km h))))
theorem ZaE.inj {h:Heap}{a:Addr}{x y:List K×K}(hx:ZaE knd h x a)(hy:ZaE knd h y a):x=y:=by
 obtain⟨o1,n1,b1,v1,ho1,_,hd1,hb1,hv1⟩:=hx;obtain⟨o2,n2,b2,v2,ho2,_,hd2,hb2,hv2⟩:=hy;obtain rfl:o1=o2:=Kb (ho1.symm.trans ho2);rw[hd1] at hd2;injection hd2 with e _
 have e:=Ky Array.toList e;injection e with e1 e2
 injection e1 with e1
 injection e2 with e2 _
 subst e1 e2;exact NY (hb1.inj hb2) (knd.inj _ _ _ hv1 hv2)
theorem ZoQ {x y:List K×K}{a b:Addr}{Q:Bool->Shared->Prop}(hu:A.units+2<cLine)(hx:ZaE knd s.heap x a)(hy:ZaE knd s.heap y b)(h:Q (decide (x=y)) s):wpAny (model prog w) A (eqBool (.ref a) (.ref b)) Q E s:=by
 unfold eqBool;refine KJ ?_;by_cases c:(Value.ref a==Value.ref b)=true
 ·have e:a=b:=by have:=eq_of_beq c;injection this
  subst e;cases hx.inj hy;rw[kM rfl] at h;rw[kj c];exact ka (qC (km h))
 ·rw[kh c];exact ka (wpAny_richCompare_same_room (op:=.Eq) hx.typeIs hy.typeIs Na (K1 Na hx.typeIs F.entry_tuple_eq (ZgH (show A.in1.units+1<cLine from hu) hx hy ⟨_,rfl,(fun e=>nomatch e),KS h⟩) (F.args_tuple_eq_2 _ _)) (by lia))
theorem ZcN {m:Nat}{vs:QJ}{Q:Option Bool×Unit->Shared->Prop}(hv:∀v∈vs,carriedByValue v=true)(h:Q (none,()) s):
  wpAny (model prog w) A (forIn vs ((none,()):Option Bool×Unit) fun y _=>do
   let q <- eqIsQuiet m y
   if (!q)=true then pure (ForInStep.done (some false,())) else pure (ForInStep.yield (none,()))) Q E s:=by
 induction vs with
 | nil=>rw[Xt];exact km h
 | cons v vs ih=>
  rw[qH,eqIsQuiet_byValue _ (hv v kQ)];exact ka (ka (km (km (ih fun u hu=>hv u (kS _ hu)))))
theorem ZiV {m:Nat}{ks:List K}{a:Addr}{Q:Bool->Shared->Prop}(hk:IsTupleKey knd s.heap ks a)(h:Q true s):wpAny (model prog w) A (eqIsQuiet (m+1) (.ref a)) Q E s:=by have ty:=hk.typeIs;obtain⟨o,items,n,ho,_,hd,hi⟩:=hk;unfold eqIsQuiet;refine ka (Xk ty Na.lookup ?_);show wpAny _ _ (isInstance (.ref a) (.type "tuple") >>= _) _ _ s;refine ka (Xw ty TM ?_);simp only[Lc,qe,Xf];refine ka (Xs ho hd (ka ?_));show wpAny _ _ (forIn items _ _) _ _ s;rw[<- Nu];exact ZcN hi.byValue (km h)
theorem Zjg {x:List K×K}{a:Addr}{Q:Bool->Shared->Prop}(hk:ZaE knd s.heap x a)(h:Q true s):wpAny (model prog w) A (eqIsQuiet 8 (.ref a)) Q E s:=by have ty:=hk.typeIs;obtain⟨o,n,b,v,ho,_,hd,hb,hv⟩:=hk;unfold eqIsQuiet;refine ka (Xk ty Na.lookup ?_);show wpAny _ _ (isInstance (.ref a) (.type "tuple") >>= _) _ _ s;refine ka (Xw ty TM ?_);simp only[Lc,qe,Xf];refine ka (Xs ho hd (ka ?_));show wpAny _ _ (forIn #[Value.ref b,v] _ _) _ _ s;rw[<- Nu,qH];refine ka (ka (ZiV (m:=6) hb (km ?_)));refine ZcN (fun u hu=>?_) (km h);rw[k7.mp hu];exact knd.byValue _ _ hv
theorem ZaE.keeps {h h':Heap}{k:List K×K}{a d:Addr}{o:Obj}{es ep} (x:ZaE knd h k a) (ho:h.get? d=some o) (hd:o.data = .dict es ep) (hs:Heap.SameBut d h h'):ZaE knd h' k a:=by
 obtain⟨o',n,b,v,ho',hc,hd',hb,hv⟩:=x;have hne:a≠d:=fun z=>by subst z;cases ho'.symm.trans ho;rw[hd] at hd';cases hd'
 exact⟨o',n,b,v,(hs.2 a hne).trans ho',hc,hd',hb.keeps ho hd hs,hv⟩
def GX (knd:KeyKind prog w K):HeapKind prog w (List K×K) where
 is:=ZaE knd
 hash:=fun x=>reduceHash (Builtin.Tuple.tupleHashOf [tupleKeyHash knd x.1,knd.hash x.2])
 draws:=fun x=>x.1.length+3
 room:=fun A=>A.units+2<cLine
 inj:=fun hx hy=>hx.inj hy
 keeps:=fun x ho hd hs=>x.keeps ho hd hs
 pyHash:=fun hu hk h=>Zl8 (XT hu) hk h
 eqBool:=fun hu hx hy h=>ZoQ hu hx hy h
 quiet:=fun hk h=>Zjg hk h
end
abbrev PEn:=(List Key×Key)×Addr×Addr
def toH (x:PEn):(List Key×Key)×Addr×Value:=(x.1,x.2.1,.ref x.2.2)
def DPo (P:Program)(w:World)(a:Addr)(xs:List PEn):HO:=.ext fun h=>xs.length<=sizeLine/\(a==sysModules)=false /\ ∃o es ep,h.get? a=some o/\o.ExactDict/\o.data = .dict es ep/\es.toList=(xs.map toH).map (entryOfKey (GX (ZI P w)))/\(xs.map (·.1)).Nodup
def UM (H:Hp)(k:List Key×Key)(a:Addr):Prop:=∃b,H a=some (.tup [.ref b,kV k.2])/\H b=some (.tup (k.1.map kV))
def UC (H:Hp)(xs:List PEn):Prop:=∀x∈xs,UM H x.1 x.2.1
theorem UM.mono {H H':Hp}(h:∀a ws,H a=some (.tup ws)->H' a=some (.tup ws)){k:List Key×Key}{a:Addr}:UM H k a->UM H' k a
 | ⟨b,h1,h2⟩=>⟨b,h _ _ h1,h _ _ h2⟩
theorem UC.mono {H H':Hp}(h:∀a ws,H a=some (.tup ws)->H' a=some (.tup ws)){xs:List PEn}(x:UC H xs):UC H' xs:=fun y hy=>(x y hy).mono h
def ZeK (xs:List PEn)(k:List Key×Key):Option Addr:=(xs.find? fun x=>decide (x.1=k)).map (·.2.2)
def Zg0 (xs:List PEn)(k:List Key×Key)(b v:Addr):List PEn:=if (ZeK xs k).isSome then xs.map (fun x=>if x.1=k then(x.1,x.2.1,v) else x) else xs ++ [(k,b,v)]
theorem ZbO (xs:List PEn)(k:List Key×Key):(atKey (xs.map toH) k).map (·.2)=(ZeK xs k).map Value.ref:=by
 unfold atKey ZeK;rw[List.find?_map];cases h:xs.find? ((fun x=>decide (x.1=k)) ∘ toH) with
 | none=>rw[show xs.find? (fun x=>decide (x.1=k))=none from h];rfl
 | some x=>rw[show xs.find? (fun x=>decide (x.1=k))=some x from h];rfl
theorem ZgR (xs:List PEn)(k:List Key×Key)(b v:Addr):storedH (xs.map toH) k b (.ref v)=(Zg0 xs k b v).map toH:=by
 have e:=ZbO xs k;unfold storedH Zg0;have e1:(atKey (xs.map toH) k).isSome=(ZeK xs k).isSome:=by have:=Ky Option.isSome e;simpa using this
 rw[e1];split
 ·rw[qh,qh];refine Tb fun x _=>?_;show putAt k (.ref v) (toH x)=toH (if x.1=k then(x.1,x.2.1,v) else x);unfold putAt;by_cases c:x.1=k
  ·rw[kj (show (toH x).1=k from c),kj c];rfl
  ·rw[kh (show ¬(toH x).1=k from c),kh c]
 ·rw[k6];rfl
theorem ZkC (xs:List PEn)(k:List Key×Key)(b v:Addr):(Zg0 xs k b v).length<=xs.length+1:=by unfold Zg0;split<;>simp
section
variable {P:Program}{w:World}{H:Hp}{h:Heap}{a:Addr}
theorem ZcP {k:List Key×Key}(ok:W7 P w H h)(e:UM H k a):ZaE (ZI P w) h k a:=by
 obtain⟨b,e1,e2⟩:=e;obtain⟨_,its,r,o,h1,h2,n,h3⟩:=(show ZR P w H h a (.tup [.ref b,kV k.2]) from ok a _ e1)
 match its,r with
 | [u,v],.cons r1 (.cons r2 .nil)=>
  cases (show u=Value.ref b from r1);exact⟨o,n,b,v,h1,h2,h3,Zak ok e2,Zb6 r2⟩
theorem ZfH {xs:List PEn}(ok:W7 P w H h)(e:Rd H a (DPo P w a xs))(ks:UC H xs):xs.length<=sizeLine/\(a==sysModules)=false/\h.DictOfH (GX (ZI P w)) a (xs.map toH):=by obtain⟨⟨z,y,o,es,ep,h1,h2,h3,h4,h5⟩,_⟩:=(show ZR P w H h a (DPo P w a xs) from ZkW ok e);refine⟨z,y,o,es,ep,h1,h2,h3,h4,fun x hx=>?_,by rw[qh];exact h5⟩;obtain⟨x',hx',rfl⟩:=Kq.mp hx;exact ZcP ok (ks x' hx')
theorem Zh3 {xs:List PEn}(z:xs.length<=sizeLine)(y:(a==sysModules)=false)(d:h.DictOfH (GX (ZI P w)) a (xs.map toH)):ZR P w H h a (DPo P w a xs):=by obtain⟨o,es,ep,h1,h2,h3,h4,_,h5⟩:=d;refine⟨⟨z,y,o,es,ep,h1,h2,h3,h4,by rw[qh] at h5;exact h5⟩,⟨o,h1⟩,fun g1 g2 ⟨z,y,o,es,ep,h1,r⟩ k=>⟨z,y,o,es,ep,k o h1,r⟩⟩
theorem ZeF {knd:KeyKind P w Key}{A:Around}(hu:A.units+3<cLine):(GX knd).room A.in1:=hu
end
def ZmN (P:Program)(w:World):TE:=fun _ H Q=>∀p,H p=none->Q (.ref p) (upd H p (DPo P w p []))
def Zka (P:Program)(w:World)(tk tv:TE):TE:=fun σ H Q=>∀p,H p=none->tk σ (upd H p (DPo P w p [])) fun x H1=>tv σ H1 fun y H2=>H2 p=some (DPo P w p []) /\ ∃k b v,x = .ref b/\y = .ref v/\UM H2 k b/\Q (.ref p) (upd H2 p (DPo P w p [(k,b,v)]))
def Zj4 (P:Program)(w:World)(td ty:TE):TE:=fun σ H Q=>td σ H fun x H1=>ty σ H1 fun y H2=>∃a xs k b v,x = .ref a/\Rd H2 a (DPo P w a xs)/\UC H2 xs/\y = .ref b/\UM H2 k b/\ZeK xs k=some v/\Q (.ref v) H2
def ZkS (P:Program)(w:World)(td ty tx:TE):TE:=fun σ H Q=>td σ H fun x H1=>∃a xs,x = .ref a/\Rd H1 a (DPo P w a xs)/\UC H1 xs/\ty σ H1 fun y H2=>tx σ H2 fun z H3=>∃xs k b v,Rd H3 a (DPo P w a xs)/\UC H3 xs/\y = .ref b/\UM H3 k b/\z = .ref v/\Q (.ref ((ZeK xs k).getD v)) H3
def ZmR (P:Program)(w:World):V->V->V->Hp->(Hp->Prop)->Prop:=fun o i v H Q=>∃a xs k b u,o = .ref a/\i = .ref b/\v = .ref u/\H a=some (DPo P w a xs)/\UC H xs/\UM H k b/\xs.length<sizeLine/\Q (upd H a (DPo P w a (Zg0 xs k b u)))
section
variable {X:Cx}{P:Program}{w:World}{pos:Pos}{o i e f k v:Expr}{td ty tx tk tv:TE}{apos cpos:Pos}
theorem Zmo (hP:X.prog=P)(hw:X.w=w):PE X (.Dict [] [] pos) (ZmN P w):=by
 subst hP hw;exact fun pins s σ H Q I h=>N6 ⟨.ref s.heap.objs.size,_,I.laid (a:=s.heap.objs.size) (o:=DPo X.prog X.w s.heap.objs.size []) (t':=s.toks) (fun _ _ q=>ko _ q) (ki _)
  (Zh3 (KP _) (qB.mpr (Kz (Kk I.big))) (Heap.DictOfH.new s.heap)),rfl,h _ (I.hok.fresh (ki _))⟩
theorem ZjR (hP:X.prog=P)(hw:X.w=w)(hu:X.A.units+3<cLine)(hk:PE X k tk)(hv:PE X v tv):PE X (.Dict [some k] [v] pos) (Zka P w tk tv):=by subst hP hw;intro pins s σ H Q I q;have hn:=I.hok.fresh (ki s.heap.objs.size);have I1:=I.laid (a:=s.heap.objs.size) (o:=DPo X.prog X.w s.heap.objs.size []) (h':=s.heap.push { cls:=.type "dict", data:=.dict #[] }) (t':=s.toks) (fun _ _ q=>ko _ q) (ki _) (Zh3 (KP _) (qB.mpr (Kz (Kk I.big))) (Heap.DictOfH.new s.heap));rw[arm_eval_Dict,zip_pairTrees [some k] [v] X.env pos rfl rfl,dictDisplay_pairs _ (by intro z;cases z) (by show 1<17;decide)];refine ka (Xc (ka ?_));unfold subDict;refine ka (wpAny_alloc ?_);refine ka (KJ ?_);rw[kj (show (pairTrees [some k] [v] X.env pos).length<=15 from(by show 1<=15;decide))];refine ka (Nb (Yz (hk pins _ σ _ _ I1 (q _ hn)) fun u s1 ⟨x,H1,I1',rx,q1⟩=>Yz (hv pins s1 σ H1 _ I1' q1) fun w2 s2 ⟨y,H2,I2,ry,e,ks,b,vv,ex,ey,eb,q2⟩=>Nn ?_));subst ex ey;cases (show u=Value.ref b from rx);cases (show w2=Value.ref vv from ry);obtain⟨z,hd,dd⟩:=ZfH I2.hok (.inl e) (fun x hx=>nomatch hx);refine KJ ?_;rw[qH];refine ka (ka (ka (wpAny_dictSet_heap (hsz:=by size_fits) (show (GX (ZI X.prog X.w)).room X.A from XT hu) (ZcP I2.hok eb) dd fun h' dd' hs=>km ?_)));dsimp only;rw[Xt];refine km (km (km (km ⟨.ref s.heap.objs.size,_,?_,rfl,q2⟩)));refine Zas I2 (by rw[e];exact True.intro) hs (let ⟨q,_,_,hq,_⟩:=dd';⟨q,hq⟩) (Zh3 sz1 hd dd')
theorem ZhE (hP:X.prog=P)(hw:X.w=w)(hu:X.A.units+3<cLine)(ho:PE X o td)(hi:PE X i ty)(hs:ZoS i):PE X (.Subscript o i pos) (Zj4 P w td ty):=by subst hP hw;intro pins s σ H Q I h;refine Zmf Ny.lookup hs (Yz (ho pins s σ H _ I h) fun u s1 ⟨x,H1,I1,rx,q1⟩=>Yz (hi pins s1 σ H1 _ I1 q1) fun iv s2 ⟨y,H2,I2,ry,a,xs,k,b,v,ex,ea,ks,ey,ek,ev,q2⟩=>?_);subst ex ey;cases (show u=Value.ref a from rx);cases (show iv=Value.ref b from ry);obtain⟨z,hd,dd⟩:=ZfH I2.hok ea ks;have e:=ZbO xs k;rw[ev] at e;obtain⟨p,hp,hp2⟩:=Ka.mp e;refine⟨dd.typeIs,wpAny_getItem_heap (ZeF hu) (ZcP I2.hok ek) dd hp ?_⟩;rw[hp2];exact⟨.ref v,H2,I2.tok _,rfl,q2⟩
theorem Zf4 (hP:X.prog=P)(hw:X.w=w)(hu:X.A.units+3<cLine)(ho:PE X o td)(he:PE X e ty)(hf:PE X f tx)(m:M2 X o "get" apos e f cpos):PE X (.Call (.Attribute o "get" apos) [e,f] [] cpos) (ZkS P w td ty tx):=by
 subst hP hw;intro pins s σ H Q I h;refine NI m.base m.few m.line qU qr TL (Yz (ho pins s σ H _ I h) fun u s1 ⟨x,H1,I1,rx,a,xs,ex,ea,ks,q1⟩=>?_);subst ex;cases (show u=Value.ref a from rx);obtain⟨z,hd,dd⟩:=ZfH I1.hok ea ks;refine⟨dd.typeIs,fun b q=>?_,?_⟩
 ·cases q;obtain⟨ob,_,_,h1,h2,_⟩:=dd;exact⟨ob,h1,h2.2.1⟩
 rw[m.trees];refine qM rfl (Xo (qP (Yz (he pins s1 σ H1 _ I1 q1) fun iv s2 ⟨y,H2,I2,ry,q2⟩=>
  qP (Yz (hf pins s2 σ H2 _ I2 q2) fun fv s3 ⟨z,H3,I3,rz,xs',k,b,v,ea',ks',ey,ek,ez,q3⟩=>XR ?_))))
 subst ey ez;cases (show iv=Value.ref b from ry);cases (show fv=Value.ref v from rz);obtain⟨z,hd,dd⟩:=ZfH I3.hok ea' ks';refine Nf qr dd.typeIs Xa (Ts _ _ _) (meetsH_dict_get_default (GX (ZI X.prog X.w)) a b hd (.ref v)) ⟨ZeF hu,k,_,ZcP I3.hok ek,dd,?_⟩;refine⟨_,H3,I3.tok _,?_,q3⟩;have e:=ZbO xs' k;show _=Value.ref _;cases hv:ZeK xs' k with
 | none=>
  rw[hv] at e;rw[show ((atKey (xs'.map toH) k).map (·.2))=none from e];rfl
 | some v'=>
  rw[hv] at e;rw[show ((atKey (xs'.map toH) k).map (·.2))=some (.ref v') from e];rfl
theorem Zjj (hP:X.prog=P)(hw:X.w=w)(hu:X.A.units+3<cLine):ZlK X (ZmR P w):=by
 subst hP hw;intro pins s σ H o i v ov iv u Q I ro ri rv ⟨a,xs,k,b,c,eo,ei,ev,ea,ks,ek,z,q⟩;subst eo ei ev;cases (show ov=Value.ref a from ro);cases (show iv=Value.ref b from ri);cases (show u=Value.ref c from rv);obtain⟨_,hd,dd⟩:=ZfH I.hok (.inl ea) ks;refine wpAny_setItem_heap (hsz:=by rw[ke];lia) (ZeF hu) (ZcP I.hok ek) dd fun h' dd' hs=>⟨_,Zas I (by rw[ea];exact True.intro) hs (let ⟨q,_,_,hq,_⟩:=dd';⟨q,hq⟩) (Zh3 ?_ hd ?_),q⟩
 ·have:=ZkC xs k b c;lia
 ·rw[<- ZgR];exact dd'
end
section
variable {X:Cx}{pins:QC}{σ:St}{H:Hp}{s:Shared}{d:Addr}{u:HO}{o:Obj}
def Loose (u:HO):Prop:=(∀xs,u ≠ .tup xs)/\(∀x,u ≠ .own x)/\(∀ob v,u ≠ .frz ob v) /\ ∀ps,u ≠ .tbl ps
theorem Inv.frozeU (I:Inv X pins σ H s)(e:H d=some u)(eo:s.heap.get? d=some o)(hu:Loose u):Inv X pins σ (upd H d (.frz o u)) s:=by
 obtain⟨n1,n2,n3,n4⟩:=hu;have nd:∀b v,H b=some v->v≠u->b≠d:=fun b v q n z=>n (by rw[z,e] at q;exact(Kb q).symm);have hok:W7 X.prog X.w (upd H d (.frz o u)) s.heap:=fun b v q=>by
  have st:∀{c:Addr}{v:HO},ZR X.prog X.w H s.heap c v->ZR X.prog X.w (upd H d (.frz o u)) s.heap c v:=fun x=>
   x.stay (fun _ _ _ q=>q) (fun c q=>by rw[Zh (nd c _ q (fun z=>n2 _ z.symm))];exact q) fun c xs q=>by rw[Zh (nd c _ q (fun z=>n1 _ z.symm))];exact q
  by_cases hb:b=d
  ·subst hb;rw[Zc] at q;cases q;exact⟨eo,st (I.hok b _ e)⟩
  ·rw[Zh hb] at q;exact st (I.hok b v q)
 exact I.step (h':=s.heap) (g':=s.gens) (d':=s.drawn) (t':=s.toks) (ch:=[]) (fun _ z=>nomatch z) (fun b o _ _ _ q _=>q) (fun b o _ _ _ q _=>⟨o.slots,q⟩)
  (fun b o _ _ n=>by rw[Zh (fun z=>by rw[z,e] at n;cases n)];exact n) (fun b o _ q=>⟨o,q⟩) (fun b xs q=>by rw[Zh (nd b _ q (fun z=>n1 _ z.symm))];exact q) (fun b o v q=>by rw[Zh (nd b _ q (fun z=>n3 _ _ z.symm))];exact q)
  (fun b ps q=>⟨#[],by rw[Zh (nd b _ q (fun z=>n4 _ z.symm)),q];simp⟩) (fun m hm=>hm) hok I.bare
end
def Kys (d:Addr)(o:Obj)(u:HO)(ks:QH):It:=
 ⟨fun i H=>H d=some (.frz o u)/\i<ks.length,fun i H v H'=>ks[i]? = some v/\H'=H,fun i H=>H d=some (.frz o u)/\ks.length<=i⟩
def ZlW (o:Obj)(ks:QH):Prop:=o.ExactDict /\ ∃es ep,o.data = .dict es ep/\es.size=ks.length /\ ∀(i:Nat)(e:DictEntry),es[i]? = some e -> ∃v,ks[i]? = some v/\RelV v e.key
theorem ZkB {P:Program}{w:World}{K:QF}{tg:Expr}(d it:Addr)(o:Obj)(u:HO)(ks:QH)(ents:Array DictEntry)(ep:Nat)(hx:o.ExactDict)(ho:o.data = .dict ents ep)(hz:ents.size=ks.length)
  (hk:∀(i:Nat)(e:DictEntry),ents[i]? = some e -> ∃v,ks[i]? = some v/\RelV v e.key) (hne:d≠it):Turn P w K tg (Kys d o u ks) [it] it (fun i h=>h.IsKeyIter it d i ents.size ep) where
 mem:=by simp
 obj:=fun i h st b hb=>by
  have z:b=it:=by simpa using hb
  subst z;obtain⟨ob,h1,h2,h3⟩:=st;exact⟨ob,h1,fun v z=>by rw[h3] at z;cases z⟩
 keep:=fun i h h' st k=>st.at fun o e=>k it (by simp) o e
 item:=by
  intro X hP hw hK hc i pins s σ H E I hf st hg;subst hP hw hK;obtain⟨hd,hi⟩:=hg;obtain⟨hod,_⟩:=(show ZR X.prog X.w H s.heap d (.frz o u) from I.hok d _ hd);obtain⟨e0,e1,e2,e3,e4,e5⟩:=hf it (by simp);refine ZkN st ⟨o,hod,hx,ho⟩ (fun e he h' hit' hs'=>?_) (fun z=>absurd hi (by lia));obtain⟨v,hv,rv⟩:=hk i e he;refine⟨_,rfl,?_⟩;obtain⟨ob,g1,g2,g3⟩:=id hit';refine ZfQ (s:={ s with heap:=h' }) g1 g2 g3 (by decide) ?_;have kk:∀b o,b≠it->s.heap.get? b=some o->h'.get? b=some o:=fun b o n q=>(hs'.2 b n).trans q;exact⟨v,H,I.turned (t':=s.toks) kk e0 e1 e3 e4 e5,rv,⟨hv,rfl⟩,hit',fun b hb=>by
   have z:b=it:=by simpa using hb
   subst z;exact e0⟩
 done:=by intro X hP hw hK hc i pins s σ H E I hf st hg;subst hP hw hK;obtain⟨hd,hi⟩:=hg;obtain⟨hod,_⟩:=(show ZR X.prog X.w H s.heap d (.frz o u) from I.hok d _ hd);obtain⟨f0,f1,f2,f3,f4,f5⟩:=hf it (by simp);exact ZkN st ⟨o,hod,hx,ho⟩ (fun e z=>by rw[XF (by lia)] at z;cases z) fun _=>⟨I.ok.hd hc,fun h' eb=>⟨rfl,I.turned (t':=s.toks) eb f0 f1 f3 f4 f5⟩⟩
 self:=fun _ _ _ _ _ st h=>wpAny_pyIter_keyiter st h
def ZmQ (P:Program)(w:World)(H:Hp)(d:Addr)(u:HO)(ks:QH):Prop:=H d=some u/\((∃kvs,u = .dK kvs/\ks=kvs.map fun p=>kV p.1) ∨ ∃xs,u=DPo P w d xs/\ks=xs.map fun x=>V.ref x.2.1)
inductive Zjm(P:Program)(w:World)(R:It->Hp->Prop)(x:V)(H1:Hp):Prop|mk(d u ks)(_:x = .ref d)(_:ZmQ P w H1 d u ks)(_:∀o,R (Kys d o u ks) (upd H1 d (.frz o u)))
def ZkK (P:Program)(w:World)(td:TE):TI:=fun σ H R=>td σ H fun x H1=>Zjm P w R x H1
theorem ZmT {P:Program}{w:World}{k:Key}{u:Value}(h:(ZI P w).is k u=true):RelV (kV k) u:=by
 rcases Yu h with⟨i,t,rfl,e⟩ | ⟨x,t,rfl,e⟩
 ·exact⟨t,e⟩
 ·exact⟨t,e⟩
theorem Zig {P:Program}{w:World}:∀{es:List DictEntry}{vs:List (Key×Value)}{kvs:QD},Pairs (ZI P w) es vs->KV kvs vs->es.length=kvs.length /\ ∀(i:Nat)(e:DictEntry),es[i]? = some e -> ∃v,(kvs.map fun p=>kV p.1)[i]? = some v/\RelV v e.key:=by
 intro es vs kvs h
 induction h generalizing kvs with
 | nil=>intro k;cases k;exact⟨rfl,fun i e he=>by simp at he⟩
 | @cons e kv es vs h1 h2 h3 ih=>
  intro k;cases k with
  | @cons p _ kvs' _ r t=>
   obtain⟨l,q⟩:=ih t;refine⟨Ky (· + 1) l,fun i e' he=>?_⟩;cases i with
   | zero=>
    simp at he;subst he;refine⟨kV p.1,by simp,?_⟩;rw[<- r.1] at h1;exact ZmT h1
   | succ i=>exact q i e' (by simpa using he)
theorem ZlT {P:Program}{w:World}{H:Hp}{h:Heap}{d:Addr}{u:HO}{ks:QH}(ok:W7 P w H h)(e:ZmQ P w H d u ks):∃o,h.get? d=some o/\ZlW o ks/\(d==sysModules)=false/\Loose u:=by
 obtain⟨e,⟨kvs,rfl,rfl⟩ | ⟨xs,rfl,rfl⟩⟩:=e
 ·obtain⟨z,hd,vs,rel,o,es,ep,h1,h2,h3,h4,h5,h6⟩:=Zh5 ok e;obtain⟨l,k⟩:=Zig h5 rel;refine⟨o,h1,⟨h2,es,ep,h3,by rw[ke,<- l];simp,fun i e he=>k i e (by rw[Ko];exact he)⟩,hd,(fun _ z=>nomatch z),(fun _ z=>nomatch z),(fun _ _ z=>nomatch z),fun _ z=>nomatch z⟩
 ·obtain⟨⟨z,hd,o,es,ep,h1,h2,h3,h4,h5⟩,_⟩:=(show ZR P w H h d (DPo P w d xs) from ok d _ e);have l:es.toList.length=xs.length:=by rw[h4];simp
  refine⟨o,h1,⟨h2,es,ep,h3,by rw[ke,<- l];simp,fun i e he=>?_⟩,hd,(fun _ z=>nomatch z),(fun _ z=>nomatch z),(fun _ _ z=>nomatch z),fun _ z=>nomatch z⟩;rw[<- Ko,h4,kE,kE] at he;obtain⟨y,hy,rfl⟩:=Ka.mp he;obtain⟨x,hx,rfl⟩:=Ka.mp hy;exact⟨.ref x.2.1,by rw[kE,hx];rfl,rfl⟩
section
variable {X:Cx}{P:Program}{w:World}
theorem Zhb {l tg:Expr}{td:TE}(hP:X.prog=P)(hw:X.w=w)(hl:PE X l td):PI X tg l (ZkK P w td):=by
 subst hP hw;intro pins s σ H R I h;refine Yz (hl pins s σ H _ I h) fun v s1 ⟨x,H1,I1,r1,d,u,ks,ex,hd,q1⟩=>?_;subst ex;cases (show v=Value.ref d from r1);obtain⟨o,h1,⟨hx,es,ep,ho,hz,hk⟩,hs,hu⟩:=ZlT I1.hok hd;have I2:Inv X pins σ (upd H1 d (.frz o u)) s1:=I1.frozeU hd.1 h1 hu;have dl:d<s1.heap.objs.size:=Kc h1;refine Zoc hs ⟨o,h1,hx,ho⟩ ?_;have I3:Inv X pins σ (upd H1 d (.frz o u)) { s1 with heap:=s1.heap.push { cls:=.type "dict_keyiterator", data:=.fields #[.ref d,.int 0 0,.int es.size 0,.int ep 0] } }:=I2.kept (t':=s1.toks) fun b o q=>ko _ q;refine⟨_,[s1.heap.objs.size],_,_,_,rfl,I3,ZkB d _ o u ks es ep hx ho hz hk (Kk dl),⟨_,Km _ rfl,rfl,rfl⟩,fun b hb=>?_,q1 o⟩;have z':b=s1.heap.objs.size:=by simpa using hb
 subst z';exact I2.fpOk (ki _) (I2.hok.fresh (ki _))
end
theorem Zfh {d:Addr}{o:Obj}{u:HO}{ks:QH}{g:TG}{tb:TS}{D:Ends}{σ:St}{H:Hp}(Pv:Nat->St->Hp->Prop)(h0:Pv 0 σ H)(hl:∀i σ H,i<=ks.length->Pv i σ H->H d=some (.frz o u))
  (hs:∀i k σ H,ks[i]? = some k->Pv i σ H->g k σ H fun σ2 H2=>tb { D with nx:=Pv (i+1),ct:=Pv (i+1),bk:=D.nx } σ2 H2) (hd:∀ σ H,Pv ks.length σ H->D.nx σ H):
  Zb7 (Kys d o u ks) g tb D σ H:=by
 refine⟨fun i m σ H=>m=ks.length-i/\i<=ks.length/\Pv i σ H,⟨ks.length,by simp,KP _,h0⟩,?_⟩;rintro i m σ H ⟨rfl,hi,p⟩;have q:=hl i σ H hi p;by_cases hlt:i<ks.length
 ·refine .inr ⟨⟨q,hlt⟩,Pv (i+1),fun σ' H' p'=>⟨ks.length-(i+1),by lia,rfl,hlt,p'⟩,fun x H' y=>?_⟩;obtain⟨e1,e2⟩:=y;subst e2;exact hs i x σ _ e1 p
 ·have e:i=ks.length:=by lia
  subst e;exact .inl ⟨⟨q,ki _⟩,hd σ H p⟩
theorem ZaU {A:Around}{k:Nat}(hr:Gv k A):A.units+3<cLine:=To (MW (by decide:3<=64) _) hr.units
theorem Inv.grown {X:Cx}{pins:QC}{σ:St}{H H':Hp}{s:Shared}{h':Heap}{t':Nat}(I:Inv X pins σ H s)(k:∀b u,s.heap.get? b=some u->h'.get? b=some u)(sm:Zi H H')(nw:∀b o,H b=none->H' b=some o->s.heap.objs.size<=b/\ZR X.prog X.w H' h' b o):
  Inv X pins σ H' { s with heap:=h',toks:=t' }:=by
 refine I.un ⟨fun b ob q _ _ _=>k b ob q,fun b ob q _ _ _=>⟨ob.slots,k b ob q⟩,fun b ob q n _=>?_,fun b ob q _=>⟨ob,k b ob q⟩,fun _ _ q=>sm _ _ q,fun _ _ _ q=>sm _ _ q,fun _ ps q=>⟨#[],by rw[sm _ _ q];simp⟩⟩ fun b o e=>?_
 ·cases hb:H' b with
  | none=>rfl
  | some o=>exact absurd (nw b o n hb).1 (Nat.not_le.mpr (Kc q))
 ·cases hb:H b with
  | none=>exact(nw b o hb e).2
  | some o'=>
   rw[sm _ _ hb] at e;cases e;exact(I.hok b o hb).stay (fun c u _ q=>k c u q) (fun c q=>sm _ _ q) fun c xs q=>sm _ _ q
def VwO (v d:Addr):HO:=.ext fun h=>h.IsItemsView v d
theorem ZnZ {P:Program}{w:World}{H:Hp}{h:Heap}{v d:Addr}(x:h.IsItemsView v d):ZR P w H h v (VwO v d):=
 ⟨x,let ⟨o,e,_⟩:=x;⟨o,e⟩,fun h1 h2 ⟨o,e,r⟩ k=>⟨o,k o e,r⟩⟩
def Zoh (td:TE):TE:=fun σ H Q=>td σ H fun x H1=>∃d kvs,x = .ref d/\Rd H1 d (.dK kvs) /\ ∀v,H1 v=none->Q (.ref v) (upd H1 v (VwO v d))
theorem Zkv {X:Cx}{o:Expr}{td:TE}{apos cpos:Pos}(ho:PE X o td)(hbase:attributeBase o "items" X.env (eval o X.env)=eval o X.env:=by rfl)(hline:(apos.endLine==cpos.line)=true:=by rfl):
  PE X (.Call (.Attribute o "items" apos) [] [] cpos) (Zoh td):=by
 intro pins s σ H Q I h;refine wpAny_Call_method0_late hbase hline (Yz (ho pins s σ H _ I h) fun v s1 ⟨x,H1,I1,r1,d,kvs,ex,hd,q1⟩=>?_);subst ex;cases (show v=Value.ref d from r1);obtain⟨z,y,vs,rel,ob,ents,ep,h1,h2,h3,h4,h5⟩:=Za6 I1.hok hd;have ty:s1.TypeIs (.ref d) "dict" := ⟨ob,h1,h2.1⟩;refine⟨"dict", "dict.items", qU,Mb,Mc,ty,fun b q=>?_,?_⟩
 ·cases q;exact⟨ob,h1,h2.2.1⟩
 refine qM rfl (MZ ?_);refine K1 F.slot_dict_items ty F.entry_dict_items ?_ (F.args_dict_items_1 _);unfold Builtin.«dict.items» Builtin.Dict.noArgs Builtin.Dict.showsAll
 wp_walk using XO ty,qb,Mu y
 rotate_left
 ·size_fits
 refine⟨_,rfl,?_⟩;refine⟨.ref s1.heap.objs.size,_,I1.laid (a:=s1.heap.objs.size) (o:=VwO s1.heap.objs.size d) (t':=s1.toks) (fun _ _ q=>ko _ q) (ki _) (ZnZ ⟨_,Km _ rfl,rfl,rfl⟩),rfl,q1 _ (I1.hok.fresh (ki _))⟩
theorem ZhM {α β:Type}{F:α -> β -> Prop}{x:α}{y:β}:∀{l:List α}{m:List β},Paired F l m->F x y->Paired F (l ++ [x]) (m ++ [y])
 | _,_,.nil,h=>.cons h .nil
 | _,_,.cons r t,h=>.cons r (ZhM t h)
theorem Zfs {α:Type}:∀{as:List Addr}{B:List α}{j:Nat}{a:Addr}{r:α},as.Pairwise (· < ·)->as[j]? = some a->B[j]? = some r->(as.zip B).find? (fun p=>decide (p.1=a))=some (a,r)
 | a0::as,r0::B,0,a,r,_,h1,h2=>by
  simp at h1 h2;subst h1 h2;rw[Lx,qw,kM rfl]
 | a0::as,r0::B,j+1,a,r,pw,h1,h2=>by
  rw[qu] at pw;have h1:as[j]? = some a:=by simpa using h1
  rw[Lx,qw,Ki (fun z=>qF _ (z ▸ pw.1 a (k9 h1)))];exact Zfs pw.2 h1 (by simpa using h2)
theorem Zph {kvs:QD}{vs:List (Key×Value)}(rel:KV kvs vs){j:Nat}{k:Key}{x:Value}(h:vs[j]? = some (k,x)):∃y,kvs[j]? = some (k,y)/\RelV y x:=by
 have:∀{kvs:QD}{vs:List (Key×Value)},KV kvs vs -> ∀{j:Nat},vs[j]? = some (k,x) -> ∃y,kvs[j]? = some (k,y)/\RelV y x:=by
  intro kvs vs rel
  induction rel with
  | nil=>intro j h;simp at h
  | cons r t ih=>
   intro j h;cases j with
   | zero=>
    simp at h;subst h;exact⟨_,by simp;exact NY r.1 rfl,r.2⟩
   | succ j=>
    obtain⟨y,h1,h2⟩:=ih (by simpa using h);exact⟨y,by simpa using h1,h2⟩
 exact this rel h
def ZnW:List V->Hp->VK->Prop:=fun xs H Q=>∃(v d:Addr)(B:QL),xs = [.ref v]/\H v=some (VwO v d)/\Rd H d (.dK (B.map fun r=>(Sum.inl r.1,V.int r.2)))/\B.length<64 /\
 ∀(l:Addr)(zs:QH)(vs:QA)(H2:Hp),Zi H H2->H2 l=none->vs.Perm (B.map fun r=>[r.1,r.2])->Words H2 zs vs->ZfN vs->Q (.ref l) (upd H2 l (.lst zs))
theorem ZeO {X:Cx}(hc:X.calm=true)(hu:X.A.units+64<cLine):Y6 X (.builtin "sorted") ZnW:=by
 intro pins s σ H xs us Q I r h;obtain⟨v,d,B,rfl,ev,ed,h64,q⟩:=h;obtain⟨u,rfl,ru⟩:=r.one;cases ru;have hv:s.heap.IsItemsView v d:=(show ZR X.prog X.w H s.heap v (VwO v d) from I.hok v _ ev).1;obtain⟨z,hd,vs,rel,ob,es,ep,h1,h2,h3,h4,h5,h6⟩:=Za6 I.hok ed;have lv:vs.length=B.length:=by rw[<- rel.length,ke]
 refine Nz kind_sorted plain_sorted entry_sorted (args_sorted1 _) ?_;unfold Builtin.«sorted»;refine ka (ME (a:=()) rfl (ka (PySem.W.kdx_collect (I.ok.hd hc) hv ⟨ob,es,h1,h2,h3,h4,h5,h6⟩ (by rw[lv,Kn];lia) fun h' tk as hk hl hG=>?_)));have lA:as.length=B.length:=hl.trans lv;obtain⟨H2,eH2⟩:∃H2:Hp,H2=fun b=>match (as.zip B).find? (fun p=>decide (p.1=b)) with | some p=>some (.tup [.int p.2.1,.int p.2.2]) | none=>H b:=⟨_,rfl⟩
 have old:∀b,b<s.heap.objs.size->H2 b=H b:=fun b hb=>by rw[eH2];dsimp only;rw[Ly.mpr fun p hp=>?_];have:=hG.above p.1 (Tf hp).1;intro z;rw[kO z] at this;exact absurd (Nat.lt_trans this hb) (qF _)
 have sm:Zi H H2:=fun b o e=>by rw[old b (I.hok b o e).lt];exact e
 have new:∀(j:Nat)(a:Addr),as[j]? = some a -> ∃r,B[j]? = some r/\H2 a=some (.tup [.int r.1,.int r.2])/\ZR X.prog X.w H2 h' a (.tup [.int r.1,.int r.2]):=fun j a ha=>by
  obtain⟨key,k,x,e1,e2,e3⟩:=hG.pairs j a ha;obtain⟨y,e4,e5⟩:=Zph rel e1;rw[kE] at e4;obtain⟨r,hr,e⟩:=Ka.mp e4;injection e with ek ey
  subst ek ey;refine⟨r,hr,?_,sz2,[key,x],.cons (ZmT e2) (.cons e5 .nil),_,e3,rfl,_,rfl⟩;rw[eH2];dsimp only;rw[Zfs hG.rise ha hr]
 have I1:Inv X pins σ H2 { s with heap:=h',toks:=tk }:=I.grown hk sm fun b o hb e=>by
  have:(as.zip B).find? (fun p=>decide (p.1=b))≠none:=fun z=>by rw[eH2] at e;dsimp only at e;rw[z,hb] at e;cases e
  obtain⟨p,hp⟩:=Option.ne_none_iff_exists'.mp this;have hb':p.1=b:=by have:=List.find?_some hp;simpa using this
  have hm:=(Tf (List.mem_of_find?_eq_some hp)).1;rw[hb'] at hm;obtain⟨j,hj⟩:=XQ.mp hm;obtain⟨r,_,e1,e2⟩:=new j b hj;rw[e] at e1;cases e1;exact⟨KN (hG.above b hm),e2⟩
 have hz:(as.map Value.ref).length<=sizeLine:=by rw[ke,lA,Kn];lia
 refine ka (Lb ?_ hz);have kp:∀b o,h'.get? b=some o->(h'.push (seqObj "list" (as.map Value.ref).toArray 0)).get? b=some o:=fun b o e=>ko _ e;have nw:(h'.push (seqObj "list" (as.map Value.ref).toArray 0)).get? h'.objs.size=some (seqObj "list" (as.map Value.ref).toArray 0):=Km _ rfl;have wd:Paired (Je H2) (as.map V.ref) (B.map fun r=>[r.1,r.2]):=by
  have go:∀(n:Nat),n<=as.length->Paired (Je H2) ((as.map V.ref).take n) ((B.map fun r=>[r.1,r.2]).take n):=by
   intro n
   induction n with
   | zero=>intro _;exact .nil
   | succ n ih=>
    intro hn;obtain⟨a,ha⟩:∃a,as[n]? = some a:=⟨_,kU (by lia)⟩;obtain⟨r,hr,e,_⟩:=new n a ha;rw[Ke,Ke,kE,kE,ha,hr];exact ZhM (ih (by lia)) ⟨a,rfl,e⟩
  have:=go as.length (ki _);rw[kK (by rw[ke];exact ki _),kK (by rw[ke,lA];exact ki _)] at this;exact this
 have rv:Vals (as.map V.ref) (as.map Value.ref):=by
  clear wd hz nw kp new hl hG lA eH2 old
  induction as with
  | nil=>exact .nil
  | cons a as ih=>exact .cons rfl ih
 have wv:∀{v:V}{u:Value}{ks:QG},Je H2 v ks->RelV v u -> ∃a,u = .ref a/\ZbN (h'.push (seqObj "list" (as.map Value.ref).toArray 0)) a ks:=fun f r=>by obtain⟨a,e1,_,e3⟩:=ZfO (I1.kept (t':=tk) kp).hok f r;exact⟨a,e1,e3⟩
 refine ka (KJ (K1 slot_list_sort ⟨_,nw,rfl⟩ entry_list_sort (Zgj Kd3 (fun s' kd hk=>Zd2 hk (by show X.A.units+2<cLine;lia)) (fun s' Q hn hv h=>Zcv hv h) nw (fun v hv'=>?_) hz (by rw[ke,lA];exact h64) fun out a2 a3=>⟨_,rfl,km ⟨_,rfl,?_⟩⟩) (args_list_sort _)))
 ·obtain⟨y,hy,ry⟩:=Paired.mem1 (Paired.flip rv) v hv';obtain⟨ks,_,hk'⟩:=Paired.mem1 wd y hy;obtain⟨a,e1,e3⟩:=wv hk' ry;refine⟨a,ks,e1,fun z=>?_,e3⟩;obtain⟨a',ea',_⟩:=hk';subst ea';cases (show v=Value.ref a' from ry);cases e1;have:a∈as:=by
   obtain⟨b,hb,e⟩:=Kq.mp hv';cases e;exact hb
  obtain⟨j,hj⟩:=XQ.mp this;obtain⟨_,_,_,_,_,e⟩:=hG.pairs j a hj;rw[z] at e;exact qF _ (Kc e)
 obtain⟨zs,ws,b1,b2,b3,b4,b5⟩:=Zfd (fun f r=>wv f r) rv wd a2 (fun _ _ t=>t) a3;obtain⟨e,he⟩:=sortedHeap_at (out:=out) nw;have fr:H2 h'.objs.size=none:=I1.hok.fresh (ki _);refine⟨.ref h'.objs.size,_,I1.laid (a:=h'.objs.size) (o:=.lst zs) (h':=sortedHeap (h'.push (seqObj "list" (as.map Value.ref).toArray 0)) h'.objs.size (as.map Value.ref) out) (t':=tk) (fun b o q=>?_) (ki _) ⟨?_,out.toList,e,b1,?_⟩,rfl,q _ _ _ _ sm fr b4 b2 b5⟩
 ·have hb:b<h'.objs.size:=Kc q;rw[sortedHeap_old (Kk hb) (by rw[size_push'];exact NH hb)];exact kp b o q
 ·rw[b3.length_eq,ke,lA,Kn];lia
 ·simpa [seqObj] using he
section
variable {prog:Program}{w:World}{A:Around}{E:QE}{s:Shared}{kd:SortKind}{D:Keyed->Prop}{lt:Keyed->Keyed->Bool}
theorem Zd8 {n:Nat}{st:SortSt}{Q:Option Nat->SortSt->Prop}{body:Nat->Option (Option Nat)×Nat×Nat->StateT SortSt Sem (ForInStep (Option (Option Nat)×Nat×Nat))}{rest:Option (Option Nat)×Nat×Nat->StateT SortSt Sem (Option Nat)}
  (hb1:∀x lo hi (R:ForInStep (Option (Option Nat)×Nat×Nat)->SortSt->Prop),lo>=hi->R (.done (none,lo,hi)) st->wpS (model prog w) A E s (body x (none,lo,hi)) R st)
  (hb2:∀x lo hi (R:ForInStep (Option (Option Nat)×Nat×Nat)->SortSt->Prop),lo<hi->hi<=n->(∀lo' hi',hi'<=n->R (.yield (none,lo',hi')) st)->wpS (model prog w) A E s (body x (none,lo,hi)) R st)
  (hr:∀lo hi,Q (some hi) st->wpS (model prog w) A E s (rest (none,lo,hi)) Q st) (h:∀k,k<=n->Q (some k) st) (lo hi:Nat) (h2:hi<=n):wpS (model prog w) A E s (forIn [:n] (none,lo,hi) body >>= rest) Q st:=by
 refine kC (qO (K6 (I:=fun _ c st'=>st'=st /\ ∃lo hi,c=(none,lo,hi)/\hi<=n) (Q:=fun c st'=>st'=st /\ ∃lo hi,c=(none,lo,hi)/\hi<=n) ?_ (fun _ _ z=>z) ⟨rfl,lo,hi,rfl,h2⟩) ?_)
 ·rintro x c st' _ _ ⟨rfl,lo,hi,rfl,g⟩;by_cases hge:lo>=hi
  ·exact hb1 x lo hi _ hge ⟨rfl,lo,hi,rfl,g⟩
  ·exact hb2 x lo hi _ (by lia) g fun lo' hi' g'=>⟨rfl,lo',hi',rfl,g'⟩
 ·rintro c st' ⟨rfl,lo,hi,rfl,g⟩;exact hr lo hi (h hi g)
theorem Gw (C:Cmp prog w A E s kd D lt){left:Bool}{key:Keyed}{arr:QS}{base n hint:Nat}{st:SortSt}{Q:Option Nat->SortSt->Prop}(hk:D key)(hx:∀i,i<n -> ∃x,arr[base+i]? = some x/\D x)(hh:hint<n)(hs:kindOf st=kd)
  (h:∀k,k<=n->Q (some k) st):wpS (model prog w) A E s (Zlj left key arr base n hint) Q st:=by
 refine kC (Zc1 C hk (hx hint hh) hs ?_);cases hr:byd lt left key arr base hint with
 | true=>
  dsimp only;rw[kj rfl];refine kC (qO (K6 (I:=fun _ c st'=>st'=st /\ ∃lo of,c=(none,lo,of)) (Q:=fun c st'=>st'=st /\ ∃lo of,c=(none,lo,of)) ?_ (fun _ _ z=>z) ⟨rfl,0,1,rfl⟩) ?_)
  ·rintro x c st' _ hxn ⟨rfl,lo,of,rfl⟩;dsimp only;by_cases hge:of>=n-hint
   ·rw[kj hge];exact kG ⟨rfl,lo,of,rfl⟩
   ·rw[kh hge];refine kC (Zc1 C hk (hx (hint+of) (by lia)) hs ?_);cases byd lt left key arr base (hint+of) with
    | true=>exact kG ⟨rfl,of,_,rfl⟩
    | false=>exact kG ⟨rfl,lo,of,rfl⟩
  ·rintro c st' ⟨rfl,lo,of,rfl⟩;dsimp only;refine Zd8 (fun x lo hi R hge hR=>?_) (fun x lo hi R hlt hn hR=>?_) (fun lo hi hq=>kG hq) h _ _ (by lia)
   ·dsimp only;rw[kj hge];exact kG hR
   ·dsimp only;rw[kh (by lia)];refine kC (Zc1 C hk (hx _ (by lia)) hs ?_);cases byd lt left key arr base (lo+(hi-lo) / 2) with
    | true=>exact kG (hR _ _ hn)
    | false=>exact kG (hR _ _ (by lia))
 | false=>
  dsimp only;rw[kh (by simp)];refine kC (qO (K6 (I:=fun _ c st'=>st'=st /\ ∃lo of,c=(none,lo,of)) (Q:=fun c st'=>st'=st /\ ∃lo of,c=(none,lo,of)) ?_ (fun _ _ z=>z) ⟨rfl,0,1,rfl⟩) ?_)
  ·rintro x c st' _ hxn ⟨rfl,lo,of,rfl⟩;dsimp only;by_cases hge:of>=hint+1
   ·rw[kj hge];exact kG ⟨rfl,lo,of,rfl⟩
   ·rw[kh hge];refine kC (Zc1 C hk (hx (hint-of) (by lia)) hs ?_);cases byd lt left key arr base (hint-of) with
    | true=>exact kG ⟨rfl,lo,of,rfl⟩
    | false=>exact kG ⟨rfl,of,_,rfl⟩
  ·rintro c st' ⟨rfl,lo,of,rfl⟩;dsimp only;refine Zd8 (fun x lo hi R hge hR=>?_) (fun x lo hi R hlt hn hR=>?_) (fun lo hi hq=>kG hq) h _ _ (by lia)
   ·dsimp only;rw[kj hge];exact kG hR
   ·dsimp only;rw[kh (by lia)];refine kC (Zc1 C hk (hx _ (by lia)) hs ?_);cases byd lt left key arr base (lo+(hi-lo) / 2) with
    | true=>exact kG (hR _ _ hn)
    | false=>exact kG (hR _ _ (by lia))
def Pm (a b out:QR)(ia ib:Nat):Prop:=out.Perm (a.take ia++b.take ib)
theorem Pm.takeA {a b out:QR}{ia ib:Nat}(g:Pm a b out ia ib){x:Keyed}(e:a[ia]? = some x):Pm a b (out ++ [x]) (ia+1) ib:=by unfold Pm at *;rw[Ke,e,kJ];refine(g.append_right [x]).trans ?_;rw[kJ];exact KD _ KG
theorem Pm.takeB {a b out:QR}{ia ib:Nat}(g:Pm a b out ia ib){x:Keyed}(e:b[ib]? = some x):Pm a b (out ++ [x]) ia (ib+1):=by unfold Pm at *;rw[Ke,e,<- kJ];exact g.append_right [x]
theorem Pm.takeAs {a b out:QR}{ia ib:Nat}(g:Pm a b out ia ib)(k:Nat):Pm a b (out++(a.drop ia).take k) (ia+k) ib:=by unfold Pm at *;rw[List.take_add,kJ];refine(g.append_right _).trans ?_;rw[kJ];exact KD _ KG
theorem Pm.takeBs {a b out:QR}{ia ib:Nat}(g:Pm a b out ia ib)(k:Nat):Pm a b (out++(b.drop ib).take k) ia (ib+k):=by unfold Pm at *;rw[List.take_add,<- kJ];exact g.append_right _
def Pmd (a b r:QR):Prop:=r.Perm (a++b)
theorem Pm.done {a b out:QR}{ia ib:Nat}(g:Pm a b out ia ib):Pmd a b (out++a.drop ia++b.drop ib):=by
 unfold Pm Pmd at *;refine((g.append_right _).append_right _).trans ?_;have e:a++b=(a.take ia++a.drop ia)++(b.take ib++b.drop ib):=by rw[Kt,Kt]
 rw[e];simp only[kJ];refine KD _ ?_;rw[<- kJ,<- kJ];exact qy _ KG
theorem Pm.lastA {a b out:QR}{ia ib:Nat}(g:Pm a b out ia ib):Pmd a b (out++b.drop ib++a.drop ia):=by refine List.Perm.trans ?_ g.done;rw[kJ,kJ];exact KD _ KG
theorem ZjW (C:Cmp prog w A E s kd D lt){a b:QS}{st:SortSt}{Q:Array Keyed->SortSt->Prop}(hda:∀x∈a.toList,D x)(hdb:∀x∈b.toList,D x)(hs:kindOf st=kd)
  (na:0<a.toList.length) (nb:0<b.toList.length)
  (h:∀r st',Pmd a.toList b.toList r.toList->Eqg st st'->Q r st'):wpS (model prog w) A E s (ZkZ a b) Q st:=by
 have za:a.size=a.toList.length:=by simp
 have zb:b.size=b.toList.length:=by simp
 have ea:∀i,i<a.toList.length -> ∃x,a[i]? = some x/\D x/\a.toList[i]? = some x:=fun i hi=>⟨a.toList[i],by rw[<- Ko];exact kU hi,hda _ (qp hi),kU hi⟩;have eb:∀i,i<b.toList.length -> ∃x,b[i]? = some x/\D x/\b.toList[i]? = some x:=fun i hi=>⟨b.toList[i],by rw[<- Ko];exact kU hi,hdb _ (qp hi),kU hi⟩;refine kC (Tx (qC ⟨rfl,?_⟩));obtain⟨b0,hb0,db0,lb0⟩:=eb 0 nb;obtain⟨a0,ha0,da0,la0⟩:=ea 0 na;refine kC (YF hb0 ?_);have g0:Pm a.toList b.toList [b0] 0 1:=by
  have g:Pm a.toList b.toList [] 0 0:=by unfold Pm;simp
  exact g.takeB lb0
 show wpS _ _ _ _ (if (1==b.size)=true then _ else if (0+1==a.size)=true then _ else _) _ _;by_cases c1:(1==b.size)=true
 ·rw[kj c1];refine kG (h _ st ?_ (Eqg.refl st));simp only[kZ,YV];exact g0.done
 rw[kh c1];by_cases c2:(0+1==a.size)=true
 ·rw[kj c2];refine kG (h _ st ?_ (Eqg.refl st));simp only[kZ,YV];exact g0.lastA
 rw[kh c2];have n1:1<b.toList.length:=by
  rcases Tz 1 b.toList.length with z | z
  ·exact z
  ·exact absurd (by rw[zb,show b.toList.length=1 by lia];rfl) c1
 have n2:1<a.toList.length:=by
  rcases Tz 1 a.toList.length with z | z
  ·exact z
  ·exact absurd (by rw[za,show a.toList.length=1 by lia];rfl) c2
 refine kC (Xp ?_);refine kC (qO (K6 (I:=fun x c st'=>∃(out:QS)(ia ib mg:Nat),c=(none,out,ia,ib,mg)/\Pm a.toList b.toList out.toList ia ib/\ia+1<a.toList.length/\ib<b.toList.length/\x<=ia+ib/\Eqg st st')
  (Q:=fun c st'=>∃r,c.1=some r/\Pmd a.toList b.toList r.toList/\Eqg st st') ?_ ?_ ⟨#[b0],0,1,_,rfl,g0,by lia,n1,by lia,Eqg.refl st⟩) ?_)
 ·rintro x c st1 _ hx ⟨out,ia,ib,mg,rfl,g,l1,l2,l3,q1⟩;refine kC (qO (K6 (I:=fun y c st'=>st'=st1 /\ ∃(out:QS)(ia ib ac bc:Nat),c=(none,out,ia,ib,ac,bc)/\Pm a.toList b.toList out.toList ia ib/\ia+1<a.toList.length/\ib<b.toList.length/\x+y<=ia+ib)
   (Q:=fun c st'=>st'=st1/\((∃(out:QS)(ia ib ac bc:Nat),c=(none,out,ia,ib,ac,bc)/\Pm a.toList b.toList out.toList ia ib/\ia+1<a.toList.length/\ib<b.toList.length/\x+1<=ia+ib) ∨ ∃r,c.1=some r/\Pmd a.toList b.toList r.toList)) ?_ ?_ ⟨rfl,out,ia,ib,0,0,rfl,g,l1,l2,l3⟩) ?_)
  ·rintro y c st' _ hy ⟨rfl,out,ia,ib,ac,bc,rfl,g,l1,l2,l3⟩;obtain⟨xb,hb,db,lb⟩:=eb ib l2;obtain⟨xa,ha,da,la⟩:=ea ia (by lia);refine kC (YF hb (kC (YF ha (kC (C.cmp xb xa _ _ db da (q1.1.trans hs) ?_)))));cases e:lt xb xa with
   | true=>
    refine kC (YF hb ?_);have g':=g.takeB lb;dsimp only;by_cases c3:(ib+1==b.size)=true
    ·rw[kj c3];refine kG ⟨rfl,.inr ⟨_,rfl,?_⟩⟩;simp only[kZ,kr,YV];exact g'.done
    ·rw[kh c3];have c4:ib+1<b.toList.length:=by
      rcases Tz (ib+1) b.toList.length with z | z
      ·exact z
      ·exact absurd (by rw[zb,show b.toList.length=ib+1 by lia];simp) c3
     split
     ·exact kG ⟨rfl,.inl ⟨_,_,_,_,_,rfl,by rw[kr];exact g',l1,c4,by lia⟩⟩
     ·exact kG ⟨rfl,_,_,_,_,_,rfl,by rw[kr];exact g',l1,c4,by lia⟩
   | false=>
    refine kC (YF ha ?_);have g':=g.takeA la;dsimp only;by_cases c3:(ia+1+1==a.size)=true
    ·rw[kj c3];refine kG ⟨rfl,.inr ⟨_,rfl,?_⟩⟩;simp only[kZ,kr,YV];have c5:ia+1+1=a.toList.length:=by rw[<- za];exact eq_of_beq c3
     exact g'.lastA
    ·rw[kh c3];have c4:ia+1+1<a.toList.length:=by
      rcases Tz (ia+1+1) a.toList.length with z | z
      ·exact z
      ·exact absurd (by rw[za,show a.toList.length=ia+1+1 by lia];simp) c3
     split
     ·exact kG ⟨rfl,.inl ⟨_,_,_,_,_,rfl,by rw[kr];exact g',c4,l2,by lia⟩⟩
     ·exact kG ⟨rfl,_,_,_,_,_,rfl,by rw[kr];exact g',c4,l2,by lia⟩
  ·rintro c st' ⟨rfl,out,ia,ib,ac,bc,rfl,g,l1,l2,l3⟩;lia
  ·rintro c st' ⟨rfl,⟨out,ia,ib,ac,bc,rfl,g,l1,l2,l3⟩ | ⟨r,hr,hm⟩⟩
   ·refine kC (Tx (qC ⟨rfl,?_⟩));refine kC (qO (K6 (I:=fun y c st'=>Eqg st st' /\ ∃(out:QS)(ia ib mg ac bc:Nat),c=(none,out,ia,ib,mg,ac,bc)/\Pm a.toList b.toList out.toList ia ib/\ia+1<a.toList.length/\ib<b.toList.length/\x+1+y<=ia+ib)
     (Q:=fun c st'=>Eqg st st'/\((∃(out:QS)(ia ib mg ac bc:Nat),c=(none,out,ia,ib,mg,ac,bc)/\Pm a.toList b.toList out.toList ia ib/\ia+1<a.toList.length/\ib<b.toList.length/\x+1<=ia+ib) ∨ ∃r,c.1=some r/\Pmd a.toList b.toList r.toList)) ?_ ?_ ⟨q1,out,ia,ib,_,ac,bc,rfl,g,l1,l2,l3⟩) ?_)
    ·rintro y c st2 _ hy ⟨q2,out,ia,ib,mg,ac,bc,rfl,g,l1,l2,l3⟩;obtain⟨xb,hb,db,lb⟩:=eb ib l2;refine Wl (k:=mg) (n:=1) (fun _=>?_) (fun _=>?_)
     all_goals (
      refine kC (qI ?_);refine kC (YF hb ?_);refine kC (Gw (base:=ia) (n:=a.size-ia) (hint:=0) C db (fun i hi=>let ⟨x,h1,h2,_⟩:=ea (ia+i) (by lia);⟨x,h1,h2⟩) (by lia) (q2.1.trans hs) fun k hk=>?_);have gk:=g.takeAs k;refine Wl (k:=k) (n:=0) (fun k0=>?_) (fun k0=>?_)
      ·refine ZV (c:=(ia+k+1==a.size)) (fun c3=>?_) (fun c3=>ZV (c:=(ia+k==a.size)) (fun c4=>?_) (fun c4=>?_))
       ·refine kG ⟨q2,.inr ⟨_,rfl,?_⟩⟩;have c3':ia+k+1=a.toList.length:=by rw[<- za];exact eq_of_beq c3
        have:=gk.lastA;simp only[kZ,kr,YV,Wd] at this ⊢;exact this
       ·refine kG ⟨q2,.inr ⟨_,rfl,?_⟩⟩;have:=gk.done;simp only[kZ,kr,YV,Wd] at this ⊢;exact this
       ·have c3':=Yo c3;have c4':=Yo c4;have g1:Pm a.toList b.toList (out++a.extract ia (ia+k)).toList (ia+k) ib:=by
         simp only[kZ,kr,YV,Wd] at gk ⊢;exact gk
        refine kC (YF hb ?_);have g2:=g1.takeB lb;refine ZV (c:=(ib+1==b.size)) (fun c5=>?_) (fun c5=>?_)
        ·refine kG ⟨q2,.inr ⟨_,rfl,?_⟩⟩;have:=g2.done;simp only[kZ,kr,YV,Wd] at this ⊢;exact this
        ·have c6:=Yo c5;obtain⟨xa,ha,da,la⟩:=ea (ia+k) (by lia);refine kC (YF ha ?_);refine kC (Gw (left:=true) (base:=ib+1) (n:=b.size-(ib+1)) (hint:=0) C da (fun i hi=>let ⟨x,h1,h2,_⟩:=eb (ib+1+i) (by lia);⟨x,h1,h2⟩) (by lia) (q2.1.trans hs) fun k' hk'=>?_);have gk':=g2.takeBs k';refine Wl (k:=k') (n:=0) (fun k0'=>?_) (fun k0'=>?_)
         ·refine ZV (c:=(ib+1+k'==b.size)) (fun c9=>?_) (fun c9=>?_)
          ·refine kG ⟨q2,.inr ⟨_,rfl,?_⟩⟩;have:=gk'.done;simp only[kZ,kr,YV,Wd] at this ⊢;exact this
          ·have c9':=Yo c9;have g3:Pm a.toList b.toList (((out++a.extract ia (ia+k)).push xb)++b.extract (ib+1) (ib+1+k')).toList (ia+k) (ib+1+k'):=by
            simp only[kZ,kr,YV,Wd] at gk' ⊢;exact gk'
           refine kC (YF ha ?_);have g4:=g3.takeA la;refine ZV (c:=((ia+k)+1+1==a.size)) (fun c7=>?_) (fun c7=>?_)
           ·refine kG ⟨q2,.inr ⟨_,rfl,?_⟩⟩;have c8:(ia+k)+1+1=a.toList.length:=by rw[<- za];exact eq_of_beq c7
            have:=g4.lastA;simp only[kZ,kr,YV,Wd] at this ⊢;exact this
           ·have c8:=Yo c7;refine ZV (fun _=>?_) (fun _=>?_)
            ·exact kG ⟨q2,.inl ⟨(((out++a.extract ia (ia+k)).push xb)++b.extract (ib+1) (ib+1+k')).push xa,(ia+k)+1,(ib+1+k'),_,_,_,rfl,by rw[kr];exact g4,by lia,by lia,by lia⟩⟩
            ·exact kG ⟨q2,(((out++a.extract ia (ia+k)).push xb)++b.extract (ib+1) (ib+1+k')).push xa,(ia+k)+1,(ib+1+k'),_,_,_,rfl,by rw[kr];exact g4,by lia,by lia,by lia⟩
         ·obtain rfl:k'=0:=by lia
          have g3:Pm a.toList b.toList ((out++a.extract ia (ia+k)).push xb).toList (ia+k) (ib+1):=by rw[kr];exact g2
          refine kC (YF ha ?_);have g4:=g3.takeA la;refine ZV (c:=((ia+k)+1+1==a.size)) (fun c7=>?_) (fun c7=>?_)
          ·refine kG ⟨q2,.inr ⟨_,rfl,?_⟩⟩;have c8:(ia+k)+1+1=a.toList.length:=by rw[<- za];exact eq_of_beq c7
           have:=g4.lastA;simp only[kZ,kr,YV,Wd] at this ⊢;exact this
          ·have c8:=Yo c7;refine ZV (fun _=>?_) (fun _=>?_)
           ·exact kG ⟨q2,.inl ⟨((out++a.extract ia (ia+k)).push xb).push xa,(ia+k)+1,(ib+1),_,_,_,rfl,by rw[kr];exact g4,by lia,by lia,by lia⟩⟩
           ·exact kG ⟨q2,((out++a.extract ia (ia+k)).push xb).push xa,(ia+k)+1,(ib+1),_,_,_,rfl,by rw[kr];exact g4,by lia,by lia,by lia⟩
      ·obtain rfl:k=0:=by lia
       have g1:=g;refine kC (YF hb ?_);have g2:=g1.takeB lb;refine ZV (c:=(ib+1==b.size)) (fun c5=>?_) (fun c5=>?_)
       ·refine kG ⟨q2,.inr ⟨_,rfl,?_⟩⟩;have:=g2.done;simp only[kZ,kr,YV,Wd] at this ⊢;exact this
       ·have c6:=Yo c5;obtain⟨xa,ha,da,la⟩:=ea (ia) (by lia);refine kC (YF ha ?_);refine kC (Gw (left:=true) (base:=ib+1) (n:=b.size-(ib+1)) (hint:=0) C da (fun i hi=>let ⟨x,h1,h2,_⟩:=eb (ib+1+i) (by lia);⟨x,h1,h2⟩) (by lia) (q2.1.trans hs) fun k' hk'=>?_);have gk':=g2.takeBs k';refine Wl (k:=k') (n:=0) (fun k0'=>?_) (fun k0'=>?_)
        ·refine ZV (c:=(ib+1+k'==b.size)) (fun c9=>?_) (fun c9=>?_)
         ·refine kG ⟨q2,.inr ⟨_,rfl,?_⟩⟩;have:=gk'.done;simp only[kZ,kr,YV,Wd] at this ⊢;exact this
         ·have c9':=Yo c9;have g3:Pm a.toList b.toList ((out.push xb)++b.extract (ib+1) (ib+1+k')).toList (ia) (ib+1+k'):=by
           simp only[kZ,kr,YV,Wd] at gk' ⊢;exact gk'
          refine kC (YF ha ?_);have g4:=g3.takeA la;refine ZV (c:=((ia)+1+1==a.size)) (fun c7=>?_) (fun c7=>?_)
          ·refine kG ⟨q2,.inr ⟨_,rfl,?_⟩⟩;have c8:(ia)+1+1=a.toList.length:=by rw[<- za];exact eq_of_beq c7
           have:=g4.lastA;simp only[kZ,kr,YV,Wd] at this ⊢;exact this
          ·have c8:=Yo c7;refine ZV (fun _=>?_) (fun _=>?_)
           ·exact kG ⟨q2,.inl ⟨((out.push xb)++b.extract (ib+1) (ib+1+k')).push xa,(ia)+1,(ib+1+k'),_,_,_,rfl,by rw[kr];exact g4,by lia,by lia,by lia⟩⟩
           ·exact kG ⟨q2,((out.push xb)++b.extract (ib+1) (ib+1+k')).push xa,(ia)+1,(ib+1+k'),_,_,_,rfl,by rw[kr];exact g4,by lia,by lia,by lia⟩
        ·obtain rfl:k'=0:=by lia
         have g3:Pm a.toList b.toList (out.push xb).toList (ia) (ib+1):=by rw[kr];exact g2
         refine kC (YF ha ?_);have g4:=g3.takeA la;refine ZV (c:=((ia)+1+1==a.size)) (fun c7=>?_) (fun c7=>?_)
         ·refine kG ⟨q2,.inr ⟨_,rfl,?_⟩⟩;have c8:(ia)+1+1=a.toList.length:=by rw[<- za];exact eq_of_beq c7
          have:=g4.lastA;simp only[kZ,kr,YV,Wd] at this ⊢;exact this
         ·have c8:=Yo c7;refine ZV (fun _=>?_) (fun _=>?_)
          ·exact kG ⟨q2,.inl ⟨(out.push xb).push xa,(ia)+1,(ib+1),_,_,_,rfl,by rw[kr];exact g4,by lia,by lia,by lia⟩⟩
          ·exact kG ⟨q2,(out.push xb).push xa,(ia)+1,(ib+1),_,_,_,rfl,by rw[kr];exact g4,by lia,by lia,by lia⟩)
    ·rintro c st' ⟨q2,out,ia,ib,mg,ac,bc,rfl,g,l1,l2,l3⟩;lia
    ·rintro c st' ⟨q2,⟨out,ia,ib,mg,ac,bc,rfl,g,l1,l2,l3⟩ | ⟨r,hr,hm⟩⟩
     ·exact kC (qI (kG ⟨_,_,_,_,rfl,g,l1,l2,l3,q2⟩))
     ·obtain⟨c1,c2⟩:=c;dsimp only at hr;subst hr;exact kG ⟨r,rfl,hm,q2⟩
   ·obtain⟨c1,c2⟩:=c;dsimp only at hr;subst hr;exact kG ⟨r,rfl,hm,q1⟩
 ·rintro c st' ⟨out,ia,ib,mg,rfl,g,l1,l2,l3,q1⟩;lia
 ·rintro c st' ⟨r,hr,hm,q1⟩;obtain⟨c1,c2⟩:=c;dsimp only at hr;subst hr;exact kG (h r st' hm q1)
def Ph (a b out:QR)(na nb:Nat):Prop:=out.Perm (a.drop na++b.drop nb)
theorem drop_one {a:QR}{n:Nat}{x:Keyed}(h:0<n)(e:a[n-1]? = some x):a.drop (n-1)=x::a.drop n:=by obtain⟨hl,rfl⟩:=kI.mp e;rw[KZ hl,show n-1+1=n by lia]
theorem Zed {a:QR}{m n:Nat}(h:m<=n):a.drop m=(a.drop m).take (n-m)++a.drop n:=by rw[show a.drop n=(a.drop m).drop (n-m) by rw[List.drop_drop];congr 1;lia,Kt]
theorem Ph.takeAs {a b out:QR}{na nb:Nat}(g:Ph a b out na nb){m:Nat}(h:m<=na)(_:m<=na):Ph a b (out++((a.drop m).take (na-m)).reverse) m nb:=by
 unfold Ph at *;have e:a.drop m++b.drop nb=(a.drop m).take (na-m)++(a.drop na++b.drop nb):=by rw[<- kJ,<- Zed h]
 rw[e];exact KG.trans (((NJ _).append g))
theorem Ph.takeBs {a b out:QR}{na nb:Nat}(g:Ph a b out na nb){m:Nat}(h:m<=nb)(_:m<=nb):Ph a b (out++((b.drop m).take (nb-m)).reverse) na m:=by
 unfold Ph at *;have e:a.drop na++b.drop m=a.drop na++((b.drop m).take (nb-m)++b.drop nb):=by rw[<- Zed h]
 rw[e];refine KG.trans (((NJ _).append g).trans ?_);rw[<- kJ,<- kJ];exact qy _ KG
theorem Ph.takeA {a b out:QR}{na nb:Nat}(g:Ph a b out na nb)(h:0<na){x:Keyed}(e:a[na-1]? = some x):Ph a b (out ++ [x]) (na-1) nb:=by unfold Ph at *;rw[drop_one h e];exact KG.trans (g.cons x)
theorem Ph.takeB {a b out:QR}{na nb:Nat}(g:Ph a b out na nb)(h:0<nb){x:Keyed}(e:b[nb-1]? = some x):Ph a b (out ++ [x]) na (nb-1):=by unfold Ph at *;rw[drop_one h e];exact KG.trans ((g.cons x).trans List.perm_middle.symm)
theorem Ph.done {a b out:QR}{na nb:Nat}(g:Ph a b out na nb):Pmd a b (a.take na++b.take nb++out.reverse):=by
 unfold Ph Pmd at *;refine(KD _ ((NJ out).trans g)).trans ?_;have e:a++b=(a.take na++a.drop na)++(b.take nb++b.drop nb):=by rw[Kt,Kt]
 rw[e];simp only[kJ];refine KD _ ?_;rw[<- kJ,<- kJ];exact qy _ KG
theorem Ph.firstB {a b out:QR}{na nb:Nat}(g:Ph a b out na nb):Pmd a b (b.take nb++a.take na++out.reverse):=
 List.Perm.trans (qy _ KG) g.done
theorem ZM {l:QS}{m n:Nat}:(l.extract m n).toList=(l.toList.drop m).take (n-m):=by rw[XY,Xh]
theorem Jm {l:QS}{n:Nat}:(l.extract 0 n).toList=l.toList.take n:=by rw[XY,Xh];simp
theorem ZjP (C:Cmp prog w A E s kd D lt){a b:QS}{st:SortSt}{Q:Array Keyed->SortSt->Prop}(hda:∀x∈a.toList,D x)(hdb:∀x∈b.toList,D x)(hs:kindOf st=kd)
  (na0:0<a.toList.length) (nb0:0<b.toList.length)
  (h:∀r st',Pmd a.toList b.toList r.toList->Eqg st st'->Q r st'):wpS (model prog w) A E s (Zld a b) Q st:=by
 have za:a.size=a.toList.length:=by simp
 have zb:b.size=b.toList.length:=by simp
 have ea:∀i,i<a.toList.length -> ∃x,a[i]? = some x/\D x/\a.toList[i]? = some x:=fun i hi=>⟨a.toList[i],by rw[<- Ko];exact kU hi,hda _ (qp hi),kU hi⟩;have eb:∀i,i<b.toList.length -> ∃x,b[i]? = some x/\D x/\b.toList[i]? = some x:=fun i hi=>⟨b.toList[i],by rw[<- Ko];exact kU hi,hdb _ (qp hi),kU hi⟩;refine kC (Tx (qC ⟨rfl,?_⟩));obtain⟨x0,hx0,dx0,lx0⟩:=ea (a.size-1) (by lia);refine kC (YF hx0 ?_);have g0:Ph a.toList b.toList [x0] (a.size-1) b.size:=by
  have g:Ph a.toList b.toList [] a.toList.length b.toList.length:=by unfold Ph;simp
  have  := g.takeA na0 (by rw[<- za];exact lx0);rw[za,zb];exact this
 show wpS _ _ _ _ (if (a.size-1==0)=true then _ else if (b.size==1)=true then _ else _) _ _;refine ZV (fun c1=>?_) (fun c1=>ZV (fun c2=>?_) (fun c2=>?_))
 ·refine kG (h _ st ?_ (Eqg.refl st));have  := g0.done;simp only[kZ,Kw,Jm] at this ⊢;exact this
 ·refine kG (h _ st ?_ (Eqg.refl st));have  := g0.firstB;simp only[kZ,Kw,Jm] at this ⊢;exact this
 have c1':=Yo c1;have c2':=Yo c2;refine kC (Xp ?_);refine kC (qO (K6 (I:=fun x c st'=>∃(out:QS)(na nb mg:Nat),c=(none,na,nb,out,mg)/\Ph a.toList b.toList out.toList na nb/\0<na/\na<=a.toList.length/\1<nb/\nb<=b.toList.length/\x+na+nb<=a.size+b.size/\Eqg st st')
  (Q:=fun c st'=>∃r,c.1=some r/\Pmd a.toList b.toList r.toList/\Eqg st st') ?_ ?_ ⟨#[x0],a.size-1,b.size,_,rfl,g0,by lia,by lia,by lia,by lia,by lia,Eqg.refl st⟩) ?_)
 ·rintro x c st1 _ hx ⟨out,na,nb,mg,rfl,g,l1,l1',l2,l2',l3,q1⟩;refine kC (qO (K6 (I:=fun y c st'=>st'=st1 /\ ∃(out:QS)(na nb ac bc:Nat),c=(none,na,nb,out,ac,bc)/\Ph a.toList b.toList out.toList na nb/\0<na/\na<=a.toList.length/\1<nb/\nb<=b.toList.length/\x+y+na+nb<=a.size+b.size)
   (Q:=fun c st'=>st'=st1/\((∃(out:QS)(na nb ac bc:Nat),c=(none,na,nb,out,ac,bc)/\Ph a.toList b.toList out.toList na nb/\0<na/\na<=a.toList.length/\1<nb/\nb<=b.toList.length/\x+1+na+nb<=a.size+b.size) ∨ ∃r,c.1=some r/\Pmd a.toList b.toList r.toList)) ?_ ?_ ⟨rfl,out,na,nb,0,0,rfl,g,l1,l1',l2,l2',l3⟩) ?_)
  ·rintro y c st' _ hy ⟨rfl,out,na,nb,ac,bc,rfl,g,l1,l1',l2,l2',l3⟩;obtain⟨xb,hb,db,lb⟩:=eb (nb-1) (by lia);obtain⟨xa,ha,da,la⟩:=ea (na-1) (by lia);refine kC (YF hb (kC (YF ha (kC (C.cmp xb xa _ _ db da (q1.1.trans hs) ?_)))));cases e:lt xb xa with
   | true=>
    refine kC (YF ha ?_);have g':=g.takeA (by lia) la;refine ZV (c:=(na-1==0)) (fun c3=>?_) (fun c3=>?_)
    ·refine kG ⟨rfl,.inr ⟨_,rfl,?_⟩⟩;have  := g'.done;simp only[kZ,kr,Kw,Jm,ZM] at this ⊢;exact this
    ·have c4:=Yo c3;dsimp only;split
     ·exact kG ⟨rfl,.inl ⟨out.push xa,na-1,nb,_,_,rfl,by rw[kr];exact g',by lia,by lia,l2,l2',by lia⟩⟩
     ·exact kG ⟨rfl,out.push xa,na-1,nb,_,_,rfl,by rw[kr];exact g',by lia,by lia,l2,l2',by lia⟩
   | false=>
    refine kC (YF hb ?_);have g':=g.takeB (by lia) lb;refine ZV (c:=(nb-1==1)) (fun c3=>?_) (fun c3=>?_)
    ·refine kG ⟨rfl,.inr ⟨_,rfl,?_⟩⟩;have  := g'.firstB;simp only[kZ,kr,Kw,Jm,ZM] at this ⊢;exact this
    ·have c4:=Yo c3;dsimp only;split
     ·exact kG ⟨rfl,.inl ⟨out.push xb,na,nb-1,_,_,rfl,by rw[kr];exact g',l1,l1',by lia,by lia,by lia⟩⟩
     ·exact kG ⟨rfl,out.push xb,na,nb-1,_,_,rfl,by rw[kr];exact g',l1,l1',by lia,by lia,by lia⟩
  ·rintro c st' ⟨rfl,out,na,nb,ac,bc,rfl,g,l1,l1',l2,l2',l3⟩;lia
  ·rintro c st' ⟨rfl,⟨out,na,nb,ac,bc,rfl,g,l1,l1',l2,l2',l3⟩ | ⟨r,hr,hm⟩⟩
   ·refine kC (Tx (qC ⟨rfl,?_⟩));refine kC (qO (K6 (I:=fun y c st'=>Eqg st st' /\ ∃(out:QS)(na nb mg ac bc:Nat),c=(none,na,nb,out,mg,ac,bc)/\Ph a.toList b.toList out.toList na nb/\0<na/\na<=a.toList.length/\1<nb/\nb<=b.toList.length/\x+1+y+na+nb<=a.size+b.size)
     (Q:=fun c st'=>Eqg st st'/\((∃(out:QS)(na nb mg ac bc:Nat),c=(none,na,nb,out,mg,ac,bc)/\Ph a.toList b.toList out.toList na nb/\0<na/\na<=a.toList.length/\1<nb/\nb<=b.toList.length/\x+1+na+nb<=a.size+b.size) ∨ ∃r,c.1=some r/\Pmd a.toList b.toList r.toList)) ?_ ?_ ⟨q1,out,na,nb,_,ac,bc,rfl,g,l1,l1',l2,l2',l3⟩) ?_)
    ·rintro y c st2 _ hy ⟨q2,out,na,nb,mg,ac,bc,rfl,g,l1,l1',l2,l2',l3⟩;obtain⟨xb,hb,db,lb⟩:=eb (nb-1) (by lia);refine Wl (k:=mg) (n:=1) (fun _=>?_) (fun _=>?_)
     all_goals (
      refine kC (qI ?_);refine kC (YF hb ?_);refine kC (Gw (left:=false) (arr:=a) (base:=0) (n:=na) (hint:=na-1) C db (fun i hi=>let ⟨x,h1,h2,_⟩:=ea (0+i) (by lia);⟨x,h1,h2⟩) (by lia) (q2.1.trans hs) fun k hk=>?_);have gk:=g.takeAs (m:=k) (by lia) (by lia);refine Wl (k:=na-k) (n:=0) (fun k0=>?_) (fun k0=>?_)
      ·refine ZV (c:=(k==0)) (fun c3=>?_) (fun c3=>?_)
       ·refine kG ⟨q2,.inr ⟨_,rfl,?_⟩⟩;have  := gk.done;simp only[kZ,kr,Kw,Jm,ZM] at this ⊢;exact this
       ·have c3':=Yo c3;have g1:Ph a.toList b.toList (out++(a.extract k na).reverse).toList k nb:=by
         simp only[kZ,kr,Kw,Jm,ZM] at gk ⊢;exact gk
        refine kC (YF hb ?_);have g2:=g1.takeB (by lia) lb;refine ZV (c:=(nb-1==1)) (fun c5=>?_) (fun c5=>?_)
        ·refine kG ⟨q2,.inr ⟨_,rfl,?_⟩⟩;have  := g2.firstB;simp only[kZ,kr,Kw,Jm,ZM] at this ⊢;exact this
        ·have c6:=Yo c5;obtain⟨xa,ha,da,la⟩:=ea (k-1) (by lia);refine kC (YF ha ?_);refine kC (Gw (left:=true) (arr:=b) (base:=0) (n:=nb-1) (hint:=nb-1-1) C da (fun i hi=>let ⟨x,h1,h2,_⟩:=eb (0+i) (by lia);⟨x,h1,h2⟩) (by lia) (q2.1.trans hs) fun k' hk'=>?_);have gk':=g2.takeBs (m:=k') (by lia) (by lia);refine Wl (k:=nb-1-k') (n:=0) (fun k0'=>?_) (fun k0'=>?_)
         ·refine ZV (c:=(k'==1)) (fun c9=>?_) (fun c9=>ZV (c:=(k'==0)) (fun c10=>?_) (fun c10=>?_))
          ·refine kG ⟨q2,.inr ⟨_,rfl,?_⟩⟩;have  := gk'.firstB;simp only[kZ,kr,Kw,Jm,ZM] at this ⊢;exact this
          ·refine kG ⟨q2,.inr ⟨_,rfl,?_⟩⟩;have  := gk'.done;simp only[kZ,kr,Kw,Jm,ZM] at this ⊢;exact this
          ·have c9':=Yo c9;have c10':=Yo c10;have g3:Ph a.toList b.toList (((out++(a.extract k na).reverse).push xb)++(b.extract k' (nb-1)).reverse).toList (k) k':=by
            simp only[kZ,kr,Kw,Jm,ZM] at gk' ⊢;exact gk'
           refine kC (YF ha ?_);have g4:=g3.takeA (by lia) la;refine ZV (c:=((k)-1==0)) (fun c7=>?_) (fun c7=>?_)
           ·refine kG ⟨q2,.inr ⟨_,rfl,?_⟩⟩;have  := g4.done;simp only[kZ,kr,Kw,Jm,ZM] at this ⊢;exact this
           ·have c8:=Yo c7;refine ZV (fun _=>?_) (fun _=>?_)
            ·exact kG ⟨q2,.inl ⟨(((out++(a.extract k na).reverse).push xb)++(b.extract k' (nb-1)).reverse).push xa,(k)-1,k',_,_,_,rfl,by rw[kr];exact g4,by lia,by lia,by lia,by lia,by lia⟩⟩
            ·exact kG ⟨q2,(((out++(a.extract k na).reverse).push xb)++(b.extract k' (nb-1)).reverse).push xa,(k)-1,k',_,_,_,rfl,by rw[kr];exact g4,by lia,by lia,by lia,by lia,by lia⟩
         ·obtain rfl:k'=nb-1:=by lia
          have g3:Ph a.toList b.toList ((out++(a.extract k na).reverse).push xb).toList (k) (nb-1):=by rw[kr];exact g2
          refine kC (YF ha ?_);have g4:=g3.takeA (by lia) la;refine ZV (c:=((k)-1==0)) (fun c7=>?_) (fun c7=>?_)
          ·refine kG ⟨q2,.inr ⟨_,rfl,?_⟩⟩;have  := g4.done;simp only[kZ,kr,Kw,Jm,ZM] at this ⊢;exact this
          ·have c8:=Yo c7;refine ZV (fun _=>?_) (fun _=>?_)
           ·exact kG ⟨q2,.inl ⟨((out++(a.extract k na).reverse).push xb).push xa,(k)-1,(nb-1),_,_,_,rfl,by rw[kr];exact g4,by lia,by lia,by lia,by lia,by lia⟩⟩
           ·exact kG ⟨q2,((out++(a.extract k na).reverse).push xb).push xa,(k)-1,(nb-1),_,_,_,rfl,by rw[kr];exact g4,by lia,by lia,by lia,by lia,by lia⟩
      ·obtain rfl:k=na:=by lia
       have g1:=g;refine kC (YF hb ?_);have g2:=g1.takeB (by lia) lb;refine ZV (c:=(nb-1==1)) (fun c5=>?_) (fun c5=>?_)
       ·refine kG ⟨q2,.inr ⟨_,rfl,?_⟩⟩;have  := g2.firstB;simp only[kZ,kr,Kw,Jm,ZM] at this ⊢;exact this
       ·have c6:=Yo c5;obtain⟨xa,ha,da,la⟩:=ea (k-1) (by lia);refine kC (YF ha ?_);refine kC (Gw (left:=true) (arr:=b) (base:=0) (n:=nb-1) (hint:=nb-1-1) C da (fun i hi=>let ⟨x,h1,h2,_⟩:=eb (0+i) (by lia);⟨x,h1,h2⟩) (by lia) (q2.1.trans hs) fun k' hk'=>?_);have gk':=g2.takeBs (m:=k') (by lia) (by lia);refine Wl (k:=nb-1-k') (n:=0) (fun k0'=>?_) (fun k0'=>?_)
        ·refine ZV (c:=(k'==1)) (fun c9=>?_) (fun c9=>ZV (c:=(k'==0)) (fun c10=>?_) (fun c10=>?_))
         ·refine kG ⟨q2,.inr ⟨_,rfl,?_⟩⟩;have  := gk'.firstB;simp only[kZ,kr,Kw,Jm,ZM] at this ⊢;exact this
         ·refine kG ⟨q2,.inr ⟨_,rfl,?_⟩⟩;have  := gk'.done;simp only[kZ,kr,Kw,Jm,ZM] at this ⊢;exact this
         ·have c9':=Yo c9;have c10':=Yo c10;have g3:Ph a.toList b.toList ((out.push xb)++(b.extract k' (nb-1)).reverse).toList (k) k':=by
           simp only[kZ,kr,Kw,Jm,ZM] at gk' ⊢;exact gk'
          refine kC (YF ha ?_);have g4:=g3.takeA (by lia) la;refine ZV (c:=((k)-1==0)) (fun c7=>?_) (fun c7=>?_)
          ·refine kG ⟨q2,.inr ⟨_,rfl,?_⟩⟩;have  := g4.done;simp only[kZ,kr,Kw,Jm,ZM] at this ⊢;exact this
          ·have c8:=Yo c7;refine ZV (fun _=>?_) (fun _=>?_)
           ·exact kG ⟨q2,.inl ⟨((out.push xb)++(b.extract k' (nb-1)).reverse).push xa,(k)-1,k',_,_,_,rfl,by rw[kr];exact g4,by lia,by lia,by lia,by lia,by lia⟩⟩
           ·exact kG ⟨q2,((out.push xb)++(b.extract k' (nb-1)).reverse).push xa,(k)-1,k',_,_,_,rfl,by rw[kr];exact g4,by lia,by lia,by lia,by lia,by lia⟩
        ·obtain rfl:k'=nb-1:=by lia
         have g3:Ph a.toList b.toList (out.push xb).toList (k) (nb-1):=by rw[kr];exact g2
         refine kC (YF ha ?_);have g4:=g3.takeA (by lia) la;refine ZV (c:=((k)-1==0)) (fun c7=>?_) (fun c7=>?_)
         ·refine kG ⟨q2,.inr ⟨_,rfl,?_⟩⟩;have  := g4.done;simp only[kZ,kr,Kw,Jm,ZM] at this ⊢;exact this
         ·have c8:=Yo c7;refine ZV (fun _=>?_) (fun _=>?_)
          ·exact kG ⟨q2,.inl ⟨(out.push xb).push xa,(k)-1,(nb-1),_,_,_,rfl,by rw[kr];exact g4,by lia,by lia,by lia,by lia,by lia⟩⟩
          ·exact kG ⟨q2,(out.push xb).push xa,(k)-1,(nb-1),_,_,_,rfl,by rw[kr];exact g4,by lia,by lia,by lia,by lia,by lia⟩)
    ·rintro c st' ⟨q2,out,na,nb,mg,ac,bc,rfl,g,l1,l1',l2,l2',l3⟩;lia
    ·rintro c st' ⟨q2,⟨out,na,nb,mg,ac,bc,rfl,g,l1,l1',l2,l2',l3⟩ | ⟨r,hr,hm⟩⟩
     ·exact kC (qI (kG ⟨out,na,nb,_,rfl,g,l1,l1',l2,l2',l3,q2⟩))
     ·obtain⟨c1,c2⟩:=c;dsimp only at hr;subst hr;exact kG ⟨r,rfl,hm,q2⟩
   ·obtain⟨c1,c2⟩:=c;dsimp only at hr;subst hr;exact kG ⟨r,rfl,hm,q1⟩
 ·rintro c st' ⟨out,na,nb,mg,rfl,g,l1,l1',l2,l2',l3,q1⟩;lia
 ·rintro c st' ⟨r,hr,hm,q1⟩;obtain⟨c1,c2⟩:=c;dsimp only at hr;subst hr;exact kG (h r st' hm q1)
theorem Zj9 (C:Cmp prog w A E s kd D lt){i sa na pw sb nb pw2:Nat}{st:SortSt}{P X Y S:QR}{Q:Bool->SortSt->Prop}
  (hp1:(pendingOf st)[i]? = some (sa,na,pw)) (hp2:(pendingOf st)[i+1]? = some (sb,nb,pw2)) (hA:(arrOf st).toList=P++(X++(Y++S))) (hsa:sa=P.length) (hna:na=X.length) (hsb:sb=P.length+X.length) (hnb:nb=Y.length)
  (x0:0<X.length) (y0:0<Y.length) (hD:∀x∈(arrOf st).toList,D x) (hk:kindOf st=kd) (hf:failedOf st=none)
  (h:∀Z st',Z.Perm (X++Y)->(arrOf st').toList=P++(Z++S)->pendingOf st'=((pendingOf st).setIfInBounds i (sa,na+nb,pw)).eraseIdxIfInBounds (i+1)->kindOf st'=kd->failedOf st'=none->Q true st'):
  wpS (model prog w) A E s (ZfX i) Q st:=by
 subst hsa hna hsb hnb;have eX:∀j,j<X.length->(arrOf st).toList[P.length+j]? = X[j]?:=fun j hj=>by rw[hA,Kh (by lia),qt,KH hj]
 have eY:∀j,j<Y.length->(arrOf st).toList[P.length+X.length+j]? = Y[j]?:=fun j hj=>by rw[hA,Kh (by lia),Kh (by lia),KH (by lia)];congr 1;lia
 have dX:∀x∈X,D x:=fun x hx=>hD x (by rw[hA];simp[hx]);have dY:∀x∈Y,D x:=fun x hx=>hD x (by rw[hA];simp[hx]);refine kC (Xp ?_);rw[show (sortPriv% PySem.Builtin.SortState.pending) st=pendingOf st from rfl,hp1,hp2];refine kC (ZlV ?_);have ey0:(arrOf st)[P.length+X.length]? = some (Y[0]'y0):=by have:=eY 0 y0;rw[<- Ko,Nd] at *;rw[this,kU y0]
 refine kC (YF ey0 ?_);refine kC (Gw (left:=false) (arr:=arrOf st) (base:=P.length) (n:=X.length) (hint:=0) C (dY _ (qp y0)) (fun j hj=>⟨X[j],by rw[<- Ko,eX j hj,kU hj],dX _ (qp hj)⟩) x0 hk fun k hk1=>?_);refine ZV (c:=(X.length-k==0)) (fun c1=>?_) (fun c1=>?_)
 ·refine kG (h (X++Y) _ (XX _) (by rw[kJ];exact hA) rfl hk hf)
 have c1':=Yo c1;have exl:(arrOf st)[P.length+k+(X.length-k)-1]? = some (X[X.length-1]'(by lia)):=by have:=eX (X.length-1) (by lia);rw[<- Ko,show P.length+k+(X.length-k)-1=P.length+(X.length-1) by lia,this,kU (by lia)]
 refine kC (YF exl ?_);refine kC (Gw (left:=true) (arr:=arrOf st) (base:=P.length+X.length) (n:=Y.length) (hint:=Y.length-1) C (dX _ (qp (by lia))) (fun j hj=>⟨Y[j],by rw[<- Ko,eY j hj,kU hj],dY _ (qp hj)⟩) (by lia) hk fun m hm1=>?_);refine ZV (c:=(m==0)) (fun c2=>?_) (fun c2=>?_)
 ·exact kG (h (X++Y) _ (XX _) (by rw[kJ];exact hA) rfl hk hf)
 have m0:=Yo c2;have tx:((arrOf st).extract (P.length+k) (P.length+X.length)).toList=X.drop k:=by rw[ZM,hA,List.drop_append,qc (by lia),qX,show P.length+k-P.length=k by lia,T3 (by lia),Kv (by rw[KU];lia),kK (by rw[KU];lia)]
 have ty:((arrOf st).extract (P.length+X.length) (P.length+X.length+m)).toList=Y.take m:=by rw[ZM,hA,<- kJ,List.drop_append,qc (by simp),qX,kg,XE,MM,Kv (by lia)];congr 1;lia
 have lX2:(X.drop k).length=X.length-k:=KU;have lY1:(Y.take m).length=m:=by rw[kL];lia
 have fin:∀(r:QS)(st':SortSt),Pmd (X.drop k) (Y.take m) r.toList->Eqg (SortSt.mk' (kindOf st) (arrOf st) (((pendingOf st).setIfInBounds i (P.length,X.length+Y.length,pw)).eraseIdxIfInBounds (i+1)) (gallopOf st) (failedOf st)) st' ->
   Q true (SortSt.mk' (kindOf st') (List.foldl (fun a x=>match x with | (p,j)=>a.setIfInBounds (P.length+k+j) p) (arrOf st') r.toList.zipIdx) (pendingOf st') (gallopOf st') (failedOf st')):=fun r st' hm q=>by
  obtain⟨q1,q2,q3,q4⟩:=q;refine h (X.take k++(r.toList++Y.drop m)) _ ?_ ?_ q3 (q1.trans hk) (q4.trans hf)
  ·have e1:(X.take k++(r.toList++Y.drop m)).Perm (X.take k++((X.drop k++Y.take m)++Y.drop m)):=KD _ (hm.append_right _);refine e1.trans ?_;rw[kJ,Kt,<- kJ,Kt]
  ·show (List.foldl _ (arrOf st') r.toList.zipIdx).toList=_;rw[q2];have:=Zfn r.toList 0 (P.length+k) (arrOf st) (P++X.take k) (X.drop k++Y.take m) (Y.drop m++S) (by
    show (arrOf st).toList=_;rw[hA];have e1:X=X.take k++X.drop k:=(Kt k X).symm;have e2:Y=Y.take m++Y.drop m:=(Kt m Y).symm
    conv=>lhs;rw[e1,e2]
    simp only[kJ]) (by rw[kg,kL];lia) hm.length_eq.symm
   rw[show (List.foldl (fun a x=>match x with | (p,j)=>a.setIfInBounds (P.length+k+j) p) (arrOf st) r.toList.zipIdx)=_ from rfl] at this;rw[this];simp only[kJ]
 have dx:∀x∈((arrOf st).extract (P.length+k) (P.length+X.length)).toList,D x:=fun x hx=>dX x (by rw[tx] at hx;exact List.mem_of_mem_drop hx);have dy:∀x∈((arrOf st).extract (P.length+X.length) (P.length+X.length+m)).toList,D x:=fun x hx=>dY x (by rw[ty] at hx;exact MP hx);show wpS _ _ _ _ (if X.length-k<=m then _ else _) _ _;by_cases c3:X.length-k<=m
 ·rw[kj c3];refine kC (ZjW (a:=(arrOf st).extract (P.length+k) (P.length+X.length)) (b:=(arrOf st).extract (P.length+X.length) (P.length+X.length+m)) C dx dy hk (by rw[tx,lX2];lia) (by rw[ty,lY1];lia) fun r st' hm q=>?_);rw[tx,ty] at hm;refine kC (qI (kC (Xp (kG ?_))));have e:(failedOf st').isNone=true:=by rw[q.2.2.2];show (failedOf st).isNone=true;rw[hf];rfl
  have:=fin r st' hm q;rw[<- e] at this;exact this
 ·rw[kh c3];refine kC (ZjP (a:=(arrOf st).extract (P.length+k) (P.length+X.length)) (b:=(arrOf st).extract (P.length+X.length) (P.length+X.length+m)) C dx dy hk (by rw[tx,lX2];lia) (by rw[ty,lY1];lia) fun r st' hm q=>?_);rw[tx,ty] at hm;refine kC (qI (kC (Xp (kG ?_))));have e:(failedOf st').isNone=true:=by rw[q.2.2.2];show (failedOf st).isNone=true;rw[hf];rfl
  have:=fin r st' hm q;rw[<- e] at this;exact this
structure RnP (kd:SortKind)(l₀:QR)(rs:List QR)(S:QR)(st:SortSt):Prop where
 arr:(arrOf st).toList=rs.flatten++S
 pos:∀r∈rs,0<r.length
 pend:GR (pendingOf st).toList rs
 perm:(arrOf st).toList.Perm l₀
 kind:kindOf st=kd
 fail:failedOf st=none
theorem RnP.cut {l₀:QR}{rs:List QR}{S:QR}{st:SortSt}(R:RnP kd l₀ rs S st){i:Nat}(hi:i+1<rs.length):∃U X Y B,rs=U++(X::Y::B)/\U.length=i:=by
 refine⟨rs.take i,rs[i],rs[i+1],rs.drop (i+2),?_,by rw[kL];lia⟩
 conv=>lhs;rw[<- Kt i rs,KZ (by lia),KZ (by lia)]
theorem Zdb (C:Cmp prog w A E s kd D lt){l₀:QR}{rs:List QR}{S:QR}{st:SortSt}{i:Nat}{Q:Bool->SortSt->Prop}(R:RnP kd l₀ rs S st)(hD:∀x∈l₀,D x)(hi:i+1<rs.length)
  (h:∀rs' st',RnP kd l₀ rs' S st'->rs'.length+1=rs.length->rs'.flatten.length=rs.flatten.length->Q true st'):wpS (model prog w) A E s (ZfX i) Q st:=by
 obtain⟨U,X,Y,B,rfl,rfl⟩:=R.cut hi;obtain⟨p1,e1⟩:=R.pend.2 U.length X (by rw[Kh (ki _),XE];rfl);obtain⟨p2,e2⟩:=R.pend.2 (U.length+1) Y (by rw[Kh (by lia),qt];rfl);rw[Kv (ki _),kK (ki _),Ko] at e1;rw[N8,kK (by lia),qt,MY,Nv,Ko] at e2;simp only[Kr,Ku,qA,KL,kg] at e2;have hX:=R.pos X (by simp);have hY:=R.pos Y (by simp);refine Zj9 C (P:=U.flatten) (X:=X) (Y:=Y) (S:=B.flatten++S) e1 e2 (by rw[R.arr];simp only[Kr,Ku,kJ]) rfl rfl rfl rfl hX hY (fun x hx=>hD x (R.perm.mem_iff.mp hx)) R.kind R.fail fun Z st' pZ aZ pe kz fz=>?_;have lz:Z.length=X.length+Y.length:=by rw[pZ.length_eq,kg]
 refine h (U++(Z::B)) st' ⟨?_,fun r hr=>?_,?_,?_,kz,fz⟩ ?_ ?_
 ·rw[aZ];simp only[Kr,Ku,kJ]
 ·rcases KC.mp hr with z | z
  ·exact R.pos r (Xm _ z)
  ·rcases kP.mp z with rfl | z
   ·lia
   ·exact R.pos r (by simp[z])
 ·rw[pe,Array.toList_eraseIdxIfInBounds,Np];exact Zgx R.pend lz
 ·refine List.Perm.trans ?_ R.perm;rw[aZ,R.arr];simp only[Kr,Ku,kJ];refine KD _ ?_;rw[<- kJ X];exact pZ.append_right _
 ·simp;lia
 ·simp only[Kr,Ku,kg];lia
theorem RnP.low {l₀:QR}{rs:List QR}{S:QR}{st:SortSt}(R:RnP kd l₀ rs S st):rs.length<=rs.flatten.length:=by
 have:∀rs:List QR,(∀r∈rs,0<r.length)->rs.length<=rs.flatten.length:=by
  intro rs
  induction rs with
  | nil=>intro _;exact ki _
  | cons r rs ih=>
   intro hr;have h1:=hr r kQ;have h2:=ih fun x hx=>hr x (kS _ hx);rw[K3,Ku,kg];lia
 exact this rs R.pos
theorem RnP.put {l₀:QR}{rs:List QR}{S:QR}{st st':SortSt}{n:Nat}(R:RnP kd l₀ rs S st)(k:Kp rs.flatten.length n st st'):∃S',RnP kd l₀ rs S' st'/\S'.length=S.length:=by
 have hlen:(arrOf st').toList.length=(arrOf st).toList.length:=k.perm.length_eq;have et:(arrOf st').toList.take rs.flatten.length=rs.flatten:=by
  have e0:(arrOf st).toList.take rs.flatten.length=rs.flatten:=by rw[R.arr,Kv (ki _),kK (ki _)]
  rw[<- e0];refine NK fun i=>?_;by_cases c:i<rs.flatten.length
  ·rw[Td (by rw[e0];exact c),Td c,Ko,Ko];exact k.out i (.inl c)
  ·rw[MA (by rw[kL,e0];lia),MA (by rw[kL];lia)]
 refine⟨(arrOf st').toList.drop rs.flatten.length,⟨?_,R.pos,by rw[k.pend];exact R.pend,k.perm.trans R.perm,k.kind.trans R.kind,k.fail.trans R.fail⟩,?_⟩
 ·conv=>lhs;rw[<- Kt rs.flatten.length (arrOf st').toList,et]
 ·rw[KU,hlen,R.arr,kg];lia
theorem RnP.more {l₀:QR}{rs:List QR}{S:QR}{st:SortSt}(R:RnP kd l₀ rs S st){n:Nat}(h0:0<n)(hn:n<=S.length){g:Nat}{pw:Nat}:
  RnP kd l₀ (rs ++ [S.take n]) (S.drop n) (SortSt.mk' (kindOf st) (arrOf st) ((pendingOf st).push (rs.flatten.length,n,pw)) g (failedOf st)):=by
 refine⟨?_,fun r hr=>?_,?_,R.perm,R.kind,R.fail⟩
 ·show (arrOf st).toList=_;rw[R.arr];simp only[Kr,Ku,qA,KL,kJ,Kt]
 ·rcases KC.mp hr with z | z
  ·exact R.pos r z
  ·rw[k7.mp z];rw[kL];lia
 ·show GR ((pendingOf st).push _).toList _;rw[kr];have:=Zim R.pend (S.take n) pw;rw[show (S.take n).length=n by rw[kL];lia] at this;exact this
theorem RnP.pow {l₀:QR}{rs:List QR}{S:QR}{st:SortSt}(R:RnP kd l₀ rs S st){k g:Nat}{f:Nat×Nat×Nat->Nat×Nat×Nat}(hf:∀a b c,∃d,f (a,b,c)=(a,b,d)):
  RnP kd l₀ rs S (SortSt.mk' (kindOf st) (arrOf st) ((pendingOf st).modify k f) g (failedOf st)):=by
 refine⟨R.arr,R.pos,?_,R.perm,R.kind,R.fail⟩;show GR ((pendingOf st).modify k f).toList rs;rw[Array.toList_modify];exact Zj6 R.pend k f hf
theorem ZiH (C:Cmp prog w A E s kd D lt){st:SortSt}{Q:Unit->SortSt->Prop}(hD:∀x∈(arrOf st).toList,D x)(hk:kindOf st=kd)(hf:failedOf st=none)(hp:pendingOf st = #[])
  (h:∀st',(arrOf st').toList.Perm (arrOf st).toList->failedOf st'=none->Q () st'):wpS (model prog w) A E s Zat Q st:=by
 have zs:(arrOf st).size=(arrOf st).toList.length:=by simp
 have R0:RnP kd (arrOf st).toList [] (arrOf st).toList st:=⟨rfl,fun r hr=>(by cases hr),by rw[hp];exact ZkU,.refl _,hk,hf⟩;refine kC (Xp ?_);refine kC (qO (K6 (a:=0) (b:=(arrOf st).size) (I:=fun x c st'=>∃rs S,c=(none,rs.flatten.length)/\RnP kd (arrOf st).toList rs S st'/\(x<=rs.flatten.length∨S = []))
  (Q:=fun c st'=>∃rs,c.1=none/\RnP kd (arrOf st).toList rs [] st') ?_ ?_ ⟨[],_,rfl,R0,.inl (KP _)⟩) ?_)
 ·rintro x c st1 _ hx ⟨rs,S,rfl,R,pr⟩;have ln:rs.flatten.length+S.length=(arrOf st).size:=by
   have:=R.perm.length_eq;rw[R.arr,kg] at this;lia
  have z1:(arrOf st1).size=(arrOf st).size:=by have:=R.perm.length_eq;simpa using this
  by_cases c0:rs.flatten.length>=(arrOf st).size
  ·show wpS _ _ _ _ (if rs.flatten.length>=(arrOf st).size then _ else _) _ _;rw[kj c0];obtain rfl:S = []:=K9.mp (by lia);exact kG ⟨rs,rfl,R⟩
  ·show wpS _ _ _ _ (if rs.flatten.length>=(arrOf st).size then _ else _) _ _;rw[kh c0];refine kC (Zb8 C (lo:=rs.flatten.length) (n:=(arrOf st).size-rs.flatten.length) (by lia) (by lia) (fun y hy=>hD y (R.perm.mem_iff.mp hy)) R.kind fun m st2 m1 m2 kp sm=>?_);obtain⟨S2,R2,l2⟩:=R.put kp;have sz2:m<=S2.length:=by lia
   have z2:(arrOf st2).size=(arrOf st).size:=by rw[kp.size,z1]
   have prx:x<=rs.flatten.length:=by
    rcases pr with z | z
    ·exact z
    ·have:=Ky List.length z;rw[Xl] at this;lia
   show wpS _ _ _ _ (if m<(sortPriv% PySem.Builtin.minRun) (arrOf st).size (arrOf st).size 0 then _ else _) _ _;generalize (sortPriv% PySem.Builtin.minRun) (arrOf st).size (arrOf st).size 0=mr;refine Zkp (fun c1=>?_) (fun c1=>?_)
   ·refine kC (Tx (qC ⟨rfl,?_⟩));refine kC (ZaG C (lo:=rs.flatten.length) (n:=min ((arrOf st).size-rs.flatten.length) mr) (ok:=m) m1 (by lia) (by lia) (fun y hy=>hD y (R2.perm.mem_iff.mp hy)) R2.kind sm fun st3 kp3 sm3=>?_);obtain⟨S3,R3,l3⟩:=R2.put kp3;have hn0:0<min ((arrOf st).size-rs.flatten.length) mr:=by lia
    have hn1:min ((arrOf st).size-rs.flatten.length) mr<=S3.length:=by lia
    refine kC (Xp ?_);generalize hbk:(pendingOf st3).back? = bk;cases bk with
    | none=>
     have l5:rs.flatten.length=rs.flatten.length:=rfl;refine kC (qI ?_);have R6:=R3.more (pw:=0) (g:=gallopOf (st3)) hn0 hn1;rw[l5] at R6;refine kG ⟨rs ++ [S3.take (min ((arrOf st).size-rs.flatten.length) mr)],S3.drop (min ((arrOf st).size-rs.flatten.length) mr),?_,R6,.inl ?_⟩
     ·show ((none:Option Unit),rs.flatten.length+(min ((arrOf st).size-rs.flatten.length) mr))=_;congr 1;simp only[Kr,Ku,qA,KL,kg,kL];lia
     ·simp only[Kr,Ku,qA,KL,kg,kL];lia
    | some t=>
     obtain⟨s1,n1,w1⟩:=t;refine kC (qO (K6 (a:=0) (b:=(arrOf st).size) (I:=fun _ c st'=>c=(none,()) /\ ∃rs',RnP kd (arrOf st).toList rs' S3 st'/\rs'.flatten.length=rs.flatten.length) (Q:=fun c st'=>c=(none,()) /\ ∃rs',RnP kd (arrOf st).toList rs' S3 st'/\rs'.flatten.length=rs.flatten.length) ?_ (fun _ _ z=>z) ⟨rfl,rs,R3,rfl⟩) ?_)
     ·rintro y c st4 _ _ ⟨rfl,rs',R4,l4⟩;have pl:(pendingOf st4).size=rs'.length:=by rw[<- R4.pend.1];simp
      refine kC (Xp ?_);show wpS _ _ _ _ (match (if (pendingOf st4).size>1 then(pendingOf st4)[(pendingOf st4).size-2]? else none) with | some (_,_,older)=>_ | x=>_) _ _;by_cases hp1:(pendingOf st4).size>1
      ·rw[kj hp1];obtain⟨t,ht⟩:∃t,(pendingOf st4)[(pendingOf st4).size-2]? = some t:=⟨_,LX _ _ (by lia)⟩;rw[ht];obtain⟨a1,a2,older⟩:=t;refine Zgd (fun _=>kG ⟨rfl,rs',R4,l4⟩) (fun _=>?_);refine kC (Zdb C R4 hD (i:=(pendingOf st4).size-2) (by lia) fun rs'' st5 R5 a5 b5=>?_);exact kG ⟨rfl,rs'',R5,by lia⟩
      ·rw[kh hp1];exact kG ⟨rfl,rs',R4,l4⟩
     ·rintro c st4 ⟨rfl,rs',R4,l5⟩;refine kC (qI ?_);have R5:=R4.pow (k:=(pendingOf st4).size-1) (f:=fun x=>match x with | (u,len,_)=>(u,len,(sortPriv% PySem.Builtin.power) (arrOf st).size (2*s1+n1) (2*s1+n1+n1+(min ((arrOf st).size-rs.flatten.length) mr)) (arrOf st).size)) (g:=gallopOf st4) fun a b c=>⟨_,rfl⟩;refine kC (qI ?_);have R6:=R5.more (pw:=0) (g:=gallopOf (st4)) hn0 hn1;rw[l5] at R6;refine kG ⟨rs' ++ [S3.take (min ((arrOf st).size-rs.flatten.length) mr)],S3.drop (min ((arrOf st).size-rs.flatten.length) mr),?_,R6,.inl ?_⟩
      ·show ((none:Option Unit),rs.flatten.length+(min ((arrOf st).size-rs.flatten.length) mr))=_;congr 1;simp only[Kr,Ku,qA,KL,kg,kL];lia
      ·simp only[Kr,Ku,qA,KL,kg,kL];lia
   ·have hn0:0<m:=by lia
    refine kC (Xp ?_);generalize hbk:(pendingOf st2).back? = bk;cases bk with
    | none=>
     have l5:rs.flatten.length=rs.flatten.length:=rfl;refine kC (qI ?_);have R6:=R2.more (pw:=0) (g:=gallopOf (st2)) hn0 sz2;rw[l5] at R6;refine kG ⟨rs ++ [S2.take (m)],S2.drop (m),?_,R6,.inl ?_⟩
     ·show ((none:Option Unit),rs.flatten.length+(m))=_;congr 1;simp only[Kr,Ku,qA,KL,kg,kL];lia
     ·simp only[Kr,Ku,qA,KL,kg,kL];lia
    | some t=>
     obtain⟨s1,n1,w1⟩:=t;refine kC (qO (K6 (a:=0) (b:=(arrOf st).size) (I:=fun _ c st'=>c=(none,()) /\ ∃rs',RnP kd (arrOf st).toList rs' S2 st'/\rs'.flatten.length=rs.flatten.length) (Q:=fun c st'=>c=(none,()) /\ ∃rs',RnP kd (arrOf st).toList rs' S2 st'/\rs'.flatten.length=rs.flatten.length) ?_ (fun _ _ z=>z) ⟨rfl,rs,R2,rfl⟩) ?_)
     ·rintro y c st4 _ _ ⟨rfl,rs',R4,l4⟩;have pl:(pendingOf st4).size=rs'.length:=by rw[<- R4.pend.1];simp
      refine kC (Xp ?_);show wpS _ _ _ _ (match (if (pendingOf st4).size>1 then(pendingOf st4)[(pendingOf st4).size-2]? else none) with | some (_,_,older)=>_ | x=>_) _ _;by_cases hp1:(pendingOf st4).size>1
      ·rw[kj hp1];obtain⟨t,ht⟩:∃t,(pendingOf st4)[(pendingOf st4).size-2]? = some t:=⟨_,LX _ _ (by lia)⟩;rw[ht];obtain⟨a1,a2,older⟩:=t;refine Zgd (fun _=>kG ⟨rfl,rs',R4,l4⟩) (fun _=>?_);refine kC (Zdb C R4 hD (i:=(pendingOf st4).size-2) (by lia) fun rs'' st5 R5 a5 b5=>?_);exact kG ⟨rfl,rs'',R5,by lia⟩
      ·rw[kh hp1];exact kG ⟨rfl,rs',R4,l4⟩
     ·rintro c st4 ⟨rfl,rs',R4,l5⟩;refine kC (qI ?_);have R5:=R4.pow (k:=(pendingOf st4).size-1) (f:=fun x=>match x with | (u,len,_)=>(u,len,(sortPriv% PySem.Builtin.power) (arrOf st).size (2*s1+n1) (2*s1+n1+n1+(m)) (arrOf st).size)) (g:=gallopOf st4) fun a b c=>⟨_,rfl⟩;refine kC (qI ?_);have R6:=R5.more (pw:=0) (g:=gallopOf (st4)) hn0 sz2;rw[l5] at R6;refine kG ⟨rs' ++ [S2.take (m)],S2.drop (m),?_,R6,.inl ?_⟩
      ·show ((none:Option Unit),rs.flatten.length+(m))=_;congr 1;simp only[Kr,Ku,qA,KL,kg,kL];lia
      ·simp only[Kr,Ku,qA,KL,kg,kL];lia
 ·rintro c st1 ⟨rs,S,rfl,R,pr⟩;have ln:rs.flatten.length+S.length=(arrOf st).size:=by
   have:=R.perm.length_eq;rw[R.arr,kg] at this;lia
  obtain rfl:S = []:=by
   rcases pr with z | z
   ·exact K9.mp (by lia)
   ·exact z
  exact⟨rs,rfl,R⟩
 ·rintro c st1 ⟨rs,hc,R⟩;obtain⟨c1,c2⟩:=c;dsimp only at hc;subst hc;refine kC (qO (K6 (a:=0) (b:=(arrOf st).size) (I:=fun x c st'=>c=(none,()) /\ ∃rs',RnP kd (arrOf st).toList rs' [] st'/\rs'.length+x<=(arrOf st).size) (Q:=fun c st'=>c=(none,()) /\ ∃rs',RnP kd (arrOf st).toList rs' [] st'/\rs'.length<=1) ?_ ?_ ⟨rfl,rs,R,?_⟩) ?_)
  ·rintro y c st4 _ _ ⟨rfl,rs',R4,l4⟩;have pl:(pendingOf st4).size=rs'.length:=by rw[<- R4.pend.1];simp
   refine kC (Xp ?_);show wpS _ _ _ _ (if (pendingOf st4).size<=1 then _ else _) _ _;refine Zgd (fun z=>kG ⟨rfl,rs',R4,by lia⟩) (fun z=>?_);refine kC (Zdb C R4 hD ?_ fun rs'' st5 R5 a5 b5=>?_)
   ·show (if _=true then(pendingOf st4).size-2-1 else(pendingOf st4).size-2)+1<_;exact To (N0 Zi3) (by lia)
   ·exact kG ⟨rfl,rs'',R5,by lia⟩
  ·rintro c st4 ⟨rfl,rs',R4,l4⟩;exact⟨rfl,rs',R4,by lia⟩
  ·have:=R.low;have:=R.perm.length_eq;rw[R.arr,KL] at this;lia
  ·rintro c st4 ⟨rfl,rs',R4,l4⟩;exact kG (h st4 R4.perm R4.fail)
end
section
variable {X:Cx}
def ZeH (K:QF):List V->Hp->VK->Prop:=fun xs H Q=>∃(p:Addr)(ys:QH)(ws:QA),xs = [.ref p]/\Zt K H p ys/\Words H ys ws /\
  ∀(l:Addr)(zs:QH)(vs:QA),H l=none->zs.Perm ys->vs.Perm ws->Words H zs vs->Q (.ref l) (upd H l (.lst zs))
theorem Zdw (hu:X.A.units+64<cLine):Y6 X (.builtin "sorted") (ZeH X.K):=by
 intro pins s σ H xs us Q I r h;obtain⟨p,ys,ws,rfl,hq,hw,q⟩:=h;obtain⟨u,rfl,ru⟩:=r.one;cases ru;obtain⟨its,rv,pl,hz⟩:=I.list hq;have hlen:ys.length=its.length:=rv.length;refine Za5 (T := "tuple") false Kd3 (fun A E hu s' kd hk hd _=>ZiH (Zd2 hk hu) hd rfl rfl rfl fun st' p f=>⟨p,(nomatch ·),f⟩) (fun A E s' Q hn hv h=>Zcv hv h) (by lia) pl.isList (fun v hv=>?_) (by lia) fun out a2 _=>?_
 ·obtain⟨y,hy,ry⟩:=Paired.mem1 (Paired.flip rv) v hv;obtain⟨ks,_,hk⟩:=Paired.mem1 hw y hy;obtain⟨a,e1,e2,e3⟩:=ZfO I.hok hk ry;exact⟨a,ks,e1,e3⟩
 obtain⟨zs,b3,b1⟩:=Paired.Zd3 a2.symm rv;obtain⟨vs,b4,r2⟩:=Paired.Zd3 b3 (Paired.flip hw);have b2:=Paired.flip r2;replace b3:=b3.symm;obtain⟨e,he⟩:=sortedAll_at s.heap its out;have fr:H (s.heap.objs.size+1)=none:=I.hok.fresh (qR _);refine⟨.ref (s.heap.objs.size+1),_,I.laid (a:=s.heap.objs.size+1) (o:=.lst zs) (t':=s.toks) (fun b o q=>sortedAll_old q) (qR _) ⟨?_,out.toList,e,b1,?_⟩,rfl,q _ _ _ fr b3 b4.symm b2⟩
 ·rw[b3.length_eq];lia
 ·simpa [seqObj] using he
theorem ZcY {K:QF}(h:X.K=K)(hu:X.A.units+64<cLine):Y6 X (.builtin "sorted") (ZeH K):=h ▸ Zdw hu
end
end L2
namespace L2
inductive Ex2 {A:Sort a}{B:Sort b}(p:A->B->Prop):Prop|mk (x1:A)(x2:B)(h:p x1 x2)
inductive Ex3 {A:Sort a}{B:Sort b}{C:Sort c}(p:A->B->C->Prop):Prop|mk (x1:A)(x2:B)(x3:C)(h:p x1 x2 x3)
inductive Ex4 {A:Sort a}{B:Sort b}{C:Sort c}{D:Sort d}(p:A->B->C->D->Prop):Prop|mk (x1:A)(x2:B)(x3:C)(x4:D)(h:p x1 x2 x3 x4)
inductive Ex5 {A:Sort a}{B:Sort b}{C:Sort c}{D:Sort d}{E:Sort e}(p:A->B->C->D->E->Prop):Prop|mk (x1:A)(x2:B)(x3:C)(x4:D)(x5:E)(h:p x1 x2 x3 x4 x5)
inductive Ex6 {A:Sort a}{B:Sort b}{C:Sort c}{D:Sort d}{E:Sort e}{F:Sort f}(p:A->B->C->D->E->F->Prop):Prop|mk (x1:A)(x2:B)(x3:C)(x4:D)(x5:E)(x6:F)(h:p x1 x2 x3 x4 x5 x6)
end L2
local macro_rules|`(∃ $q:explicitBinders, $b)=>do{let s:=q.raw[0];let u:=fun (v:Array Lean.Syntax)(t:Option Lean.Syntax)=>v.map fun i=>(i[0],t);let L:=if s.getKind==``Lean.unbracketedExplicitBinders then u s[0].getArgs (if s[1].isNone then none else some s[1][1]) else s.getArgs.flatMap fun g=>u g[1].getArgs (some g[3]);unless 2<=L.size do{Lean.Macro.throwUnsupported};let(r,_)←L.foldrM (init:=(b,L.size)) fun(x,t)(r,k)=>do{let f:Lean.Term←(match x.isIdent,t with|true,some t=>`(fun $(⟨x⟩):ident:$(⟨t⟩)=>$r)|true,none=>`(fun $(⟨x⟩):ident=>$r)|_,some t=>`(fun _:$(⟨t⟩)=>$r)|_,none=>`(fun _=>$r));let m:=min 6 (L.size-(k-1));let n:=if m==1 then `Exists else Lean.Name.str `L2 s!"Ex{m}";let g:Lean.Term←(if (k-1)%6==0 then`($(Lean.mkCIdent n) $f) else pure f);return(g,k-1)};return r}
namespace Qk39
open PySem L2 PyProof.Rows
def top (i:Nat):Stmt:=PySem.Challenge.pw_bendfronts_k39_band_sums.main.body.getD i (.Pass ⟨0,0,0,0⟩)
section
variable {P:Program}{w:World}{K:QF}{mg:QN}{base:Heap}
def Zb0:Sp:=fun vs H Q _=>∃(b:Addr)(m:Int),vs = [.ref b,.int m]/\Bag H b/\1<=m/\m<1073741824 /\ ∀(d:Int)(H':Hp),0<=d->d<m->Bag H' b->YK b H H'->Q (.int d) H'
abbrev Zal:Stmt:=top 34
theorem Zbn:ZA ["_law_bag_here", "_law_many", "_law_digit"] ["_law_bag_here", "_law_many"] (Zj Zal):={}
theorem Zlm {f:Addr}{fd:FuncData}(F:WC K "_law_take" "_law_take" Zal f fd):Yi P w K mg base WH 1 f fd ["_law_bag_here", "_law_many"] Zb0:=by
 refine F.ok Zbn (fun vs H Q E h=>?_) (fun cdv A outer s H vs Q E hr h=>?_)
 ·obtain⟨b,m,rfl,_⟩:=h;rfl
 ·obtain⟨b,m,rfl,⟨g,r,hg,hb⟩,h1,h2,k⟩:=h;refine⟨_,(Zd (Z9 (Zr Za7 (Zw (Zs (K:=K) rfl) (pv 0) Ze (fun _ _=>rfl)) Ze (Zp _)) (Zd (Zm (i:=2) Zbn.nd rfl (.inl rfl) (Zk Gh (Zw (Zs (K:=K) rfl) (pv 0) Ze (fun _ _=>rfl)) (pv 1)))
   (Zd (Yd (Zk Zbc (Zw (Zs (K:=K) rfl) (pv 0) Ze (fun _ _=>rfl)) (pv 1)) (Yp (pv 0) Ze set_list))
   (Zg (Zz (pv 2))))) ZN)
   (Zd (Yd (Zk Gh (Zk Zx (Zk Wa (Zw (Zs (K:=K) rfl) (pv 0) Ze (fun _ _=>rfl)) Ze) Ze) Ze) (Yp (pv 0) Ze set_list))
   (Zg (Zz (Zk Gh (Zk Gh (Zk Zgv (Zk Zbc (Zw (Zs (K:=K) rfl) (pv 0) Ze (fun _ _=>rfl)) Ze) Ze) Ze) (pv 1)))))),?_⟩
  refine⟨_,rfl,b,_,_,_,rfl,rfl,Zt.of hb,Zn (j:=0) rfl,_,_,rfl,rfl,_,rfl,?_⟩;refine ZY (fun hp=>?_) (fun hp=>?_)
  ·have hp':0<g:=kO hp;refine⟨_,rfl,b,_,_,_,rfl,rfl,Zt.of hb,Zn (j:=0) rfl,_,rfl,_,_,rfl,rfl,(by omega:0<m),?_⟩;refine⟨_,rfl,b,_,_,_,rfl,rfl,Zt.of hb,Zn (j:=0) rfl,_,rfl,_,_,rfl,rfl,⟨by omega,by omega⟩,_,rfl,b,_,_,0,rfl,rfl,hb,rfl,?_⟩;refine⟨_,rfl,k _ _ (XI _ (by omega)) (Xg _ (by omega)) ⟨g / m,r,Int.ediv_nonneg (by omega) (by omega),Zc⟩ YK.upd⟩
  ·refine⟨_,rfl,b,_,_,_,rfl,rfl,Zt.of hb,Zn (j:=1) rfl,_,_,rfl,rfl,.inr ⟨by decide,by decide⟩,_,_,rfl,rfl,_,_,rfl,rfl,(show (0:Int)<2147483647 by decide),_,rfl,b,_,_,1,rfl,rfl,hb,rfl,?_⟩;have e1:0<=(r*48271+11) % 2147483647:=XI _ (by decide);have e2:(r*48271+11) % 2147483647<2147483647:=Xg _ (by decide);refine⟨_,rfl,b,_,_,_,rfl,rfl,Zt.of Zc,Zn (j:=1) rfl,_,_,rfl,rfl,⟨by decide,by decide⟩,_,_,rfl,rfl,⟨by decide,by decide,by omega⟩,_,_,rfl,rfl,(show (0:Int)<2147483629 by decide),_,rfl,_,_,rfl,rfl,(by omega:0<m),?_⟩;exact k _ _ (XI _ (by omega)) (Xg _ (by omega)) ⟨g,_,hg,Zc⟩ YK.upd
def ZmO (K:QF):Sp:=fun vs H Q _=>∃(a:Addr)(i:Int)(ns:QG),vs = [.ref a,.int i]/\Zt K H a (ns.map V.int)/\0<=i/\i<1000 /\ ∀(l:Addr)(H':Hp),H l=none->Zi H H'->Bag H' l->Q (.ref l) H'
abbrev ZaW:Stmt:=top 33
theorem JR:ZA ["_law_script", "_law_at", "_law_cell", "_law_great", "_law_primes"] ["_law_script", "_law_at"] (Zj ZaW):={}
theorem Znr {f:Addr}{fd:FuncData}(F:WC K "_law_bag" "_law_bag" ZaW f fd)(Yr:mg "len" = none)(ZaK:mg "abs" = none):Yi P w K mg base WH 1 f fd ["_law_script", "_law_at"] (ZmO K):=by
 refine F.ok JR (fun vs H Q E h=>?_) (fun cdv A outer s H vs Q E hr h=>?_)
 ·obtain⟨a,i,ns,rfl,_⟩:=h;rfl
 ·obtain⟨a,i,ns,rfl,hS,h0,h1,k⟩:=h;refine⟨_,(Zd (Zm (i:=2) JR.nd rfl (.inl rfl) Ze)
   (Zd (Z9 (Zr Gi (pv 1) (Zv (Ys (K:=K) rfl) (by rfl) Yr qd (Za (pv 0) Zb)) (Zp _)) (Zg (Zm (i:=2) JR.nd rfl (.inl rfl) (Zw (Zs (K:=K) rfl) (pv 0) (pv 1) (fun _ _=>rfl)))) ZN)
   (Zd (Zm (i:=3) JR.nd rfl (.inl rfl) Ze)
   (Zd (Z9 (Zr Zk5 (Zv Zbu (by rfl) ZaK boot_abs (Za (pv 2) Zb)) (Zk Zgv Ze Ze) (Zp _)) (Zg (Zm (i:=3) JR.nd rfl (.inl rfl) (Zv Zbu (by rfl) ZaK boot_abs (Za (pv 2) Zb)))) ZN)
   (Zd (Zm (i:=4) JR.nd rfl (.inl rfl) (ZH (Za Ze (Za Ze (Za Ze (Za Ze (Za Ze (Za Ze (Za Ze (Za Ze Zb))))))))))
   (Zg (Zz (ZH (Za (pv 3) (Za (Zk Gh (Zk Zgv (Zk Zx (Zk Zx (Zk Gh (pv 2) Ze) (Zk Wa Ze (pv 1))) Ze) Ze) (Zw (Zs (K:=K) rfl) (pv 4) (Zk Gh (pv 1) Ze) (fun _ _=>rfl))) Zb)))))))))),?_⟩
  refine⟨_,rfl,_,rfl,a,_,rfl,.inl hS,_,_,rfl,rfl,_,rfl,?_⟩;have last:∀(c:Int),0<=c % 2147483647/\c % 2147483647<2147483647:=fun c=>⟨XI _ (by decide),Xg _ (by decide)⟩;have e3:0<=i % 8:=XI _ (by decide);have e4:i % 8<8:=Xg _ (by decide);obtain⟨j,hj⟩:∃j:Nat,i % 8=(j:Int):=⟨(i % 8).toNat,by omega⟩;have hj8:j<8:=by omega
  obtain⟨q,hq,hq0⟩:∃q:Int,([V.int 2147483629,.int 2147483587,.int 2147483579,.int 2147483563,.int 2147483549,.int 2147483543,.int 2147483497,.int 2147483489]:QH)[j]? = some (.int q)/\0<q:=by
   match j,hj8 with
   | 0,_=>exact⟨_,rfl,by decide⟩
   | 1,_=>exact⟨_,rfl,by decide⟩
   | 2,_=>exact⟨_,rfl,by decide⟩
   | 3,_=>exact⟨_,rfl,by decide⟩
   | 4,_=>exact⟨_,rfl,by decide⟩
   | 5,_=>exact⟨_,rfl,by decide⟩
   | 6,_=>exact⟨_,rfl,by decide⟩
   | 7,_=>exact⟨_,rfl,by decide⟩
  have two:∀(c:Int)(B:Prop),B->(c=0 ∨ ∃j:Nat,i=(j:Int)/\ns[j]? = some c)->B:=fun _ _ b _=>b;refine ZY (fun hp=>?_) (fun hp=>?_)
  ·have hp':i<((ns.map V.int).length:Int):=kO hp;rw[ke] at hp';obtain⟨n,hn⟩:∃n:Nat,i=(n:Int):=⟨i.toNat,by omega⟩;have hnl:n<ns.length:=by omega
   refine⟨_,rfl,_,rfl,a,_,_,_,rfl,rfl,hS,(by rw[hn];exact Zn (v:=V.int ns[n]) (by simp[hnl])),?_⟩;refine⟨_,rfl,_,rfl,_,_,rfl,rfl,⟨by decide,by decide,by decide⟩,_,_,rfl,rfl,_,rfl,?_⟩;refine ZY (fun hp=>?_) (fun hp=>?_)
   ·refine⟨_,rfl,_,rfl,?_⟩;have l0:=last ns[n];refine⟨(by show 8<=sizeLine;decide),fun pl hpl=>?_⟩;refine⟨_,rfl,_,rfl,_,_,rfl,rfl,(show (0:Int)<2147483647 by decide),_,rfl,_,_,rfl,rfl,.inl ⟨by decide,by decide⟩,_,_,rfl,rfl,_,_,rfl,rfl,_,_,rfl,rfl,⟨by decide,by decide,by omega⟩,_,rfl,_,rfl,_,_,rfl,rfl,(show (0:Int)<8 by decide),pl,_,_,_,rfl,rfl,Zt.of Zc,(by rw[hj];exact Zn hq),_,_,rfl,rfl,hq0,sz2,fun l hl=>?_⟩;have hl0:H l=none:=(Zi.laid hpl).free hl;exact k l _ hl0 ((Zi.laid hpl).step hl) ⟨_,_,(by split<;>omega),Zc⟩
   ·have l0:=last ns[n];refine⟨(by show 8<=sizeLine;decide),fun pl hpl=>?_⟩;refine⟨_,rfl,_,rfl,_,_,rfl,rfl,(show (0:Int)<2147483647 by decide),_,rfl,_,_,rfl,rfl,.inl ⟨by decide,by decide⟩,_,_,rfl,rfl,_,_,rfl,rfl,_,_,rfl,rfl,⟨by decide,by decide,by omega⟩,_,rfl,_,rfl,_,_,rfl,rfl,(show (0:Int)<8 by decide),pl,_,_,_,rfl,rfl,Zt.of Zc,(by rw[hj];exact Zn hq),_,_,rfl,rfl,hq0,sz2,fun l hl=>?_⟩;have hl0:H l=none:=(Zi.laid hpl).free hl;exact k l _ hl0 ((Zi.laid hpl).step hl) ⟨0,_,qK _,Zc⟩
  ·refine⟨_,rfl,_,rfl,_,_,rfl,rfl,⟨by decide,by decide,by decide⟩,_,_,rfl,rfl,_,rfl,?_⟩;refine ZY (fun hp=>?_) (fun hp=>?_)
   ·exact absurd hp (by decide)
   ·have l0:=last 0;refine⟨(by show 8<=sizeLine;decide),fun pl hpl=>?_⟩;refine⟨_,rfl,_,rfl,_,_,rfl,rfl,(show (0:Int)<2147483647 by decide),_,rfl,_,_,rfl,rfl,.inl ⟨by decide,by decide⟩,_,_,rfl,rfl,_,_,rfl,rfl,_,_,rfl,rfl,⟨by decide,by decide,by omega⟩,_,rfl,_,rfl,_,_,rfl,rfl,(show (0:Int)<8 by decide),pl,_,_,_,rfl,rfl,Zt.of Zc,(by rw[hj];exact Zn hq),_,_,rfl,rfl,hq0,sz2,fun l hl=>?_⟩;have hl0:H l=none:=(Zi.laid hpl).free hl;exact k l _ hl0 ((Zi.laid hpl).step hl) ⟨0,_,qK _,Zc⟩
def nX (ls:QB):Nat:=ls.countP fun p=>decide (p.1=("cross" : Str))
theorem Ge (a b:QB):nX (a++b)=nX a+nX b:=Lz
theorem Zmk (a:QB)(k:Int):nX (a ++ [(("born" : Str),k)])=nX a:=by rw[Ge];rfl
theorem Zk8 (a:QB)(k:Int):nX (a ++ [(("end" : Str),k)])=nX a:=by rw[Ge];rfl
theorem UZ (a:QB)(k:Int):nX (a ++ [(("cross" : Str),k)])=nX a+1:=by rw[Ge];rfl
def ZjL (lo:Int):Sp:=fun vs H Q _=>∃(b:Addr)(m n:Int),vs = [.ref b,.int m,.int n]/\Bag H b/\1<=m/\m<1000/\0<=n/\n<1000 /\ ∀(l:Addr)(H':Hp)(ls:QB),H l=none->Bag H' b->YK b H H'->Drw H' l ls->(nX ls:Int)<=n->Q (.ref l) H'
def Zfo:Sp:=fun vs H Q _=>∃(b:Addr)(n:Int),vs = [.ref b,.int n]/\Bag H b/\0<=n/\n<20 /\ ∀(l:Addr)(H':Hp)(ls:QB),H l=none->Bag H' b->YK b H H'->Drw H' l ls->(nX ls:Int)<=n->Q (.ref l) H'
abbrev Gk:Stmt:=top 35
theorem ZO:ZA ["_law_bag_here", "_law_births", "_law_most", "_law_letters", "_law_many", "_law_left", "_law_crosses", "_law_turn", "_law_way"] ["_law_bag_here", "_law_births", "_law_most"] (Zj Gk):={}
theorem Zl6 {f:Addr}{fd:FuncData}(F:WC K "_law_drawing" "_law_drawing" Gk f fd)(Zu:JM P w K mg base 1 "_law_take" ["_law_bag_here", "_law_many"] Zb0)(Z8:mg "range" = none):
  Yi P w K mg base WH 2 f fd ["_law_bag_here", "_law_births", "_law_most"] (ZjL 0):=by
 refine F.ok ZO (fun vs H Q E h=>?_) (fun cdv A outer s H vs Q E hr h=>?_)
 ·obtain⟨b,m,n,rfl,_⟩:=h;rfl
 ·obtain⟨b,m,n,rfl,hbag,m1,m2,n1,n2,k⟩:=h;refine⟨_,(Zd (Zm (i:=3) ZO.nd rfl (.inl rfl) (ZH Zb))
   (Zd (Zm (i:=4) ZO.nd rfl (.inl rfl) Ze)
   (Zd (Zm (i:=5) ZO.nd rfl (.inl rfl) (Zk Zx Ze (Zq Zu hr (Za (pv 0) (Za (pv 1) Zb)))))
   (Zd (Zm (i:=6) ZO.nd rfl (.inl rfl) (Zq Zu hr (Za (pv 0) (Za (Zk Zx (pv 2) Ze) Zb))))
   (Zd (Yj Kj rfl (Y0 (by rfl) Z8 (Za Ze Zb)) (Zl (i:=7) ZO.nd rfl (.inl rfl)) (Zd (Zm (i:=8) ZO.nd rfl (.inl rfl) (Zq Zu hr (Za (pv 0) (Za Ze Zb))))
   (Zg (Z9 (PW.pt (GJ (Zr Za7 (pv 5) Ze (Zp _)) (GJ (Zr Gi (pv 4) Ze (Zp _)) (Up (PW.pt (Zg5 (Zr Ym (pv 4) Ze (Zp _)) (ZgU (Zr Ym (pv 8) Ze (Zp _))))))))) (Zd (Ye (Yh (K:=K) rfl (YT kY Kf Kg ZW (pv 3) (Za (ZC (Za ZG (Za (Zq Zu hr (Za (pv 0) (Za (Zk Zx (pv 4) Ze) Zb))) Zb))) Zb))))
   (Zd (Zm (i:=4) ZO.nd rfl (.inl rfl) (Zk Zx (pv 4) Ze))
   (Zg (Zm (i:=5) ZO.nd rfl (.inl rfl) (Zk YN (pv 5) Ze))))) (Zg (Z9 (PW.pt (GJ (Zr Za7 (pv 4) Ze (Zp _)) (Up (Zr Ym (pv 8) Ze (Zp _))))) (Zd (Ye (Yh (K:=K) rfl (YT kY Kf Kg ZW (pv 3) (Za (ZC (Za ZG (Za (Zq Zu hr (Za (pv 0) (Za (Zk YN (pv 4) Ze) Zb))) Zb))) Zb))))
   (Zg (Zm (i:=4) ZO.nd rfl (.inl rfl) (Zk YN (pv 4) Ze)))) (Zg (Z9 (PW.pt (GJ (Zr Za7 (pv 4) Ze (Zp _)) (Up (Zr Za7 (pv 6) Ze (Zp _))))) (Zd (Ye (Yh (K:=K) rfl (YT kY Kf Kg ZW (pv 3) (Za (ZC (Za ZG (Za (Zq Zu hr (Za (pv 0) (Za (Zk YN (pv 4) Ze) Zb))) Zb))) Zb))))
   (Zg (Zm (i:=6) ZO.nd rfl (.inl rfl) (Zk YN (pv 6) Ze)))) ZN))))))))
   (Zd (ZbH Kj (Zr Za7 (pv 4) Ze (Zp _)) (Zd (Ye (Yh (K:=K) rfl (YT kY Kf Kg ZW (pv 3) (Za (ZC (Za ZG (Za (Zq Zu hr (Za (pv 0) (Za (Zk YN (pv 4) Ze) Zb))) Zb))) Zb))))
   (Zg (Zm (i:=4) ZO.nd rfl (.inl rfl) (Zk YN (pv 4) Ze)))))
   (Zg (Zz (pv 3))))))))),?_⟩
  refine⟨sz0,fun l hl=>?_⟩;obtain⟨g0,r0,hg0,hb0⟩:=id hbag;have hlb:l≠b:=(Zf hb0 hl).symm;have bag1:Bag (upd H l (.lst [])) b:=⟨g0,r0,hg0,by rw[Zh (Kz hlb)];exact hb0⟩;refine⟨_,rfl,_,rfl,b,m,rfl,bag1,m1,by lia,fun d1 H1 _ _ bg1 f1=>?_⟩;refine⟨_,_,rfl,rfl,?_⟩;refine⟨_,rfl,_,rfl,_,_,rfl,rfl,b,_,rfl,bg1,by lia,by lia,fun d2 H2 d20 d21 bg2 f2=>?_⟩;have hl2:H2 l=some (.lst []):=f2 l _ (f1 l _ Zc hlb) hlb;have fr2:YK b H H2:=fun c o e nb=>f2 c o (f1 c o (by rw[Zh (Zf e hl)];exact e) nb) nb;refine⟨30,rfl,by decide,by decide,JQ (n:=30) (fun i σ H'=>∃(xs:QH)(ls:QB)(c:Nat)(lf cr:Int)(tv wv:QI),σ = [some (.ref b),some (.int m),some (.int n),some (.ref l),some (.int (2*(c:Int))),some (.int lf),some (.int cr),tv,wv]/\c<=4/\Bag H' b/\YK b H H'/\H' l=some (.lst xs)/\ZD H' xs ls/\Wk ls (2*(c:Int))/\ls.length<=i/\(nX ls:Int)+cr<=n/\0<=cr)
   ⟨[],[],0,_,_,none,none,rfl,by decide,bg2,fr2,hl2,.nil,Wk.nil0,ki _,(by show ((0:Nat):Int)+d2<=n;lia),d20⟩ ?_ ?_⟩
  ·rintro i σ H3 hi ⟨xs,ls,c,lf,cr,tv,wv,rfl,hc,bg3,fr3,hl3,hL,hW,hlen,hx,hx0⟩;have hxl:xs.length<sizeLine:=by
    rw[hL.len];exact Zy (by lia)
   refine⟨_,rfl,b,8,rfl,bg3,by decide,by decide,fun wy H4 _ _ bg4 f4=>?_⟩;have hl4:H4 l=some (.lst xs):=f4 l _ hl3 hlb;have fr4:YK b H H4:=fr3.trans f4;have hL4:ZD H4 xs ls:=hL.frm f4 bg3;dsimp only[Yw];refine ZgC (Zew (β:=decide (0<lf)) (fun Q q=>⟨_,rfl,_,_,rfl,rfl,_,rfl,q⟩) fun _=>Zew (β:=decide (2*(c:Int)<7)) (fun Q q=>⟨_,rfl,_,_,rfl,rfl,_,rfl,q⟩) fun _=>Zo8 (fun Q q=>⟨_,rfl,rfl,_,rfl,q⟩) fun _=>(fun Q q=>⟨_,rfl,rfl,_,rfl,q⟩)) (fun hp=>?_) (fun _=>?_)
   ·
    have hp1:2*(c:Int)<7:=by simp only[KQ,KA] at hp;exact hp.2.1
    refine⟨_,rfl,.inl ⟨rfl,_,Zt.of hl4⟩,_,rfl,_,rfl,_,_,rfl,rfl,b,_,rfl,bg4,by lia,by lia,fun d H5 hd0 hd1 bg5 f5=>⟨sz2,fun t ht=>?_⟩⟩;obtain⟨a1,a2,a3,a4,a5⟩:=Wx "born" d fr4 bg4 hl4 hL4 hlb hl f5 bg5 ht;refine⟨l,_,_,rfl,rfl,a1,hxl,_,rfl,_,_,rfl,rfl,_,rfl,_,_,rfl,rfl,?_⟩;refine⟨xs ++ [.ref t],ls ++ [((("born" : Str),d):Str×Int)],c+1,lf-1,cr,some (.int (0+(i:Int))),some (.int wy),?_,by lia,a2,a3,a4,a5,?_,by rw[kg,Ks];lia,by rw[Zmk];exact hx,hx0⟩
    ·have e:2*((c+1:Nat):Int)=2*(c:Int)+2:=by lia
     rw[e];rfl
    ·have e:2*((c+1:Nat):Int)=2*(c:Int)+2:=by lia
     rw[e];exact Wk.born hW hd0 (by lia)
   ·refine ZgC (Zew (β:=decide (2<2*(c:Int))) (fun Q q=>⟨_,rfl,_,_,rfl,rfl,_,rfl,q⟩) fun _=>(fun Q q=>⟨_,rfl,rfl,_,rfl,q⟩)) (fun hp=>?_) (fun _=>?_)
    ·
     have hp1:2<2*(c:Int):=by simp only[KQ,KA] at hp;exact hp.1
     refine⟨_,rfl,.inl ⟨rfl,_,Zt.of hl4⟩,_,rfl,_,rfl,_,_,rfl,rfl,b,_,rfl,bg4,by lia,by lia,fun d H5 hd0 hd1 bg5 f5=>⟨sz2,fun t ht=>?_⟩⟩;obtain⟨a1,a2,a3,a4,a5⟩:=Wx "end" d fr4 bg4 hl4 hL4 hlb hl f5 bg5 ht;refine⟨l,_,_,rfl,rfl,a1,hxl,_,rfl,_,_,rfl,rfl,?_⟩;have e:2*((c-1:Nat):Int)=2*(c:Int)-2:=by lia
     refine⟨xs ++ [.ref t],ls ++ [((("end" : Str),d):Str×Int)],c-1,lf,cr,some (.int (0+(i:Int))),some (.int wy),?_,by lia,a2,a3,a4,a5,?_,by rw[kg,Ks];lia,by rw[Zk8];exact hx,hx0⟩
     ·rw[e];rfl
     ·rw[e];exact Wk.fin hW hd0 (by lia)
    ·refine ZgC (Zew (β:=decide (1<2*(c:Int))) (fun Q q=>⟨_,rfl,_,_,rfl,rfl,_,rfl,q⟩) fun _=>(fun Q q=>⟨_,rfl,_,_,rfl,rfl,_,rfl,q⟩)) (fun hp=>?_) (fun _=>?_)
     ·
      have hp1:1<2*(c:Int):=by simp only[KQ,KA] at hp;exact hp.1
      have hcr:0<cr:=by simp only[KQ,KA] at hp;exact hp.2
      refine⟨_,rfl,.inl ⟨rfl,_,Zt.of hl4⟩,_,rfl,_,rfl,_,_,rfl,rfl,b,_,rfl,bg4,by lia,by lia,fun d H5 hd0 hd1 bg5 f5=>⟨sz2,fun t ht=>?_⟩⟩;obtain⟨a1,a2,a3,a4,a5⟩:=Wx "cross" d fr4 bg4 hl4 hL4 hlb hl f5 bg5 ht;refine⟨l,_,_,rfl,rfl,a1,hxl,_,rfl,_,_,rfl,rfl,?_⟩;exact⟨xs ++ [.ref t],ls ++ [((("cross" : Str),d):Str×Int)],c,_,_,_,_,rfl,hc,a2,a3,a4,a5,Wk.cross hW hd0 (by lia),by rw[kg,Ks];lia,by rw[UZ];lia,by lia⟩
     ·exact⟨xs,ls,c,_,_,_,_,rfl,hc,bg4,fr4,hl4,hL4,hW,by lia,hx,hx0⟩
  ·
   rintro σ H3 ⟨xs,ls,c,lf,cr,tv,wv,rfl,hc,bg3,fr3,hl3,hL,hW,hlen,hx,hx0⟩;refine ZjC (fun σ H'=>∃(xs:QH)(ls:QB)(c:Nat),σ = [some (.ref b),some (.int m),some (.int n),some (.ref l),some (.int (2*(c:Int))),some (.int lf),some (.int cr),tv,wv]/\c<=4/\Bag H' b/\YK b H H'/\H' l=some (.lst xs)/\ZD H' xs ls/\Wk ls (2*(c:Int))/\ls.length+c<=34/\(nX ls:Int)<=n)
    (fun(σ:L2.St) _=>match σ[4]? with | some (some (V.int m))=>m.toNat | _=>0) ⟨xs,ls,c,rfl,hc,bg3,fr3,hl3,hL,hW,by lia,by lia⟩ ?_ ?_
   ·rintro σ H4 ⟨xs,ls,c,rfl,hc,bg4,fr4,hl4,hL4,hW,hlen,hx⟩;have hxl:xs.length<sizeLine:=by
     rw[hL4.len];exact Zy (by lia)
    refine⟨_,rfl,_,_,rfl,rfl,_,rfl,?_⟩;refine ZY (fun hp=>?_) (fun hp=>?_)
    ·have hp1:0<2*(c:Int):=kO hp;refine⟨_,rfl,.inl ⟨rfl,_,Zt.of hl4⟩,_,rfl,_,rfl,_,_,rfl,rfl,b,_,rfl,bg4,by lia,by lia,fun d H5 hd0 hd1 bg5 f5=>⟨sz2,fun t ht=>?_⟩⟩;obtain⟨a1,a2,a3,a4,a5⟩:=Wx "end" d fr4 bg4 hl4 hL4 hlb hl f5 bg5 ht;refine⟨l,_,_,rfl,rfl,a1,hxl,_,rfl,_,_,rfl,rfl,?_⟩;have e:2*((c-1:Nat):Int)=2*(c:Int)-2:=by lia
     refine⟨⟨xs ++ [.ref t],ls ++ [((("end" : Str),d):Str×Int)],c-1,?_,by lia,a2,a3,a4,a5,?_,by rw[kg,Ks];lia,by rw[Zk8];exact hx⟩,?_⟩
     ·rw[e];rfl
     ·rw[e];exact Wk.fin hW hd0 (by lia)
     ·show (2*(c:Int)-2).toNat<(2*(c:Int)).toNat;lia
    ·have hp1:¬ 0<2*(c:Int):=fun z=>hp (kM z);have hc0:c=0:=by lia
     subst hc0;refine⟨_,rfl,k l H4 ls hl bg4 fr4 ⟨xs,hl4,hL4,by simpa using hW,by lia⟩ hx⟩
   ·rintro σ H Q Q' f ⟨v,e,i,j,e1,e2,kk,e3,q⟩;exact⟨v,e,i,j,e1,e2,kk,e3,f _ _ q⟩
abbrev Wt:Stmt:=top 36
theorem Jw:ZA ["_law_bag_here", "_law_most", "_law_births", "_law_letters", "_law_turn", "_law_k"] ["_law_bag_here", "_law_most"] (Zj Wt):={}
theorem ZlM {f:Addr}{fd:FuncData}(F:WC K "_law_plat" "_law_plat" Wt f fd)(Zu:JM P w K mg base 1 "_law_take" ["_law_bag_here", "_law_many"] Zb0)(Z8:mg "range" = none):
  Yi P w K mg base WH 2 f fd ["_law_bag_here", "_law_most"] Zfo:=by
 refine F.ok Jw (fun vs H Q E h=>?_) (fun cdv A outer s H vs Q E hr h=>?_)
 ·obtain⟨b,n,rfl,_⟩:=h;rfl
 ·obtain⟨b,n,rfl,hbag,n1,n2,k⟩:=h;refine⟨_,(Zd (Zm (i:=2) Jw.nd rfl (.inl rfl) (Zk Zx Ze (Zq Zu hr (Za (pv 0) (Za Ze Zb)))))
   (Zd (Zdc (i:=3) Jw.nd rfl (.inl rfl) (Ls:=["_law_k"]) (Fs:=[]) (fi:=[]) (ZZ.of (show YC ["_law_bag_here", "_law_most", "_law_births", "_law_letters", "_law_turn", "_law_k"] (Zj Wt) _ [] []=true by decide +kernel)) rfl (Y0 (by rfl) Z8 (Za (pv 2) Zb)) (fun cl C s3 H3 ex=>⟨(Zl (i:=0) (show ((["_law_k"]:QP)++([]:QP)).Nodup by decide +kernel) rfl (.inl rfl)),YX,(ZC (Za ZG (Za (Zk Wa Ze (pv 0)) Zb)))⟩))
   (Zd (Yj Kj rfl (Y0 (by rfl) Z8 (Za (Zq Zu hr (Za (pv 0) (Za (Zk Zx (pv 1) Ze) Zb))) Zb)) (Zl (i:=4) Jw.nd rfl (.inl rfl)) (Zd (Zm (i:=5) Jw.nd rfl (.inl rfl) (Zq Zu hr (Za (pv 0) (Za (Zk YN (Zk Wa Ze (pv 2)) Ze) Zb))))
   (Zd (Z9 (PW.pt (GJ (Zr Za7 (pv 2) Ze (Zp _)) (Up (Zr Ym (Zq Zu hr (Za (pv 0) (Za Ze Zb))) Ze (Zp _))))) (Zg (Zm (i:=5) Jw.nd rfl (.inl rfl) (Zk Zx (Zk Wa Ze (Zk Gh (Zk Zbc (pv 5) Ze) (Zk YN (pv 2) Ze))) Ze))) ZN)
   (Zg (Ye (Yh (K:=K) rfl (YT kY Kf Kg ZW (pv 3) (Za (ZC (Za ZG (Za (pv 5) Zb))) Zb))))))))
   (Zg (Zz (Zk Gj (pv 3) (Ga (Ls:=["_law_k"]) (Fs:=[]) (fi:=[]) (ZZ.of (show YC ["_law_bag_here", "_law_most", "_law_births", "_law_letters", "_law_turn", "_law_k"] (Zj Wt) _ [] []=true by decide +kernel)) rfl (Y0 (by rfl) Z8 (Za (pv 2) Zb)) (fun cl C s3 H3 ex=>⟨(Zl (i:=0) (show ((["_law_k"]:QP)++([]:QP)).Nodup by decide +kernel) rfl (.inl rfl)),YX,(ZC (Za ZG (Za Ze Zb)))⟩)))))))),?_⟩
  refine⟨_,rfl,b,3,rfl,hbag,by decide,by decide,fun d H1 hd0 hd1 bg1 f1=>?_⟩;refine⟨_,_,rfl,rfl,?_⟩;have hc1:1<=(1+d).toNat:=by lia
  have hc2:(1+d).toNat<=3:=by lia
  refine⟨_,rfl,_,rfl,by lia,by lia,Zgz (n:=(1+d).toNat) (KN (Zy (by lia))) (fun i ys H'=>Zi H1 H'/\ZD H' ys ((List.range i).map fun(j:Nat)=>(("born", 2*(j:Int)):Str×Int))) ⟨Zi.refl _,.nil⟩
   (fun i ys H' p=>by rw[p.2.len];simp) (fun i ys H' hi p=>?_) (fun ys H2 p l hl=>?_)⟩
  ·refine lcG ?_;refine⟨_,rfl,_,_,rfl,rfl,.inl ⟨by decide,by decide⟩,sz2,fun t ht=>⟨p.1.step ht,?_⟩⟩;rw[K7,k6];have e:(2*(0+(i:Int)))=2*(i:Int):=by lia
   refine ZD.snoc (p.2.same (Zi.laid ht)) ?_;rw[<- e];exact Zc
  ·
   obtain⟨sm,hL0⟩:=p;obtain⟨g0,r0,hg0,hb0⟩:=id bg1;have hb2:H2 b=some (.lst [.int g0,.int r0]):=sm b _ hb0;have hlb:l≠b:=(Zf hb2 hl).symm;have bg2:Bag (upd H2 l (.lst ys)) b:=⟨g0,r0,hg0,by rw[Zh (Kz hlb)];exact hb2⟩;have hlH:H l=none:=f1.free bg1 (sm.free hl);have fr2:YK b H (upd H2 l (.lst ys)):=(f1.trans sm.frm).new hl;have hL2:ZD (upd H2 l (.lst ys)) ys ((List.range (1+d).toNat).map fun(j:Nat)=>(("born", 2*(j:Int)):Str×Int)):=hL0.same (Zi.laid hl);refine⟨_,rfl,_,rfl,_,_,rfl,rfl,b,_,rfl,bg2,by lia,by lia,fun d2 H3 he0 he1 bg3 f3=>?_⟩;refine⟨_,rfl,by lia,by lia,JQ (n:=d2.toNat) (fun i σ H'=>∃(xs:QH)(ls:QB)(tv kv:QI),σ = [some (.ref b),some (.int n),some (.int (1+d)),some (.ref l),tv,kv]/\Bag H' b/\YK b H H'/\H' l=some (.lst xs)/\ZD H' xs ls/\Wk ls (2*((1+d).toNat:Int))/\ls.length<=3+i/\nX ls<=i)
    ⟨ys,_,none,none,rfl,bg3,fr2.trans f3,f3 l _ Zc hlb,hL2.frm f3 bg2,Zec _,by rw[ke,qV];lia,by unfold nX;rw[List.countP_map];refine Nat.le_of_eq (M3.mpr fun _ _=>by simp;decide)⟩ ?_ ?_⟩
   ·rintro i σ H4 hi ⟨xs,ls,tv,kv,rfl,bg4,fr4,hl4,hL4,hW,hlen,hx⟩;have hxl:xs.length<sizeLine:=by
     rw[hL4.len];exact Zy (by lia)
    refine⟨_,rfl,_,rfl,_,_,rfl,rfl,.inl ⟨by decide,by decide⟩,_,_,rfl,rfl,b,_,rfl,bg4,by lia,by lia,fun k1 H5 hk0 hk1 bg5 f5=>?_⟩;have hl5:H5 l=some (.lst xs):=f5 l _ hl4 hlb;have fr5:YK b H H5:=fr4.trans f5;have hL5:ZD H5 xs ls:=hL4.frm f5 bg4;refine⟨_,rfl,_,_,rfl,rfl,_,rfl,?_⟩;refine ZY (fun hp=>?_) (fun hp=>?_)
    ·have hp1:1<1+d:=kO hp;refine⟨_,rfl,b,2,rfl,bg5,by decide,by decide,fun d3 H6 _ _ bg6 f6=>⟨rfl,_,rfl,?_⟩⟩;have hl6:H6 l=some (.lst xs):=f6 l _ hl5 hlb;have fr6:YK b H H6:=fr5.trans f6;have hL6:ZD H6 xs ls:=hL5.frm f6 bg5;refine ZY (fun hq=>?_) (fun hq=>?_)
     ·refine⟨_,rfl,_,_,rfl,rfl,⟨by decide,by decide⟩,_,rfl,_,_,rfl,rfl,_,_,rfl,rfl,(show (0:Int)<1+d-1 by lia),_,_,rfl,rfl,.inl ⟨by decide,by decide⟩,_,_,rfl,rfl,?_⟩;have z0:0<=k1 / 2 % (1+d-1):=XI _ (by lia);have z1:k1 / 2 % (1+d-1)<1+d-1:=Xg _ (by lia);refine⟨_,rfl,.inl ⟨rfl,_,Zt.of hl6⟩,_,rfl,sz2,fun t ht=>?_⟩;obtain⟨a1,a2,a3,a4,a5⟩:=Wx "cross" (2*(k1 / 2 % (1+d-1))+1) fr6 bg6 hl6 hL6 hlb hlH (YK.refl b H6) bg6 ht;refine⟨l,_,_,rfl,rfl,a1,hxl,?_⟩;exact⟨xs ++ [.ref t],_,_,_,rfl,a2,a3,a4,a5,Wk.cross hW (by lia) (by lia),by rw[kg,Ks];lia,by rw[UZ];lia⟩
     ·refine⟨_,rfl,.inl ⟨rfl,_,Zt.of hl6⟩,_,rfl,sz2,fun t ht=>?_⟩;obtain⟨a1,a2,a3,a4,a5⟩:=Wx "cross" k1 fr6 bg6 hl6 hL6 hlb hlH (YK.refl b H6) bg6 ht;refine⟨l,_,_,rfl,rfl,a1,hxl,?_⟩;exact⟨xs ++ [.ref t],_,_,_,rfl,a2,a3,a4,a5,Wk.cross hW (by lia) (by lia),by rw[kg,Ks];lia,by rw[UZ];lia⟩
    ·refine⟨_,rfl,.inl ⟨rfl,_,Zt.of hl5⟩,_,rfl,sz2,fun t ht=>?_⟩;obtain⟨a1,a2,a3,a4,a5⟩:=Wx "cross" k1 fr5 bg5 hl5 hL5 hlb hlH (YK.refl b H5) bg5 ht;refine⟨l,_,_,rfl,rfl,a1,hxl,?_⟩;exact⟨xs ++ [.ref t],_,_,_,rfl,a2,a3,a4,a5,Wk.cross hW (by lia) (by lia),by rw[kg,Ks];lia,by rw[UZ];lia⟩
   ·rintro σ H4 ⟨xs,ls,tv,kv,rfl,bg4,fr4,hl4,hL4,hW,hlen,hx⟩;refine⟨_,rfl,_,rfl,_,rfl,by lia,by lia,Zgz (n:=(1+d).toNat) (KN (Zy (by lia))) (fun i ys H'=>Zi H4 H'/\ZD H' ys (List.replicate i ((("end" : Str),0):Str×Int))) ⟨Zi.refl _,.nil⟩
     (fun i ys H' p=>by rw[p.2.len];simp) (fun i ys H' hi p=>?_) (fun zs H5 p D hD=>?_)⟩
    ·refine lcG ?_;refine⟨sz2,fun t ht=>⟨p.1.step ht,?_⟩⟩;rw[qS];exact ZD.snoc (p.2.same (Zi.laid ht)) Zc
    ·obtain⟨sm5,hZ⟩:=p;have hl5:H5 l=some (.lst xs):=sm5 l _ hl4;have hZl:=hZ.len;rw[K0] at hZl;have hXl:=hL4.len;refine⟨l,D,xs,zs,rfl,rfl,(by rw[Zh (Zf hl5 hD)];exact hl5),Zc,KN (Zy (by lia)),fun p hp=>?_⟩;have sm6:Zi H4 (upd (upd H5 D (.lst zs)) p (.lst (xs++zs))):=(sm5.step hD).step hp;have hpH:H p=none:=fr4.free bg4 ((sm5.step hD).free hp);obtain⟨g4,r4,hg4,hb4⟩:=id bg4;refine k p _ (ls++List.replicate (1+d).toNat ((("end" : Str),0):Str×Int)) hpH ⟨g4,r4,hg4,sm6 b _ hb4⟩ (fr4.trans sm6.frm) ⟨xs++zs,Zc,?_,?_,?_⟩ (by
      rw[Ge];have:nX (List.replicate (1+d).toNat ((("end" : Str),0):Str×Int))=0:=M3.mpr fun a ha=>by rw[(List.mem_replicate.mp ha).2];decide
      lia)
     ·exact(hL4.same sm6).append (hZ.same ((Zi.laid hD).step hp))
     ·have:=Zct _ hW (1+d).toNat (ki _);simpa using this
     ·rw[kg,K0];lia
abbrev ZaZ:Stmt:=top 37
theorem ZfF:ZA ["_law_bag_here", "_law_most"] ["_law_bag_here", "_law_most"] (Zj ZaZ):={}
theorem Zm3 {f:Addr}{fd:FuncData}(F:WC K "_law_any" "_law_any" ZaZ f fd)(Zu:JM P w K mg base 1 "_law_take" ["_law_bag_here", "_law_many"] Zb0)(JP:JM P w K mg base 2 "_law_plat" ["_law_bag_here", "_law_most"] Zfo)
  (Gn:JM P w K mg base 2 "_law_drawing" ["_law_bag_here", "_law_births", "_law_most"] (ZjL 0)):Yi P w K mg base WH 3 f fd ["_law_bag_here", "_law_most"] Zfo:=by
 refine F.ok ZfF (fun vs H Q E h=>?_) (fun cdv A outer s H vs Q E hr h=>?_)
 ·obtain⟨b,n,rfl,_⟩:=h;rfl
 ·obtain⟨b,n,rfl,hbag,n1,n2,k⟩:=h;refine⟨_,(Zd (Z9 (Zr Ym (Zq Zu hr (Za (pv 0) (Za Ze Zb))) Ze (Zp _)) (Zg (Zz (Zq JP hr (Za (pv 0) (Za (pv 1) Zb))))) ZN)
   (Zg (Zz (Zq Gn hr (Za (pv 0) (Za Ze (Za (pv 1) Zb))))))),?_⟩
  refine⟨_,rfl,b,3,rfl,hbag,by decide,by decide,fun d H1 _ _ bg1 f1=>⟨rfl,_,rfl,?_⟩⟩;refine ZY (fun _=>?_) (fun _=>?_)
  ·exact⟨_,rfl,_,rfl,b,n,rfl,bg1,n1,n2,fun l H2 ls hl bg2 f2 dr nx=>k l H2 ls (f1.free bg1 hl) bg2 (f1.trans f2) dr nx⟩
  ·exact⟨_,rfl,_,rfl,b,4,n,rfl,bg1,by decide,by decide,n1,by lia,fun l H2 ls hl bg2 f2 dr nx=>k l H2 ls (f1.free bg1 hl) bg2 (f1.trans f2) dr nx⟩
def ZhF:Sp:=fun vs H Q _=>∃i:Int,vs = [.int i]/\Q (.bl true) H
abbrev Us:Stmt:=top 42
theorem Zdy:ZA ["_law_thing"] ["_law_thing"] (Zj Us):={}
theorem ZiZ {f:Addr}{fd:FuncData}(F:WC K "_law_whole" "_law_whole" Us f fd)(Yg:mg "isinstance" = none)(UP:mg "int" = none)(ZgN:mg "bool" = none):Yi P w K mg base WH 1 f fd ["_law_thing"] ZhF:=by
 refine F.ok Zdy (fun vs H Q E h=>?_) (fun cdv A outer s H vs Q E hr h=>?_)
 ·obtain⟨i,rfl,_⟩:=h;rfl
 ·obtain⟨i,rfl,k⟩:=h;refine⟨_,(Zg (Zz (ZbZ (Zv (JU (K:=K) rfl) (by rfl) Yg Tg (Za (pv 0) (Za (Zbj (v:=.ty "int") (by rfl) UP MQ rfl) Zb))) (Zai (Znw (Zv (JU (K:=K) rfl) (by rfl) Yg Tg (Za (pv 0) (Za (Zbj (v:=.ty "bool") (by rfl) ZgN boot_bool rfl) Zb)))))))),?_⟩;refine⟨_,rfl,_, "int", _,true,rfl,.int i,by rfl,true,rfl,ZaY ?_⟩;exact⟨_,rfl,_, "bool", _,false,rfl,.int i,by rfl,false,rfl,k⟩
def ZdD:Sp:=fun vs H Q _=>∃(l:Addr)(ns:QG),vs = [.ref l]/\H l=some (.lst (ns.map V.int))/\ns.length<=900 /\ ∀H',Zi H H'->Q (.bl true) H'
abbrev J6:Stmt:=top 43
theorem Zcj:ZA ["_law_thing"] ["_law_thing"] (Zj J6):={}
theorem Zgq {f:Addr}{fd:FuncData}(F:WC K "_law_numbers" "_law_numbers" J6 f fd)(Uu:JM P w K mg base 1 "_law_whole" ["_law_thing"] ZhF)(Yg:mg "isinstance" = none)(Yf:mg "list" = none)(ZdH:mg "all" = none):
  Yi P w K mg base WH 2 f fd ["_law_thing"] ZdD:=by
 refine F.ok Zcj (fun vs H Q E h=>?_) (fun cdv A outer s H vs Q E hr h=>?_)
 ·obtain⟨l,ns,rfl,_⟩:=h;rfl
 ·obtain⟨l,ns,rfl,hl,hlen,k⟩:=h;refine⟨_,(Zg (Zz (ZbZ (Zv (JU (K:=K) rfl) (by rfl) Yg Tg (Za (pv 0) (Za (Zbj (v:=.ty "list") (by rfl) Yf XN rfl) Zb))) (Zai (Zv (Zef (K:=K) rfl rfl) (by rfl) ZdH boot_all (Za (Ga (Ls:=["_law_one"]) (Fs:=[]) (fi:=[]) (ZZ.of (show YC ["_law_thing"] (Zj J6) _ [] []=true by decide +kernel)) rfl (ZT (K:=K) rfl (pv 0)) (fun cl C s3 H3 ex=>⟨(Zl (i:=0) (show ((["_law_one"]:QP)++([]:QP)).Nodup by decide +kernel) rfl (.inl rfl)),YX,(Zq Uu hr (Za (pv 0) Zb))⟩)) Zb)))))),?_⟩;refine⟨_,rfl,_, "list", _,true,rfl,.lst hl,by rfl,true,rfl,ZaY ?_⟩;refine⟨_,rfl,l,rfl,⟨_,Zt.of hl⟩,Ja (xs:=ns.map V.int) (by rw[ke];exact KN (Zy (by lia))) (fun i ys H'=>Zi H H'/\ys=(List.replicate i true).map V.bl) ⟨Zi.refl _,rfl⟩
   (fun i ys H' p=>by rw[p.2];simp) (fun i ys H' p=>Zt.of (p.1 l _ hl)) (fun i x ys H' hx p=>?_) (fun ys H' p D hD=>?_)⟩
  ·obtain⟨sm,rfl⟩:=p;obtain⟨z,rfl⟩:∃z,x=V.int z:=by
    rw[kE] at hx;cases e:ns[i]? with
    | none=>rw[e] at hx;cases hx
    | some z=>rw[e] at hx;exact⟨z,(Kb hx).symm⟩
   refine lcG ?_;refine⟨_,rfl,z,rfl,sm,?_⟩;rw[qS,k6];rfl
  ·obtain⟨sm,rfl⟩:=p;refine⟨D,_,rfl,Zt.of Zc,?_⟩;have e:(List.replicate (ns.map V.int).length true).all id=true:=by simp
   rw[e];exact k _ (sm.step hD)
abbrev ZbS:Stmt:=top 8
theorem JJ:ZA ["drawing", "rows", "born", "kind", "k", "row"] ["drawing"] (Zj ZbS):={}
theorem ZgZ {f:Addr}{fd:FuncData}(F:WC K "threads" "threads" ZbS f fd)(Yf:mg "list" = none):Yi P w K mg base WH 1 f fd ["drawing"] Zb4:=by
 refine F.ok JJ (fun vs H Q E h=>?_) (fun cdv A outer s H vs Q E hr h=>?_)
 ·obtain⟨l,xs,ls,rfl,_⟩:=h;rfl
 ·obtain⟨l,xs,ls,rfl,hl,hL,hlen,hW,k⟩:=h;refine⟨_,(Zd (Zm (i:=1) JJ.nd rfl (.inl rfl) (ZH (Za (ZH Zb) Zb)))
   (Zd (Zm (i:=2) JJ.nd rfl (.inl rfl) Ze)
   (Zd (Yj Kj rfl (ZT (K:=K) rfl (pv 0)) (Z6 (K:=K) (n:=2) rfl rfl (Zo (Zl (i:=3) JJ.nd rfl (.inl rfl)) (Zo (Zl (i:=4) JJ.nd rfl (.inl rfl)) ZQ))) (Zd (Zm (i:=5) JJ.nd rfl (.inl rfl) (Z0 (Jc (K:=K) rfl) (by rfl) Yf XN (Za (Zw (Zs (K:=K) rfl) (pv 1) (Zcc Zam Ze) (fun _ _=>rfl)) Zb)))
   (Zd (Z9 (Zr Ym (pv 3) ZG (Zp _)) (Zd (Yd (ZH (Za (pv 2) (Za (Zk Zx (pv 2) Ze) Zb))) (Zni (pv 5) (Yq (pv 4)) (Yq (pv 4))))
   (Zg (Zj7 (i:=2) JJ.nd rfl (.inl rfl) Ze Znq))) (Zg (Z9 (Zr Ym (pv 3) ZG (Zp _)) (Zg (Yd (ZC (Za (Zw (Zs (K:=K) rfl) (pv 5) (Zk Zx (pv 4) Ze) (fun _ _=>rfl)) (Za (Zw (Zs (K:=K) rfl) (pv 5) (pv 4) (fun _ _=>rfl)) Zb))) (Z6 (K:=K) (n:=2) rfl rfl (Zo (Yp (pv 5) (pv 4) set_list) (Zo (Yp (pv 5) (Zk Zx (pv 4) Ze) set_list) ZQ))))) (Zg (ZkG (pv 5) (Yq (pv 4)) (Yq (Zk Zx (pv 4) Ze)))))))
   (Zg (Ye (Yh (K:=K) rfl (YT kY Kf Kg ZW (pv 1) (Za (pv 5) Zb))))))))
   (Zg (Zz (pv 1)))))),?_⟩
  have hxl:=hL.len;refine⟨sz0,fun e0 he0=>⟨sz1,fun R hR=>?_⟩⟩;have hRH:H R=none:=(Zi.laid he0).free hR;have hRe:e0≠R:=Zf (Zc (H:=H) (a:=e0) (o:=.lst [])) hR;have sm0:Zi H (upd (upd H e0 (.lst [])) R (.lst [.ref e0])):=(Zi.laid he0).step hR;refine⟨_,rfl,l,rfl,⟨_,Zt.of (sm0 l _ hl)⟩,JG (K:=K) (a:=l) (xs:=xs) (fun i σ H'=>∃(ys:QH)(v3 v4 v5:QI),σ = [some (.ref l),some (.ref R),some (.int (rb (ls.take i)).2),v3,v4,v5]/\Zi H H'/\H' R=some (.lst ys)/\YS H' ys (rowsOf ls (i+1))/\(∀t,V.ref t∈ys->H t=none/\t≠R)/\ys.Nodup)
   ⟨[.ref e0],none,none,none,rfl,sm0,Zc,?_,?_,by simp⟩ (fun i σ H' _ ⟨_,_,_,_,_,sm,_⟩=>Zt.of (sm l _ hl)) ?_ ?_⟩
  ·refine Paired.cons ⟨e0,rfl,?_⟩ .nil;rw[Zh hRe,Zc];rfl
  ·intro t ht;have:t=e0:=V.ref.inj (k7.mp ht);subst this;exact⟨he0,hRe⟩
  ·rintro i x σ H' hx ⟨ys,v3,v4,v5,rfl,sm,hR',rv,ap,nd⟩;obtain⟨⟨qx,qk⟩,tl,hq,rfl,htl⟩:=hL.get hx;have htl':=sm tl _ htl;have hi:i<ls.length:=(kI.mp hq).1;obtain⟨ztk,cases3⟩:=ZdC hW hq;have rv':=rv;rw[Zaj] at rv';obtain⟨ys0,t,rfl,ht⟩:=rv'.last;have hyl:(ys0 ++ [V.ref t]).length<sizeLine:=by
    rw[rv.len];unfold rowsOf;rw[ke,qV];exact Zy (by lia)
   have rl:((rb (ls.take i)).1.map V.int).length=(rb (ls.take i)).1.length:=ke _;obtain⟨m,hm⟩:=GA hW i;have r8:(rb (ls.take i)).1.length<=900:=by have z1:=Zah hm;have z2:=ZbE hm;rw[kL] at z2;lia
   refine⟨tl,_,rfl,YJ.of htl',rfl,_,_,rfl,_,_,rfl,rfl,?_⟩;refine⟨_,rfl,1,rfl,R,_,_,_,rfl,rfl,Zt.of hR',Zbg _ _,t,_,rfl,.inl (Zt.of ht),fun w hw=>?_⟩;have hwR:w≠R:=(Zf hR' hw).symm;refine⟨_,rfl,rfl,_,rfl,?_⟩;rcases cases3 with⟨e,b0,b1⟩ | ⟨e,b0,b1⟩ | ⟨e,b0,b1⟩
   ·have e:qx = "born" := e;subst e;refine ZY (fun _=>?_) (fun hn=>absurd (by simp) hn);refine⟨_,rfl,_,rfl,_,_,rfl,rfl,sz2,fun nl hnl=>?_⟩;have hwn:w≠nl:=Zf (Zc (H:=H') (a:=w)) hnl;refine⟨_,rfl,_,rfl,_,rfl,_,rfl,_,rfl,w,nl,_,_,qk,qk,rfl,rfl,rfl,rfl,(by rw[Zh hwn];exact Zc),Zc,hwn,b0,qK _,(by rw[rl];exact b1),(by rw[rl];exact KN (Zy (by show _+2<=1000;lia))),?_⟩;refine⟨_,rfl,_,_,rfl,rfl,?_⟩;have hR2:(upd (upd (upd H' w (.lst ((rb (ls.take i)).1.map V.int))) nl (.lst [.int (rb (ls.take i)).2,.int ((rb (ls.take i)).2+1)])) w (.lst (((rb (ls.take i)).1.map V.int).take qk.toNat ++ [.int (rb (ls.take i)).2,.int ((rb (ls.take i)).2+1)]++((rb (ls.take i)).1.map V.int).drop qk.toNat))) R=some (.lst (ys0 ++ [.ref t])):=by
     rw[Zh (Kz hwR)];exact(Zi.laid hnl) R _ ((Zi.laid hw) R _ hR')
    refine⟨_,rfl,.inl ⟨rfl,_,Zt.of hR2⟩,_,rfl,R,_,_,rfl,rfl,hR2,hyl,?_⟩;obtain⟨z1,z2,z3,z4⟩:=W3 (G:=upd (upd (upd (upd H' w (.lst ((rb (ls.take i)).1.map V.int))) nl (.lst [.int (rb (ls.take i)).2,.int ((rb (ls.take i)).2+1)])) w (.lst (((rb (ls.take i)).1.map V.int).take qk.toNat ++ [.int (rb (ls.take i)).2,.int ((rb (ls.take i)).2+1)]++((rb (ls.take i)).1.map V.int).drop qk.toNat))) R (.lst ((ys0 ++ [.ref t]) ++ [.ref w]))) hRH sm rv ap nd hw hwR (fun c o e n=>by
      rw[Zh n,Zh (Zf e hw)];exact(Zi.laid hnl) c _ ((Zi.laid hw) c _ e)) (by
      rw[Zh hwR,Zc,ztk,YM,WA];simp[k6,Xq,XM])
    refine⟨ys0 ++ [.ref t] ++ [.ref w],some (.str "born"),some (.int qk),some (.ref w),?_,z1,Zc,z2,z3,z4⟩;rw[ztk,YM,WA];rfl
   ·have e:qx = "cross" := e;subst e;refine ZY (fun hn=>absurd (V.str.inj (kO hn)) nb1) (fun _=>?_);refine⟨_,rfl,rfl,_,rfl,?_⟩;refine ZY (fun _=>?_) (fun hn=>absurd (by simp) hn);obtain⟨kk,rfl⟩:=kT b0;have k1:kk+1<(rb (ls.take i)).1.length:=by have b1:(kk:Int)+1<_:=b1;lia
    have ec:((kk:Int)+1)=((kk+1:Nat):Int):=by lia
    have a1:atI ((rb (ls.take i)).1.map V.int) ((kk:Int)+1)=some (V.int ((rb (ls.take i)).1.getD (kk+1) 0)):=by rw[ec];exact Zn (map_getD _ k1)
    have a0:atI ((rb (ls.take i)).1.map V.int) (kk:Int)=some (V.int ((rb (ls.take i)).1.getD kk 0)):=Zn (map_getD _ (by lia));refine⟨_,rfl,_,rfl,_,_,rfl,rfl,w,_,_,_,rfl,rfl,Zt.of Zc,a1,_,rfl,_,rfl,w,_,_,_,rfl,rfl,Zt.of Zc,a0,sz2,fun tt htt=>?_⟩;have hwt:w≠tt:=Zf (Zc (H:=H') (a:=w)) htt;refine⟨tt,_,rfl,YJ.of Zc,rfl,_,_,rfl,_,rfl,_,rfl,w,_,_,kk,rfl,rfl,(by rw[Zh hwt];exact Zc),(by rw[rl];exact Y9 (by lia)),?_⟩;refine⟨_,_,rfl,_,rfl,_,rfl,_,_,rfl,rfl,w,_,_,kk+1,rfl,rfl,Zc,(by rw[KY,rl,ec];exact Y9 k1),rfl,?_⟩;rw[Jz,Zhy];have hR2:(upd (upd (upd H' w (.lst ((rb (ls.take i)).1.map V.int))) tt (.tup [.int ((rb (ls.take i)).1.getD (kk+1) 0),.int ((rb (ls.take i)).1.getD kk 0)])) w (.lst ((GQ (rb (ls.take i)).1 kk).map V.int))) R=some (.lst (ys0 ++ [.ref t])):=by rw[Zh (Kz hwR)];exact(Zi.laid htt) R _ ((Zi.laid hw) R _ hR')
    refine⟨_,rfl,.inl ⟨rfl,_,Zt.of hR2⟩,_,rfl,R,_,_,rfl,rfl,hR2,hyl,?_⟩;obtain⟨z1,z2,z3,z4⟩:=W3 (G:=upd (upd (upd (upd H' w (.lst ((rb (ls.take i)).1.map V.int))) tt (.tup [.int ((rb (ls.take i)).1.getD (kk+1) 0),.int ((rb (ls.take i)).1.getD kk 0)])) w (.lst ((GQ (rb (ls.take i)).1 kk).map V.int))) R (.lst ((ys0 ++ [.ref t]) ++ [.ref w]))) hRH sm rv ap nd hw hwR (fun c o e n=>by
      rw[Zh n,Zh (Zf e hw)];exact(Zi.laid htt) c _ ((Zi.laid hw) c _ e)) (by
      rw[Zh hwR,Zc,ztk,YM,JL];rfl)
    refine⟨ys0 ++ [.ref t] ++ [.ref w],some (.str "cross"),some (.int kk),some (.ref w),?_,z1,Zc,z2,z3,z4⟩;rw[ztk,YM,JL];rfl
   ·have e:qx = "end" := e;subst e;refine ZY (fun hn=>absurd (V.str.inj (kO hn)) nb2) (fun _=>?_);refine⟨_,rfl,rfl,_,rfl,?_⟩;refine ZY (fun hn=>absurd (V.str.inj (kO hn)) nb3) (fun _=>?_);have b1':qk+1<((rb (ls.take i)).1.length:Int):=b1;refine⟨_,rfl,_,rfl,_,rfl,_,rfl,_,_,rfl,rfl,_,rfl,w,_,qk,qk+2,rfl,rfl,rfl,Zc,b0,by lia,(by rw[rl];lia),?_⟩;rw[Jz];have hR2:(upd H' w (.lst (((rb (ls.take i)).1.map V.int).take qk.toNat++((rb (ls.take i)).1.map V.int).drop (qk+2).toNat))) R=some (.lst (ys0 ++ [.ref t])):=(Zi.laid hw) R _ hR';refine⟨_,rfl,.inl ⟨rfl,_,Zt.of hR2⟩,_,rfl,R,_,_,rfl,rfl,hR2,hyl,?_⟩;have e2:(qk+2).toNat=qk.toNat+2:=by have b0':0<=qk:=b0;lia
    obtain⟨z1,z2,z3,z4⟩:=W3 (G:=upd (upd H' w (.lst (((rb (ls.take i)).1.map V.int).take qk.toNat++((rb (ls.take i)).1.map V.int).drop (qk+2).toNat))) R (.lst ((ys0 ++ [.ref t]) ++ [.ref w]))) hRH sm rv ap nd hw hwR (fun c o e n=>by
      rw[Zh n];exact(Zi.laid hw) c _ e) (by
      rw[Zh hwR,Zc,ztk,YM,Gx,e2,k6,Xq,XM])
    refine⟨ys0 ++ [.ref t] ++ [.ref w],some (.str "end"),some (.int qk),some (.ref w),?_,z1,Zc,z2,z3,z4⟩;rw[ztk,YM,Gx];rfl
  ·rintro σ H' ⟨ys,v3,v4,v5,rfl,sm,hR',rv,ap,nd⟩;rw[hxl] at rv;exact⟨_,rfl,k R H' ys hRH sm hR' rv ap nd⟩
abbrev U1:Stmt:=top 38
theorem Jb:ZA ["_law_drawing_here", "_law_rows_here", "_law_born", "_law_word", "_law_k", "_law_row"] ["_law_drawing_here"] (Zj U1):={}
theorem ZlN {f:Addr}{fd:FuncData}(F:WC K "_law_rows" "_law_rows" U1 f fd)(Yf:mg "list" = none):Yi P w K mg base WH 1 f fd ["_law_drawing_here"] Zb4:=by
 refine F.ok Jb (fun vs H Q E h=>?_) (fun cdv A outer s H vs Q E hr h=>?_)
 ·obtain⟨l,xs,ls,rfl,_⟩:=h;rfl
 ·obtain⟨l,xs,ls,rfl,hl,hL,hlen,hW,k⟩:=h;refine⟨_,(Zd (Zm (i:=1) Jb.nd rfl (.inl rfl) (ZH (Za (ZH Zb) Zb)))
   (Zd (Zm (i:=2) Jb.nd rfl (.inl rfl) Ze)
   (Zd (Yj Kj rfl (ZT (K:=K) rfl (pv 0)) (Z6 (K:=K) (n:=2) rfl rfl (Zo (Zl (i:=3) Jb.nd rfl (.inl rfl)) (Zo (Zl (i:=4) Jb.nd rfl (.inl rfl)) ZQ))) (Zd (Zm (i:=5) Jb.nd rfl (.inl rfl) (Z0 (Jc (K:=K) rfl) (by rfl) Yf XN (Za (Zw (Zs (K:=K) rfl) (pv 1) (Zcc Zam Ze) (fun _ _=>rfl)) Zb)))
   (Zd (Z9 (Zr Ym (pv 3) ZG (Zp _)) (Zd (Ye (Yh (K:=K) rfl (YT kY NU NV ZdU (pv 5) (Za (pv 4) (Za (Zk Zx (pv 2) Ze) Zb)))))
   (Zd (Ye (Yh (K:=K) rfl (YT kY NU NV ZdU (pv 5) (Za (pv 4) (Za (pv 2) Zb)))))
   (Zg (Zm (i:=2) Jb.nd rfl (.inl rfl) (Zk Zx (pv 2) Ze))))) (Zg (Z9 (Zr Ym (pv 3) ZG (Zp _)) (Zg (Yd (ZC (Za (Zw (Zs (K:=K) rfl) (pv 5) (Zk Zx (pv 4) Ze) (fun _ _=>rfl)) (Za (Zw (Zs (K:=K) rfl) (pv 5) (pv 4) (fun _ _=>rfl)) Zb))) (Z6 (K:=K) (n:=2) rfl rfl (Zo (Yp (pv 5) (pv 4) set_list) (Zo (Yp (pv 5) (Zk Zx (pv 4) Ze) set_list) ZQ))))) (Zd (Ye (Yh (K:=K) rfl (YT kY TN TQ ZcX (pv 5) (Za (pv 4) Zb))))
   (Zg (Ye (Yh (K:=K) rfl (YT kY TN TQ ZcX (pv 5) (Za (pv 4) Zb)))))))))
   (Zg (Ye (Yh (K:=K) rfl (YT kY Kf Kg ZW (pv 1) (Za (pv 5) Zb))))))))
   (Zg (Zz (pv 1)))))),?_⟩
  have hxl:=hL.len;refine⟨sz0,fun e0 he0=>⟨sz1,fun R hR=>?_⟩⟩;have hRH:H R=none:=(Zi.laid he0).free hR;have hRe:e0≠R:=Zf (Zc (H:=H) (a:=e0) (o:=.lst [])) hR;have sm0:Zi H (upd (upd H e0 (.lst [])) R (.lst [.ref e0])):=(Zi.laid he0).step hR;refine⟨_,rfl,l,rfl,⟨_,Zt.of (sm0 l _ hl)⟩,JG (K:=K) (a:=l) (xs:=xs) (fun i σ H'=>∃(ys:QH)(v3 v4 v5:QI),σ = [some (.ref l),some (.ref R),some (.int (rb (ls.take i)).2),v3,v4,v5]/\Zi H H'/\H' R=some (.lst ys)/\YS H' ys (rowsOf ls (i+1))/\(∀t,V.ref t∈ys->H t=none/\t≠R)/\ys.Nodup)
   ⟨[.ref e0],none,none,none,rfl,sm0,Zc,?_,?_,by simp⟩ (fun i σ H' _ ⟨_,_,_,_,_,sm,_⟩=>Zt.of (sm l _ hl)) ?_ ?_⟩
  ·refine Paired.cons ⟨e0,rfl,?_⟩ .nil;rw[Zh hRe,Zc];rfl
  ·intro t ht;have:t=e0:=V.ref.inj (k7.mp ht);subst this;exact⟨he0,hRe⟩
  ·rintro i x σ H' hx ⟨ys,v3,v4,v5,rfl,sm,hR',rv,ap,nd⟩;obtain⟨⟨qx,qk⟩,tl,hq,rfl,htl⟩:=hL.get hx;have htl':=sm tl _ htl;have hi:i<ls.length:=(kI.mp hq).1;obtain⟨ztk,cases3⟩:=ZdC hW hq;have rv':=rv;rw[Zaj] at rv';obtain⟨ys0,t,rfl,ht⟩:=rv'.last;have hyl:(ys0 ++ [V.ref t]).length<sizeLine:=by
    rw[rv.len];unfold rowsOf;rw[ke,qV];exact Zy (by lia)
   have rl:((rb (ls.take i)).1.map V.int).length=(rb (ls.take i)).1.length:=ke _;obtain⟨m,hm⟩:=GA hW i;have r8:(rb (ls.take i)).1.length<=900:=by have z1:=Zah hm;have z2:=ZbE hm;rw[kL] at z2;lia
   refine⟨tl,_,rfl,YJ.of htl',rfl,_,_,rfl,_,_,rfl,rfl,?_⟩;refine⟨_,rfl,1,rfl,R,_,_,_,rfl,rfl,Zt.of hR',Zbg _ _,t,_,rfl,.inl (Zt.of ht),fun w hw=>?_⟩;have hwR:w≠R:=(Zf hR' hw).symm;refine⟨_,rfl,rfl,_,rfl,?_⟩;rcases cases3 with⟨e,b0,b1⟩ | ⟨e,b0,b1⟩ | ⟨e,b0,b1⟩
   ·have e:qx = "born" := e;subst e;refine ZY (fun _=>?_) (fun hn=>absurd (by simp) hn);have b0':0<=qk:=b0;have b1':qk<=((rb (ls.take i)).1.length:Int):=b1;refine⟨_,rfl,.inl ⟨rfl,_,Zt.of Zc⟩,_,rfl,_,rfl,_,_,rfl,rfl,w,_,qk,_,rfl,rfl,Zc,b0',(by rw[rl];exact b1'),(by rw[rl];exact Zy (by lia)),(by rw[rl];lia),?_⟩;have rl2:(((rb (ls.take i)).1.map V.int).take qk.toNat++V.int ((rb (ls.take i)).2+1)::((rb (ls.take i)).1.map V.int).drop qk.toNat).length=(rb (ls.take i)).1.length+1:=by
     rw[kg,K3,kL,KU,rl];lia
    refine⟨_,rfl,.inl ⟨rfl,_,Zt.of Zc⟩,_,rfl,_,rfl,w,_,qk,_,rfl,rfl,Zc,b0',(by rw[rl2];lia),(by rw[rl2];exact Zy (by lia)),(by rw[rl2];lia),?_⟩;refine⟨_,rfl,_,_,rfl,rfl,?_⟩;rw[Jz,Jz,Zmj _ _ _ _ (by rw[rl];lia)];have hR2:(upd H' w (.lst (((rb (ls.take i)).1.map V.int).take qk.toNat ++ [.int (rb (ls.take i)).2,.int ((rb (ls.take i)).2+1)]++((rb (ls.take i)).1.map V.int).drop qk.toNat))) R=some (.lst (ys0 ++ [.ref t])):=(Zi.laid hw) R _ hR';refine⟨_,rfl,.inl ⟨rfl,_,Zt.of hR2⟩,_,rfl,R,_,_,rfl,rfl,hR2,hyl,?_⟩;obtain⟨z1,z2,z3,z4⟩:=W3 (G:=upd (upd H' w (.lst (((rb (ls.take i)).1.map V.int).take qk.toNat ++ [.int (rb (ls.take i)).2,.int ((rb (ls.take i)).2+1)]++((rb (ls.take i)).1.map V.int).drop qk.toNat))) R (.lst ((ys0 ++ [.ref t]) ++ [.ref w]))) hRH sm rv ap nd hw hwR (fun c o e n=>by
      rw[Zh n];exact(Zi.laid hw) c _ e) (by
      rw[Zh hwR,Zc,ztk,YM,WA];simp[k6,Xq,XM])
    refine⟨ys0 ++ [.ref t] ++ [.ref w],some (.str "born"),some (.int qk),some (.ref w),?_,z1,Zc,z2,z3,z4⟩;rw[ztk,YM,WA];rfl
   ·have e:qx = "cross" := e;subst e;refine ZY (fun hn=>absurd (V.str.inj (kO hn)) nb1) (fun _=>?_);refine⟨_,rfl,rfl,_,rfl,?_⟩;refine ZY (fun _=>?_) (fun hn=>absurd (by simp) hn);obtain⟨kk,rfl⟩:=kT b0;have k1:kk+1<(rb (ls.take i)).1.length:=by have b1:(kk:Int)+1<_:=b1;lia
    have ec:((kk:Int)+1)=((kk+1:Nat):Int):=by lia
    have a1:atI ((rb (ls.take i)).1.map V.int) ((kk:Int)+1)=some (V.int ((rb (ls.take i)).1.getD (kk+1) 0)):=by rw[ec];exact Zn (map_getD _ k1)
    have a0:atI ((rb (ls.take i)).1.map V.int) (kk:Int)=some (V.int ((rb (ls.take i)).1.getD kk 0)):=Zn (map_getD _ (by lia));refine⟨_,rfl,_,rfl,_,_,rfl,rfl,w,_,_,_,rfl,rfl,Zt.of Zc,a1,_,rfl,_,rfl,w,_,_,_,rfl,rfl,Zt.of Zc,a0,sz2,fun tt htt=>?_⟩;have hwt:w≠tt:=Zf (Zc (H:=H') (a:=w)) htt;refine⟨tt,_,rfl,YJ.of Zc,rfl,_,_,rfl,_,rfl,_,rfl,w,_,_,kk,rfl,rfl,(by rw[Zh hwt];exact Zc),(by rw[rl];exact Y9 (by lia)),?_⟩;refine⟨_,_,rfl,_,rfl,_,rfl,_,_,rfl,rfl,w,_,_,kk+1,rfl,rfl,Zc,(by rw[KY,rl,ec];exact Y9 k1),rfl,?_⟩;rw[Jz,Zhy];have hR2:(upd (upd (upd H' w (.lst ((rb (ls.take i)).1.map V.int))) tt (.tup [.int ((rb (ls.take i)).1.getD (kk+1) 0),.int ((rb (ls.take i)).1.getD kk 0)])) w (.lst ((GQ (rb (ls.take i)).1 kk).map V.int))) R=some (.lst (ys0 ++ [.ref t])):=by rw[Zh (Kz hwR)];exact(Zi.laid htt) R _ ((Zi.laid hw) R _ hR')
    refine⟨_,rfl,.inl ⟨rfl,_,Zt.of hR2⟩,_,rfl,R,_,_,rfl,rfl,hR2,hyl,?_⟩;obtain⟨z1,z2,z3,z4⟩:=W3 (G:=upd (upd (upd (upd H' w (.lst ((rb (ls.take i)).1.map V.int))) tt (.tup [.int ((rb (ls.take i)).1.getD (kk+1) 0),.int ((rb (ls.take i)).1.getD kk 0)])) w (.lst ((GQ (rb (ls.take i)).1 kk).map V.int))) R (.lst ((ys0 ++ [.ref t]) ++ [.ref w]))) hRH sm rv ap nd hw hwR (fun c o e n=>by
      rw[Zh n,Zh (Zf e hw)];exact(Zi.laid htt) c _ ((Zi.laid hw) c _ e)) (by
      rw[Zh hwR,Zc,ztk,YM,JL];rfl)
    refine⟨ys0 ++ [.ref t] ++ [.ref w],some (.str "cross"),some (.int kk),some (.ref w),?_,z1,Zc,z2,z3,z4⟩;rw[ztk,YM,JL];rfl
   ·have e:qx = "end" := e;subst e;refine ZY (fun hn=>absurd (V.str.inj (kO hn)) nb2) (fun _=>?_);refine⟨_,rfl,rfl,_,rfl,?_⟩;refine ZY (fun hn=>absurd (V.str.inj (kO hn)) nb3) (fun _=>?_);have b1':qk+1<((rb (ls.take i)).1.length:Int):=b1;obtain⟨kk,rfl⟩:=kT b0;have k1:kk+1<(rb (ls.take i)).1.length:=by lia
    have l1:(((rb (ls.take i)).1.map V.int).eraseIdx kk).length=(rb (ls.take i)).1.length-1:=by rw[Nr (by rw[rl];lia),rl]
    refine⟨_,rfl,.inl ⟨rfl,_,Zt.of Zc⟩,_,rfl,w,_,_,kk,_,rfl,rfl,Zc,by lia,by lia,(by rw[rl];exact ZdW (by lia)),map_getD _ (by lia),?_⟩;obtain⟨y2,hy2⟩:∃y2,(((rb (ls.take i)).1.map V.int).eraseIdx kk)[kk]? = some y2:=⟨_,kU (by rw[l1];lia)⟩;refine⟨_,rfl,.inl ⟨rfl,_,Zt.of Zc⟩,_,rfl,w,_,_,kk,_,rfl,rfl,Zc,by lia,by lia,(by rw[l1];exact ZdW (by lia)),hy2,?_⟩;rw[Jz,Jz,ZlY];have hR2:(upd H' w (.lst (((rb (ls.take i)).1.map V.int).take kk++((rb (ls.take i)).1.map V.int).drop (kk+2)))) R=some (.lst (ys0 ++ [.ref t])):=(Zi.laid hw) R _ hR';refine⟨_,rfl,.inl ⟨rfl,_,Zt.of hR2⟩,_,rfl,R,_,_,rfl,rfl,hR2,hyl,?_⟩;obtain⟨z1,z2,z3,z4⟩:=W3 (G:=upd (upd H' w (.lst (((rb (ls.take i)).1.map V.int).take kk++((rb (ls.take i)).1.map V.int).drop (kk+2)))) R (.lst ((ys0 ++ [.ref t]) ++ [.ref w]))) hRH sm rv ap nd hw hwR (fun c o e n=>by
      rw[Zh n];exact(Zi.laid hw) c _ e) (by
      rw[Zh hwR,Zc,ztk,YM,Gx,kX,k6,Xq,XM])
    refine⟨ys0 ++ [.ref t] ++ [.ref w],some (.str "end"),some (.int kk),some (.ref w),?_,z1,Zc,z2,z3,z4⟩;rw[ztk,YM,Gx];rfl
  ·rintro σ H' ⟨ys,v3,v4,v5,rfl,sm,hR',rv,ap,nd⟩;rw[hxl] at rv;exact⟨_,rfl,k R H' ys hRH sm hR' rv ap nd⟩
def Zca (pr:Str->Bool):Sp:=fun vs H Q _=>∃(l:Addr)(xs:QH)(ls:QB),vs = [.ref l]/\H l=some (.lst xs)/\ZD H xs ls/\ls.length<=60/\(∀p∈ls,Kd p.1) /\ ∀(p:Addr)(H':Hp),H p=none->Zi H H'->H' p=some (.lst ((Ya ls pr ls.length).map V.int))->Q (.ref p) H'
def Zd4:Sp:=fun vs H Q _=>∃(l:Addr)(kd:Str)(xs:QH)(ls:QB),vs = [.ref l,.str kd]/\H l=some (.lst xs)/\ZD H xs ls/\ls.length<=60 /\ ∀(p:Addr)(H':Hp),H p=none->Zi H H'->H' p=some (.lst ((Ya ls (fun x=>decide (x=kd)) ls.length).map V.int))->Q (.ref p) H'
abbrev WZ:Stmt:=top 1
theorem Zdx:ZA ["drawing", "kind"] ["drawing", "kind"] (Zj WZ):={}
theorem ZgS {f:Addr}{fd:FuncData}(F:WC K "letters_of" "letters_of" WZ f fd)(ZJ:mg "enumerate" = none):Yi P w K mg base WH 1 f fd ["drawing", "kind"] Zd4:=by
 refine F.ok Zdx (fun vs H Q E h=>?_) (fun cdv A outer s H vs Q E hr h=>?_)
 ·obtain⟨l,kd,xs,ls,rfl,_⟩:=h;rfl
 ·obtain⟨l,kd,xs,ls,rfl,hl,hL,hlen,k⟩:=h;refine⟨_,(Zg (Zz (Ga (Ls:=["t", "letter"]) (Fs:=["kind"]) (fi:=[1]) (ZZ.of (show YC ["drawing", "kind"] (Zj WZ) _ ["kind"] [1]=true by decide +kernel)) rfl (Gd (K:=K) rfl (by rfl) ZJ (Za (pv 0) Zb)) (fun cl C s3 H3 ex=>⟨(Z6 (K:=K) (n:=2) rfl rfl (Zo (Zl (i:=0) (show ((["t", "letter"]:QP)++(["kind"]:QP)).Nodup by decide +kernel) rfl (.inl rfl)) (Zo (Zl (i:=1) (show ((["t", "letter"]:QP)++(["kind"]:QP)).Nodup by decide +kernel) rfl (.inl rfl)) ZQ))),(Za4 (Zr Ym (Zw (ZL (K:=K) rfl) (pv 1) Ze (fun _ _=>rfl)) (pv 2) (Zp _))),(pv 0)⟩)))),?_⟩;have hxl:=hL.len;refine⟨_,rfl,l,rfl,⟨_,Zt.of hl⟩,ZiW (xs:=xs) (KN (Zy (by lia))) (fun i ys H'=>Zi H H'/\ys=(Ya ls (fun x=>decide (x=kd)) i).map V.int) ⟨Zi.refl _,rfl⟩
   (fun i ys H' p=>by rw[p.2,ke];exact J2 _ _ _) (fun i ys H' p=>Zt.of (p.1 l _ hl)) (fun i x p ys H' hx pv hp=>?_) (fun ys H' pv D hD=>?_)⟩
  ·obtain⟨sm,rfl⟩:=pv;obtain⟨q,t,hq,rfl,ht⟩:=hL.get hx;have ht':(upd H' p (.tup [.int i,.ref t])) t=some (.tup [.str q.1,.int q.2]):=by rw[Zh (Zf (sm t _ ht) hp)];exact sm t _ ht
   refine⟨p,_,rfl,YJ.of Zc,rfl,_,_,rfl,_,_,rfl,rfl,?_⟩;refine⟨_,rfl,t,_,_,_,rfl,rfl,YJ.of ht',Zn (j:=0) rfl,_,rfl,rfl,_,rfl,?_⟩;refine ZY (fun hc=>?_) (fun hc=>?_)
   ·have e:q.1=kd:=V.str.inj (kO hc);exact⟨_,rfl,sm.step hp,Zf8 hq (by simpa using e)⟩
   ·have e:¬q.1=kd:=fun z=>hc (kM (Ky V.str z));exact⟨sm.step hp,Zhd hq (by simpa using e)⟩
  ·obtain⟨sm,rfl⟩:=pv;rw[hxl];exact k D _ (sm.free hD) (sm.step hD) Zc
abbrev ZbQ:Stmt:=top 2
theorem Zgi:ZA ["drawing"] ["drawing"] (Zj ZbQ):={}
theorem Zmh {f:Addr}{fd:FuncData}(F:WC K "ends_of" "ends_of" ZbQ f fd)(UK:JM P w K mg base 1 "letters_of" ["drawing", "kind"] Zd4):Yi P w K mg base WH 2 f fd ["drawing"] (Zca fun x=>decide (x = "end")):=by
 refine F.ok Zgi (fun vs H Q E h=>?_) (fun cdv A outer s H vs Q E hr h=>?_)
 ·obtain⟨l,xs,ls,rfl,_⟩:=h;rfl
 ·obtain⟨l,xs,ls,rfl,hl,hL,hlen,_,k⟩:=h;refine⟨_,(Zg (Zz (Zq UK hr (Za (pv 0) (Za ZG Zb))))),?_⟩;exact⟨_,rfl,l,_,xs,ls,rfl,hl,hL,hlen,k⟩
abbrev Uz:Stmt:=top 3
theorem Zf7:ZA ["drawing"] ["drawing"] (Zj Uz):={}
theorem Zjd {f:Addr}{fd:FuncData}(F:WC K "names_of" "names_of" Uz f fd)(ZJ:mg "enumerate" = none):Yi P w K mg base WH 1 f fd ["drawing"] (Zca fun x=>!decide (x = "born")):=by
 refine F.ok Zf7 (fun vs H Q E h=>?_) (fun cdv A outer s H vs Q E hr h=>?_)
 ·obtain⟨l,xs,ls,rfl,_⟩:=h;rfl
 ·obtain⟨l,xs,ls,rfl,hl,hL,hlen,_,k⟩:=h;refine⟨_,(Zg (Zz (Ga (Ls:=["t", "letter"]) (Fs:=[]) (fi:=[]) (ZZ.of (show YC ["drawing"] (Zj Uz) _ [] []=true by decide +kernel)) rfl (Gd (K:=K) rfl (by rfl) ZJ (Za (pv 0) Zb)) (fun cl C s3 H3 ex=>⟨(Z6 (K:=K) (n:=2) rfl rfl (Zo (Zl (i:=0) (show ((["t", "letter"]:QP)++([]:QP)).Nodup by decide +kernel) rfl (.inl rfl)) (Zo (Zl (i:=1) (show ((["t", "letter"]:QP)++([]:QP)).Nodup by decide +kernel) rfl (.inl rfl)) ZQ))),(Za4 (Zr ZdX (Zw (ZL (K:=K) rfl) (pv 1) Ze (fun _ _=>rfl)) ZG (Zp _))),(pv 0)⟩)))),?_⟩;have hxl:=hL.len;refine⟨_,rfl,l,rfl,⟨_,Zt.of hl⟩,ZiW (xs:=xs) (KN (Zy (by lia))) (fun i ys H'=>Zi H H'/\ys=(Ya ls (fun x=>!decide (x = "born")) i).map V.int) ⟨Zi.refl _,rfl⟩
   (fun i ys H' p=>by rw[p.2,ke];exact J2 _ _ _) (fun i ys H' p=>Zt.of (p.1 l _ hl)) (fun i x p ys H' hx pv hp=>?_) (fun ys H' pv D hD=>?_)⟩
  ·obtain⟨sm,rfl⟩:=pv;obtain⟨q,t,hq,rfl,ht⟩:=hL.get hx;have ht':(upd H' p (.tup [.int i,.ref t])) t=some (.tup [.str q.1,.int q.2]):=by rw[Zh (Zf (sm t _ ht) hp)];exact sm t _ ht
   refine⟨p,_,rfl,YJ.of Zc,rfl,_,_,rfl,_,_,rfl,rfl,?_⟩;refine⟨_,rfl,t,_,_,_,rfl,rfl,YJ.of ht',Zn (j:=0) rfl,rfl,_,rfl,?_⟩;refine ZY (fun hc=>?_) (fun hc=>?_)
   ·have e:¬q.1 = "born" := fun z=>by
     have:(!decide (V.str q.1=V.str "born"))=true:=hc;rw[kM (Ky V.str z)] at this;cases this
    exact⟨_,rfl,sm.step hp,Zf8 hq (by simpa using e)⟩
   ·have e:q.1 = "born" := by
     by_cases z:q.1 = "born"
     ·exact z
     ·exact absurd (show (!decide (V.str q.1=V.str "born"))=true by rw[Ki (fun y=>z (V.str.inj y))];rfl) hc
    exact⟨sm.step hp,Zhd hq (by simpa using e)⟩
  ·obtain⟨sm,rfl⟩:=pv;rw[hxl];exact k D _ (sm.free hD) (sm.step hD) Zc
theorem Zia {H:Hp}:∀{xs:QH}{ls:QB}{i:Nat}{q:Str×Int},ZD H xs ls->ls[i]? = some q -> ∃t,xs[i]? = some (.ref t)/\H t=some (.tup [.str q.1,.int q.2])
 | _,_,_,_,.nil,e=>by simp at e
 | _,_,0,_,.cons ⟨t,e1,q⟩ _,e=>by simp at e;subst e;exact⟨t,by simp[e1],q⟩
 | _,_,i+1,q,.cons _ r,e=>by obtain⟨t,h1,h2⟩:=Zia (i:=i) (q:=q) r (by simpa using e);exact⟨t,by simpa using h1,h2⟩
def Zet:Sp:=fun vs H Q _=>∃(l n:Addr)(xs:QH)(ls:QB)(ns:QG),vs = [.ref l,.ref n]/\H l=some (.lst xs)/\ZD H xs ls/\ls.length<=60/\Wk ls 0/\H n=some (.lst (ns.map V.int))/\ns.length<=60/\(∀t∈ns,0<=t /\ ∃q,ls[t.toNat]? = some q/\q.1 ≠ "born") /\
 ∀(p:Addr)(H':Hp)(ys:QH),H p=none->Zi H H'->H' p=some (.lst ys)->JD H' ys (ns.map fun t=>Jo ls t.toNat)->Q (.ref p) H'
abbrev GH:Stmt:=top 9
theorem Jq:ZA ["drawing", "numbers", "rows", "found", "t", "k"] ["drawing", "numbers"] (Zj GH):={}
theorem Zkj {f:Addr}{fd:FuncData}(F:WC K "pairs_ahead" "pairs_ahead" GH f fd)(ZbX:JM P w K mg base 1 "threads" ["drawing"] Zb4):Yi P w K mg base WH 2 f fd ["drawing", "numbers"] Zet:=by
 refine F.ok Jq (fun vs H Q E h=>?_) (fun cdv A outer s H vs Q E hr h=>?_)
 ·obtain⟨l,n,xs,ls,ns,rfl,_⟩:=h;rfl
 ·obtain⟨l,n,xs,ls,ns,rfl,hl,hL,hlen,hW,hn,hnl,hns,k⟩:=h;refine⟨_,(Zd (Zm (i:=2) Jq.nd rfl (.inl rfl) (Zq ZbX hr (Za (pv 0) Zb)))
   (Zd (Zm (i:=3) Jq.nd rfl (.inl rfl) (ZH Zb))
   (Zd (Yj Kj rfl (ZT (K:=K) rfl (pv 1)) (Zl (i:=4) Jq.nd rfl (.inl rfl)) (Zd (Zm (i:=5) Jq.nd rfl (.inl rfl) (Zw (ZL (K:=K) rfl) (Zw (Zs (K:=K) rfl) (pv 0) (pv 4) (fun _ _=>rfl)) Ze (fun _ _=>rfl)))
   (Zg (Ye (Yh (K:=K) rfl (YT kY Kf Kg ZW (pv 3) (Za (ZC (Za (Zw (Zs (K:=K) rfl) (Zw (Zs (K:=K) rfl) (pv 2) (pv 4) (fun _ _=>rfl)) (pv 5) (fun _ _=>rfl)) (Za (Zw (Zs (K:=K) rfl) (Zw (Zs (K:=K) rfl) (pv 2) (pv 4) (fun _ _=>rfl)) (Zk Zx (pv 5) Ze) (fun _ _=>rfl)) Zb))) Zb)))))))
   (Zg (Zz (pv 3)))))),?_⟩
  refine⟨_,rfl,l,xs,ls,rfl,hl,hL,hlen,hW,fun R H1 ys fR s1 eR rv ap nd=>?_⟩;refine⟨sz0,fun fA hfA=>?_⟩;have hl1:=s1 l _ hl;have hL1:=hL.same s1;have hn1:=s1 n _ hn;refine⟨_,rfl,n,rfl,⟨_,Zt.of ((Zi.laid hfA) n _ hn1)⟩,JG (K:=K) (a:=n) (xs:=ns.map V.int) (fun i σ H'=>∃(zs:QH)(v4 v5:QI),σ = [some (.ref l),some (.ref n),some (.ref R),some (.ref fA),v4,v5]/\Zi H1 H'/\H' fA=some (.lst zs)/\JD H' zs ((ns.take i).map fun t=>Jo ls t.toNat))
   ⟨[],none,none,rfl,Zi.laid hfA,Zc,.nil⟩ (fun i σ H' _ ⟨_,_,_,_,sm,_⟩=>Zt.of (sm n _ hn1)) ?_ ?_⟩
  ·rintro i x σ H' hx ⟨zs,v4,v5,rfl,sm,hf,pv⟩;obtain⟨t,ht,rfl⟩:=Wb hx;obtain⟨t0,⟨qx,qk⟩,hq,hb⟩:=hns t (k9 ht);obtain⟨tn,rfl⟩:=kT t0;rw[kX] at hq;have htl:tn<ls.length:=(kI.mp hq).1;obtain⟨k0,k1,pe⟩:=Zfl hW hq hb;obtain⟨kn,rfl⟩:=kT (show 0<=qk from k0);simp only[kX] at k1 pe;obtain⟨ta,hxt,hta⟩:=Zia hL1 hq;obtain⟨ra,hra,hrr⟩:=rv.at (Zax ls (i:=tn) (n:=ls.length+1) (by lia));have e1:((kn:Int)+1)=((kn+1:Nat):Int):=by lia
   refine⟨_,rfl,_,rfl,l,_,_,_,rfl,rfl,Zt.of (sm l _ hl1),Zn hxt,ta,_,_,_,rfl,rfl,YJ.of (sm ta _ hta),Zn (j:=1) rfl,?_⟩;refine⟨_,rfl,.inl ⟨rfl,_,Zt.of hf⟩,_,rfl,_,rfl,R,_,_,_,rfl,rfl,Zt.of (sm R _ eR),Zn hra,_,rfl,ra,_,_,_,rfl,rfl,Zt.of (sm ra _ hrr),Zn (map_getD _ (by lia)),?_⟩;refine⟨_,rfl,_,rfl,R,_,_,_,rfl,rfl,Zt.of (sm R _ eR),Zn hra,_,rfl,_,_,rfl,rfl,ra,_,_,_,rfl,rfl,Zt.of (sm ra _ hrr),(by rw[e1];exact Zn (map_getD _ k1)),sz2,fun tt htt=>?_⟩;have hft:fA≠tt:=Zf hf htt;have zl:zs.length<sizeLine:=by rw[pv.len,ke,kL];exact Zy (by lia)
   refine⟨fA,_,_,rfl,rfl,(by rw[Zh hft];exact hf),zl,?_⟩;refine⟨zs ++ [.ref tt],some (.int tn),some (.int kn),rfl,(sm.step htt).put hfA,Zc,?_⟩;rw[Jg _ ht];refine JD.snoc (pv.mono fun a p e=>?_) ?_
   ·rw[Zh (J0 e hf (by intro z;cases z)),Zh (Zf e htt)];exact e
   ·rw[Zh (Kz hft),Zc,kX,pe]
  ·rintro σ H' ⟨zs,v4,v5,rfl,sm,hf,pv⟩;refine⟨_,rfl,k fA H' zs (s1.free hfA) (s1.trans sm) hf ?_⟩;rw[ke,kK (ki _)] at pv;exact pv
def Zgf:Sp:=fun vs H Q _=>∃(l:Addr)(xs:QH)(ls:QB),vs = [.ref l]/\H l=some (.lst xs)/\ZD H xs ls/\ls.length<=60/\Wk ls 0 /\
 ∀(p:Addr)(H':Hp)(ys:QH),H p=none->Zi H H'->H' p=some (.lst ys)->JD H' ys (Jd ls)->Q (.ref p) H'
abbrev Zaq:Stmt:=top 10
theorem ZeA:ZA ["drawing"] ["drawing"] (Zj Zaq):={}
theorem Zek {f:Addr}{fd:FuncData}(F:WC K "end_pairs" "end_pairs" Zaq f fd)(Jh:JM P w K mg base 2 "pairs_ahead" ["drawing", "numbers"] Zet)(YR:JM P w K mg base 2 "ends_of" ["drawing"] (Zca fun x=>decide (x = "end"))):Yi P w K mg base WH 3 f fd ["drawing"] Zgf:=by
 refine F.ok ZeA (fun vs H Q E h=>?_) (fun cdv A outer s H vs Q E hr h=>?_)
 ·obtain⟨l,xs,ls,rfl,_⟩:=h;rfl
 ·obtain⟨l,xs,ls,rfl,hl,hL,hlen,hW,k⟩:=h;refine⟨_,(Zg (Zz (Zq Jh hr (Za (pv 0) (Za (Zq YR hr (Za (pv 0) Zb)) Zb))))),?_⟩;refine⟨_,rfl,_,rfl,l,xs,ls,rfl,hl,hL,hlen,hW.kd,fun n H1 hn s1 e1=>?_⟩;refine⟨l,n,xs,ls,Ya ls Ub ls.length,rfl,s1 l _ hl,hL.same s1,hlen,hW,e1,Kx (J2 _ _ _) hlen,fun t ht=>?_,fun p H2 ys hp s2 e2 pv=>k p H2 ys (s1.free hp) (s1.trans s2) e2 pv⟩;obtain⟨a,_,q,hq,z⟩:=Zfx ht;refine⟨a,q,hq,fun z2=>?_⟩;have z:q.1 = "end" := kO z;rw[z2] at z;exact nb2 z.symm
def Zn2:Sp:=fun vs H Q _=>∃x:Int,vs = [.int x]/\0<=x/\Q (.int (bw x)) H
abbrev Zad:Stmt:=top 11
theorem ZeW:ZA ["thread"] ["thread"] (Zj Zad):={}
theorem Zoz {f:Addr}{fd:FuncData}(F:WC K "born_with" "born_with" Zad f fd):Yi P w K mg base WH 1 f fd ["thread"] Zn2:=by
 refine F.ok ZeW (fun vs H Q E h=>?_) (fun cdv A outer s H vs Q E hr h=>?_)
 ·obtain⟨x,rfl,_⟩:=h;rfl
 ·obtain⟨x,rfl,h0,k⟩:=h;refine⟨_,(Zg (Zz (Zk Znf (pv 0) Ze))),?_⟩;refine⟨_,rfl,_,_,rfl,rfl,?_⟩;show Q (.int (Builtin.bitXor x 1)) H;rw[Zm7 h0];exact k
def tab {α:Type}(N:Nat)(g:Int -> α):List α:=(List.range N).map fun(x:Nat)=>g (x:Int)
theorem WT {α:Type}(N:Nat)(g:Int -> α):(tab N g).length=N:=by simp[tab]
theorem ZeC {α:Type}{N:Nat}(g:Int -> α){j:Nat}(h:j<N):(tab N g)[j]? = some (g (j:Int)):=by unfold tab;rw[kE];simp[h]
theorem Ji {α:Type}{N:Nat}{g g':Int -> α}(h:∀x:Int,0<=x->x<(N:Int)->g x=g' x):tab N g=tab N g':=by unfold tab;refine Tb fun x hx=>?_;have:=qa.mp hx;exact h x (by lia) (by lia)
theorem Zbr {α:Type}{N:Nat}(g:Int -> α)(j:Nat)(v:α):(tab N g).set j v=tab N (fun x=>if x=(j:Int) then v else g x):=by
 apply NK;intro i;rw[qj,WT];by_cases hi:i<N
 ·rw[ZeC _ hi,ZeC _ hi];by_cases e:j=i
  ·subst e;simp[hi]
  ·rw[kh e,kh (by lia)]
 ·rw[show (tab N g)[i]? = none from NB.mpr (by rw[WT];lia),show (tab N (fun x=>if x=(j:Int) then v else g x))[i]? = none from NB.mpr (by rw[WT];lia)];by_cases e:j=i
  ·subst e;rw[kj rfl,kh hi]
  ·rw[kh e]
theorem Zba {α β:Type}(N:Nat)(g:Int -> α)(f:α -> β):(tab N g).map f=tab N (fun x=>f (g x)):=by unfold tab;rw[qh];rfl
theorem Zay {α:Type}(N:Nat)(v:α):(List.replicate N [v]).flatten=tab N (fun _=>v):=by
 unfold tab
 induction N with
 | zero=>rfl
 | succ n ih=>rw[qS,Kr,ih,K7,k6];simp
theorem Zc9:∀{ps:QL}{u l x:Int},u∉ZK ps->l∉ZK ps->u≠l->Jv (ps ++ [(u,l)]) x=if x=l then u else if x=u then l else Jv ps x
 | [],u,l,x,_,_,ne=>by
  simp only[qX,Jv];by_cases h1:x=u
  ·subst h1;simp[ne]
  ·simp[h1]
 | p::r,u,l,x,hu,hl,ne=>by
  have e:ZK (p::r)=p.1::p.2::ZK r:=by simp[ZK]
  rw[e] at hu hl;simp only[kP,Om] at hu hl;have ih:=Zc9 (x:=x) hu.2.2 hl.2.2 ne;simp only[N5,Jv,ih];by_cases h1:x=p.1
  ·subst h1;simp[Kz hu.1,Kz hl.1]
  ·by_cases h2:x=p.2
   ·subst h2;simp[h1,Kz hu.2.1,Kz hl.2.1]
   ·simp[h1,h2]
theorem Zgp {ps:QL}{i:Nat}{p:Int×Int}(h:ps[i]? = some p):ZK (ps.take (i+1))=ZK (ps.take i) ++ [p.1,p.2]:=by rw[Ke,h,Y7];simp[ZK]
theorem ZkJ {ps:QL}(nd:(ZK ps).Nodup){i:Nat}{p:Int×Int}(h:ps[i]? = some p):p.1∉ZK (ps.take i)/\p.2∉ZK (ps.take i)/\p.1≠p.2:=by have e:ps=ps.take (i+1)++ps.drop (i+1):=(Kt _ _).symm;rw[e,Y7,Zgp h] at nd;have nd:=(qD.mp nd).1;obtain⟨_,n2,n3⟩:=qD.mp nd;refine⟨fun z=>n3 _ z _ (by simp) rfl,fun z=>n3 _ z _ (by simp) rfl,?_⟩;have:=Kl.mp n2;simpa using this.1
theorem ZhT {ls:QB}(hW:Wk ls 0){p:Int×Int}(h:p∈Jd ls):(0<=p.1/\p.1<(Jl ls:Int))/\(0<=p.2/\p.2<(Jl ls:Int)):=
 ⟨YY.mp ((Wy hW).mem_iff.mp (KW.mpr ⟨p,h,by simp⟩)),YY.mp ((Wy hW).mem_iff.mp (KW.mpr ⟨p,h,by simp⟩))⟩
theorem ZdR {ls:QB}(hW:Wk ls 0):(ZK (Jd ls)).Nodup:=(Wy hW).nodup_iff.mpr (Gr _)
def Zhc:Sp:=fun vs H Q _=>∃(l:Addr)(xs:QH)(ls:QB),vs = [.ref l]/\H l=some (.lst xs)/\ZD H xs ls/\ls.length<=60/\Wk ls 0 /\
 ∀(p:Addr)(H':Hp),H p=none->Zi H H'->H' p=some (.lst ((tab (Jl ls) (Jv (Jd ls))).map V.int))->Q (.ref p) H'
abbrev Zao:Stmt:=top 12
theorem JZ:ZA ["drawing", "pairs", "mates", "upper", "lower"] ["drawing"] (Zj Zao):={}
theorem Zkz {f:Addr}{fd:FuncData}(F:WC K "end_mates" "end_mates" Zao f fd)(JK:JM P w K mg base 3 "end_pairs" ["drawing"] Zgf)(Yr:mg "len" = none):Yi P w K mg base WH 4 f fd ["drawing"] Zhc:=by
 refine F.ok JZ (fun vs H Q E h=>?_) (fun cdv A outer s H vs Q E hr h=>?_)
 ·obtain⟨l,xs,ls,rfl,_⟩:=h;rfl
 ·obtain⟨l,xs,ls,rfl,hl,hL,hlen,hW,k⟩:=h;refine⟨_,(Zd (Zm (i:=1) JZ.nd rfl (.inl rfl) (Zq JK hr (Za (pv 0) Zb)))
   (Zd (Zm (i:=2) JZ.nd rfl (.inl rfl) (Zk ZaM (ZH (Za Ze Zb)) (Zk Wa Ze (Zv (Ys (K:=K) rfl) (by rfl) Yr qd (Za (pv 1) Zb)))))
   (Zd (Yj Kj rfl (ZT (K:=K) rfl (pv 1)) (Z6 (K:=K) (n:=2) rfl rfl (Zo (Zl (i:=3) JZ.nd rfl (.inl rfl)) (Zo (Zl (i:=4) JZ.nd rfl (.inl rfl)) ZQ))) (Zd (Yd (pv 4) (Yp (pv 2) (pv 3) set_list))
   (Zg (Yd (pv 3) (Yp (pv 2) (pv 4) set_list)))))
   (Zg (Zz (pv 2)))))),?_⟩
  refine⟨_,rfl,l,xs,ls,rfl,hl,hL,hlen,hW,fun pA H1 ys fp s1 ep pv=>?_⟩;have n120:=Wh hlen;have yl:2*ys.length=Jl ls:=by rw[pv.len];rfl
  refine⟨sz1,fun l0 hl0=>?_⟩;have ep0:=(Zi.laid (o:=.lst [.int 0]) hl0) pA _ ep;refine⟨_,rfl,pA,_,rfl,.inl (Zt.of ep0),_,_,rfl,rfl,.inl ⟨by decide,by decide⟩,?_⟩;have e2:((2:Int)*(ys.length:Int))=((Jl ls:Nat):Int):=by lia
  refine⟨l0,_,_,rfl,rfl,Zc,by lia,by lia,?_,fun mA hmA=>?_⟩
  ·rw[e2];show 1*_<=sizeLine;exact KN (Zy (by lia))
  have hm1:H1 mA=none:=(Zi.laid hl0).free hmA;have sm1:Zi H1 (upd (upd H1 l0 (.lst [.int 0])) mA (.lst (List.replicate ((2:Int)*(ys.length:Int)).toNat [V.int 0]).flatten)):=(Zi.laid hl0).step hmA;refine⟨_,rfl,pA,rfl,⟨_,Zt.of (sm1 pA _ ep)⟩,JG (K:=K) (a:=pA) (xs:=ys) (fun i σ H'=>∃(v3 v4:QI),σ = [some (.ref l),some (.ref pA),some (.ref mA),v3,v4]/\Zi H1 H'/\H' mA=some (.lst ((tab (Jl ls) (Jv ((Jd ls).take i))).map V.int)))
   ⟨none,none,rfl,sm1,?_⟩ (fun i σ H' _ ⟨_,_,_,sm,_⟩=>Zt.of (sm pA _ ep)) ?_ ?_⟩
  ·rw[Zc,e2,kX,Zay,Zba];rfl
  ·rintro i x σ H' hx ⟨v3,v4,rfl,sm,hm⟩;obtain⟨p,t,hp,rfl,ht⟩:=pv.get hx;obtain⟨u,lw⟩:=p;obtain⟨⟨d1,d2⟩,d3,d4⟩:=ZhT hW (k9 hp);obtain⟨n1,n2,n3⟩:=ZkJ (ZdR hW) hp;obtain⟨un,rfl⟩:=kT (show 0<=u from d1);obtain⟨wn,rfl⟩:=kT (show 0<=lw from d3);have d2:(un:Int)<_:=d2;have d4:(wn:Int)<_:=d4;refine⟨t,_,rfl,YJ.of (sm t _ ht),rfl,_,_,rfl,_,_,rfl,rfl,?_⟩;refine⟨_,rfl,_,rfl,_,rfl,mA,_,_,un,rfl,rfl,hm,(by rw[ke,WT];exact Y9 (by lia)),?_⟩;refine⟨_,rfl,_,rfl,_,rfl,mA,_,_,wn,rfl,rfl,Zc,(by rw[KY,ke,WT];exact Y9 (by lia)),?_⟩;refine⟨some (.int un),some (.int wn),rfl,(sm.put hm1).put hm1,?_⟩;rw[Zc,<- qZ,<- qZ,Zbr,Zbr,Ke,hp];congr 2;refine Ky (List.map V.int) (Ji fun x _ _=>?_);rw[show (some ((un:Int),(wn:Int))).toList = [((un:Int),(wn:Int))] from rfl,Zc9 n1 n2 n3]
  ·rintro σ H' ⟨v3,v4,rfl,sm,hm⟩;refine⟨_,rfl,k mA H' (s1.free hm1) (s1.trans sm) ?_⟩;rw[pv.len,kK (ki _)] at hm;exact hm
theorem Zaz {N:Nat}(m:QX){x:Int}(h0:0<=x)(h1:x<(N:Int)):atI ((tab N m).map V.int) x=some (V.int (m x)):=by obtain⟨n,rfl⟩:=kT h0;refine Zn ?_;rw[kE,ZeC _ (by lia)];rfl
def Zlb:Sp:=fun vs H Q _=>∃(f:Int)(mA:Addr)(m:QX)(N:Nat),vs = [.int f,.ref mA]/\H mA=some (.lst ((tab N m).map V.int))/\JN m N/\N<=200/\0<=f/\f<(N:Int) /\
 ∀(p:Addr)(H':Hp)(T:QG),H p=none->Zi H H'->H' p=some (.lst (T.map V.int))->Jk m f T->Q (.ref p) H'
abbrev UX:Stmt:=top 13
theorem UL:ZA ["first", "mates", "tour", "onward"] ["first", "mates"] (Zj UX):={}
theorem Zmw {f:Addr}{fd:FuncData}(F:WC K "tour_from" "tour_from" UX f fd)(Ju:JM P w K mg base 1 "born_with" ["thread"] Zn2):Yi P w K mg base WH 2 f fd ["first", "mates"] Zlb:=by
 refine F.ok UL (fun vs H Q E h=>?_) (fun cdv A outer s H vs Q E hr h=>?_)
 ·obtain⟨f,mA,m,N,rfl,_⟩:=h;rfl
 ·obtain⟨f,mA,m,N,rfl,hm,M,hN,h0,h1,k⟩:=h;refine⟨_,(Zd (Zm (i:=2) UL.nd rfl (.inl rfl) (ZH (Za (pv 0) (Za (Zw (Zs (K:=K) rfl) (pv 1) (pv 0) (fun _ _=>rfl)) Zb))))
   (Zd (ZbH Kj (Zr ZdX (Zq Ju hr (Za (Zw (Zs (K:=K) rfl) (pv 2) (Zcc Zam Ze) (fun _ _=>rfl)) Zb)) (pv 0) (Zp _)) (Zd (Zm (i:=3) UL.nd rfl (.inl rfl) (Zq Ju hr (Za (Zw (Zs (K:=K) rfl) (pv 2) (Zcc Zam Ze) (fun _ _=>rfl)) Zb)))
   (Zd (Ye (Yh (K:=K) rfl (YT kY Kf Kg ZW (pv 2) (Za (pv 3) Zb))))
   (Zg (Ye (Yh (K:=K) rfl (YT kY Kf Kg ZW (pv 2) (Za (Zw (Zs (K:=K) rfl) (pv 1) (pv 3) (fun _ _=>rfl)) Zb))))))))
   (Zg (Zz (pv 2))))),?_⟩
  have dom:=YO M h0 h1;have mdom:∀i,0<=m (gt m f i)/\m (gt m f i)<N:=fun i=>⟨M.lo _ (dom i).1 (dom i).2,M.hi _ (dom i).1 (dom i).2⟩;have ol:∀i,(WD m f (i+1)).map V.int=((WD m f i).map V.int ++ [V.int (gt m f i)]) ++ [V.int (m (gt m f i))]:=fun i=>by simp[WD]
  refine⟨_,rfl,_,rfl,_,rfl,mA,_,_,_,rfl,rfl,Zt.of hm,Zaz m h0 h1,sz2,fun tA htA=>?_⟩;refine⟨fun mm σ H'=>∃(i:Nat)(v3:QI),mm+i=N /\ σ = [some (.int f),some (.ref mA),some (.ref tA),v3]/\Zi H H'/\H' tA=some (.lst ((WD m f (i+1)).map V.int))/\(∀j,1<=j->j<i+1->gt m f j≠f),
   ⟨N,0,none,rfl,rfl,Zi.laid htA,Zc,fun j a b=>by lia⟩,?_⟩
  rintro mm σ H' ⟨i,v3,hi,rfl,sm,ht,nf⟩;have short:=Ud M h0 h1 nf;refine⟨_,rfl,1,rfl,tA,_,_,V.int (m (gt m f i)),rfl,rfl,Zt.of ht,(by rw[ol];exact Zbg _ _),_,rfl,(mdom i).1,_,rfl,rfl,_,rfl,?_⟩;refine ZY (fun hc=>?_) (fun hc=>?_)
  ·have ne:gt m f (i+1)≠f:=fun z=>by
    have hc:(!decide (V.int (bw (m (gt m f i)))=V.int f))=true:=hc;rw[kM (show V.int (bw (m (gt m f i)))=V.int f from Ky V.int z)] at hc;cases hc
   have nf':∀j,1<=j->j<i+2->gt m f j≠f:=fun j a b=>by
    by_cases e:j=i+1
    ·rw[e];exact ne
    ·exact nf j a (by lia)
   have short2:=Ud M h0 h1 nf';refine⟨fun σ' H''=>∃v3:QI,σ' = [some (.int f),some (.ref mA),some (.ref tA),v3]/\Zi H H''/\H'' tA=some (.lst ((WD m f (i+2)).map V.int)),fun σ' H'' ⟨v,e,a,b⟩=>⟨mm-1,by lia,i+1,v,by lia,e,a,b,nf'⟩,?_⟩;refine⟨_,rfl,1,rfl,tA,_,_,V.int (m (gt m f i)),rfl,rfl,Zt.of ht,(by rw[ol];exact Zbg _ _),_,rfl,(mdom i).1,?_⟩;refine⟨_,rfl,.inl ⟨rfl,_,Zt.of ht⟩,_,rfl,tA,_,_,rfl,rfl,ht,(by rw[ke,Wq];exact Zy (by lia)),?_⟩;have hma:tA≠mA:=fun z=>by rw[z,hm] at htA;cases htA
   refine⟨_,rfl,.inl ⟨rfl,_,Zt.of Zc⟩,_,rfl,_,rfl,mA,_,_,_,rfl,rfl,Zt.of (by rw[Zh (Kz hma)];exact sm mA _ hm),Zaz m (dom (i+1)).1 (dom (i+1)).2,tA,_,_,rfl,rfl,Zc,(by rw[kg,ke,Wq];exact Zy (by show _+1<=1000;lia)),?_⟩;refine⟨_,rfl,(sm.put htA).put htA,?_⟩;rw[Zc,ol (i+1)];rfl
  ·have e:gt m f (i+1)=f:=by
    by_cases z:gt m f (i+1)=f
    ·exact z
    ·exact absurd (show (!decide (V.int (gt m f (i+1))=V.int f))=true by rw[Ki (fun y=>z (V.int.inj y))];rfl) hc
   exact⟨_,rfl,k tA H' (WD m f (i+1)) htA sm ht ⟨i+1,by lia,e,nf,rfl⟩⟩
def ZeN:Sp:=fun vs H Q _=>∃(l:Addr)(xs:QH)(ls:QB),vs = [.ref l]/\H l=some (.lst xs)/\ZD H xs ls/\ls.length<=60/\Wk ls 0 /\
 ∀(p:Addr)(H':Hp)(ys:QH)(ts:QA),H p=none->Zi H H'->H' p=some (.lst ys)->YS H' ys ts->(∀t,V.ref t∈ys->H t=none)->GU (Jv (Jd ls)) (Jl ls) ts->Q (.ref p) H'
theorem Zf0 {N:Nat}(g:Int->V){x:Int}(h0:0<=x)(h1:x<(N:Int)):atI (tab N g) x=some (g x):=by obtain⟨n,rfl⟩:=kT h0;exact Zn (ZeC _ (by lia))
abbrev Zev:Stmt:=top 14
theorem Gq:ZA ["drawing", "mates", "gone", "found", "first", "tour", "thread"] ["drawing"] (Zj Zev):={}
theorem ZjU {f:Addr}{fd:FuncData}(F:WC K "tours" "tours" Zev f fd)(Zan:JM P w K mg base 4 "end_mates" ["drawing"] Zhc)(Zab:JM P w K mg base 2 "tour_from" ["first", "mates"] Zlb)(Yr:mg "len" = none)(Z8:mg "range" = none):Yi P w K mg base WH 5 f fd ["drawing"] ZeN:=by
 refine F.ok Gq (fun vs H Q E h=>?_) (fun cdv A outer s H vs Q E hr h=>?_)
 ·obtain⟨l,xs,ls,rfl,_⟩:=h;rfl
 ·obtain⟨l,xs,ls,rfl,hl,hL,hlen,hW,k⟩:=h;have n120:=Wh hlen;have M:=Wc hW;generalize hm':Jv (Jd ls)=m at *;generalize hn':Jl ls=N at *;refine⟨_,(Zd (Zm (i:=1) Gq.nd rfl (.inl rfl) (Zq Zan hr (Za (pv 0) Zb)))
   (Zd (Zm (i:=2) Gq.nd rfl (.inl rfl) (Zk ZaM (ZH (Za ZaH Zb)) (Zv (Ys (K:=K) rfl) (by rfl) Yr qd (Za (pv 1) Zb))))
   (Zd (Zm (i:=3) Gq.nd rfl (.inl rfl) (ZH Zb))
   (Zd (Yj Kj rfl (Y0 (by rfl) Z8 (Za (Zv (Ys (K:=K) rfl) (by rfl) Yr qd (Za (pv 1) Zb)) Zb)) (Zl (i:=4) Gq.nd rfl (.inl rfl)) (Zg (Z9 (ZcD (U9 (Zw (Zs (K:=K) rfl) (pv 2) (pv 4) (fun _ _=>rfl)))) (Zd (Zm (i:=5) Gq.nd rfl (.inl rfl) (Zq Zab hr (Za (pv 4) (Za (pv 1) Zb))))
   (Zd (Yj Kj rfl (ZT (K:=K) rfl (pv 5)) (Zl (i:=6) Gq.nd rfl (.inl rfl)) (Zg (Yd ZaH (Yp (pv 2) (pv 6) set_list))))
   (Zg (Ye (Yh (K:=K) rfl (YT kY Kf Kg ZW (pv 3) (Za (pv 5) Zb))))))) ZN)))
   (Zg (Zz (pv 3))))))),?_⟩
  refine⟨_,rfl,l,xs,ls,rfl,hl,hL,hlen,hW,fun mA H1 fm s1 em=>?_⟩;rw[hm',hn'] at em;refine⟨sz1,fun l0 hl0=>?_⟩;refine⟨_,rfl,mA,_,rfl,.inl (Zt.of ((Zi.laid hl0) mA _ em)),?_⟩;have el:((((tab N m).map V.int).length:Nat):Int)=((N:Nat):Int):=by rw[ke,WT]
  rw[el];refine⟨l0,_,_,rfl,rfl,Zc,by lia,by lia,(by show 1*_<=sizeLine;exact KN (Zy (by lia))),fun gA GB=>?_⟩;obtain⟨H2,hH2⟩:∃H2,H2=upd (upd H1 l0 (.lst [.bl false])) gA (.lst (List.replicate ((N:Nat):Int).toNat [V.bl false]).flatten):=⟨_,rfl⟩;rw[<- hH2];have s12:Zi H1 H2:=by rw[hH2];exact(Zi.laid hl0).step GB
  have hg1:H1 gA=none:=(Zi.laid hl0).free GB;have hg2:H2 gA=some (.lst (tab N fun _=>V.bl false)):=by rw[hH2,Zc,kX,Zay]
  refine⟨sz0,fun fA hfA=>?_⟩;have hf1:H1 fA=none:=s12.free hfA;have hgf:gA≠fA:=Zf hg2 hfA;refine⟨_,rfl,mA,_,rfl,.inl (Zt.of ((s12.step hfA) mA _ em)),((N:Nat):Int),Ky (fun z=>[V.int z]) el,by lia,by lia,JQ (n:=((N:Nat):Int).toNat) (fun i σ H'=>∃(ys:QH)(ts:QA)(v4 v5 v6:QI),σ = [some (.ref l),some (.ref mA),some (.ref gA),some (.ref fA),v4,v5,v6]/\Zi H1 H'/\H' gA=some (.lst (tab N fun x=>V.bl (decide (x∈ts.flatten))))/\H' fA=some (.lst ys)/\YS H' ys ts/\GU m i ts/\(∀t,V.ref t∈ys->t≠gA/\t≠fA/\H1 t=none))
   ⟨[],[],none,none,none,rfl,s12.step hfA,?_,Zc,.nil,.nil,fun t ht=>by cases ht⟩ ?_ ?_⟩
  ·rw[Zh hgf,hg2];exact Ky (fun z=>some (HO.lst z)) (Ji fun x _ _=>by simp)
  ·rintro i σ H' hi ⟨ys,ts,v4,v5,v6,rfl,sm,hg,hf,rv,tr,ap⟩;rw[kX] at hi;have e0:(0:Int)+(i:Int)=(i:Int):=Ob _;have good:=tr.good M (by lia);refine⟨_,rfl,_,rfl,gA,_,_,_,rfl,rfl,Zt.of hg,Zf0 _ (by lia) (by lia),_,rfl,?_⟩;rw[e0];by_cases hin:(i:Int)∈ts.flatten
   ·rw[kM hin];refine W8 ?_;exact⟨ys,ts,_,v5,v6,rfl,sm,hg,hf,rv,tr.skip hin,ap⟩
   ·rw[Ki hin];refine ZaY ?_;refine⟨_,rfl,_,rfl,_,mA,m,N,rfl,sm mA _ em,M,by lia,by lia,by lia,fun tA H3 T htA s3 eT isT=>?_⟩;have tdom:=isT.dom M (by lia) (by lia);have tlen:=isT.len M (by lia) (by lia);have htg:tA≠gA:=(Zf hg htA).symm;have htf:tA≠fA:=(Zf hf htA).symm;refine⟨_,rfl,tA,rfl,⟨_,Zt.of eT⟩,JG (K:=K) (a:=tA) (xs:=T.map V.int) (fun j σ H''=>∃v6:QI,σ = [some (.ref l),some (.ref mA),some (.ref gA),some (.ref fA),some (.int (i:Int)),some (.ref tA),v6]/\YK gA H3 H''/\H'' gA=some (.lst (tab N fun x=>V.bl (decide (x∈ts.flatten∨x∈T.take j)))))
     ⟨_,rfl,YK.refl _ _,?_⟩ (fun j σ H'' _ ⟨_,_,fr,_⟩=>Zt.of (fr tA _ eT htg)) ?_ ?_⟩
    ·rw[s3 gA _ hg];exact Ky (fun z=>some (HO.lst z)) (Ji fun x _ _=>by simp)
    ·rintro j x σ H'' hx ⟨v6,rfl,fr,hg''⟩;obtain⟨t,ht,rfl⟩:=Wb hx;obtain⟨d0,d1⟩:=tdom t (k9 ht);obtain⟨tn,rfl⟩:=kT d0;refine⟨_,rfl,_,rfl,gA,_,_,tn,rfl,rfl,hg'',(by rw[WT];exact Y9 (by lia)),?_⟩;refine⟨_,rfl,fr.trans YK.upd,?_⟩;rw[Zc,Zbr];refine Ky (fun z=>some (HO.lst z)) (Ji fun x _ _=>?_);rw[Ke,ht];by_cases e:x=(tn:Int)
     ·rw[kj e];congr 1;exact(kM (.inr (by rw[e];simp))).symm
     ·rw[kh e];congr 1;exact Xv.mpr (by simp[e])
    ·rintro σ H'' ⟨v6,rfl,fr,hg''⟩;have hf'':=fr fA _ (s3 fA _ hf) (Kz hgf);refine⟨_,rfl,.inl ⟨rfl,_,Zt.of hf''⟩,_,rfl,fA,_,_,rfl,rfl,hf'',(by rw[rv.len];have:=tr.len M (by lia);exact Zy (by lia)),?_⟩;have keep:∀c o,H' c=some o->c≠gA->c≠fA->(upd H'' fA (.lst (ys ++ [.ref tA]))) c=some o:=fun c o e n1 n2=>by
      rw[Zh n2];exact fr c o (s3 c o e) n1
     refine⟨ys ++ [.ref tA],ts ++ [T],_,_,_,rfl,fun c o e=>keep c o (sm c o e) (Zf e hg1) (Zf e hf1),?_,Zc,?_,tr.add hin isT,fun t ht=>?_⟩
     ·rw[Zh hgf,hg'',ke,kK (ki _)];refine Ky (fun z=>some (HO.lst z)) (Ji fun x _ _=>?_);congr 1;exact Xv.mpr (by rw[Kr];simp)
     ·refine YS.snoc (rv.mono fun t o ht e=>keep t o e (ap t ht).1 (ap t ht).2.1) ?_;rw[Zh htf];exact fr tA _ eT htg
     ·rcases KC.mp ht with z | z
      ·exact ap t z
      ·have:t=tA:=V.ref.inj (k7.mp z);subst this;exact⟨htg,htf,sm.free htA⟩
  ·rintro σ H' ⟨ys,ts,v4,v5,v6,rfl,sm,hg,hf,rv,tr,ap⟩;rw[kX] at tr;exact⟨_,rfl,k fA H' ys ts (s1.free hf1) (s1.trans sm) hf rv (fun t ht=>s1.free (ap t ht).2.2) tr⟩
def Z7 (ps:QL)(x:Int):Int:=if x∈ps.map (·.1) then 1 else -1
inductive DV (H:Hp):List (Key×V)->List (Int×Int)->Prop
 | nil:DV H [] []
 | snoc {kvs:QD}{ps:QL}{u l:Int}{a b:Addr}:DV H kvs ps->H a=some (.tup [.int l,.int 1])->H b=some (.tup [.int u,.int (-1)])->DV H (kvs ++ [(Sum.inl u,.ref a),(Sum.inl l,.ref b)]) (ps ++ [(u,l)])
theorem DV.mono {H H':Hp}(h:∀t p,H t=some (.tup p)->H' t=some (.tup p)){kvs:QD}{ps:QL}(d:DV H kvs ps):DV H' kvs ps:=by
 induction d with
 | nil=>exact .nil
 | snoc _ ea eb ih=>exact .snoc ih (h _ _ ea) (h _ _ eb)
theorem DV.keys {H:Hp}{kvs:QD}{ps:QL}(d:DV H kvs ps):kvs.map (·.1)=(ZK ps).map Sum.inl:=by
 induction d with
 | nil=>rfl
 | snoc _ _ _ ih=>rw[k6,ih,Y7,k6];rfl
theorem DV.len {H:Hp}{kvs:QD}{ps:QL}(d:DV H kvs ps):kvs.length=2*ps.length:=by have:=Ky List.length d.keys;simpa [Ue] using this
theorem ZcT {kvs:QD}{k:Key}{v:V}(h:k∉kvs.map (·.1)):putK kvs k v=kvs ++ [(k,v)]:=by unfold putK;rw[kh];intro z;rw[List.any_eq_true] at z;obtain⟨p,hp,e⟩:=z;exact h (Kq.mpr ⟨p,hp,kO e⟩)
theorem Zfk {kvs:QD}{k:Key}(h:k∉kvs.map (·.1)):(kvs.find? fun kv=>decide (kv.1=k))=none:=by rw[Ly];intro p hp z;exact h (Kq.mpr ⟨p,hp,kO z⟩)
theorem Zcn {ps:QL}{H:Hp}{kvs:QD}(d:DV H kvs ps){x:Int}(h:x∉ZK ps):(Sum.inl x:Key)∉kvs.map (·.1):=by rw[d.keys];intro z;obtain⟨y,hy,e⟩:=Kq.mp z;cases e;exact h hy
theorem DV.look {H:Hp}{kvs:QD}{ps:QL}(d:DV H kvs ps):(ZK ps).Nodup -> ∀x∈ZK ps,∃a,Y5 kvs (Sum.inl x)=some (.ref a)/\H a=some (.tup [.int (Jv ps x),.int (Z7 ps x)]):=by
 induction d with
 | nil=>intro _ x hx;cases hx
 | @snoc kvs ps u l a b d ea eb ih=>
  intro nd x hx;rw[Y7] at nd hx;have ef:ZK [(u,l)] = [u,l]:=by simp[ZK]
  rw[ef] at nd hx;obtain⟨n1,n2,n3⟩:=qD.mp nd;have hu:u∉ZK ps:=fun z=>n3 u z u (by simp) rfl;have hl:l∉ZK ps:=fun z=>n3 l z l (by simp) rfl;have ne:u≠l:=by have:=(Kl.mp n2).1;simpa using this
  rw[Zc9 hu hl ne];have dn:Z7 (ps ++ [(u,l)]) x=if x=u then 1 else Z7 ps x:=by
   unfold Z7;rw[k6];by_cases e:x=u
   ·simp[e]
   ·rw[kh e];by_cases q:x∈ps.map (·.1)
    ·rw[kj q,kj (Xm _ q)]
    ·rw[kh q,kh (fun z=>(KC.mp z).elim q (fun z=>e (by simpa using z)))]
  rw[dn];rcases KC.mp hx with z | z
  ·obtain⟨c,hv,hc⟩:=ih n1 x z;have e1:x≠u:=fun e=>hu (e ▸ z);have e2:x≠l:=fun e=>hl (e ▸ z);refine⟨c,?_,?_⟩
   ·unfold Y5 at hv ⊢;rw[NL];cases q:(kvs.find? fun kv=>decide (kv.1=Sum.inl x)) with
    | none=>rw[q] at hv;cases hv
    | some y=>rw[q] at hv;exact hv
   ·rw[kh e2,kh e1,kh e1];exact hc
  ·have z:x=u∨x=l:=by simpa using z
   rcases z with e | e
   ·subst e;refine⟨a,?_,?_⟩
    ·unfold Y5;rw[NL,Zfk (Zcn d hu)];simp
    ·rw[kh ne,kj rfl,kj rfl];exact ea
   ·subst e;refine⟨b,?_,?_⟩
    ·unfold Y5;rw[NL,Zfk (Zcn d hl)];have:¬((Sum.inl u:Key)=Sum.inl x):=fun z=>ne (by cases z;rfl);simp[this]
    ·have:Z7 ps x = -1:=by
      unfold Z7;rw[kh];intro z;obtain⟨p,hp,e⟩:=Kq.mp z;exact hl (KW.mpr ⟨p,hp,by simp[e]⟩)
     rw[kj rfl,kh (Kz ne),this];exact eb
theorem few {ls:QB}(hW:Wk ls 0):∀i,i<=ls.length->(rb (ls.take i)).2+2*((Jr ls i).length:Int)<=2*(i:Int)
 | 0,_=>by simp[Jr,Ya,rb]
 | i+1,hi=>by
  have ih:=few hW i (by lia);have hq:ls[i]? = some ls[i]:=by simp[show i<ls.length by lia]
  obtain⟨tk,c⟩:=ZdC hW hq;rw[W2,tk,YM];have kk:∀pr:Str->Bool,UW ls pr i=pr ls[i].1:=fun pr=>by unfold UW;rw[hq];cases h:pr ls[i].1<;>simp[h]
  rw[kk];generalize ls[i]=p at c;obtain⟨px,pk⟩:=p;rcases c with⟨e,_⟩ | ⟨e,_⟩ | ⟨e,_⟩
  ·have e:px = "born" := e;subst e;have hf:Ub "born" = false:=by unfold Ub;decide +kernel
   rw[WA,hf];simp only[qe,Xf,KL];lia
  ·have e:px = "cross" := e;subst e;have hf:Ub "cross" = false:=by unfold Ub;decide +kernel
   rw[JL,hf];simp only[qe,Xf,KL];lia
  ·have e:px = "end" := e;subst e;have hf:Ub "end" = true:=by unfold Ub;simp
   rw[Gx,hf];simp only[Tw,kg,Ks];lia
theorem ZhG {ls:QB}(hW:Wk ls 0):Jl ls<=ls.length:=by
 have h:=few hW ls.length (ki _);obtain⟨g0,g1,g2⟩:=ZbC hW ls.length (ki _);have e:rowAt ls ls.length = []:=by unfold rowAt;rw[kK (ki _)];have:=Zah hW;exact K9.mp (by lia)
 rw[e,qX] at g2;have hl:=g2.length_eq;rw[Uc,Ue] at hl;show 2*(Jr ls ls.length).length<=_;lia
theorem Zag:∀n,(UR n).Pairwise (· < ·)
 | 0=>by simp[UR]
 | n+1=>by
  unfold UR;rw[K7,k6,List.pairwise_append];refine⟨Zag n,by simp,fun a ha b hb=>?_⟩;have h1:=(YY (n:=n)).mp ha;have:b=(n:Int):=by simpa using hb
  lia
def Gu (N:Nat)(ts:QA):QG:=(UR N).filter fun x=>decide (x∉ts.flatten)
theorem Zgs {N:Nat}{ts:QA}{x:Int}:x∈Gu N ts ↔ (0<=x/\x<(N:Int))/\x∉ts.flatten:=by unfold Gu;rw[Mr,YY];simp
theorem Zhx {N:Nat}{ts:QA}{f:Int}{r:QG}(e:Gu N ts=f::r):(0<=f/\f<(N:Int))/\f∉ts.flatten /\ ∀j:Nat,(j:Int)<f->(j:Int)∈ts.flatten:=by
 have hf:f∈Gu N ts:=by rw[e];exact kQ
 obtain⟨d,n⟩:=Zgs.mp hf;refine⟨d,n,fun j hj=>?_⟩;by_cases z:(j:Int)∈ts.flatten
 ·exact z
 ·have hm:(j:Int)∈Gu N ts:=Zgs.mpr ⟨⟨by lia,by lia⟩,z⟩;have pw:(Gu N ts).Pairwise (· < ·):=(Zag N).filter _;rw[e] at hm pw;rcases kP.mp hm with y | y
  ·lia
  ·have:=(qu.mp pw).1 _ y;lia
theorem Zg6 {N:Nat}{ts:QA}{T:QG}:Gu N (ts ++ [T])=(Gu N ts).filter fun x=>decide (x∉T):=by unfold Gu;rw[List.filter_filter];refine List.filter_congr fun x _=>?_;rw[Kr];by_cases h1:x∈T<;>by_cases h2:x∈ts.flatten<;>simp[h1,h2]
theorem Zmv {N:Nat}{ts:QA}{T:QG}{f:Int}{r:QG}(e:Gu N ts=f::r)(h:f∈T):(Gu N (ts ++ [T])).length<(Gu N ts).length:=by rw[Zg6,e,List.filter_cons,kh (by simpa using h)];have:=TR (fun x=>decide (x∉T)) r;simp only[K3];lia
theorem ZnR {m:QX}{N i:Nat}{ts:QA}(e:Gu N ts = [])(tr:GU m i ts)(hi:i<=N):GU m N ts:=by
 have:=tr.jump (N-i) fun j a b=>by
  by_cases z:(j:Int)∈ts.flatten
  ·exact z
  ·have:(j:Int)∈Gu N ts:=Zgs.mpr ⟨⟨by lia,by lia⟩,z⟩;rw[e] at this;cases this
 rwa [show i+(N-i)=N by lia] at this
theorem Zmq {m:QX}{N i:Nat}{ts:QA}{f:Int}{r T:QG}(e:Gu N ts=f::r)(tr:GU m i ts)(hi:i<=N)(isT:Jk m f T):∃j:Nat,j<=N/\GU m j (ts ++ [T]):=by
 obtain⟨⟨d0,d1⟩,n,lo⟩:=Zhx e;obtain⟨fn,rfl⟩:=kT d0;have hif:i<=fn:=by refine N3 fun z=>n (tr.mem fn z)
 have:=tr.jump (fn-i) fun j a b=>lo j (by lia);rw[show i+(fn-i)=fn by lia] at this;exact⟨fn+1,by lia,this.add n isT⟩
def ev2 (y:Int):Int:=if y % 2=0 then 1 else -1
theorem Znv (y:Int):y+ev2 y=bw y:=by unfold ev2 bw;split<;>lia
def fl (dn:QX):List Int->Int
 | x::y::r=>dn x+ev2 y+fl dn r
 | _=>0
theorem Ze3 (dn:QX)(x y:Int):∀(n:Nat)(A:QG),A.length=2*n->fl dn (A ++ [x,y])=fl dn A+dn x+ev2 y
 | 0,A,h=>by
  have:A = []:=K9.mp (by lia);subst this;simp[fl]
 | n+1,[],h=>by simp at h
 | n+1,[a],h=>by simp at h;lia
 | n+1,a::b::r,h=>by have ih:=Ze3 dn x y n r (by simp at h;lia);simp only[N5,fl,ih];lia
theorem ZnY (dn m:QX)(f:Int)(i:Nat):fl dn (WD m f (i+1))=fl dn (WD m f i)+dn (gt m f i)+ev2 (m (gt m f i)):=Ze3 dn _ _ i _ (Wq m f i)
def Zf9 (i:Int):Int:=if i<0 then -i else i
def WV (z:Addr)(dn:QX)(H:Hp)(ys:QH)(ts:QA):Prop:=Paired (fun v (T:QG)=>∃a g,v=V.ref a/\H a=some (.tup [.ref g,.int (Zf9 (fl dn T) / 2)])/\H g=some (.lst (T.map V.int))/\g≠z) ys ts
theorem WV.mono {z:Addr}{dn:QX}{H H':Hp}(h:∀c o,c≠z->H c=some o->H' c=some o)(hz:∃xs,H z=some (.lst xs)):∀{ys:QH}{ts:QA},WV z dn H ys ts->WV z dn H' ys ts
 | _,_,.nil=>.nil
 | _,_,.cons ⟨a,g,e,ha,hg,n⟩ r=>.cons ⟨a,g,e,h a _ (fun y=>by obtain⟨xs,hz⟩:=hz;rw[y,hz] at ha;cases ha) ha,h g _ n hg,n⟩ (WV.mono h hz r)
theorem WV.same {z:Addr}{dn:QX}{H H':Hp}(s:Zi H H'):∀{ys:QH}{ts:QA},WV z dn H ys ts->WV z dn H' ys ts
 | _,_,.nil=>.nil
 | _,_,.cons ⟨a,g,e,ha,hg,n⟩ r=>.cons ⟨a,g,e,s a _ ha,s g _ hg,n⟩ (WV.same s r)
theorem WV.len {z:Addr}{dn:QX}{H:Hp}{ys:QH}{ts:QA}(h:WV z dn H ys ts):ys.length=ts.length:=Xb h
theorem Zer {r:QG}{k:Nat}(h:k+1<r.length):GG (r.map V.int) (some (k:Int)) (some ((k:Int)+2)) = [V.int (r.getD k 0),V.int (r.getD (k+1) 0)]:=by
 have e1:HT.Jx (r.map V.int).length 0 (some (k:Int))=k:=by rw[HT.Zbs,ke];omega
 have e2:HT.Jx (r.map V.int).length (r.map V.int).length (some ((k:Int)+2))=k+2:=by rw[show (k:Int)+2=((k+2:Nat):Int) by omega,HT.Zbs,ke];omega
 unfold GG;rw[e1,e2,show k+2-k=2 by omega,<- XM,<- Xq];have c:=Zll r k h;have hl:(r.take k).length=k:=by rw[kL];omega
 have e3:r.drop k = [r.getD k 0,r.getD (k+1) 0]++r.drop (k+2):=by
  conv=>lhs;rw[c]
  rw[kJ,T3 (by omega),qc (by omega),qX]
 rw[e3];simp
theorem ZmA (y:Int):atI [V.int 1,V.int (-1)] (y % 2)=some (V.int (ev2 y)):=by
 unfold ev2;rcases Int.emod_two_eq y with e | e<;>rw[e]
 ·exact Zn (j:=0) rfl
 ·exact Zn (j:=1) rfl
def Zhf:Sp:=fun vs H Q _=>∃(l:Addr)(xs:QH)(ls:QB),vs = [.ref l]/\H l=some (.lst xs)/\ZD H xs ls/\ls.length<=60/\Wk ls 0 /\
 ∀(p:Addr)(H':Hp)(ys:QH)(ts:QA),H p=none->Zi H H'->H' p=some (.lst ys)->WV p (Z7 (Jd ls)) H' ys ts->GU (Jv (Jd ls)) (Jl ls) ts->Q (.ref p) H'
abbrev W0:Stmt:=top 39
theorem ZF:ZA ["_law_drawing_here", "_law_rows_here", "_law_mates", "_law_t", "_law_letter", "_law_upper", "_law_lower", "_law_found", "_law_left", "_law_gone", "_law_fall", "_law_here", "_law_there", "_law_down"] ["_law_drawing_here"] (Zj W0):={}
theorem Zjc {f:Addr}{fd:FuncData}(F:WC K "_law_walks" "_law_walks" W0 f fd)(YW:JM P w K mg base 1 "_law_rows" ["_law_drawing_here"] Zb4)(ZJ:mg "enumerate" = none)(Yv:mg "sorted" = none)(ZaK:mg "abs" = none):Yi P w K mg base WH 2 f fd ["_law_drawing_here"] Zhf:=by
 refine F.ok ZF (fun vs H Q E h=>?_) (fun cdv A outer s H vs Q E hr h=>?_)
 ·obtain⟨l,xs,ls,rfl,_⟩:=h;rfl
 ·obtain⟨l,xs,ls,rfl,hl,hL,hlen,hW,k⟩:=h;have hxl:=hL.len;have n60:=ZhG hW;have M:=Wc hW;have nd:=ZdR hW;have pm:=Wy hW;refine⟨_,(Zd (Zm (i:=1) ZF.nd rfl (.inl rfl) (Zq YW hr (Za (pv 0) Zb)))
   (Zd (Zm (i:=2) ZF.nd rfl (.inl rfl) Zdi)
   (Zd (Yj Kj rfl (Gd (K:=K) rfl (by rfl) ZJ (Za (pv 0) Zb)) (Z6 (K:=K) (n:=2) rfl rfl (Zo (Zl (i:=3) ZF.nd rfl (.inl rfl)) (Zo (Zl (i:=4) ZF.nd rfl (.inl rfl)) ZQ))) (Zg (Z9 (Zr Ym (Zw (ZL (K:=K) rfl) (pv 4) Ze (fun _ _=>rfl)) ZG (Zp _)) (Zd (Yd (YL (Js (K:=K) rfl) (Zw (Zs (K:=K) rfl) (pv 1) (pv 3) (fun _ _=>rfl)) (Yq (Zw (ZL (K:=K) rfl) (pv 4) Ze (fun _ _=>rfl))) (Yq (Zk Zx (Zw (ZL (K:=K) rfl) (pv 4) Ze (fun _ _=>rfl)) Ze))) (Zcm (K:=K) (n:=2) rfl rfl (Zo (Zl (i:=5) ZF.nd rfl (.inl rfl)) (Zo (Zl (i:=6) ZF.nd rfl (.inl rfl)) ZQ))))
   (Zg (Yd (ZC (Za (ZC (Za (pv 6) (Za Ze Zb))) (Za (ZC (Za (pv 5) (Za (Zcc Zam Ze) Zb))) Zb))) (Z6 (K:=K) (n:=2) rfl rfl (Zo (Yp (pv 2) (pv 5) (set_dict (Jf hr))) (Zo (Yp (pv 2) (pv 6) (set_dict (Jf hr))) ZQ)))))) ZN)))
   (Zd (Zm (i:=7) ZF.nd rfl (.inl rfl) (ZH Zb))
   (Zd (Zm (i:=8) ZF.nd rfl (.inl rfl) (Zv (Zbk rfl) (by rfl) Yv Tt (Za (pv 2) Zb)))
   (Zd (ZbH Kj (Zr (Zid (K:=K) rfl hr.units) (pv 8) (ZH Zb) (Zp _)) (Zd (Zm (i:=9) ZF.nd rfl (Or.inr rfl) (ZH Zb))
   (Zd (Zm (i:=10) ZF.nd rfl (.inl rfl) Ze)
   (Zd (Zm (i:=11) ZF.nd rfl (.inl rfl) (Zw (Zs (K:=K) rfl) (pv 8) Ze (fun _ _=>rfl)))
   (Zd (ZbH Kj (Zr (ZaI (K:=K) rfl) (pv 11) (pv 9) rfl) (Zd (Yd (Zw (UI (Jf hr)) (pv 2) (pv 11) (fun _ _=>rfl)) (Z6 (K:=K) (n:=2) rfl rfl (Zo (Zl (i:=12) ZF.nd rfl (.inl rfl)) (Zo (Zl (i:=13) ZF.nd rfl (.inl rfl)) ZQ))))
   (Zd (Zm (i:=9) ZF.nd rfl (Or.inr rfl) (Zk Gj (pv 9) (ZH (Za (pv 11) (Za (pv 12) Zb)))))
   (Zd (Zm (i:=10) ZF.nd rfl (.inl rfl) (Zk Zx (Zk Zx (pv 10) (pv 13)) (Zw (Zs (K:=K) rfl) (ZH (Za Ze (Za (Zcc Zam Ze) Zb))) (Zk Gh (pv 12) Ze) (fun _ _=>rfl))))
   (Zg (Zm (i:=11) ZF.nd rfl (.inl rfl) (Zk Zx (pv 12) (Zw (Zs (K:=K) rfl) (ZH (Za Ze (Za (Zcc Zam Ze) Zb))) (Zk Gh (pv 12) Ze) (fun _ _=>rfl)))))))))
   (Zd (Ye (Yh (K:=K) rfl (YT kY Kf Kg ZW (pv 7) (Za (ZC (Za (pv 9) (Za (Zk Zbc (Zv Zbu (by rfl) ZaK boot_abs (Za (pv 10) Zb)) Ze) Zb))) Zb))))
   (Zg (Zdc (i:=8) ZF.nd rfl (.inl rfl) (Ls:=["_law_thread"]) (Fs:=["_law_gone"]) (fi:=[9]) (ZZ.of (show YC ["_law_drawing_here", "_law_rows_here", "_law_mates", "_law_t", "_law_letter", "_law_upper", "_law_lower", "_law_found", "_law_left", "_law_gone", "_law_fall", "_law_here", "_law_there", "_law_down"] (Zj W0) _ ["_law_gone"] [9]=true by decide +kernel)) rfl (ZT (K:=K) rfl (pv 8)) (fun cl C s3 H3 ex=>⟨(Zl (i:=0) (show ((["_law_thread"]:QP)++(["_law_gone"]:QP)).Nodup by decide +kernel) rfl (.inl rfl)),(Za4 (Zr (ZaI (K:=K) rfl) (pv 0) (pv 1) rfl)),(pv 0)⟩)))))))))
   (Zg (Zz (pv 7))))))))),?_⟩
  refine⟨_,rfl,l,xs,ls,rfl,hl,hL,hlen,hW,fun R H1 ys fR s1 eR rv ap ndr=>?_⟩;refine fun dA hdA=>?_;have hdH:H dA=none:=s1.free hdA;have hl1:=s1 l _ hl;have hL1:=hL.same s1;refine⟨_,rfl,l,rfl,⟨_,Zt.of ((Zi.laid hdA) l _ hl1)⟩,Zbd (K:=K) (a:=l) (xs:=xs) (fun i σ H'=>∃(kvs:QD)(v3 v4 v5 v6:QI),σ = [some (.ref l),some (.ref R),some (.ref dA),v3,v4,v5,v6,none,none,none,none,none,none,none]/\Zi H1 H'/\H' dA=some (.dK kvs)/\DV H' kvs (Jr ls i))
   ⟨[],none,none,none,none,rfl,Zi.laid hdA,Zc,.nil⟩ (fun i σ H' _ ⟨_,_,_,_,_,_,sm,_⟩=>Zt.of (sm l _ hl1)) ?_ ?_⟩
  ·rintro i x p σ H' hx ⟨kvs,v3,v4,v5,v6,rfl,sm,hd,dv⟩ hp;obtain⟨⟨qx,qk⟩,ta,hq,rfl,hta⟩:=hL1.get hx;have hta':=(sm.step (o:=.tup [.int i,.ref ta]) hp) ta _ hta;obtain⟨G0,hG0⟩:∃G0,G0=upd H' p (.tup [.int i,.ref ta]):=⟨_,rfl⟩;have sp:Zi H' G0:=by rw[hG0];exact Zi.laid hp
   have sg0:Zi H1 G0:=sm.trans sp;have hd0:=sp dA _ hd;have kk:UW ls Ub i=Ub qx:=by unfold UW;rw[hq];cases h:Ub qx<;>simp[h]
   refine⟨p,_,rfl,YJ.of Zc,rfl,_,_,rfl,_,_,rfl,rfl,?_⟩;rw[<- hG0] at hta' ⊢;refine⟨_,rfl,ta,_,_,_,rfl,rfl,YJ.of hta',Zn (j:=0) rfl,rfl,_,rfl,?_⟩;refine ZY (fun hc=>?_) (fun hc=>?_)
   ·have e:qx = "end" := V.str.inj (kO hc);subst e;obtain⟨k0,k1,pe⟩:=Zfl hW hq (fun z=>nb2 z);obtain⟨kn,rfl⟩:=kT (show 0<=qk from k0);simp only[kX] at k1 pe;have hi:i<ls.length:=(kI.mp hq).1;obtain⟨ra,hra,hrr⟩:=rv.at (Zax ls (i:=i) (n:=ls.length+1) (by lia));have ei:UW ls Ub i=true:=by rw[kk];unfold Ub;simp
    have pin:Jo ls i∈Jd ls:=Kq.mpr ⟨(i:Int),by unfold Ya;exact qo.mpr ⟨i,qa.mpr hi,by rw[kj ei]⟩,by simp⟩
    have es:Jr ls (i+1)=Jr ls i ++ [Jo ls i]:=by rw[W2,kj ei]
    obtain⟨u,hu⟩:∃u,u=(rowAt ls i).getD kn 0:=⟨_,rfl⟩;obtain⟨w,hw⟩:∃w,w=(rowAt ls i).getD (kn+1) 0:=⟨_,rfl⟩;rw[<- hu,<- hw] at pe;have nde:(ZK (Jr ls (i+1))).Nodup:=by
     have e:Ya ls Ub (i+1) <+: Ya ls Ub ls.length:=by
      have:∀d,Ya ls Ub (i+1) <+: Ya ls Ub (i+1+d):=by
       intro d
       induction d with
       | zero=>exact List.prefix_refl _
       | succ d ih=>
        refine ih.trans ?_;show _ <+: Ya ls Ub (i+1+d+1);rw[JS];exact List.prefix_append _ _
      have:=this (ls.length-(i+1))
      rwa [show i+1+(ls.length-(i+1))=ls.length by lia] at this
     obtain⟨r,e⟩:=e;have:Jd ls=Jr ls (i+1)++r.map (fun t=>Jo ls t.toNat):=by unfold Jd Jr;rw[<- e,k6]
     rw[this,Y7] at nd;exact(qD.mp nd).1
    rw[es,Y7,pe] at nde;have ef:ZK [(u,w)] = [u,w]:=by simp[ZK]
    rw[ef] at nde;obtain⟨n1,n2,n3⟩:=qD.mp nde;have nu:u∉ZK (Jr ls i):=fun z=>n3 u z u (by simp) rfl;have nw:w∉ZK (Jr ls i):=fun z=>n3 w z w (by simp) rfl;have nuw:u≠w:=by have:=(Kl.mp n2).1;simpa using this
    have e2:((Jr ls i).length)<=60:=by unfold Jr;rw[ke];exact Kx (J2 _ _ _) (by lia)
    refine⟨_,rfl,_,rfl,R,_,_,_,rfl,rfl,Zt.of (sg0 R _ eR),Zn hra,_,rfl,ta,_,_,_,rfl,rfl,YJ.of hta',Zn (j:=1) rfl,_,rfl,_,rfl,ta,_,_,_,rfl,rfl,YJ.of hta',Zn (j:=1) rfl,_,_,rfl,rfl,_,rfl,ra,_,rfl,Zt.of (sg0 ra _ hrr),fun cA hcA=>?_⟩;rw[Zer k1,<- hu,<- hw];refine⟨cA,_,rfl,Zt.of Zc,rfl,_,_,rfl,_,_,rfl,rfl,?_⟩;obtain⟨G1,hG1⟩:∃G1,G1=upd G0 cA (.lst [.int u,.int w]):=⟨_,rfl⟩;have sg1:Zi G0 G1:=by rw[hG1];exact Zi.laid hcA
    rw[<- hG1];refine⟨_,rfl,sz2,fun t1 ht1=>?_⟩;obtain⟨G2,hG2⟩:∃G2,G2=upd G1 t1 (.tup [.int w,.int 1]):=⟨_,rfl⟩;have sg2:Zi G1 G2:=by rw[hG2];exact Zi.laid ht1
    have e21:G2 t1=some (.tup [.int w,.int 1]):=by rw[hG2];exact Zc
    rw[<- hG2];refine⟨_,rfl,1,rfl,sz2,fun t2 ht2=>?_⟩;obtain⟨G3,hG3⟩:∃G3,G3=upd G2 t2 (.tup [.int u,.int (-1)]):=⟨_,rfl⟩;have sg3:Zi G2 G3:=by rw[hG3];exact Zi.laid ht2
    have e32:G3 t2=some (.tup [.int u,.int (-1)]):=by rw[hG3];exact Zc
    rw[<- hG3];refine⟨sz2,fun t3 ht3=>?_⟩;obtain⟨G4,hG4⟩:∃G4,G4=upd G3 t3 (.tup [.ref t1,.ref t2]):=⟨_,rfl⟩;have sg4:Zi G3 G4:=by rw[hG4];exact Zi.laid ht3
    have e43:G4 t3=some (.tup [.ref t1,.ref t2]):=by rw[hG4];exact Zc
    rw[<- hG4];have sAll:Zi G0 G4:=((sg1.trans sg2).trans sg3).trans sg4;have hd4:=sAll dA _ hd0;have kl:kvs.length<sizeLine:=by rw[dv.len];exact Zy (by lia)
    have o1:(Sum.inl u:Key)∉kvs.map (·.1):=Zcn dv nu;have p1:putK kvs (Sum.inl u) (.ref t1)=kvs ++ [(Sum.inl u,.ref t1)]:=ZcT o1;have o2:(Sum.inl w:Key)∉(kvs ++ [((Sum.inl u:Key),V.ref t1)]).map (·.1):=by
     rw[k6];intro z;rcases KC.mp z with z | z
     ·exact Zcn dv nw z
     ·have:(Sum.inl w:Key)=Sum.inl u:=by simpa using z
      cases this;exact nuw rfl
    have p2:putK (kvs ++ [((Sum.inl u:Key),V.ref t1)]) (Sum.inl w) (.ref t2)=kvs ++ [((Sum.inl u:Key),V.ref t1),(Sum.inl w,.ref t2)]:=by rw[ZcT o2];simp
    refine⟨t3,_,rfl,YJ.of e43,rfl,_,_,rfl,_,rfl,_,rfl,dA,_,rfl,ZfG.k (k:=Sum.inl u) hd4 kl,?_⟩;rw[p1];refine⟨_,_,rfl,_,rfl,_,rfl,dA,_,rfl,ZfG.k (k:=Sum.inl w) Zc (by rw[kg,dv.len];exact Zy (by show _+1<=1000;lia)),rfl,?_⟩;rw[p2,Jz];refine⟨_,_,_,_,_,rfl,fun c o e=>?_,Zc,?_⟩
    ·rw[Zh (Zf e hdA)];exact sAll c o (sg0 c o e)
    ·rw[es,pe];have tk:∀t q,G4 t=some (.tup q)->(upd G4 dA (.dK (kvs ++ [((Sum.inl u:Key),V.ref t1),(Sum.inl w,.ref t2)]))) t=some (.tup q):=fun t q e=>by
      rw[Zh (J0 e hd4 (by intro z;cases z))];exact e
     exact DV.snoc (dv.mono fun t q e=>tk t q (sAll t _ (sp t _ e))) (tk _ _ (sg4 t1 _ (sg3 t1 _ e21))) (tk _ _ (sg4 t2 _ e32))
   ·have e:¬qx = "end" := fun z=>hc (kM (Ky V.str z));have ei:UW ls Ub i=false:=by rw[kk];unfold Ub;simp[e]
    have es:Jr ls (i+1)=Jr ls i:=by rw[W2,ei];simp
    refine⟨kvs,_,_,_,_,rfl,sg0,hd0,?_⟩;rw[es];exact dv.mono fun t q e=>sp t _ e
  ·rintro σ H2 ⟨kvs,v3,v4,v5,v6,rfl,sm2,hd2,dv2⟩;rw[hxl] at dv2;have s02:Zi H H2:=s1.trans sm2;refine⟨sz0,fun fA hfA=>?_⟩;have hfd:dA≠fA:=Zf hd2 hfA;refine⟨_,rfl,dA,kvs,ZK (Jd ls),rfl,(Zi.laid hfA) dA _ hd2,dv2.keys,(by rw[Ue];show Jl ls<64;lia),fun lA ns hlA hperm hsort=>?_⟩;have ens:ns=UR (Jl ls):=ZaS (hperm.trans pm) hsort ((Zag _).imp fun h=>Oc h);subst ens;have hlf:lA≠fA:=(Zf (Zc (H:=H2) (a:=fA) (o:=.lst [])) hlA).symm;generalize hmm:Jv (Jd ls)=m at *;generalize hdn:Z7 (Jd ls)=dn at *;generalize hnn:Jl ls=N at *;have dget:∀(G:Hp),Zi H2 G -> ∀x:Int,0<=x->x<(N:Int) -> ∃a,UQ G dA (.int x) (some (.ref a))/\G a=some (.tup [.int (m x),.int (dn x)]):=fun G sG x x0 x1=>by
    obtain⟨a,hv,ha⟩:=dv2.look nd x (pm.mem_iff.mpr (YY.mpr ⟨x0,x1⟩));have:=UQ.k (k:=Sum.inl x) (sG dA _ hd2);rw[hv] at this;have e1:Jv (Jr ls ls.length)=m:=hmm;have e2:Z7 (Jr ls ls.length)=dn:=hdn;rw[e1,e2] at ha;exact⟨a,this,sG a _ ha⟩
   refine⟨fun mm σ H'=>∃(ts:QA)(ys:QH)(i:Nat)(lf:Addr)(v9 v10 v11 v12 v13:QI),mm=(Gu N ts).length /\ σ = [some (.ref l),some (.ref R),some (.ref dA),v3,v4,v5,v6,some (.ref fA),some (.ref lf),v9,v10,v11,v12,v13]/\Zi H2 H'/\H' fA=some (.lst ys)/\H' lf=some (.lst ((Gu N ts).map V.int))/\lf≠fA/\WV fA dn H' ys ts/\GU m i ts/\i<=N,
    ⟨_,[],[],0,lA,none,none,none,none,none,rfl,rfl,(Zi.laid hfA).step hlA,?_,?_,hlf,.nil,.nil,KP _⟩,?_⟩
   ·rw[Zh (Kz hlf),Zc]
   ·rw[Zc];congr 3;unfold Gu;rw[List.filter_eq_self.mpr];intro x _;simp
   rintro mm σ H' ⟨ts,ys,i,lf,v9,v10,v11,v12,v13,rfl,rfl,sm,hf,hlf',nlf,wv,tr,hi⟩;refine⟨_,rfl,sz0,fun nA hnA=>?_⟩;obtain⟨G0,hG0⟩:∃G0,G0=upd H' nA (.lst []):=⟨_,rfl⟩;have s0:Zi H' G0:=by rw[hG0];exact Zi.laid hnA
   rw[<- hG0];refine⟨lf,nA,_,rfl,rfl,Zt.of (s0 lf _ hlf'),Zt.of (by rw[hG0];exact Zc),_,rfl,?_⟩;cases elf:Gu N ts with
   | nil=>
    refine W8 ?_;refine⟨_,rfl,k fA G0 ys ts (s02.free hfA) (s02.trans (sm.trans s0)) (s0 fA _ hf) (wv.same s0) (ZnR elf tr hi)⟩
   | cons f0 rest=>
    refine ZaY ?_;obtain⟨⟨f0lo,f0hi⟩,f0n,f0l⟩:=Zhx elf;have dom:=YO M f0lo f0hi;refine⟨fun σ' H''=>∃(ts':QA)(ys:QH)(i:Nat)(lf:Addr)(v9 v10 v11 v12 v13:QI),(Gu N ts').length<(f0::rest).length /\ σ' = [some (.ref l),some (.ref R),some (.ref dA),v3,v4,v5,v6,some (.ref fA),some (.ref lf),v9,v10,v11,v12,v13]/\Zi H2 H''/\H'' fA=some (.lst ys)/\H'' lf=some (.lst ((Gu N ts').map V.int))/\lf≠fA/\WV fA dn H'' ys ts'/\GU m i ts'/\i<=N,
     fun σ' H'' ⟨ts',ys,i,lf,v9,v10,v11,v12,v13,a,b⟩=>⟨_,a,ts',ys,i,lf,v9,v10,v11,v12,v13,rfl,b⟩,?_⟩
    refine⟨sz0,fun gA GB=>?_⟩;have s1':Zi H' (upd G0 gA (.lst [])):=s0.step GB;have hgf:gA≠fA:=(Zf (s0 fA _ hf) GB).symm;refine⟨_,rfl,lf,_,_,V.int f0,rfl,rfl,Zt.of (s1' lf _ hlf'),Zn (j:=0) (by rw[elf];rfl),?_⟩;refine⟨fun m2 σ H''=>∃(j:Nat)(g:Addr)(v12 v13:QI),m2+j=N+1 /\ σ = [some (.ref l),some (.ref R),some (.ref dA),v3,v4,v5,v6,some (.ref fA),some (.ref lf),some (.ref g),some (.int (fl dn (WD m f0 j))),some (.int (gt m f0 j)),v12,v13]/\Zi H' H''/\H'' g=some (.lst ((WD m f0 j).map V.int))/\g≠fA/\(∀q,1<=q->q<j->gt m f0 q≠f0),
     ⟨N+1,0,gA,v12,v13,rfl,rfl,s1',Zc,hgf,fun q a b=>by lia⟩,?_⟩
    rintro m2 σ H'' ⟨j,g,w12,w13,hj,rfl,sm2',hg,ngf,nf⟩;have short:=Ud M f0lo f0hi nf;have s22:Zi H2 H'':=sm.trans sm2';refine⟨_,rfl,_,rfl,g,_,rfl,.inl (Zt.of hg),rfl,Zd0 _,_,rfl,?_⟩;show if (!inV (V.int (gt m f0 j)) ((WD m f0 j).map V.int))=true then _ else _
    rw[ZfS];by_cases hin:gt m f0 j∈WD m f0 j
    ·rw[kM hin];refine W8 ?_;obtain⟨j1,ej⟩:=(ZkQ M f0lo f0hi nf).mp hin;have isT:Jk m f0 (WD m f0 j):=⟨j,j1,ej,nf,rfl⟩;have hf'':=sm2' fA _ hf;refine⟨_,rfl,.inl ⟨rfl,_,Zt.of hf''⟩,_,rfl,_,rfl,_,rfl,_,_,rfl,rfl,⟨by decide,by decide⟩,sz2,fun tt htt=>?_⟩;have hft:fA≠tt:=Zf hf'' htt;have yl:ys.length<sizeLine:=by rw[wv.len];have:=tr.len M (by lia);exact Zy (by lia)
     refine⟨fA,_,_,rfl,rfl,(by rw[Zh hft];exact hf''),yl,?_⟩;have K5:∀(o1 o2:HO) c o,H'' c=some o->c≠fA->(upd (upd H'' tt o1) fA o2) c=some o:=fun o1 o2 c o e n=>by rw[Zh n,Zh (Zf e htt)];exact e
     have hlf2:H'' lf=some (.lst ((f0::rest).map V.int)):=by have:=sm2' lf _ hlf';rw[elf] at this;exact this
     obtain⟨j2,hj2,tr2⟩:=Zmq elf tr hi isT;have f0T:f0∈WD m f0 j:=isT.self;have less:=Zmv elf f0T;rw[elf] at less;have llen:(f0::rest).length<=120:=by rw[<- elf];unfold Gu;refine Kx (TR _ _) ?_;rw[Uc];lia
     refine⟨_,rfl,lf,rfl,⟨_,Zt.of (K5 _ _ lf _ hlf2 nlf)⟩,Ja (K:=K) (a:=lf) (xs:=(f0::rest).map V.int) (by rw[ke];exact KN (Zy (by lia))) (fun i zs G=>((∀c o,H'' c=some o->c≠fA->G c=some o)/\G fA=some (.lst (ys ++ [.ref tt]))/\G tt=some (.tup [.ref g,.int (Zf9 (fl dn (WD m f0 j)) / 2)]))/\zs=(((f0::rest).take i).filter fun x=>decide (x∉WD m f0 j)).map V.int)
      ⟨⟨fun c o e n=>K5 _ _ c o e n,Zc,by rw[Zh (Kz hft),Zc];rfl⟩,by simp⟩ (fun i zs G p=>?_) (fun i zs G p=>Zt.of (p.1.1 lf _ hlf2 nlf)) (fun i x zs G hx p=>?_) (fun zs G p D hD=>?_)⟩
     ·rw[p.2,ke];exact Kx (TR _ _) (by rw[kL];lia)
     ·obtain⟨kp,rfl⟩:=p;obtain⟨t,ht,rfl⟩:=Wb hx;have tk:((f0::rest).take (i+1)).filter (fun x=>decide (x∉WD m f0 j))=((f0::rest).take i).filter (fun x=>decide (x∉WD m f0 j))++(if t∈WD m f0 j then[] else[t]):=by
       rw[Ke,ht,List.filter_append];by_cases z:t∈WD m f0 j<;>simp[z]
      refine⟨_,rfl,_,rfl,g,_,rfl,.inl (Zt.of (kp.1 g _ hg ngf)),rfl,Zd0 _,_,rfl,?_⟩;show if (!inV (V.int t) ((WD m f0 j).map V.int))=true then _ else _
      rw[ZfS];by_cases z:t∈WD m f0 j
      ·rw[kM z];refine W8 ⟨kp,?_⟩;rw[tk,kj z,KL]
      ·rw[Ki z];refine ZaY ⟨_,rfl,kp,?_⟩;rw[tk,kh z,k6];rfl
     ·obtain⟨kp,rfl⟩:=p;have hDf:D≠fA:=(Zf kp.2.1 hD).symm;have kD:∀c o,H'' c=some o->c≠fA->(upd G D (.lst ((((f0::rest).take ((f0::rest).map V.int).length).filter fun x=>decide (x∉WD m f0 j)).map V.int))) c=some o:=fun c o e n=>by
       have e2:=kp.1 c o e n;rw[Zh (Zf e2 hD)];exact e2
      refine⟨ts ++ [WD m f0 j],ys ++ [.ref tt],j2,D,_,_,_,_,_,less,rfl,fun c o e=>kD c o (s22 c o e) (Zf e hfA),?_,?_,hDf,?_,tr2,hj2⟩
      ·rw[Zh (Kz hDf)];exact kp.2.1
      ·rw[Zc,Zg6,elf,ke,kK (ki _)]
      ·refine T1 (wv.mono (fun c o n e=>kD c o (sm2' c o e) n) ⟨_,hf⟩) ⟨tt,g,rfl,?_,kD g _ hg ngf,ngf⟩;rw[Zh (Zf kp.2.2 hD)];exact kp.2.2
    ·rw[Ki hin];refine ZaY ?_;have nf':∀q,1<=q->q<j+1->gt m f0 q≠f0:=fun q a b e=>by
      by_cases z:q=j
      ·subst z;exact hin ((ZkQ M f0lo f0hi nf).mpr ⟨a,e⟩)
      ·exact nf q a (by lia) e
     have short2:=Ud M f0lo f0hi nf';refine⟨fun σ' H3=>∃(g:Addr)(v12 v13:QI),σ' = [some (.ref l),some (.ref R),some (.ref dA),v3,v4,v5,v6,some (.ref fA),some (.ref lf),some (.ref g),some (.int (fl dn (WD m f0 (j+1)))),some (.int (gt m f0 (j+1))),v12,v13]/\Zi H' H3/\H3 g=some (.lst ((WD m f0 (j+1)).map V.int))/\g≠fA,
      fun σ' H3 ⟨g,a,b,e,h1,h2,h3⟩=>⟨m2-1,by lia,j+1,g,a,b,by lia,e,h1,h2,h3,nf'⟩,?_⟩
     obtain⟨a,dg,ha⟩:=dget H'' s22 (gt m f0 j) (dom j).1 (dom j).2;refine⟨_,rfl,_,rfl,dA,_,rfl,dg,?_⟩;refine⟨a,_,rfl,YJ.of ha,rfl,_,_,rfl,_,_,rfl,rfl,?_⟩;refine⟨_,rfl,_,rfl,_,rfl,sz2,fun b hb=>?_⟩;refine⟨g,b,_,_,rfl,rfl,(Zi.laid hb) g _ hg,Zc,(by rw[ke,Wq];exact KN (Zy (by show _+2<=1000;lia))),fun g' hg'=>?_⟩;have s3:Zi H'' (upd (upd H'' b (.lst [.int (gt m f0 j),.int (m (gt m f0 j))])) g' (.lst ((WD m f0 j).map V.int ++ [.int (gt m f0 j),.int (m (gt m f0 j))]))):=(Zi.laid hb).step hg';have ng':g'≠fA:=(Zf ((Zi.laid (o:=.lst [.int (gt m f0 j),.int (m (gt m f0 j))]) hb) fA _ (sm2' fA _ hf)) hg').symm;refine⟨_,rfl,_,rfl,_,_,rfl,rfl,1,rfl,sz2,fun c hc=>?_⟩;refine⟨_,rfl,_,_,rfl,rfl,(by show (0:Int)<2;decide),c,_,_,_,rfl,rfl,Zt.of Zc,ZmA _,_,_,rfl,rfl,?_⟩;refine⟨_,rfl,1,rfl,sz2,fun c2 hc2=>?_⟩;refine⟨_,rfl,_,_,rfl,rfl,(by show (0:Int)<2;decide),c2,_,_,_,rfl,rfl,Zt.of Zc,ZmA _,_,_,rfl,rfl,?_⟩;refine⟨g',some (.int (m (gt m f0 j))),some (.int (dn (gt m f0 j))),?_,((sm2'.trans s3).step hc).step hc2,?_,ng'⟩
     ·rw[ZnY,show gt m f0 (j+1)=m (gt m f0 j)+ev2 (m (gt m f0 j)) from(Znv _).symm];rfl
     ·have e1:=(Zi.laid (o:=.lst [.int 1,.int (-1)]) hc) g' _ Zc;have e2:=(Zi.laid (o:=.lst [.int 1,.int (-1)]) hc2) g' _ e1;refine e2.trans ?_;simp[WD]
def Zc5:Sp:=fun vs H Q _=>∃(l:Addr)(xs:QH)(ls:QB),vs = [.ref l]/\H l=some (.lst xs)/\ZD H xs ls/\ls.length<=60/\Wk ls 0 /\
 ∀(p:Addr)(H':Hp),H p=none->Zi H H'->H' p=some (.lst (tab (Jl ls) fun x=>V.bl (decide (x∈(Jd ls).map (·.1)))))->Q (.ref p) H'
abbrev Wf:Stmt:=top 15
theorem Jp:ZA ["drawing", "uppers", "upper", "lower"] ["drawing"] (Zj Wf):={}
theorem ZiU {f:Addr}{fd:FuncData}(F:WC K "uppers_at_ends" "uppers_at_ends" Wf f fd)(YR:JM P w K mg base 2 "ends_of" ["drawing"] (Zca fun x=>decide (x = "end")))(JK:JM P w K mg base 3 "end_pairs" ["drawing"] Zgf)(Yr:mg "len" = none):Yi P w K mg base WH 4 f fd ["drawing"] Zc5:=by
 refine F.ok Jp (fun vs H Q E h=>?_) (fun cdv A outer s H vs Q E hr h=>?_)
 ·obtain⟨l,xs,ls,rfl,_⟩:=h;rfl
 ·obtain⟨l,xs,ls,rfl,hl,hL,hlen,hW,k⟩:=h;have n120:=Wh hlen;have nt:2*(Ya ls Ub ls.length).length=Jl ls:=by unfold Jl Jd Jr;rw[ke]
  refine⟨_,(Zd (Zm (i:=1) Jp.nd rfl (.inl rfl) (Zk ZaM (ZH (Za ZaH Zb)) (Zk Wa Ze (Zv (Ys (K:=K) rfl) (by rfl) Yr qd (Za (Zq YR hr (Za (pv 0) Zb)) Zb)))))
   (Zd (Yj Kj rfl (ZT (K:=K) rfl (Zq JK hr (Za (pv 0) Zb))) (Z6 (K:=K) (n:=2) rfl rfl (Zo (Zl (i:=2) Jp.nd rfl (.inl rfl)) (Zo (Zl (i:=3) Jp.nd rfl (.inl rfl)) ZQ))) (Zg (Yd ZaH (Yp (pv 1) (pv 2) set_list))))
   (Zg (Zz (pv 1))))),?_⟩
  refine⟨sz1,fun l0 hl0=>?_⟩;have s0:Zi H (upd H l0 (.lst [.bl false])):=Zi.laid hl0;refine⟨_,rfl,l,xs,ls,rfl,s0 l _ hl,hL.same s0,hlen,hW.kd,fun eA H1 fe s1 ee=>?_⟩;refine⟨eA,_,rfl,.inl (Zt.of ee),_,_,rfl,rfl,.inl ⟨by decide,by decide⟩,?_⟩;have el:((2:Int)*((((Ya ls (fun x=>decide (x = "end")) ls.length).map V.int).length:Nat):Int))=((Jl ls:Nat):Int):=by rw[ke];have:(Ya ls (fun x=>decide (x = "end")) ls.length).length=(Ya ls Ub ls.length).length:=rfl;lia
  show ZlZ (V.ref l0) (V.int ((2:Int)*((((Ya ls (fun x=>decide (x = "end")) ls.length).map V.int).length:Nat):Int))) H1 _;rw[el];refine⟨l0,_,_,rfl,rfl,s1 l0 _ Zc,by lia,by lia,(by show 1*_<=sizeLine;exact KN (Zy (by lia))),fun rA hrA=>?_⟩;obtain⟨H2,hH2⟩:∃H2,H2=upd H1 rA (.lst (List.replicate ((Jl ls:Nat):Int).toNat [V.bl false]).flatten):=⟨_,rfl⟩;rw[<- hH2];have s02:Zi H H2:=by rw[hH2];exact(s0.trans s1).step hrA
  have hrH:H rA=none:=(s0.trans s1).free hrA;have hr2:H2 rA=some (.lst (tab (Jl ls) fun _=>V.bl false)):=by rw[hH2,Zc,kX,Zay]
  refine⟨_,rfl,l,xs,ls,rfl,s02 l _ hl,hL.same s02,hlen,hW,fun pA H3 ys fp s3 ep pv=>?_⟩;have hpr:pA≠rA:=(Zf hr2 fp).symm;refine⟨pA,rfl,⟨_,Zt.of ep⟩,JG (K:=K) (a:=pA) (xs:=ys) (fun i σ H'=>∃(v2 v3:QI),σ = [some (.ref l),some (.ref rA),v2,v3]/\YK rA H3 H'/\H' rA=some (.lst (tab (Jl ls) fun x=>V.bl (decide (x∈((Jd ls).take i).map (·.1))))))
   ⟨none,none,rfl,YK.refl _ _,?_⟩ (fun i σ H' _ ⟨_,_,_,fr,_⟩=>Zt.of (fr pA _ ep hpr)) ?_ ?_⟩
  ·rw[s3 rA _ hr2];exact Ky (fun z=>some (HO.lst z)) (Ji fun x _ _=>by simp)
  ·rintro i x σ H' hx ⟨v2,v3,rfl,fr,hr'⟩;obtain⟨p,t,hp,rfl,ht⟩:=pv.get hx;obtain⟨u,lw⟩:=p;obtain⟨⟨d1,d2⟩,d3,d4⟩:=ZhT hW (k9 hp);obtain⟨un,rfl⟩:=kT (show 0<=u from d1);have d2:(un:Int)<_:=d2;have htr:t≠rA:=J0 ht (s3 rA _ hr2) (by intro z;cases z);refine⟨t,_,rfl,YJ.of (fr t _ ht htr),rfl,_,_,rfl,_,_,rfl,rfl,?_⟩;refine⟨_,rfl,_,rfl,rA,_,_,un,rfl,rfl,hr',(by rw[WT];exact Y9 (by lia)),?_⟩;refine⟨_,_,rfl,fr.trans YK.upd,?_⟩;rw[Zc,Zbr,Jg (ns:=Jd ls) _ hp];refine Ky (fun z=>some (HO.lst z)) (Ji fun x _ _=>?_);by_cases e:x=(un:Int)
   ·rw[kj e];congr 1;exact(kM (by rw[e];simp)).symm
   ·rw[kh e];congr 1;exact Xv.mpr (by simp[e])
  ·rintro σ H' ⟨v2,v3,rfl,fr,hr'⟩;refine⟨_,rfl,k rA H' hrH (fun c o e=>fr c o (s3 c o (s02 c o e)) (Zf e hrH)) ?_⟩;rw[pv.len,kK (ki _)] at hr';exact hr'
def stA (dn:QX)(T:QG)(i:Nat):Int:=if i % 2=0 then dn (T.getD i 0) else ev2 (T.getD i 0)
theorem ZgY (dn:QX)(T:QG):∀n,2*n<=T.length->((List.range (2*n)).map (stA dn T)).sum=fl dn (T.take (2*n))
 | 0,_=>by simp[fl]
 | n+1,h=>by
  have ih:=ZgY dn T n (by lia);have e:2*(n+1)=2*n+1+1:=by lia
  have h1:T[2*n]? = some (T.getD (2*n) 0):=by simp[show 2*n<T.length by lia]
  have h2:T[2*n+1]? = some (T.getD (2*n+1) 0):=by simp[show 2*n+1<T.length by lia]
  rw[e,K7,K7,Ke,Ke,h1,h2];have e2:T.take (2*n)++(some (T.getD (2*n) 0)).toList++(some (T.getD (2*n+1) 0)).toList=T.take (2*n) ++ [T.getD (2*n) 0,T.getD (2*n+1) 0]:=by simp
  rw[e2,Ze3 dn _ _ n _ (by rw[kL];lia),<- ih];have a1:stA dn T (2*n)=dn (T.getD (2*n) 0):=kj (by lia);have a2:stA dn T (2*n+1)=ev2 (T.getD (2*n+1) 0):=kh (by lia);rw[k6,k6,XJ,XJ];simp only[kH,Ml,Xd,List.sum_nil,a1,a2];lia
def ZeT:Sp:=fun vs H Q _=>∃(tA uA:Addr)(T:QG)(N:Nat)(ps:QG)(n:Nat),vs = [.ref tA,.ref uA]/\H tA=some (.lst (T.map V.int))/\H uA=some (.lst (tab N fun x=>V.bl (decide (x∈ps))))/\T.length=2*n/\T.length<=200/\(∀x∈T,0<=x/\x<(N:Int)) /\
 ∀(p:Addr)(H':Hp)(ss:QG),H p=none->Zi H H'->H' p=some (.lst (ss.map V.int))->ss.sum=fl (fun x=>if x∈ps then 1 else -1) T->ss=(List.range T.length).map (stA (fun x=>if x∈ps then 1 else -1) T)->Q (.ref p) H'
abbrev Um:Stmt:=top 16
theorem JE:ZA ["tour", "uppers", "steps", "at", "thread", "upper"] ["tour", "uppers"] (Zj Um):={}
theorem ZjM {f:Addr}{fd:FuncData}(F:WC K "steps_down" "steps_down" Um f fd)(Ju:JM P w K mg base 1 "born_with" ["thread"] Zn2)(ZJ:mg "enumerate" = none):Yi P w K mg base WH 2 f fd ["tour", "uppers"] ZeT:=by
 refine F.ok JE (fun vs H Q E h=>?_) (fun cdv A outer s H vs Q E hr h=>?_)
 ·obtain⟨tA,uA,T,N,ps,n,rfl,_⟩:=h;rfl
 ·obtain⟨tA,uA,T,N,ps,n,rfl,hT,hU,hn,hlen,dom,k⟩:=h;obtain⟨dn,hdn⟩:∃dn:QX,dn=fun x=>if x∈ps then 1 else -1:=⟨_,rfl⟩
  rw[<- hdn] at k;refine⟨_,(Zd (Zm (i:=2) JE.nd rfl (.inl rfl) (ZH Zb))
   (Zd (Yj Kj rfl (Gd (K:=K) rfl (by rfl) ZJ (Za (pv 0) Zb)) (Z6 (K:=K) (n:=2) rfl rfl (Zo (Zl (i:=3) JE.nd rfl (.inl rfl)) (Zo (Zl (i:=4) JE.nd rfl (.inl rfl)) ZQ))) (Zd (Zm (i:=5) JE.nd rfl (.inl rfl) (Zap (Zke (Zk ZnK (pv 3) Ze) (fun _=>rfl)) (Yy Gi (pv 4) (Zq Ju hr (Za (pv 4) Zb)) (Zp _)) (Zw (Zs (K:=K) rfl) (pv 1) (pv 4) (fun _ _=>rfl))))
   (Zg (Ye (Yh (K:=K) rfl (YT kY Kf Kg ZW (pv 2) (Za (Zap (U9 (pv 5)) Ze (Zcc Zam Ze)) Zb)))))))
   (Zg (Zz (pv 2))))),?_⟩
  refine⟨sz0,fun sA hsA=>?_⟩;refine⟨_,rfl,tA,rfl,⟨_,Zt.of ((Zi.laid hsA) tA _ hT)⟩,Zbd (K:=K) (a:=tA) (xs:=T.map V.int) (fun i σ H'=>∃(v3 v4 v5:QI),σ = [some (.ref tA),some (.ref uA),some (.ref sA),v3,v4,v5]/\Zi H H'/\H' sA=some (.lst (((List.range i).map (stA dn T)).map V.int)))
   ⟨none,none,none,rfl,Zi.laid hsA,Zc⟩ (fun i σ H' _ ⟨_,_,_,_,sm,_⟩=>Zt.of (sm tA _ hT)) ?_ ?_⟩
  ·rintro i x p σ H' hx ⟨v3,v4,v5,rfl,sm,hs⟩ hp;obtain⟨t,ht,rfl⟩:=Wb hx;have hi:i<T.length:=(kI.mp ht).1;obtain⟨d0,d1⟩:=dom t (k9 ht);have td:T.getD i 0=t:=by simp[ht]
   obtain⟨G0,hG0⟩:∃G0,G0=upd H' p (.tup [.int i,.int t]):=⟨_,rfl⟩;have sp:Zi H' G0:=by rw[hG0];exact Zi.laid hp
   have ep:G0 p=some (.tup [.int i,.int t]):=by rw[hG0];exact Zc
   rw[<- hG0];have sg0:Zi H G0:=sm.trans sp;have l2:(((List.range i).map (stA dn T)).map V.int).length<sizeLine:=by rw[ke,ke,qV];exact Zy (by omega)
   have tail:∀v:Int,v=stA dn T i->(upd G0 sA (.lst (((List.range i).map (stA dn T)).map V.int ++ [V.int v]))) sA=some (.lst (((List.range (i+1)).map (stA dn T)).map V.int)):=fun v e=>by rw[Zc,K7,k6,k6,e];rfl
   have hbit:Builtin.bitAnd (i:Int) 1=(i:Int) % 2:=Zma (by omega);refine⟨p,_,rfl,YJ.of ep,rfl,_,_,rfl,_,_,rfl,rfl,?_⟩;refine⟨_,rfl,_,_,rfl,rfl,_,rfl,?_⟩;show if (Builtin.bitAnd (i:Int) 1 != 0)=true then _ else _
   rw[hbit];refine ZY (fun hc=>?_) (fun hc=>?_)
   ·have odd:¬i % 2=0:=fun z=>by
     rw[Mn] at hc;omega
    have se:stA dn T i=ev2 t:=by unfold stA;rw[kh odd,td]
    refine⟨_,rfl,_,rfl,_,rfl,d0,_,_,rfl,rfl,?_⟩;refine⟨_,rfl,.inl ⟨rfl,_,Zt.of (sp sA _ hs)⟩,_,rfl,_,rfl,?_⟩;refine ZY (fun hd=>?_) (fun hd=>?_)
    ·have e:(1:Int)=stA dn T i:=by
      have hd:t<bw t:=kO hd;rw[se];unfold ev2;unfold bw at hd;split at hd
      ·rw[kj (by assumption)]
      ·omega
     exact⟨sA,_,_,rfl,rfl,sp sA _ hs,l2,_,_,_,rfl,sg0.put hsA,tail _ e⟩
    ·have e:(-1:Int)=stA dn T i:=by
      have hd:¬t<bw t:=fun z=>hd (kM z);rw[se];unfold ev2;unfold bw at hd;split at hd
      ·omega
      ·rw[kh (by assumption)]
     exact⟨1,rfl,sA,_,_,rfl,rfl,sp sA _ hs,l2,_,_,_,rfl,sg0.put hsA,tail _ e⟩
   ·have evn0:i % 2=0:=by
     by_cases z:i % 2=0
     ·exact z
     ·exact absurd (by rw[Mn];omega) hc
    have se:stA dn T i=dn t:=by unfold stA;rw[kj evn0,td]
    rw[hdn] at se;refine⟨_,rfl,_,rfl,uA,_,_,_,rfl,rfl,Zt.of (sg0 uA _ hU),Zf0 _ d0 d1,?_⟩;refine⟨_,rfl,.inl ⟨rfl,_,Zt.of (sp sA _ hs)⟩,_,rfl,_,rfl,?_⟩;refine ZY (fun hd=>?_) (fun hd=>?_)
    ·have e:(1:Int)=stA dn T i:=by
      rw[hdn,se];exact(kj (kO hd)).symm
     exact⟨sA,_,_,rfl,rfl,sp sA _ hs,l2,_,_,_,rfl,sg0.put hsA,tail _ e⟩
    ·have e:(-1:Int)=stA dn T i:=by
      rw[hdn,se];exact(kh (fun z=>hd (kM z))).symm
     exact⟨1,rfl,sA,_,_,rfl,rfl,sp sA _ hs,l2,_,_,_,rfl,sg0.put hsA,tail _ e⟩
  ·rintro σ H' ⟨v3,v4,v5,rfl,sm,hs⟩;rw[ke] at hs;refine⟨_,rfl,k sA H' _ hsA sm hs ?_ (by rw[hdn])⟩;rw[hn,ZgY dn T n (by omega),kK (by omega)]
def UY (dn:QX)(T:QG):Int:=Zf9 (fl dn T) / 2
def Zh8:Sp:=fun vs H Q _=>∃(l:Addr)(xs:QH)(ls:QB),vs = [.ref l]/\H l=some (.lst xs)/\ZD H xs ls/\ls.length<=60/\Wk ls 0 /\
 ∀(p:Addr)(H':Hp)(ts:QA),H p=none->Zi H H'->GU (Jv (Jd ls)) (Jl ls) ts->H' p=some (.lst ((ts.map (UY (Z7 (Jd ls)))).map V.int))->Q (.ref p) H'
theorem ZiA {m:QX}{i:Nat}{ts:QA}(a:GU m i ts):∀T∈ts,∃n,T.length=2*n:=by
 induction a with
 | nil=>intro T h;cases h
 | add a h t ih=>
  intro T hT;rcases KC.mp hT with z | z
  ·exact ih T z
  ·rw[k7.mp z];obtain⟨L,_,_,_,rfl⟩:=t;exact⟨L,Wq _ _ _⟩
 | skip a h ih=>exact ih
abbrev Zco:Stmt:=top 17
theorem ZfL:ZA ["drawing", "uppers"] ["drawing"] (Zj Zco):={}
theorem ZkT {f:Addr}{fd:FuncData}(F:WC K "turns" "turns" Zco f fd)(YI:JM P w K mg base 4 "uppers_at_ends" ["drawing"] Zc5)(Jy:JM P w K mg base 2 "steps_down" ["tour", "uppers"] ZeT)(Zau:JM P w K mg base 5 "tours" ["drawing"] ZeN)(ZaK:mg "abs" = none)(ZdN:mg "sum" = none):Yi P w K mg base WH 6 f fd ["drawing"] Zh8:=by
 refine F.ok ZfL (fun vs H Q E h=>?_) (fun cdv A outer s H vs Q E hr h=>?_)
 ·obtain⟨l,xs,ls,rfl,_⟩:=h;rfl
 ·obtain⟨l,xs,ls,rfl,hl,hL,hlen,hW,k⟩:=h;have n60:=ZhG hW;have M:=Wc hW;refine⟨_,(Zd (Zm (i:=1) ZfL.nd rfl (Or.inr rfl) (Zq YI hr (Za (pv 0) Zb)))
   (Zg (Zz (Ga (Ls:=["tour"]) (Fs:=["uppers"]) (fi:=[1]) (ZZ.of (show YC ["drawing", "uppers"] (Zj Zco) _ ["uppers"] [1]=true by decide +kernel)) rfl (ZT (K:=K) rfl (Zq Zau hr (Za (pv 0) Zb))) (fun cl C s3 H3 ex=>⟨(Zl (i:=0) (show ((["tour"]:QP)++(["uppers"]:QP)).Nodup by decide +kernel) rfl (.inl rfl)),YX,(Zk Zbc (Zv Zbu (by rfl) ZaK boot_abs (Za (Zv (ZdO (K:=K) rfl rfl) (by rfl) ZdN boot_sum (Za (Zq Jy hr (Za (pv 0) (Za (pv 1) Zb))) Zb)) Zb)) Ze)⟩))))),?_⟩
  refine⟨_,rfl,l,xs,ls,rfl,hl,hL,hlen,hW,fun uA H1 fu s1 eu=>?_⟩;refine⟨_,rfl,l,xs,ls,rfl,s1 l _ hl,hL.same s1,hlen,hW,fun tsA H2 ys ts ft s2 et rv ap tr=>?_⟩;have good:=tr.good M (qK _);have tl:=tr.len M (qK _);refine⟨tsA,rfl,⟨_,Zt.of et⟩,Ja (K:=K) (a:=tsA) (xs:=ys) (by rw[rv.len];exact KN (Zy (by lia))) (fun i zs G=>Zi H2 G/\zs=((ts.take i).map (UY (Z7 (Jd ls)))).map V.int) ⟨Zi.refl _,rfl⟩ (fun i zs G p=>by rw[p.2,ke,ke,kL];lia) (fun i zs G p=>Zt.of (p.1 tsA _ et)) (fun i x zs G hx p=>?_) (fun zs G p D hD=>?_)⟩
  ·obtain⟨sG,rfl⟩:=p;obtain⟨q,T,hT,rfl,hq⟩:=rv.atX hx;obtain⟨n,hn⟩:=ZiA tr T (k9 hT);have inT:∀x∈T,x∈ts.flatten:=fun x hx=>List.mem_flatten.mpr ⟨T,k9 hT,hx⟩;have sub:T.length<=ts.flatten.length:=by
    obtain⟨a,b,e⟩:=List.append_of_mem (k9 hT);rw[e,Kr,Ku,kg,kg];lia
   have fs:=WB (Jl ls) ts.flatten good.1 good.2.1;refine lcG ?_;refine⟨_,rfl,_,rfl,q,uA,T,Jl ls,(Jd ls).map (·.1),n,rfl,sG q _ hq,sG uA _ (s2 uA _ eu),hn,by lia,fun x hx=>good.2.1 x (inT x hx),fun pA G1 ss fp sp ep es _=>?_⟩;refine⟨pA,_,rfl,Zt.of ep,_,rfl,_,_,rfl,rfl,⟨by decide,by decide⟩,sG.trans sp,?_⟩;rw[Jg (ns:=ts) _ hT,k6];refine Ky (fun z=>_ ++ [V.int z]) ?_;show (if ss.sum<0 then -ss.sum else ss.sum) / 2=_;rw[es];rfl
  ·obtain⟨sG,rfl⟩:=p;refine k D _ ts (s1.free (s2.free (sG.free hD))) ((s1.trans (s2.trans sG)).step hD) tr ?_;rw[Zc,rv.len,kK (ki _)]
def hAt (dn:QX)(T:QG):Nat->Int
 | 0=>1
 | i+1=>hAt dn T i-stA dn T i
def plc (T:QG)(x:Int):Nat:=T.idxOf x
def hgt (dn:QX)(T:QG)(x:Int):Int:=hAt dn T (plc T x)
theorem ZjD {T:QG}(nd:T.Nodup){i:Nat}(hi:i<T.length):plc T T[i]=i:=by unfold plc;exact List.Nodup.idxOf_getElem nd i hi
theorem ZmZ {dn:QX}{T:QG}(nd:T.Nodup){i:Nat}(hi:i<T.length):hgt dn T T[i]=hAt dn T i:=by unfold hgt;rw[ZjD nd hi]
theorem ZhC (dn:QX)(T:QG):∀i,hAt dn T i=1-((List.range i).map (stA dn T)).sum
 | 0=>by simp[hAt]
 | i+1=>by rw[K7,k6,XJ];show hAt dn T i-stA dn T i=_;rw[ZhC dn T i];simp;lia
theorem ZgJ (m:QX)(f:Int):∀(L j:Nat),j<L->(WD m f L)[2*j]? = some (gt m f j)/\(WD m f L)[2*j+1]? = some (m (gt m f j))
 | 0,j,h=>by lia
 | L+1,j,h=>by
  have hl:=Wq m f L;by_cases e:j=L
  ·subst e;constructor
   ·show (WD m f j ++ [gt m f j,m (gt m f j)])[2*j]? = _;rw[Kh (by lia),hl];simp
   ·show (WD m f j ++ [gt m f j,m (gt m f j)])[2*j+1]? = _;rw[Kh (by lia),hl];simp[show 2*j+1-2*j=1 by lia]
  ·obtain⟨a,b⟩:=ZgJ m f L j (by lia);constructor
   ·show (WD m f L++_)[2*j]? = _;rw[KH (by lia)];exact a
   ·show (WD m f L++_)[2*j+1]? = _;rw[KH (by lia)];exact b
structure One (ps:QL)(N:Nat)(T:QG)(L:Nat):Prop where
 M:JN (Jv ps) N
 fl0:(ZK ps).Nodup
 T_is:T=WD (Jv ps) 0 L
 L1:1<=L
 back:gt (Jv ps) 0 L=0
 nd:T.Nodup
 all:∀x:Int,0<=x->x<N->x∈T
 dom:∀x∈T,0<=x/\x<(N:Int)
 zero:fl (Z7 ps) T=0
theorem Zlp {ps:QL}{u l b:Int}(nd:(ZK ps).Nodup)(h:(u,l)∈ps)(h2:(l,b)∈ps):False:=by
 induction ps with
 | nil=>cases h
 | cons p r ih=>
  have e:ZK (p::r)=p.1::p.2::ZK r:=by simp[ZK]
  have fr:=nd;rw[e] at nd;obtain⟨n1,nd2⟩:=Kl.mp nd;obtain⟨n2,nd3⟩:=Kl.mp nd2;have inr:∀{a c:Int},(a,c)∈r->a∈ZK r/\c∈ZK r:=fun {a c} z=>⟨KW.mpr ⟨(a,c),z,by simp⟩,KW.mpr ⟨(a,c),z,by simp⟩⟩;rcases kP.mp h with z | z
  ·rcases kP.mp h2 with y | y
   ·subst z;have:(u,l)=(l,b):=y.symm;have e1:u=l:=Ky Prod.fst this;exact Za2 fr (kQ) e1
   ·subst z;exact n2 (inr y).1
  ·rcases kP.mp h2 with y | y
   ·subst y;exact n1 (kS _ (inr z).2)
   ·exact ih nd3 z y
namespace One
variable {ps:QL}{N:Nat}{T:QG}{L:Nat}
theorem len (o:One ps N T L):T.length=2*L:=by rw[o.T_is];exact Wq _ _ _
theorem at0 (o:One ps N T L){j:Nat}(h:j<L):T[2*j]? = some (gt (Jv ps) 0 j):=by rw[o.T_is];exact(ZgJ _ _ L j h).1
theorem at1 (o:One ps N T L){j:Nat}(h:j<L):T[2*j+1]? = some (Jv ps (gt (Jv ps) 0 j)):=by rw[o.T_is];exact(ZgJ _ _ L j h).2
theorem hg (o:One ps N T L){i:Nat}{x:Int}(h:T[i]? = some x):hgt (Z7 ps) T x=hAt (Z7 ps) T i:=by obtain⟨hi,e⟩:=kI.mp h;rw[<- e];exact ZmZ o.nd hi
theorem stE (o:One ps N T L){j:Nat}(h:j<L):hAt (Z7 ps) T (2*j+1)=hAt (Z7 ps) T (2*j)-Z7 ps (gt (Jv ps) 0 j):=by show hAt (Z7 ps) T (2*j)-stA (Z7 ps) T (2*j)=_;unfold stA;rw[kj (by lia)];have:=o.at0 h;simp[this]
theorem stO (o:One ps N T L){j:Nat}(h:j<L):hAt (Z7 ps) T (2*j+2)=hAt (Z7 ps) T (2*j+1)-ev2 (Jv ps (gt (Jv ps) 0 j)):=by show hAt (Z7 ps) T (2*j+1)-stA (Z7 ps) T (2*j+1)=_;unfold stA;rw[kh (by lia)];have:=o.at1 h;simp[this]
theorem ZpO (o:One ps N T L):hAt (Z7 ps) T (2*L)=1:=by rw[ZhC];have:=ZgY (Z7 ps) T L (by rw[o.len];exact ki _);rw[this,kK (by rw[o.len];exact ki _),o.zero];rfl
theorem on (o:One ps N T L){x:Int}(h0:0<=x)(h1:x<N):∃j,j<L/\(x=gt (Jv ps) 0 j∨x=Jv ps (gt (Jv ps) 0 j)):=by have:=o.all x h0 h1;rw[o.T_is] at this;exact Y8.mp this
theorem pos (o:One ps N T L):(0:Int)<N:=by have:=o.at0 (j:=0) o.L1;have h:=o.dom _ (k9 this);have e:gt (Jv ps) 0 0=0:=rfl;rw[e] at h;exact h.2
theorem ZlD (o:One ps N T L)(j:Nat):0<=gt (Jv ps) 0 j/\gt (Jv ps) 0 j<(N:Int):=YO o.M (by decide) o.pos j
theorem ends (o:One ps N T L){u l:Int}(h:(u,l)∈ps)(hu:0<=u/\u<(N:Int)):hgt (Z7 ps) T u=hgt (Z7 ps) T l+1:=by
 obtain⟨m1,m2⟩:=ZcG o.fl0 h;have ne:=Za2 o.fl0 h;have du:Z7 ps u=1:=kj (Kq.mpr ⟨(u,l),h,rfl⟩);have dl:Z7 ps l = -1:=by unfold Z7;rw[kh];intro z;obtain⟨⟨a,b⟩,hab,e⟩:=Kq.mp z;have e:a=l:=e;subst e;have q:=(ZcG o.fl0 hab).1;rw[m2] at q;subst q;exact Zlp o.fl0 h hab
 obtain⟨j,hj,c⟩:=o.on hu.1 hu.2;rcases c with c | c
 ·have a0:=o.at0 hj;have a1:=o.at1 hj;rw[<- c] at a0 a1;rw[m1] at a1;rw[o.hg a0,o.hg a1,o.stE hj,<- c,du];lia
 ·have a0:=o.at0 hj;have a1:=o.at1 hj;have e:gt (Jv ps) 0 j=l:=by
   have:=o.M.inv _ (o.ZlD j).1 (o.ZlD j).2;rw[<- c,m1] at this;exact this.symm
  rw[e] at a0;rw[<- c] at a1;rw[o.hg a0,o.hg a1,o.stE hj,e,dl];lia
theorem Zkt (o:One ps N T L){x:Int}(h0:0<=x)(h1:x<N)(hx:x % 2=0):hgt (Z7 ps) T x=hgt (Z7 ps) T (x+1)+1:=by
 have key:∀y:Int,(∃j,j<L/\y=Jv ps (gt (Jv ps) 0 j))->0<=y->hgt (Z7 ps) T (bw y)=hgt (Z7 ps) T y-ev2 y:=by
  rintro y ⟨j,hj,e⟩ _;have a1:=o.at1 hj;rw[<- e] at a1;rw[o.hg a1];have nx:gt (Jv ps) 0 (j+1)=bw y:=by rw[e];rfl
  have st:=o.stO hj;rw[<- e] at st;by_cases lt:j+1<L
  ·have a2:=o.at0 lt;rw[nx] at a2;rw[o.hg a2,<- st];rfl
  ·have eL:j+1=L:=by omega
   have z0:bw y=0:=by rw[<- nx,eL];exact o.back
   have a0:=o.at0 (j:=0) o.L1;have e0:gt (Jv ps) 0 0=0:=rfl;rw[e0] at a0;rw[z0,o.hg a0,<- st];have:=o.ZpO;rw[show 2*L=2*j+2 by omega] at this;rw[this];rfl
 have hb:bw x=x+1:=kj hx;have hb1:bw (x+1)=x:=by rw[<- hb];exact Zcb x
 have h2:=Zj5 o.M.ev h0 h1;rw[hb] at h2;obtain⟨j,hj,c⟩:=o.on h2.1 h2.2;rcases c with c | c
 ·
  have hx':∃i,i<L/\x=Jv ps (gt (Jv ps) 0 i):=by
   cases j with
   | zero=>
    have e0:gt (Jv ps) 0 0=0:=rfl;rw[e0] at c;omega
   | succ i=>
    refine⟨i,by omega,?_⟩;have:gt (Jv ps) 0 (i+1)=bw (Jv ps (gt (Jv ps) 0 i)):=rfl;rw[this] at c;rw[<- Zcb (Jv ps (gt (Jv ps) 0 i)),<- c,hb1]
  have q:=key x hx' h0;rw[hb] at q;have:ev2 x=1:=kj hx;omega
 ·have q:=key (x+1) ⟨j,hj,c⟩ h2.1;rw[hb1] at q;have:ev2 (x+1) = -1:=kh (by omega);omega
theorem h0 (o:One ps N T L):hgt (Z7 ps) T 0=1:=by have a0:=o.at0 (j:=0) o.L1;have e0:gt (Jv ps) 0 0=0:=rfl;rw[e0] at a0;rw[o.hg a0];rfl
theorem h1 (o:One ps N T L):hgt (Z7 ps) T 1=0:=by have:=o.Zkt (x:=0) (by decide) o.pos (by decide);rw[o.h0] at this;have e:(0:Int)+1=1:=rfl;rw[e] at this;lia
end One
theorem ZcE {m:QX}{ts:QA}(h:GU m 0 ts):ts = []:=by cases h;rfl
theorem ZbK {m:QX}:∀{n:Nat}{ts:QA},GU m (n+1) ts -> ∃T r,ts=T::r/\Jk m 0 T
 | 0,ts,h=>by
  cases h with
  | add a b c=>rw[ZcE a];exact⟨_,[],rfl,c⟩
  | skip a b=>rw[ZcE a] at b;simp at b
 | n+1,ts,h=>by
  cases h with
  | add a b c=>
   obtain⟨T,r,e,t⟩:=ZbK a;rw[e];exact⟨T,_,rfl,t⟩
  | skip a b=>exact ZbK a
theorem Zn3 (ps:QL)(x:Int):Z7 ps x % 2=1:=by unfold Z7;split<;>decide
theorem ZlG (x:Int):ev2 x % 2=1:=by unfold ev2;split<;>decide
theorem Zhv (ps:QL):∀T:QG,fl (Z7 ps) T % 2=0
 | []=>rfl
 | [_]=>rfl
 | x::y::r=>by have h:=Zhv ps r;have a:=Zn3 ps x;have b:=ZlG y;show (Z7 ps x+ev2 y+fl (Z7 ps) r) % 2=0;omega
theorem sub_len:∀{l l':QG},l.Nodup->(∀x∈l,x∈l')->l.length<=l'.length
 | [],_,_,_=>KP _
 | a::r,l',nd,h=>by obtain⟨na,nr⟩:=Kl.mp nd;have ih:=sub_len (l':=l'.erase a) nr fun x hx=>(List.mem_erase_of_ne (fun z:x=a=>na (by rw[<- z];exact hx))).mpr (h x (kS _ hx));have ha:=h a kQ;rw[NR ha] at ih;have:0<l'.length:=List.length_pos_of_mem ha;rw[K3];lia
theorem ZjA {ls:QB}{T:QG}(hW:Wk ls 0)(tr:GU (Jv (Jd ls)) (Jl ls) [T])(h0:UY (Z7 (Jd ls)) T=0):∃L,One (Jd ls) (Jl ls) T L/\T.length=Jl ls:=by
 have M:=Wc hW;have nd0:(ZK (Jd ls)).Nodup:=(Wy hW).symm.nodup (Gr _);cases e:Jl ls with
 | zero=>rw[e] at tr;exact absurd (ZcE tr) (by simp)
 | succ n=>
  rw[e] at tr M;obtain⟨T',r,q,t⟩:=ZbK tr;cases q;have p0:(0:Int)<((n+1:Nat):Int):=by lia
  obtain⟨L,L1,bk,no,rfl⟩:=id t;have nd:=t.nodup M (by decide) p0;have all:∀x:Int,0<=x->x<((n+1:Nat):Int)->x∈WD (Jv (Jd ls)) 0 L:=fun x x0 x1=>by obtain⟨k,rfl⟩:=kT x0;simpa using tr.mem k (by lia)
  refine⟨L,⟨M,nd0,rfl,L1,bk,nd,all,t.dom M (by decide) p0,?_⟩,?_⟩
  ·have:=Zhv (Jd ls) (WD (Jv (Jd ls)) 0 L);unfold UY Zf9 at h0;split at h0<;>lia
  ·have a:=t.len M (by decide) p0;have b:n+1<=(WD (Jv (Jd ls)) 0 L).length:=by
    have sub:∀x∈UR (n+1),x∈WD (Jv (Jd ls)) 0 L:=fun x hx=>all x (YY.mp hx).1 (YY.mp hx).2;have:=sub_len (Gr (n+1)) sub
    rwa [Uc] at this
   lia
def ZoG:Sp:=fun vs H Q _=>∃(tA uA:Addr)(T:QG)(ps:QL)(N L:Nat),vs = [.ref tA,.ref uA]/\H tA=some (.lst (T.map V.int))/\H uA=some (.lst (tab N fun x=>V.bl (decide (x∈ps.map (·.1)))))/\One ps N T L/\T.length=N/\N<=120 /\
 ∀(p:Addr)(H':Hp),H p=none->Zi H H'->H' p=some (.lst (tab N fun x=>V.int (hgt (Z7 ps) T x)))->Q (.ref p) H'
abbrev WG:Stmt:=top 19
theorem YG:ZA ["tour", "uppers", "heights", "height", "thread", "step"] ["tour", "uppers"] (Zj WG):={}
theorem ZoW {f:Addr}{fd:FuncData}(F:WC K "heights_along" "heights_along" WG f fd)(Jy:JM P w K mg base 2 "steps_down" ["tour", "uppers"] ZeT)(Yr:mg "len" = none)(Zby:mg "zip" = none):Yi P w K mg base WH 3 f fd ["tour", "uppers"] ZoG:=by
 refine F.ok YG (fun vs H Q E h=>?_) (fun cdv A outer s H vs Q E hr h=>?_)
 ·obtain⟨tA,uA,T,ps,N,L,rfl,_⟩:=h;rfl
 ·obtain⟨tA,uA,T,ps,N,L,rfl,hT,hU,o,hTl,n120,k⟩:=h;refine⟨_,(Zd (Zm (i:=2) YG.nd rfl (.inl rfl) (Zk ZaM (ZH (Za Ze Zb)) (Zv (Ys (K:=K) rfl) (by rfl) Yr qd (Za (pv 0) Zb))))
   (Zd (Zm (i:=3) YG.nd rfl (.inl rfl) Ze)
   (Zd (Yj Kj rfl (Zh0 (K:=K) rfl (by rfl) Zby (Za (pv 0) (Za (Zq Jy hr (Za (pv 0) (Za (pv 1) Zb))) Zb))) (Z6 (K:=K) (n:=2) rfl rfl (Zo (Zl (i:=4) YG.nd rfl (.inl rfl)) (Zo (Zl (i:=5) YG.nd rfl (.inl rfl)) ZQ))) (Zd (Yd (pv 3) (Yp (pv 2) (pv 4) set_list))
   (Zg (Zj7 (i:=3) YG.nd rfl (.inl rfl) (pv 5) Zna))))
   (Zg (Zz (pv 2)))))),?_⟩
  refine⟨sz1,fun l0 hl0=>?_⟩;have s0:Zi H (upd H l0 (.lst [.int 0])):=Zi.laid hl0;refine⟨_,rfl,tA,_,rfl,.inl (Zt.of (s0 _ _ hT)),?_⟩;rw[ke,hTl];refine⟨l0,_,_,rfl,rfl,Zc,by lia,by lia,(by show 1*_<=sizeLine;exact KN (Zy (by lia))),fun hA hhA=>?_⟩;obtain⟨H1,e1⟩:∃G,G=upd (upd H l0 (.lst [.int 0])) hA (.lst (List.replicate ((N:Nat):Int).toNat [V.int 0]).flatten):=⟨_,rfl⟩;rw[<- e1];have s1:Zi H H1:=by rw[e1];exact s0.step hhA
  have h1:H1 hA=some (.lst (tab N fun _=>V.int 0)):=by rw[e1,Zc,kX,Zay]
  have fh:H hA=none:=s0.free hhA;refine⟨_,rfl,_,rfl,_,rfl,tA,uA,T,N,ps.map (·.1),L,rfl,s1 _ _ hT,s1 _ _ hU,o.len,by lia,o.dom,fun sA H2 ss fs s2 es _ ess=>?_⟩;have dn:(fun x=>if x∈ps.map (·.1) then(1:Int) else -1)=Z7 ps:=rfl;rw[dn] at ess;have sl:ss.length=T.length:=by rw[ess,ke,qV]
  have s02:=s1.trans s2;have h2:=s2 _ _ h1;have nta:tA≠hA:=Zf hT fh;have nsa:sA≠hA:=(Zf h1 fs).symm;refine⟨tA,sA,rfl,⟨_,Zt.of (s02 _ _ hT)⟩,⟨_,Zt.of es⟩,Zht (K:=K) (a:=tA) (b:=sA) (xs:=T.map V.int) (ys:=ss.map V.int) (by rw[ke,ke,sl]) (fun i σ G=>∃(v4 v5:QI),σ = [some (.ref tA),some (.ref uA),some (.ref hA),some (.int (hAt (Z7 ps) T i)),v4,v5]/\YK hA H2 G /\
   G hA=some (.lst (tab N fun x=>V.int (if plc T x<i then hgt (Z7 ps) T x else 0)))) ⟨none,none,rfl,YK.refl _ _,?_⟩ (fun i σ G ⟨_,_,_,fr,_⟩=>⟨Zt.of (fr _ _ (s02 _ _ hT) nta),Zt.of (fr _ _ es nsa)⟩) ?_ ?_⟩
  ·rw[h2];exact Ky (fun z=>some (HO.lst z)) (Ji fun x _ _=>by simp)
  ·rintro i x y p σ G hx hy ⟨v4,v5,rfl,fr,hG⟩ hp;obtain⟨t,ht,rfl⟩:=Wb hx;obtain⟨d,hd,rfl⟩:=Wb hy;have hi:i<T.length:=(kI.mp ht).1;obtain⟨d0,d1⟩:=o.dom t (k9 ht);obtain⟨tn,rfl⟩:=kT d0;have hds:d=stA (Z7 ps) T i:=by
    rw[ess] at hd;simp[hi] at hd;exact hd.symm
   refine⟨p,_,rfl,YJ.of Zc,rfl,_,_,rfl,_,_,rfl,rfl,?_⟩;have np:hA≠p:=Zf hG hp;have hG1:(upd G p (.tup [.int (tn:Int),.int d])) hA=some (.lst (tab N fun x=>V.int (if plc T x<i then hgt (Z7 ps) T x else 0))):=by rw[Zh np];exact hG
   refine⟨_,rfl,_,rfl,_,rfl,hA,_,_,tn,rfl,rfl,hG1,(by rw[WT];exact Y9 (by lia)),?_⟩;refine⟨_,rfl,_,rfl,_,_,rfl,rfl,?_⟩;refine⟨some (.int (tn:Int)),some (.int d),?_,(fr.new hp).trans YK.upd,?_⟩
   ·rw[hds];rfl
   ·rw[Zc,Zbr];refine Ky (fun z=>some (HO.lst z)) (Ji fun x x0 x1=>?_);have pt:plc T ((tn:Nat):Int)=i:=by
     obtain⟨_,e⟩:=kI.mp ht;rw[<- e];exact ZjD o.nd hi
    by_cases e:x=(tn:Int)
    ·rw[kj e,e,pt,kj (Nat.lt_succ_self i)];unfold hgt;rw[pt]
    ·rw[kh e];have nx:plc T x≠i:=fun z=>e (by
      have hx:=o.all x x0 x1;have lt:plc T x<T.length:=Ng hx;have gx:T[plc T x]=x:=List.getElem_idxOf lt;obtain⟨_,e2⟩:=kI.mp ht;rw[<- gx,<- e2];simp[z])
     by_cases c:plc T x<i
     ·rw[kj c,kj (by lia)]
     ·rw[kh c,kh (by lia)]
  ·rintro σ G ⟨v4,v5,rfl,fr,hG⟩;refine⟨_,rfl,k hA G fh ?_ ?_⟩
   ·exact fun c u e=>fr c u (s02 c u e) (Zf e fh)
   ·rw[hG];refine Ky (fun z=>some (HO.lst z)) (Ji fun x x0 x1=>?_);rw[kj];rw[ke];unfold plc;exact Ng (o.all x x0 x1)
def hsB (sc:Int)(ls:QB)(b:Bool):Prop:=(sc=1->b=true)/\(sc≠1 -> ∃ts,GU (Jv (Jd ls)) (Jl ls) ts/\b=decide (ts.map (UY (Z7 (Jd ls))) = [0]))
def Zpa:Sp:=fun vs H Q _=>∃(l:Addr)(sc:Int)(xs:QH)(ls:QB),vs = [.ref l,.int sc]/\H l=some (.lst xs)/\ZD H xs ls/\ls.length<=60/\Wk ls 0 /\
 ∀(H':Hp)(b:Bool),Zi H H'->hsB sc ls b->Q (.bl b) H'
abbrev U7:Stmt:=top 20
theorem Zeo:ZA ["drawing", "scale"] ["drawing", "scale"] (Zj U7):={}
theorem ZoZ {f:Addr}{fd:FuncData}(F:WC K "has_scale" "has_scale" U7 f fd)(ZeU:JM P w K mg base 6 "turns" ["drawing"] Zh8):Yi P w K mg base WH 7 f fd ["drawing", "scale"] Zpa:=by
 refine F.ok Zeo (fun vs H Q E h=>?_) (fun cdv A outer s H vs Q E hr h=>?_)
 ·obtain⟨l,sc,xs,ls,rfl,_⟩:=h;rfl
 ·obtain⟨l,sc,xs,ls,rfl,hl,hL,hlen,hW,k⟩:=h;refine⟨_,(Zg (Zz (Zg1 (Yy Ym (pv 1) Ze (Zp _)) (Zai (Yy (ZlB (K:=K) rfl hr.units) (Zq ZeU hr (Za (pv 0) Zb)) (ZH (Za Ze Zb)) (Zp _)))))),?_⟩;refine⟨_,rfl,rfl,_,rfl,?_⟩;refine ZY (fun c=>?_) (fun c=>?_)
  ·have e:sc=1:=V.int.inj (kO c);exact k H true (Zi.refl _) ⟨fun _=>rfl,fun z=>absurd e z⟩
  ·have e:sc≠1:=fun z=>c (kM (Ky V.int z));refine⟨_,rfl,l,xs,ls,rfl,hl,hL,hlen,hW,fun p H1 ts fp s1 tr ep=>?_⟩;refine⟨sz1,fun q hq=>?_⟩;refine⟨p,q,ts.map (UY (Z7 (Jd ls))),[0],rfl,rfl,Zt.of ((Zi.laid hq) _ _ ep),Zt.of Zc,?_⟩;exact k _ _ (s1.step hq) ⟨fun z=>absurd z e,fun _=>⟨ts,tr,rfl⟩⟩
def thV (sc:Int)(ls:QB)(zs:QH):Prop:=(sc=1/\zs=tab (Jl ls) fun _=>V.int 0)∨(sc≠1 /\ ∃T L,GU (Jv (Jd ls)) (Jl ls) [T]/\UY (Z7 (Jd ls)) T=0/\One (Jd ls) (Jl ls) T L/\zs=tab (Jl ls) fun x=>V.int (hgt (Z7 (Jd ls)) T x))
def ZoH (C:Addr):Sp:=fun vs H Q E=>∃(l:Addr)(sc:Int)(xs:QH)(ls:QB),vs = [.ref l,.int sc]/\H l=some (.lst xs)/\ZD H xs ls/\ls.length<=60/\Wk ls 0 /\
 (∀(p:Addr)(H':Hp)(zs:QH),H p=none->Zi H H'->H' p=some (.lst zs)->thV sc ls zs->Q (.ref p) H') /\
 (∀(H':Hp)(ts:QA),Zi H H'->sc≠1->GU (Jv (Jd ls)) (Jl ls) ts->ts.map (UY (Z7 (Jd ls))) ≠ [0]->E (.ref C) none H')
theorem ZmY {dn:QX}{ts:QA}(h:ts.map (UY dn) = [0]):∃T,ts = [T]/\UY dn T=0:=by
 cases ts with
 | nil=>cases h
 | cons T r=>
  cases r with
  | nil=>exact⟨T,rfl,by simpa using h⟩
  | cons a b=>simp at h
abbrev Wm:Stmt:=top 21
theorem ZbF:ZA ["drawing", "scale"] ["drawing", "scale"] (Zj Wm):={}
theorem Zoy {f YU:Addr}{fd:FuncData}(F:WC K "thread_heights" "thread_heights" Wm f fd)(U3:mg "NoHeights" = some (.ref YU))(U2:PySem.W.excIn K YU bmV "ValueError.__new__" = true)
  (U5:JM P w K mg base 7 "has_scale" ["drawing", "scale"] Zpa) (YR:JM P w K mg base 2 "ends_of" ["drawing"] (Zca fun x=>decide (x = "end"))) (Zau:JM P w K mg base 5 "tours" ["drawing"] ZeN) (YI:JM P w K mg base 4 "uppers_at_ends" ["drawing"] Zc5)
  (WE:JM P w K mg base 3 "heights_along" ["tour", "uppers"] ZoG) (Yr:mg "len" = none):Yi P w K mg base (CX1 P w) 8 f fd ["drawing", "scale"] (ZoH YU):=by
 refine F.okX ZbF (fun vs H Q E h=>?_) (fun cdv A outer s H vs Q E hr h=>?_)
 ·obtain⟨l,sc,xs,ls,rfl,_⟩:=h;rfl
 ·obtain⟨l,sc,xs,ls,rfl,hl,hL,hlen,hW,k,kx⟩:=h;have n120:=Wh hlen;have nt:2*(Ya ls Ub ls.length).length=Jl ls:=by unfold Jl Jd Jr;rw[ke]
  refine⟨_,(Zd (Z9 (ZcD (U9 (Zq U5 hr (Za (pv 0) (Za (pv 1) Zb))))) (Zg (ZjJ (by rfl) U3 U2 (Za ZG Zb))) ZN)
   (Zd (Z9 (Zr Ym (pv 1) Ze (Zp _)) (Zg (Zz (Zk ZaM (ZH (Za Ze Zb)) (Zk Wa Ze (Zv (Ys (K:=K) rfl) (by rfl) Yr qd (Za (Zq YR hr (Za (pv 0) Zb)) Zb)))))) ZN)
   (Zg (Zz (Zq WE hr (Za (Zw (Zs (K:=K) rfl) (Zq Zau hr (Za (pv 0) Zb)) Ze (fun _ _=>rfl)) (Za (Zq YI hr (Za (pv 0) Zb)) Zb))))))),?_⟩
  refine⟨_,rfl,_,rfl,l,sc,xs,ls,rfl,hl,hL,hlen,hW,fun H1 b s1 hb=>?_⟩;refine⟨b,rfl,?_⟩;cases b with
  | false=>
   refine ZaY ?_;refine⟨sz1,?_⟩;have ne:sc≠1:=fun z=>by cases hb.1 z
   obtain⟨ts,tr,e⟩:=hb.2 ne;exact kx H1 ts s1 ne tr (fun z=>by rw[kM z] at e;cases e)
  | true=>
   refine W8 ?_;refine⟨_,rfl,rfl,_,rfl,?_⟩;refine ZY (fun c=>?_) (fun c=>?_)
   ·have e:sc=1:=V.int.inj (kO c);refine⟨sz1,fun l0 hl0=>?_⟩;have s0:=s1.step (o:=.lst [.int 0]) hl0;refine⟨_,rfl,l,xs,ls,rfl,s0 l _ hl,hL.same s0,hlen,hW.kd,fun eA H2 fe s2 ee=>?_⟩;refine⟨eA,_,rfl,.inl (Zt.of ee),_,_,rfl,rfl,.inl ⟨by decide,by decide⟩,?_⟩;have el:((2:Int)*((((Ya ls (fun x=>decide (x = "end")) ls.length).map V.int).length:Nat):Int))=((Jl ls:Nat):Int):=by
     rw[ke];have:(Ya ls (fun x=>decide (x = "end")) ls.length).length=(Ya ls Ub ls.length).length:=rfl;lia
    show ZlZ (V.ref l0) (V.int ((2:Int)*((((Ya ls (fun x=>decide (x = "end")) ls.length).map V.int).length:Nat):Int))) H2 _;rw[el];refine⟨l0,_,_,rfl,rfl,s2 l0 _ Zc,by lia,by lia,(by show 1*_<=sizeLine;exact KN (Zy (by lia))),fun rA hrA=>?_⟩;refine k rA _ _ ((s0.trans s2).free hrA) ((s0.trans s2).step hrA) Zc (.inl ⟨e,?_⟩);rw[kX,Zay]
   ·have e:sc≠1:=fun z=>c (kM (Ky V.int z));obtain⟨ts0,tr0,e0⟩:=hb.2 e;obtain⟨T,rfl,t0⟩:=ZmY (kO e0.symm);obtain⟨L,o,hTl⟩:=ZjA hW tr0 t0;refine⟨_,rfl,l,xs,ls,rfl,s1 l _ hl,hL.same s1,hlen,hW,fun tsA H2 ys ts ft s2 et rv ap tr=>?_⟩;have ets:ts = [T]:=(tr.uniq tr0);subst ets;obtain⟨tA,rfl,eT⟩:∃tA,ys = [V.ref tA]/\H2 tA=some (.lst (T.map V.int)):=by
     cases rv with
     | cons a r=>
      cases r;obtain⟨q,rfl,hq⟩:=a;exact⟨q,rfl,hq⟩
    refine⟨tsA,_,_,_,rfl,rfl,Zt.of et,Zn (j:=0) rfl,?_⟩;have s12:=s1.trans s2;refine⟨_,rfl,l,xs,ls,rfl,s12 l _ hl,hL.same s12,hlen,hW,fun uA H3 fu s3 eu=>?_⟩;refine⟨tA,uA,T,Jd ls,Jl ls,L,rfl,s3 _ _ eT,eu,o,hTl,n120,fun p H4 fp s4 ep=>?_⟩;have s04:=(s12.trans s3).trans s4;exact k p H4 _ ((s12.trans s3).free fp) s04 ep (.inr ⟨e,T,L,tr0,t0,o,rfl⟩)
def kn (kvs:QD)(x:Int):Prop:=(Y5 kvs (Sum.inl x)).isSome=true
structure Dc (g:QX)(H:Hp)(d:Addr)(n:Nat)(kvs:QD):Prop where
 at_:H d=some (.dK kvs)
 le:kvs.length<=n
 ok:∀x v,Y5 kvs (Sum.inl x)=some v->v = .int (g x)
theorem ZbL {kvs:QD}{x y:Int}{v:V}:kn (putK kvs (Sum.inl y) v) x ↔ (x=y∨kn kvs x):=by
 unfold kn;rw[Zde];by_cases e:x=y
 ·rw[kj (Ky Sum.inl e)];simp[e]
 ·rw[kh (fun z=>e (ND z))];simp[e]
theorem Dc.put {g:QX}{H:Hp}{d:Addr}{n:Nat}{kvs:QD}{y:Int}(h:Dc g H d n kvs):Dc g (upd H d (.dK (putK kvs (Sum.inl y) (.int (g y))))) d (n+1) (putK kvs (Sum.inl y) (.int (g y))):=by
 refine⟨Zc,?_,fun x v e=>?_⟩
 ·have:=Ww kvs (Sum.inl y) (.int (g y));have:=h.le;lia
 ·rw[Zde] at e;split at e
  ·rename_i z
   cases e;rw[ND z]
  ·exact h.ok x v e
theorem Dc.val {g:QX}{H:Hp}{d:Addr}{n:Nat}{kvs:QD}{x:Int}(h:Dc g H d n kvs)(k:kn kvs x):Y5 kvs (Sum.inl x)=some (.int (g x)):=by
 unfold kn at k;cases e:Y5 kvs (Sum.inl x) with
 | none=>rw[e] at k;cases k
 | some v=>rw[h.ok x v e]
theorem ZdB {g:QX}{tu tl td:TE}{σ:L2.St}{H:Hp}{d:Addr}{n:Nat}{kvs:QD}{u l:Int}{D:Ends}(hu:∀(H:Hp)(Q:VK),Q (.int u) H->tu σ H Q)(hl:∀(H:Hp)(Q:VK),Q (.int l) H->tl σ H Q)(hd:∀(H:Hp)(Q:VK),Q (.ref d) H->td σ H Q)
  (dc:Dc g H d n kvs) (hn:n<1000000) (hg:g u=g l+1)
  (k:∀(H':Hp)(kvs':QD),YK d H H'->Dc g H' d (n+1) kvs'->(∀x,kn kvs x->kn kvs' x)->((kn kvs u∨kn kvs l)->kn kvs' u/\kn kvs' l)->D.nx σ H'):
  ZeI (tB (Zkq tu td)) (W6 (tOp (rI0 fun i j=>V.int (i-j)) (tOp Zlz td tu) (tC (V.int 1))) (ZgD td tl Zc8))
   (ZeI (tB (Zkq tl td)) (W6 (tOp (rI0 fun i j=>V.int (i+j)) (tOp Zlz td tl) (tC (V.int 1))) (ZgD td tu Zc8)) ZhW) D σ H:=by
 have sz:kvs.length<sizeLine:=by have:=dc.le;rw[Kn];lia
 refine hu _ _ (hd _ _ ⟨d,_,rfl,UQ.k (k:=Sum.inl u) dc.at_,_,rfl,?_⟩);refine ZY (fun c=>?_) (fun c=>?_)
 ·have ku:kn kvs u:=c;refine hd _ _ (hu _ _ ⟨d,.int (g u),rfl,?_,_,_,rfl,rfl,hd _ _ (hl _ _ ⟨d,_,rfl,ZfG.k (k:=Sum.inl l) dc.at_ sz,?_⟩)⟩)
  ·have:=UQ.k (k:=Sum.inl u) dc.at_;rw[dc.val ku] at this;exact this
  ·have e:g u-1=g l:=by lia
   show D.nx σ (upd H d (.dK (putK kvs (Sum.inl l) (.int (g u-1)))));rw[e];exact k _ _ YK.upd dc.put (fun x h=>ZbL.mpr (.inr h)) (fun _=>⟨ZbL.mpr (.inr ku),ZbL.mpr (.inl rfl)⟩)
 ·have nu:¬kn kvs u:=c;refine hl _ _ (hd _ _ ⟨d,_,rfl,UQ.k (k:=Sum.inl l) dc.at_,_,rfl,?_⟩);refine ZY (fun c2=>?_) (fun c2=>?_)
  ·have kl:kn kvs l:=c2;refine hd _ _ (hl _ _ ⟨d,.int (g l),rfl,?_,_,_,rfl,rfl,hd _ _ (hu _ _ ⟨d,_,rfl,ZfG.k (k:=Sum.inl u) dc.at_ sz,?_⟩)⟩)
   ·have:=UQ.k (k:=Sum.inl l) dc.at_;rw[dc.val kl] at this;exact this
   ·have e:g l+1=g u:=hg.symm;show D.nx σ (upd H d (.dK (putK kvs (Sum.inl u) (.int (g l+1)))));rw[e];exact k _ _ YK.upd dc.put (fun x h=>ZbL.mpr (.inr h)) (fun _=>⟨ZbL.mpr (.inl rfl),ZbL.mpr (.inr kl)⟩)
  ·have nl:¬kn kvs l:=c2;exact k H kvs (YK.refl _ _) ⟨dc.at_,by have:=dc.le;lia,dc.ok⟩ (fun x h=>h) (fun z=>z.elim (fun y=>absurd y nu) (fun y=>absurd y nl))
theorem One.pair {ps:QL}{N:Nat}{T:QG}{L:Nat}(o:One ps N T L)(pf:∀x:Int,0<=x->x<N->x∈ZK ps){x:Int}(h0:0<=x)(h1:x<N):∃u l,(u,l)∈ps/\((x=u/\Jv ps x=l)∨(x=l/\Jv ps x=u)):=by
 obtain⟨⟨u,l⟩,hp,hx⟩:=KW.mp (pf x h0 h1);obtain⟨a,b⟩:=ZcG o.fl0 hp;refine⟨u,l,hp,?_⟩;rcases kP.mp hx with z | z
 ·have z:x=u:=z;exact .inl ⟨z,by rw[z];exact a⟩
 ·have z:x=l:=k7.mp z;exact .inr ⟨z,by rw[z];exact b⟩
theorem One.grow {ps:QL}{N:Nat}{T:QG}{L:Nat}(o:One ps N T L)(pf:∀x:Int,0<=x->x<N->x∈ZK ps){A B C:QD}
  (ab:∀x,kn A x->kn B x) (bc:∀x,kn B x->kn C x) (pe:∀u l,(u,l)∈ps->(kn A u∨kn A l)->kn B u/\kn B l) (pb:∀j:Nat,2*j<N->(kn B (2*j)∨kn B (2*j+1))->kn C (2*j)/\kn C (2*j+1)) {r:Nat}
  (h:∀i x,i<=r->T[i]? = some x->kn A x):∀i x,i<=r+1->T[i]? = some x->kn C x:=by
 intro i x hi hx;by_cases c:i<=r
 ·exact bc _ (ab _ (h i x c hx))
 ·have e:i=r+1:=by omega
  subst e;have hlt:r+1<T.length:=(kI.mp hx).1;have hL:=o.len;by_cases ev:r % 2=0
  ·obtain⟨j,rfl⟩:∃j,r=2*j:=⟨r / 2,by omega⟩;have a0:=o.at0 (j:=j) (by omega);have a1:=o.at1 (j:=j) (by omega);rw[hx] at a1;have ex:x=Jv ps (gt (Jv ps) 0 j):=Kb a1;have kA:=h (2*j) _ (ki _) a0;obtain⟨u,l,hp,c⟩:=o.pair pf (o.ZlD j).1 (o.ZlD j).2;rw[ex];rcases c with⟨z1,z2⟩ | ⟨z1,z2⟩
   ·rw[z2];exact bc _ (pe u l hp (.inl (z1 ▸ kA))).2
   ·rw[z2];exact bc _ (pe u l hp (.inr (z1 ▸ kA))).1
  ·obtain⟨j,rfl⟩:∃j,r=2*j+1:=⟨r / 2,by omega⟩;have a1:=o.at1 (j:=j) (by omega);have a2:=o.at0 (j:=j+1) (by omega);have e2:2*(j+1)=2*j+1+1:=by omega
   rw[e2,hx] at a2;have ex:x=bw (Jv ps (gt (Jv ps) 0 j)):=Kb a2;have kB:=ab _ (h (2*j+1) _ (ki _) a1);obtain⟨y,hy⟩:∃y,y=Jv ps (gt (Jv ps) 0 j):=⟨_,rfl⟩;rw[<- hy] at ex kB;have yd:0<=y/\y<(N:Int):=by rw[hy];exact o.dom _ (k9 a1)
   have ne:=o.M.ev;rw[ex];unfold bw;split
   ·rename_i z
    obtain⟨q,hq⟩:∃q:Nat,y=2*(q:Int):=⟨(y / 2).toNat,by omega⟩;rw[hq] at kB yd ⊢;exact(pb q (by omega) (.inl kB)).2
   ·rename_i z
    obtain⟨q,hq⟩:∃q:Nat,y=2*(q:Int)+1:=⟨(y / 2).toNat,by omega⟩;rw[hq] at kB yd ⊢;have:=(pb q (by omega) (.inr kB)).1
    rwa [show 2*(q:Int)+1-1=2*(q:Int) by omega]
def lhV (sc:Int)(ls:QB)(H H':Hp)(v:V):Prop:=(sc=1 /\ ∃p,v = .ref p/\H p=none/\H' p=some (.lst (tab (Jl ls) fun _=>V.int 0))) ∨
 (sc≠1 /\ ∃ts,GU (Jv (Jd ls)) (Jl ls) ts/\((ts.map (UY (Z7 (Jd ls))) ≠ [0]/\v = .non)∨(∃p T L,ts = [T]/\UY (Z7 (Jd ls)) T=0/\One (Jd ls) (Jl ls) T L/\v = .ref p/\H p=none/\H' p=some (.lst (tab (Jl ls) fun x=>V.int (hgt (Z7 (Jd ls)) T x))))))
def ZoI:Sp:=fun vs H Q _=>∃(l:Addr)(sc:Int)(xs:QH)(ls:QB),vs = [.ref l,.int sc]/\H l=some (.lst xs)/\ZD H xs ls/\ls.length<=60/\Wk ls 0 /\
 ∀(v:V)(H':Hp),Zi H H'->lhV sc ls H H' v->Q v H'
theorem ZlI {ls:QB}{ts:QA}(hW:Wk ls 0)(tr:GU (Jv (Jd ls)) (Jl ls) ts):(ts.map fun T=>(T.length:Int)).sum=(Jl ls:Int):=by
 have good:=tr.good (Wc hW) (qK _);have e:∀us:QA,(us.map fun T=>(T.length:Int)).sum=(us.flatten.length:Int):=by
  intro us
  induction us with
  | nil=>rfl
  | cons a r ih=>simp only[kH,Xd,ih,Ku,kg];lia
 rw[e];have a:=WB (Jl ls) ts.flatten good.1 (fun x hx=>good.2.1 x hx);have b:Jl ls<=ts.flatten.length:=by
  have:=sub_len (Gr (Jl ls)) (l':=ts.flatten) (fun x hx=>by obtain⟨x0,x1⟩:=YY.mp hx;obtain⟨k,rfl⟩:=kT x0;exact tr.mem k (by lia))
  rwa [Uc] at this
 lia
theorem WV.at' {z:Addr}{dn:QX}{H:Hp}:∀{ys:QH}{ts:QA}{i:Nat}{x:V},WV z dn H ys ts->ys[i]? = some x -> ∃T,ts[i]? = some T /\ ∃a g,x=V.ref a/\H a=some (.tup [.ref g,.int (Zf9 (fl dn T) / 2)])/\H g=some (.lst (T.map V.int))
 | _,_,_,_,.nil,e=>by simp at e
 | _,_,0,_,.cons ⟨a,g,q,ha,hg,_⟩ _,e=>by simp at e;subst e;exact⟨_,rfl,a,g,q,ha,hg⟩
 | _,_,i+1,x,.cons _ r,e=>by obtain⟨T,h1,h2⟩:=WV.at' (i:=i) (x:=x) r (by simpa using e);exact⟨T,by simpa using h1,h2⟩
abbrev Jt:Stmt:=top 40
theorem ZU:ZA ["_law_drawing_here", "_law_scale", "_law_walks_here", "_law_many", "_law_rows_here", "_law_found", "_law_turn", "_law_t", "_law_letter", "_law_upper", "_law_lower", "_law_thread"] ["_law_drawing_here", "_law_scale"] (Zj Jt):={}
theorem Zpe {f:Addr}{fd:FuncData}(F:WC K "_law_heights" "_law_heights" Jt f fd)(UE:JM P w K mg base 2 "_law_walks" ["_law_drawing_here"] Zhf)(YW:JM P w K mg base 1 "_law_rows" ["_law_drawing_here"] Zb4)
  (ZJ:mg "enumerate" = none) (ZdN:mg "sum" = none) (Yr:mg "len" = none) (Z8:mg "range" = none):Yi P w K mg base WH 3 f fd ["_law_drawing_here", "_law_scale"] ZoI:=by
 refine F.ok ZU (fun vs H Q E h=>?_) (fun cdv A outer s H vs Q E hr h=>?_)
 ·obtain⟨l,sc,xs,ls,rfl,_⟩:=h;rfl
 ·obtain⟨l,sc,xs,ls,rfl,hl,hL,hlen,hW,k⟩:=h;have n120:=Wh hlen;have hxl:=hL.len;refine⟨_,(Zd (Zm (i:=2) ZU.nd rfl (.inl rfl) (Zq UE hr (Za (pv 0) Zb)))
   (Zd (Zm (i:=3) ZU.nd rfl (.inl rfl) (Zv (ZdO (K:=K) rfl rfl) (by rfl) ZdN boot_sum (Za (Ga (Ls:=["_law_gone", "_law_turn"]) (Fs:=[]) (fi:=[]) (ZZ.of (show YC ["_law_drawing_here", "_law_scale", "_law_walks_here", "_law_many", "_law_rows_here", "_law_found", "_law_turn", "_law_t", "_law_letter", "_law_upper", "_law_lower", "_law_thread"] (Zj Jt) _ [] []=true by decide +kernel)) rfl (ZT (K:=K) rfl (pv 2)) (fun cl C s3 H3 ex=>⟨(Z6 (K:=K) (n:=2) rfl rfl (Zo (Zl (i:=0) (show ((["_law_gone", "_law_turn"]:QP)++([]:QP)).Nodup by decide +kernel) rfl (.inl rfl)) (Zo (Zl (i:=1) (show ((["_law_gone", "_law_turn"]:QP)++([]:QP)).Nodup by decide +kernel) rfl (.inl rfl)) ZQ))),YX,(Zv (Ys (K:=K) rfl) (by rfl) Yr qd (Za (pv 0) Zb))⟩)) Zb)))
   (Zd (Z9 (Zr Ym (pv 1) Ze (Zp _)) (Zg (Zz (Zk ZaM (ZH (Za Ze Zb)) (pv 3)))) ZN)
   (Zd (Z9 (PW.pt (Zg5 (Zr ZdX (Zv (Ys (K:=K) rfl) (by rfl) Yr qd (Za (pv 2) Zb)) Ze (Zp _)) (ZgU (Zr ZdX (Zw (ZL (K:=K) rfl) (Zw (Zs (K:=K) rfl) (pv 2) Ze (fun _ _=>rfl)) Ze (fun _ _=>rfl)) Ze (Zp _))))) (Zg (Zz Uq)) ZN)
   (Zd (Zm (i:=4) ZU.nd rfl (.inl rfl) (Zq YW hr (Za (pv 0) Zb)))
   (Zd (Zm (i:=5) ZU.nd rfl (Or.inr rfl) (ZlL (Zfz Ze Ze (Zfz Ze Ze Zl7)) rfl rfl (by intro z;cases z) (by decide)))
   (Zd (Yj Kj rfl (Y0 (by rfl) Z8 (Za (pv 3) Zb)) (Zl (i:=6) ZU.nd rfl (.inl rfl)) (Zd (Yj Kj rfl (Gd (K:=K) rfl (by rfl) ZJ (Za (pv 0) Zb)) (Z6 (K:=K) (n:=2) rfl rfl (Zo (Zl (i:=7) ZU.nd rfl (.inl rfl)) (Zo (Zl (i:=8) ZU.nd rfl (.inl rfl)) ZQ))) (Zg (Z9 (Zr Ym (Zw (ZL (K:=K) rfl) (pv 8) Ze (fun _ _=>rfl)) ZG (Zp _)) (Zd (Yd (YL (Js (K:=K) rfl) (Zw (Zs (K:=K) rfl) (pv 4) (pv 7) (fun _ _=>rfl)) (Yq (Zw (ZL (K:=K) rfl) (pv 8) Ze (fun _ _=>rfl))) (Yq (Zk Zx (Zw (ZL (K:=K) rfl) (pv 8) Ze (fun _ _=>rfl)) Ze))) (Zcm (K:=K) (n:=2) rfl rfl (Zo (Zl (i:=9) ZU.nd rfl (.inl rfl)) (Zo (Zl (i:=10) ZU.nd rfl (.inl rfl)) ZQ))))
   (Zg (Z9 (Zey (Zen (Jf hr) (pv 9) (pv 5))) (Zg (Yd (Zk YN (Zw (UI (Jf hr)) (pv 5) (pv 9) (fun _ _=>rfl)) Ze) (Yp (pv 5) (pv 10) (set_dict (Jf hr))))) (Zg (Z9 (Zey (Zen (Jf hr) (pv 10) (pv 5))) (Zg (Yd (Zk Zx (Zw (UI (Jf hr)) (pv 5) (pv 10) (fun _ _=>rfl)) Ze) (Yp (pv 5) (pv 9) (set_dict (Jf hr))))) ZN))))) ZN)))
   (Zg (Yj Kj rfl (Zih (by rfl) Z8 (Za Ze (Za (pv 3) (Za Ze Zb)))) (Zl (i:=11) ZU.nd rfl (.inl rfl)) (Zg (Z9 (Zey (Zen (Jf hr) (pv 11) (pv 5))) (Zg (Yd (Zk YN (Zw (UI (Jf hr)) (pv 5) (pv 11) (fun _ _=>rfl)) Ze) (Yp (pv 5) (Zk Zx (pv 11) Ze) (set_dict (Jf hr))))) (Zg (Z9 (Zey (Zen (Jf hr) (Zk Zx (pv 11) Ze) (pv 5))) (Zg (Yd (Zk Zx (Zw (UI (Jf hr)) (pv 5) (Zk Zx (pv 11) Ze) (fun _ _=>rfl)) Ze) (Yp (pv 5) (pv 11) (set_dict (Jf hr))))) ZN))))))))
   (Zg (Zz (Ga (Ls:=["_law_thread"]) (Fs:=["_law_found"]) (fi:=[5]) (ZZ.of (show YC ["_law_drawing_here", "_law_scale", "_law_walks_here", "_law_many", "_law_rows_here", "_law_found", "_law_turn", "_law_t", "_law_letter", "_law_upper", "_law_lower", "_law_thread"] (Zj Jt) _ ["_law_found"] [5]=true by decide +kernel)) rfl (Y0 (by rfl) Z8 (Za (pv 3) Zb)) (fun cl C s3 H3 ex=>⟨(Zl (i:=0) (show ((["_law_thread"]:QP)++(["_law_found"]:QP)).Nodup by decide +kernel) rfl (.inl rfl)),YX,(Zw (UI (Jf hr)) (pv 1) (pv 0) (fun _ _=>rfl))⟩))))))))))),?_⟩
  refine⟨_,rfl,l,xs,ls,rfl,hl,hL,hlen,hW,fun wA H1 ys ts fw s1 ew wv tr=>?_⟩;have good:=tr.good (Wc hW) (qK _);have tl:=tr.len (Wc hW) (qK _);have yl:=wv.len;refine⟨_,rfl,wA,rfl,⟨_,Zt.of ew⟩,Ja (K:=K) (a:=wA) (xs:=ys) (KN (Zy (by lia))) (fun i zs G=>Zi H1 G/\zs=((ts.take i).map fun T=>(T.length:Int)).map V.int) ⟨Zi.refl _,rfl⟩
   (fun i zs G q=>by rw[q.2,ke,ke,kL];lia) (fun i zs G q=>Zt.of (q.1 wA _ ew)) (fun i x zs G hx q=>?_) (fun zs G q D hD=>?_)⟩
  ·obtain⟨sq,rfl⟩:=q;obtain⟨T,hT,a,g,rfl,ha,hg⟩:=wv.at' hx;refine⟨a,_,rfl,YJ.of (sq _ _ ha),rfl,_,_,rfl,_,_,rfl,rfl,?_⟩;dsimp only[ZdK];rw[kj rfl];refine⟨_,rfl,g,_,rfl,.inl (Zt.of (sq _ _ hg)),sq,?_⟩;rw[ke,Jg (ns:=ts) _ hT,k6];rfl
  obtain⟨sq,rfl⟩:=q;rw[yl,kK (ki _)];refine⟨D,_,rfl,Zt.of Zc,?_⟩;rw[ZlI hW tr];have s2:=(s1.trans sq).step (o:=.lst ((ts.map fun T=>(T.length:Int)).map V.int)) hD;have s12:=sq.step (o:=.lst ((ts.map fun T=>(T.length:Int)).map V.int)) hD;generalize upd G D (.lst ((ts.map fun T=>(T.length:Int)).map V.int))=H2 at *;have ew2:=s12 _ _ ew;refine⟨_,rfl,rfl,_,rfl,?_⟩;refine ZY (fun c=>?_) (fun c=>?_)
  ·have e:sc=1:=V.int.inj (kO c);refine⟨sz1,fun l0 hl0=>⟨_,rfl,?_⟩⟩;refine⟨l0,_,_,rfl,rfl,Zc,by lia,by lia,(by show 1*_<=sizeLine;exact KN (Zy (by lia))),fun rA hrA=>?_⟩;refine k _ _ ((s2.step hl0).step hrA) (.inl ⟨e,rA,rfl,(s2.step hl0).free hrA,?_⟩);rw[Zc,kX,Zay]
  ·have e:sc≠1:=fun z=>c (kM (Ky V.int z));refine⟨_,rfl,wA,_,rfl,.inl (Zt.of ew2),rfl,_,rfl,?_⟩;by_cases len1:ts.length=1
   ·obtain⟨T,rfl⟩:∃T,ts = [T]:=by
     cases ts with
     | nil=>simp at len1
     | cons T r=>
      cases r with
      | nil=>exact⟨T,rfl⟩
      | cons _ _=>simp at len1
    have ly:((ys.length:Nat):Int)=1:=by rw[yl];rfl
    rw[ly];refine ZmJ rfl ?_;obtain⟨T',hT',a,g,e1,ha,hg⟩:=wv.at' (i:=0) (x:=ys[0]'(by rw[yl];exact Nat.zero_lt_one)) (by simp[yl]);have eT:T'=T:=by simpa using hT'.symm
    subst eT;refine⟨_,rfl,wA,_,_,_,rfl,rfl,Zt.of ew2,Zn (j:=0) (by simp[yl];rfl),?_⟩;rw[e1];refine⟨a,_,_,_,rfl,rfl,YJ.of (s12 _ _ ha),Zn (j:=1) rfl,rfl,_,rfl,?_⟩;by_cases t0:UY (Z7 (Jd ls)) T'=0
    ·have t0':Zf9 (fl (Z7 (Jd ls)) T') / 2=0:=t0;rw[t0'];refine ZmJ rfl ?_;obtain⟨L,o,hTl⟩:=ZjA hW tr t0;have pf:∀x:Int,0<=x->x<(Jl ls:Int)->x∈ZK (Jd ls):=fun x x0 x1=>(Wy hW).mem_iff.mpr (YY.mpr ⟨x0,x1⟩);obtain⟨gg,hgg⟩:∃gg,gg=hgt (Z7 (Jd ls)) T':=⟨_,rfl⟩;refine⟨_,rfl,l,xs,ls,rfl,s2 l _ hl,hL.same s2,hlen,hW,fun R H3 rys fR s3 eR rv ap ndr=>?_⟩;have s03:=s2.trans s3;refine fun dA hdA=>⟨Zc,[(Sum.inl 0,.int 1),(Sum.inl 1,.int 0)],rfl,by decide,?_⟩;have hdH:H dA=none:=s03.free hdA;have mk:ZbP [] [((Sum.inl 0:Key),V.int 1),(Sum.inl 1,.int 0)] = [((Sum.inl 0:Key),V.int 1),(Sum.inl 1,.int 0)]:=by decide +kernel
     rw[mk,Jz];obtain⟨Hd,hHd⟩:∃Hd,Hd=upd H3 dA (.dK [((Sum.inl 0:Key),V.int 1),(Sum.inl 1,.int 0)]):=⟨_,rfl⟩;rw[<- hHd];have sd:Zi H3 Hd:=by rw[hHd];exact Zi.laid hdA
     have dc0:Dc gg Hd dA 2 [((Sum.inl 0:Key),V.int 1),(Sum.inl 1,.int 0)]:=by
      refine⟨by rw[hHd];exact Zc,by decide,fun x v e=>?_⟩;by_cases x0:x=0
      ·subst x0;rw[YA rfl] at e;cases e;rw[hgg,o.h0]
      ·rw[YB (fun z=>x0 (ND z).symm)] at e;by_cases x1:x=1
       ·subst x1;rw[YA rfl] at e;cases e;rw[hgg,o.h1]
       ·rw[YB (fun z=>x1 (ND z).symm)] at e;cases e
     have hlH3:=s03 l _ hl;have hL3:=hL.same s03;have nld:l≠dA:=Zf hlH3 hdA;have nRd:R≠dA:=Zf eR hdA;have keepT:∀{G:Hp},YK dA Hd G -> ∀c o,H3 c=some o->G c=some o:=fun fr c o e=>fr c o (sd c o e) (Zf e hdA);refine⟨_,rfl,_,rfl,by lia,by lia,JQ (n:=((Jl ls:Nat):Int).toNat) (fun r σ G=>∃(kvs:QD)(v6 v7 v8 v9 v10 v11:QI),σ = [some (.ref l),some (.int sc),some (.ref wA),some (.int (Jl ls)),some (.ref R),some (.ref dA),v6,v7,v8,v9,v10,v11]/\YK dA Hd G/\Dc gg G dA (2+r*200) kvs /\ ∀i x,i<=r->T'[i]? = some x->kn kvs x)
      ⟨_,none,none,none,none,none,none,rfl,YK.refl _ _,dc0,fun i x hi hx=>?_⟩ ?_ ?_⟩
     ·have:i=0:=by lia
      subst this;have:=o.at0 (j:=0) o.L1;rw[show 2*0=0 from rfl,hx] at this;have e0:x=0:=Kb this;rw[e0];rfl
     ·rintro r σ G hr' ⟨kvs,v6,v7,v8,v9,v10,v11,rfl,fr,dc,kw⟩;rw[kX] at hr';refine⟨_,rfl,l,rfl,⟨_,Zt.of (keepT fr _ _ hlH3)⟩,Zbd (K:=K) (a:=l) (xs:=xs) (fun i σ G'=>∃(kv2:QD)(v7 v8 v9 v10 v11:QI),σ = [some (.ref l),some (.int sc),some (.ref wA),some (.int (Jl ls)),some (.ref R),some (.ref dA),some (.int (0+(r:Int))),v7,v8,v9,v10,v11]/\YK dA Hd G'/\Dc gg G' dA (2+r*200+i) kv2/\(∀x,kn kvs x->kn kv2 x) /\ ∀u w,(u,w)∈Jr ls i->(kn kvs u∨kn kvs w)->kn kv2 u/\kn kv2 w)
       ⟨kvs,_,_,_,_,_,rfl,fr,dc,fun _ h=>h,fun u w h=>by unfold Jr Ya at h;simp at h⟩ (fun i σ G' _ ⟨_,_,_,_,_,_,_,fr',_⟩=>Zt.of (keepT fr' _ _ hlH3)) ?_ ?_⟩
      ·rintro i x p σ G1 hx ⟨kv2,v7,v8,v9,v10,v11,rfl,fr1,dc1,mono1,pe1⟩ hp;obtain⟨⟨qx,qk⟩,ta,hq,rfl,hta⟩:=hL3.get hx;have hi:i<ls.length:=(kI.mp hq).1;obtain⟨G0,hG0⟩:∃G0,G0=upd G1 p (.tup [.int i,.ref ta]):=⟨_,rfl⟩;have npd:dA≠p:=Zf dc1.at_ hp;have fr0:YK dA Hd G0:=by rw[hG0];exact fr1.new hp
       have dc0':Dc gg G0 dA (2+r*200+i) kv2:=⟨by rw[hG0,Zh npd];exact dc1.at_,dc1.le,dc1.ok⟩;have hta':=keepT fr0 _ _ hta;have kk:UW ls Ub i=Ub qx:=by unfold UW;rw[hq];cases h:Ub qx<;>simp[h]
       refine⟨p,_,rfl,YJ.of Zc,rfl,_,_,rfl,_,_,rfl,rfl,?_⟩;rw[<- hG0];refine⟨_,rfl,ta,_,_,_,rfl,rfl,YJ.of hta',Zn (j:=0) rfl,rfl,_,rfl,?_⟩;refine ZY (fun hc=>?_) (fun hc=>?_)
       ·have e:qx = "end" := V.str.inj (kO hc);subst e;obtain⟨k0,k1,pe⟩:=Zfl hW hq (fun z=>nb2 z);obtain⟨kn',rfl⟩:=kT (show 0<=qk from k0);simp only[kX] at k1 pe;obtain⟨ra,hra,hrr⟩:=rv.at (Zax ls (i:=i) (n:=ls.length+1) (by lia));have ei:UW ls Ub i=true:=by rw[kk];unfold Ub;simp
        have pin:Jo ls i∈Jd ls:=Kq.mpr ⟨(i:Int),by unfold Ya;exact qo.mpr ⟨i,qa.mpr hi,by rw[kj ei]⟩,by simp⟩
        have es:Jr ls (i+1)=Jr ls i ++ [Jo ls i]:=by rw[W2,kj ei]
        obtain⟨u,hu⟩:∃u,u=(rowAt ls i).getD kn' 0:=⟨_,rfl⟩;obtain⟨w',hw⟩:∃w',w'=(rowAt ls i).getD (kn'+1) 0:=⟨_,rfl⟩;rw[<- hu,<- hw] at pe;rw[pe] at pin es;refine⟨_,rfl,_,rfl,R,_,_,_,rfl,rfl,Zt.of (keepT fr0 R _ eR),Zn hra,_,rfl,ta,_,_,_,rfl,rfl,YJ.of hta',Zn (j:=1) rfl,_,rfl,_,rfl,ta,_,_,_,rfl,rfl,YJ.of hta',Zn (j:=1) rfl,_,_,rfl,rfl,_,rfl,ra,_,rfl,Zt.of (keepT fr0 ra _ hrr),fun cA hcA=>?_⟩;rw[Zer k1,<- hu,<- hw];refine⟨cA,_,rfl,Zt.of Zc,rfl,_,_,rfl,_,_,rfl,rfl,?_⟩;have ncd:dA≠cA:=Zf dc0'.at_ hcA;have fr2:YK dA Hd (upd G0 cA (.lst [.int u,.int w'])):=fr0.new hcA;have dc2:Dc gg (upd G0 cA (.lst [.int u,.int w'])) dA (2+r*200+i) kv2:=⟨by rw[Zh ncd];exact dc0'.at_,dc0'.le,dc0'.ok⟩;have ud:0<=u/\u<(Jl ls:Int):=YY.mp ((Wy hW).mem_iff.mp (KW.mpr ⟨(u,w'),pin,by simp⟩));show ZeI (tB (Zkq (ZX 9) (ZX 5))) _ _ _ _ _;refine ZdB (g:=gg) (u:=u) (l:=w') (d:=dA) (fun H Q q=>⟨_,rfl,q⟩) (fun H Q q=>⟨_,rfl,q⟩) (fun H Q q=>⟨_,rfl,q⟩) dc2 (by lia) (by rw[hgg];exact o.ends pin ud) fun H' kv3 frx dcx mx px=>?_;refine⟨kv3,_,_,_,_,_,rfl,fr2.trans frx,dcx,fun x h=>mx x (mono1 x h),fun u2 w2 h h2=>?_⟩;rw[es] at h;rcases KC.mp h with h | h
        ·obtain⟨a1,a2⟩:=pe1 u2 w2 h h2;exact⟨mx _ a1,mx _ a2⟩
        ·have:=k7.mp h;cases this;exact px (h2.elim (fun z=>.inl (mono1 _ z)) (fun z=>.inr (mono1 _ z)))
       ·have e:¬qx = "end" := fun z=>hc (kM (Ky V.str z));have ei:UW ls Ub i=false:=by rw[kk];unfold Ub;simp[e]
        have es:Jr ls (i+1)=Jr ls i:=by rw[W2,ei];simp
        refine⟨kv2,_,_,_,_,_,rfl,fr0,⟨dc0'.at_,by have:=dc0'.le;lia,dc0'.ok⟩,mono1,?_⟩;rw[es];exact pe1
      ·rintro σ G1 ⟨kv2,v7,v8,v9,v10,v11,rfl,fr1,dc1,mono1,pe1⟩;have ev2':∃hN:Nat,Jl ls=2*hN:=⟨(Jd ls).length,rfl⟩;obtain⟨hN,hN2⟩:=ev2';refine⟨_,rfl,hN,?_,by lia,Zgo (lo:=0) (n:=hN) (fun j σ G'=>∃(kv3:QD)(v11:QI),σ = [some (.ref l),some (.int sc),some (.ref wA),some (.int (Jl ls)),some (.ref R),some (.ref dA),some (.int (0+(r:Int))),v7,v8,v9,v10,v11]/\YK dA Hd G'/\Dc gg G' dA (2+r*200+60+j) kv3/\(∀x,kn kv2 x->kn kv3 x) /\ ∀q:Nat,q<j->(kn kv2 (2*q)∨kn kv2 (2*q+1))->kn kv3 (2*q)/\kn kv3 (2*q+1))
        ⟨kv2,_,rfl,fr1,⟨dc1.at_,by have:=dc1.le;lia,dc1.ok⟩,fun _ h=>h,fun q h=>by lia⟩ ?_ ?_⟩
       ·rw[hN2];simp
       ·rintro j σ G2 hj ⟨kv3,v11',rfl,fr2,dc2,mono2,pb2⟩;have ej:(0:Int)+(j:Int)*2=2*(j:Int):=by lia
        rw[ej];show ZeI (tB (Zkq (ZX 11) (ZX 5))) _ _ _ _ _;refine ZdB (g:=gg) (u:=2*(j:Int)) (l:=2*(j:Int)+1) (d:=dA) (fun H Q q=>⟨_,rfl,q⟩) (fun H Q q=>⟨_,rfl,_,_,rfl,rfl,q⟩) (fun H Q q=>⟨_,rfl,q⟩) dc2 (by lia) (by rw[hgg];exact o.Zkt (by lia) (by lia) (by lia)) fun H' kv4 frx dcx mx px=>?_;refine⟨kv4,_,rfl,fr2.trans frx,dcx,fun x h=>mx x (mono2 x h),fun q hq h=>?_⟩;by_cases c:q<j
        ·obtain⟨a1,a2⟩:=pb2 q c h;exact⟨mx _ a1,mx _ a2⟩
        ·have:q=j:=by lia
         subst this;exact px (h.elim (fun z=>.inl (mono2 _ z)) (fun z=>.inr (mono2 _ z)))
       ·rintro σ G2 ⟨kv3,v11',rfl,fr2,dc2,mono2,pb2⟩;refine⟨kv3,_,_,_,_,_,_,rfl,fr2,⟨dc2.at_,by have:=dc2.le;lia,dc2.ok⟩,?_⟩;refine o.grow pf mono1 mono2 (fun u w' h h2=>?_) (fun j hj h=>pb2 j (by lia) h) kw;refine pe1 u w' ?_ h2;rw[hxl];exact h
     ·rintro σ G ⟨kvs,v6,v7,v8,v9,v10,v11,rfl,fr,dc,kw⟩;rw[kX] at kw;have all:∀x:Int,0<=x->x<(Jl ls:Int)->kn kvs x:=fun x x0 x1=>by
       obtain⟨i,hi,e⟩:=TZ.mp (o.all x x0 x1);exact kw i x (by lia) (by simp[hi,e])
      refine⟨_,rfl,_,rfl,by lia,by lia,Zgz (lo:=0) (n:=((Jl ls:Nat):Int).toNat) (KN (Zy (by lia))) (fun i zs G'=>Zi G G'/\zs=(List.range i).map fun(x:Nat)=>V.int (gg (x:Int))) ⟨Zi.refl _,rfl⟩
       (fun i zs G' q=>by rw[q.2];simp) (fun i zs G' hi q=>?_) (fun zs G' q D hD=>?_)⟩
      ·obtain⟨sq',rfl⟩:=q;refine lcG ?_;have kx:=all (i:Int) (by lia) (by lia);have dg:=UQ.k (k:=Sum.inl (0+(i:Int))) (sq' _ _ dc.at_);rw[show (0:Int)+(i:Int)=(i:Int) by lia,dc.val kx] at dg;refine⟨_,rfl,_,rfl,dA,.int (gg (i:Int)),rfl,?_,sq',?_⟩
       ·rw[show (0:Int)+(i:Int)=(i:Int) by lia];exact dg
       ·rw[K7,k6];rfl
      ·obtain⟨sq',rfl⟩:=q;have sf:Zi H (upd G' D (.lst ((List.range ((Jl ls:Nat):Int).toNat).map fun(x:Nat)=>V.int (gg (x:Int))))):=fun c u e=>(sq'.step hD) c u (keepT fr c u (s03 c u e));refine k _ _ sf (.inr ⟨e,_,tr,.inr ⟨D,T',L,rfl,t0,o,rfl,?_,?_⟩⟩)
       ·cases z:H D with
        | none=>rfl
        | some u=>
         have:=(sq' _ _ (keepT fr _ _ (s03 _ _ z)));rw[hD] at this;cases this
       ·rw[Zc,kX,hgg];rfl
    ·have t1:¬Zf9 (fl (Z7 (Jd ls)) T') / 2=0:=t0;refine ZY (fun _=>?_) (fun hc=>absurd ?_ hc)
     ·exact k .non H2 s2 (.inr ⟨e,_,tr,.inl ⟨by simpa using t0,rfl⟩⟩)
     ·show (!decide (V.int (Zf9 (fl (Z7 (Jd ls)) T') / 2)=V.int 0))=true;rw[Ki (fun z=>t1 (V.int.inj z))];rfl
   ·refine ZY (fun _=>?_) (fun hc=>absurd ?_ hc)
    ·refine ZaY (k .non H2 s2 (.inr ⟨e,_,tr,.inl ⟨fun z=>len1 ?_,rfl⟩⟩));have:=Ky List.length z;simpa using this
    ·show (!decide (V.int (ys.length:Int)=V.int 1))=true;rw[Ki (fun z=>len1 (by have:=V.int.inj z;lia))];rfl
theorem gK:ZiB "born" = 2/\ZiB "cross" = 0/\ZiB "end" = -2:=⟨by decide +kernel,by decide +kernel,by decide +kernel⟩
theorem wkS {ls:QB}{n:Int}(h:Wk ls n):ZcJ ls=n:=by
 induction h with
 | nil=>rfl
 | born _ _ _ ih=>rw[ZbU,ih,gK.1]
 | cross _ _ _ ih=>rw[ZbU,ih,gK.2.1];lia
 | fin _ _ _ ih=>rw[ZbU,ih,gK.2.2];lia
theorem Zl1 {A A':QB}{n:Int}(ha:Wk A n)(ha':Wk A' n){X:QB}{m:Int}(h:Wk X m):∀B,X=A++B->Wk (A'++B) m:=by
 have base:∀{X:QB}{m:Int},Wk X m->X=A->Wk (A' ++ []) m:=fun {X m} hx e=>by subst e;have e1:=wkS hx;have e2:=wkS ha;rw[KL];rw[show m=n by lia];exact ha'
 have spl:∀{ls B:QB}{p:Str×Int},ls ++ [p]=A++B->(B = []/\ls ++ [p]=A) ∨ ∃B',B=B' ++ [p]/\ls=A++B':=fun {ls B p} e=>by
  rcases List.eq_nil_or_concat B with z | ⟨B',q,z⟩
  rotate_left
  rw[List.concat_eq_append] at z
  rotate_left
  ·subst z;exact .inl ⟨rfl,by simpa using e⟩
  ·subst z;rw[<- kJ] at e;obtain⟨e1,e2⟩:=List.append_inj' e rfl;have e2:p=q:=by simpa using e2
   subst e2;exact .inr ⟨B',rfl,e1⟩
 induction h with
 | nil=>
  intro B e;obtain⟨e1,e2⟩:=List.append_eq_nil_iff.mp e.symm;subst e2;exact base .nil e1.symm
 | @born ls n' k h h0 h1 ih=>
  intro B e;rcases spl e with⟨z,y⟩ | ⟨B',z,y⟩
  ·subst z;exact base (.born h h0 h1) y
  ·rw[z,<- kJ];exact .born (ih B' y) h0 h1
 | @cross ls n' k h h0 h1 ih=>
  intro B e;rcases spl e with⟨z,y⟩ | ⟨B',z,y⟩
  ·subst z;exact base (.cross h h0 h1) y
  ·rw[z,<- kJ];exact .cross (ih B' y) h0 h1
 | @fin ls n' k h h0 h1 ih=>
  intro B e;rcases spl e with⟨z,y⟩ | ⟨B',z,y⟩
  ·subst z;exact base (.fin h h0 h1) y
  ·rw[z,<- kJ];exact .fin (ih B' y) h0 h1
def crl (b c:Int):QB:=[("born", b),("cross", c),("end", b)]
theorem ZnM {ls:QB}{t:Nat}{b c:Int}(hW:Wk ls 0)(hb0:0<=b)(hb1:b<=ZcJ (ls.take t))(hc0:0<=c)(hc1:c<=ZcJ (ls.take t)):Wk (ls.take t++crl b c++ls.drop t) 0:=by
 obtain⟨n,hn⟩:=GA hW t;have en:=wkS hn;rw[en] at hb1 hc1;have w1:=Wk.born (k:=b) hn hb0 hb1;have w2:=Wk.cross (k:=c) w1 hc0 (by lia);have w3:=Wk.fin (k:=b) w2 hb0 (by lia);have e:ls.take t ++ [(("born" : Str),b)] ++ [(("cross" : Str),c)] ++ [(("end" : Str),b)]=ls.take t++crl b c:=by simp[crl]
 rw[e,show n+2-2=n by lia] at w3;exact Zl1 hn w3 hW (ls.drop t) (Kt t ls).symm
theorem Zhu:∀ls:QB,(∀p∈ls,Kd p.1)->2*(((ls.map fun p=>V.str p.1).countP fun z=>eqV z (.str "born"):Nat):Int)-2*(((ls.map fun p=>V.str p.1).countP fun z=>eqV z (.str "end"):Nat):Int)=ZcJ ls
 | [],_=>rfl
 | p::r,h=>by
  have ih:=Zhu r fun q hq=>h q (kS _ hq);have gk:=gK;have e:ZcJ (p::r)=ZiB p.1+ZcJ r:=by unfold ZcJ;simp
  have eqs:∀x y:Str,eqV (V.str x) (V.str y)=decide (x=y):=fun x y=>by unfold eqV;by_cases z:x=y<;>simp[z]
  rw[kH,X8,X8,e,<- ih,eqs,eqs];rcases h p kQ with z | z | z
  ·rw[z,gk.1];simp[show ¬(("born" : Str) = "end") by decide +kernel];lia
  ·rw[z,gk.2.1];simp[show ¬(("cross" : Str) = "end") by decide +kernel,show ¬(("cross" : Str) = "born") by decide +kernel]
  ·rw[z,gk.2.2];simp[show ¬(("end" : Str) = "born") by decide +kernel];lia
theorem Zix {H:Hp}{xs:QH}{ls:QB}(h:ZD H xs ls):∀t,ZD H (xs.take t) (ls.take t):=by
 induction h with
 | nil=>intro t;rw[La,La];exact .nil
 | cons a _ ih=>
  intro t;cases t with
  | zero=>exact .nil
  | succ n=>exact .cons a (ih n)
theorem ZiL {H:Hp}{xs:QH}{ls:QB}(h:ZD H xs ls):∀t,ZD H (xs.drop t) (ls.drop t):=by
 induction h with
 | nil=>intro t;rw[List.drop_nil,List.drop_nil];exact .nil
 | cons a b ih=>
  intro t;cases t with
  | zero=>exact .cons a b
  | succ n=>exact ih n
theorem Yt {H H':Hp}{b:Addr}(s:Zi H H')(x:Bag H b):Bag H' b:=let ⟨g,r,h,e⟩:=x;⟨g,r,h,s _ _ e⟩
theorem lay {G:Hp}{c:Addr}{o:HO}(fc:G c=none):∃G',upd G c o=G'/\Zi G G'/\G' c=some o:=⟨_,rfl,Zi.laid fc,Zc⟩
@[elab_as_elim] theorem lay2 {G:Hp}{c:Addr}{o:HO}{R:Hp->Prop} (fc:G c=none) (k:∀G',Zi G G'->G' c=some o->R G'):R (upd G c o):=k _ (Zi.laid fc) Zc
theorem Zof (xs:QH)(k:Nat):GG xs (some (k:Int)) none=xs.drop k:=by
 unfold GG;rw[HT.Zcz,HT.Zbs];by_cases h:k<=xs.length
 ·rw[Mv h,kK (by rw[KU];lia)]
 ·rw[N9 (by lia),XE,Nv,List.drop_of_length_le (by lia)]
def Zh9:Sp:=fun vs H Q _=>∃(b l0:Addr)(m:Int)(ls0:QB),vs = [.ref b,.ref l0,.int m]/\Bag H b/\Drw H l0 ls0/\l0≠b/\ls0.length<=40/\nX ls0<=13/\0<=m/\m<=3 /\ ∀(l:Addr)(H':Hp)(ls:QB),H l=none->Bag H' b->YK b H H'->Drw H' l ls->nX ls<=13->Q (.ref l) H'
theorem Zir (ls:QB):((ls.map fun p=>V.str p.1).countP fun z=>eqV z (.str "cross"))=nX ls:=by unfold nX;rw[List.countP_map];refine List.countP_congr fun p _=>?_;simp[eqV]
abbrev Ws:Stmt:=top 44
theorem Yb:ZA ["_law_bag_here", "_law_letters", "_law_most", "_law_found", "_law_turn", "_law_t", "_law_words", "_law_many", "_law_k", "_law_three"] ["_law_bag_here", "_law_letters", "_law_most"] (Zj Ws):={}
theorem Ziv {f:Addr}{fd:FuncData}(F:WC K "_law_curled" "_law_curled" Ws f fd)(Zu:JM P w K mg base 1 "_law_take" ["_law_bag_here", "_law_many"] Zb0)(Yf:mg "list" = none)(Z8:mg "range" = none)(Yr:mg "len" = none)(Gy:mg "max" = none):
  Yi P w K mg base WH 2 f fd ["_law_bag_here", "_law_letters", "_law_most"] Zh9:=by
 refine F.ok Yb (fun vs H Q E h=>?_) (fun cdv A outer s H vs Q E hr h=>?_)
 ·obtain⟨b,l0,m,ls0,rfl,_⟩:=h;rfl
 ·obtain⟨b,l0,m,ls0,rfl,hbag,dr,l0b,len0,nx0,m0,m3,k⟩:=h;refine⟨_,(Zd (Zm (i:=3) Yb.nd rfl (.inl rfl) (Z0 (Jc (K:=K) rfl) (by rfl) Yf XN (Za (pv 1) Zb)))
   (Zd (Yj Kj rfl (Y0 (by rfl) Z8 (Za (Zq Zu hr (Za (pv 0) (Za (Zk Zx (pv 2) Ze) Zb))) Zb)) (Zl (i:=4) Yb.nd rfl (.inl rfl)) (Zd (Zm (i:=5) Yb.nd rfl (.inl rfl) (Zq Zu hr (Za (pv 0) (Za (Zk Zx (Zv (Ys (K:=K) rfl) (by rfl) Yr qd (Za (pv 3) Zb)) Ze) Zb))))
   (Zd (Zdc (i:=6) Yb.nd rfl (.inl rfl) (Ls:=["_law_letter"]) (Fs:=[]) (fi:=[]) (ZZ.of (show YC ["_law_bag_here", "_law_letters", "_law_most", "_law_found", "_law_turn", "_law_t", "_law_words", "_law_many", "_law_k", "_law_three"] (Zj Ws) _ [] []=true by decide +kernel)) rfl (ZT (K:=K) rfl (pv 3)) (fun cl C s3 H3 ex=>⟨(Zl (i:=0) (show ((["_law_letter"]:QP)++([]:QP)).Nodup by decide +kernel) rfl (.inl rfl)),YX,(Zw (ZL (K:=K) rfl) (pv 0) Ze (fun _ _=>rfl))⟩))
   (Zd (Zm (i:=7) Yb.nd rfl (.inl rfl) (Zk YN (Zk Wa Ze (Yh (K:=K) rfl (YT kY Xz XA (Zar (K:=K) rfl) (YL (Js (K:=K) rfl) (pv 6) JI (Yq (pv 5))) (Za ZG Zb)))) (Zk Wa Ze (Yh (K:=K) rfl (YT kY Xz XA (Zar (K:=K) rfl) (YL (Js (K:=K) rfl) (pv 6) JI (Yq (pv 5))) (Za ZG Zb))))))
   (Zd (Zm (i:=8) Yb.nd rfl (.inl rfl) (Zq Zu hr (Za (pv 0) (Za (Zv (W4 rfl) (by rfl) Gy MR (Za Ze (Za (pv 7) Zb))) Zb))))
   (Zd (Zm (i:=9) Yb.nd rfl (.inl rfl) (ZH (Za (ZC (Za ZG (Za (pv 8) Zb))) (Za (ZC (Za ZG (Za (Zk Zx (pv 8) Ze) Zb))) (Za (ZC (Za ZG (Za (pv 8) Zb))) Zb)))))
   (Zmc (Z9 (Zr Ym (Zq Zu hr (Za (pv 0) (Za Ze Zb))) Ze (Zp _)) (Zg (Zm (i:=9) Yb.nd rfl (.inl rfl) (ZH (Za (ZC (Za ZG (Za (Zk Zx (pv 8) Ze) Zb))) (Za (ZC (Za ZG (Za (pv 8) Zb))) (Za (ZC (Za ZG (Za (Zk Zx (pv 8) Ze) Zb))) Zb)))))) ZN)
   (Zg (Z9 (PW.pt (GJ (Zju Gi Gi Ze (pv 7) Ze) (GJ (Zr Gi (Yh (K:=K) rfl (YT kY Xz XA (Zar (K:=K) rfl) (pv 6) (Za ZG Zb))) Ze (Zp _)) (Up (Zr Gi (Yh (K:=K) rfl (YT kY Xz XA (Zar (K:=K) rfl) (pv 6) (Za ZG Zb))) Ze (Zp _)))))) (Zg (Zm (i:=3) Yb.nd rfl (.inl rfl) (Zk Gj (Zk Gj (YL (Js (K:=K) rfl) (pv 3) JI (Yq (pv 5))) (pv 9)) (YL (Js (K:=K) rfl) (pv 3) (Yq (pv 5)) JI)))) ZN)))))))))
   (Zg (Zz (pv 3))))),?_⟩
  obtain⟨xs0,hl0,hL0,hW0,hlen0⟩:=dr;refine⟨_,rfl,l0,xs0,rfl,.inl (Zt.of hl0),fun l hl=>?_⟩;have s1:=Zi.laid (o:=.lst xs0) hl;have el1:upd H l (.lst xs0) l=some (.lst xs0):=Zc;generalize upd H l (.lst xs0)=H1 at *;have bg1:=Yt s1 hbag;have nb:∀{c:Addr},H c=none->c≠b:=fun {c} h z=>by obtain⟨_,_,_,e⟩:=hbag;rw[z,e] at h;cases h
  refine⟨_,rfl,_,rfl,_,_,rfl,rfl,b,_,rfl,bg1,by lia,by lia,fun d H2 d0 d1 bg2 f2=>?_⟩;refine⟨_,rfl,by lia,by lia,JQ (n:=d.toNat) (fun i σ G=>∃(lA:Addr)(xs:QH)(ls:QB)(v4 v5 v6 v7 v8 v9:QI),σ = [some (.ref b),some (.ref l0),some (.int m),some (.ref lA),v4,v5,v6,v7,v8,v9]/\Bag G b/\YK b H G/\H lA=none/\G lA=some (.lst xs)/\ZD G xs ls/\Wk ls 0/\ls.length<=40+3*i/\nX ls<=13)
   ⟨l,xs0,ls0,none,none,none,none,none,none,rfl,bg2,s1.frm.trans f2,hl,f2 _ _ el1 (nb hl),(hL0.same s1).frm f2 bg1,hW0,by lia,nx0⟩ ?_ ?_⟩
  ·rintro i σ G hi ⟨lA,xs,ls,v4,v5,v6,v7,v8,v9,rfl,bg,fr,flA,hG,hL,hW,hlen,hnx⟩;have hxl:=hL.len;have i3:i<4:=by lia
   have nlb:=nb flA;refine⟨_,rfl,_,rfl,lA,_,rfl,.inl (Zt.of hG),_,_,rfl,rfl,b,_,rfl,bg,by lia,by lia,fun t' G1 e0 e1 bg1' f1=>?_⟩;obtain⟨t,rfl⟩:=kT e0;have hG1:=f1 _ _ hG nlb;have hL1:=hL.frm f1 bg;have tl:t<=ls.length:=by lia
   refine⟨_,rfl,lA,rfl,⟨_,Zt.of hG1⟩,Ja (K:=K) (a:=lA) (xs:=xs) (KN (Zy (by lia))) (fun j zs G'=>Zi G1 G'/\zs=(ls.take j).map fun p=>V.str p.1) ⟨Zi.refl _,rfl⟩
    (fun j zs G' q=>by rw[q.2,ke,kL];exact Nat.min_le_left _ _) (fun j zs G' q=>Zt.of (q.1 _ _ hG1)) (fun j x zs G' hx q=>?_) (fun zs G' q wA hwA=>?_)⟩
   ·obtain⟨sq,rfl⟩:=q;obtain⟨p,ta,hp,rfl,hta⟩:=hL1.get hx;refine lcG ⟨_,rfl,ta,_,_,_,rfl,rfl,YJ.of (sq _ _ hta),Zn (j:=0) rfl,sq,?_⟩;rw[Jg (ns:=ls) _ hp]
   obtain⟨sq,rfl⟩:=q;rw[hxl,kK (ki _)];have s2:Zi G1 (upd G' wA (.lst (ls.map fun p=>V.str p.1))):=sq.step hwA;have ew:(upd G' wA (.lst (ls.map fun p=>V.str p.1))) wA=some (.lst (ls.map fun p=>V.str p.1)):=Zc;generalize upd G' wA (.lst (ls.map fun p=>V.str p.1))=G2 at *;have fs:∀r:QB,(r.map fun p=>V.str p.1).all WO=true:=fun r=>by rw[Xe];intro x hx;obtain⟨p,_,rfl⟩:=Kq.mp hx;rfl
   have ect:GG (ls.map fun p=>V.str p.1) none (some (t:Int))=(ls.take t).map fun p=>V.str p.1:=by rw[ZjN (xs:=ls.map fun p=>V.str p.1) (t:=t) (by rw[ke];exact tl),Xq]
   refine⟨_,rfl,_,rfl,_,rfl,wA,_,rfl,Zt.of ew,fun c1 hc1=>?_⟩;rw[ect];obtain⟨G3,z,s3,e3⟩:=lay (o:=.lst ((ls.take t).map fun p=>V.str p.1)) hc1;rw[z];clear z;refine⟨.inl ⟨rfl,_,Zt.of e3⟩,c1,_,_,rfl,rfl,Zt.of e3,rfl,fs _,_,_,rfl,rfl,.inl ⟨by decide,by decide⟩,?_⟩;refine⟨_,rfl,_,rfl,_,rfl,wA,_,rfl,Zt.of (s3 _ _ ew),fun c2 hc2=>?_⟩;rw[ect];obtain⟨G4,z,s4,e4⟩:=lay (o:=.lst ((ls.take t).map fun p=>V.str p.1)) hc2;rw[z];clear z;refine⟨.inl ⟨rfl,_,Zt.of e4⟩,c2,_,_,rfl,rfl,Zt.of e4,rfl,fs _,_,_,rfl,rfl,.inl ⟨by decide,by decide⟩,_,_,rfl,rfl,?_⟩;have cs:=Zhu (ls.take t) fun p hp=>hW.kd p (MP hp);obtain⟨mm,hm⟩:∃mm,mm=ZcJ (ls.take t):=⟨_,rfl⟩;dsimp only;rw[cs,<- hm];have m120:mm<=1000:=by rw[hm];obtain⟨n,hn⟩:=GA hW t;have:=ZbE hn;rw[wkS hn];rw[kL] at this;lia
   have s14:Zi G1 G4:=(s2.trans s3).trans s4;have bg4:=Yt s14 bg1';refine⟨_,rfl,_,rfl,_,_,rfl,b,_,rfl,bg4,(by split<;>lia),(by split<;>lia),fun kk G5 k0 k1 bg5 f5=>?_⟩;have hG5:=f5 _ _ (s14 _ _ hG1) nlb;have hL5:ZD G5 xs ls:=(hL1.same s14).frm f5 bg4;have fr5:YK b H G5:=((fr.trans f1).trans s14.frm).trans f5;have nwb:wA≠b:=fun z=>by obtain⟨_,_,_,e⟩:=Yt sq bg1';rw[z,e] at hwA;cases hwA
   have ew5:=f5 _ _ (s4 _ _ (s3 _ _ ew)) nwb;have three:∀{X X1 X2 X3 X4:Hp}{u1 u2 u3 cA:Addr}{p q:Int},Zi X X1->X1 u1=some (.tup [.str "born", .int p])->Zi X1 X2->X2 u2=some (.tup [.str "cross", .int q])->Zi X2 X3->X3 u3=some (.tup [.str "end", .int p])->Zi X3 X4->X4 cA=some (.lst [.ref u1,.ref u2,.ref u3])->ZD X4 [.ref u1,.ref u2,.ref u3] (crl p q):=fun a1 b1 a2 b2 a3 b3 a4 b4=>
    .cons ⟨_,rfl,a4 _ _ (a3 _ _ (a2 _ _ b1))⟩ (.cons ⟨_,rfl,a4 _ _ (a3 _ _ b2)⟩ (.cons ⟨_,rfl,a4 _ _ b3⟩ .nil))
   refine⟨_,rfl,sz2,fun u1 hu1=>?_⟩;refine lay2 (o:=.tup [.str "born", .int kk]) hu1 fun X1 a1 b1=>?_;refine⟨_,rfl,_,_,rfl,rfl,sz2,fun u2 hu2=>?_⟩;refine lay2 (o:=.tup [.str "cross", .int (kk+1)]) hu2 fun X2 a2 b2=>?_;refine⟨_,rfl,sz2,fun u3 hu3=>?_⟩;refine lay2 (o:=.tup [.str "end", .int kk]) hu3 fun X3 a3 b3=>?_;refine⟨sz3,fun cA hcA=>?_⟩;refine lay2 (o:=.lst [.ref u1,.ref u2,.ref u3]) hcA fun X4 a4 b4=>?_;have L4:=three a1 b1 a2 b2 a3 b3 a4 b4;have s54:=((a1.trans a2).trans a3).trans a4;refine⟨fun σ G=>∃(cA:Addr)(ts:QH)(p q:Int),σ = [some (.ref b),some (.ref l0),some (.int m),some (.ref lA),some (.int (0+(i:Int))),some (.int (t:Nat)),some (.ref wA),some (.int mm),some (.int kk),some (.ref cA)]/\Bag G b/\YK b H G/\G lA=some (.lst xs)/\ZD G xs ls/\G wA=some (.lst (ls.map fun p=>V.str p.1))/\G cA=some (.lst ts)/\ZD G ts (crl p q)/\0<=p/\p<=kk+1/\0<=q/\q<=kk+1,?_,?_⟩
   ·refine⟨_,rfl,b,2,rfl,Yt s54 bg5,by decide,by decide,fun sd Y sd0 sd1 bgY fY=>⟨rfl,_,rfl,?_⟩⟩;have ncb:cA≠b:=fun z=>by
     obtain⟨_,_,_,e⟩:=Yt ((a1.trans a2).trans a3) bg5;rw[z,e] at hcA;cases hcA
    have frY:YK b H Y:=(fr5.trans s54.frm).trans fY;have hLY:ZD Y xs ls:=(hL5.same s54).frm fY (Yt s54 bg5);have hGY:=fY _ _ (s54 _ _ hG5) nlb;have ewY:=fY _ _ (s54 _ _ ew5) nwb;refine ZY (fun _=>?_) (fun _=>?_)
    ·refine⟨_,rfl,_,_,rfl,rfl,sz2,fun w1 hw1=>?_⟩;refine lay2 (o:=.tup [.str "born", .int (kk+1)]) hw1 fun Y1 c1' d1'=>?_;refine⟨_,rfl,sz2,fun w2 hw2=>?_⟩;refine lay2 (o:=.tup [.str "cross", .int kk]) hw2 fun Y2 c2' d2'=>?_;refine⟨_,rfl,_,_,rfl,rfl,sz2,fun w3 hw3=>?_⟩;refine lay2 (o:=.tup [.str "end", .int (kk+1)]) hw3 fun Y3 c3' d3'=>?_;refine⟨sz3,fun cB hcB=>?_⟩;refine lay2 (o:=.lst [.ref w1,.ref w2,.ref w3]) hcB fun Y4 c4' d4'=>?_;have sY:=((c1'.trans c2').trans c3').trans c4';exact⟨cB,_,_,_,rfl,Yt sY bgY,frY.trans sY.frm,sY _ _ hGY,hLY.same sY,sY _ _ ewY,d4',three c1' d1' c2' d2' c3' d3' c4' d4',by lia,by lia,by lia,by lia⟩
    ·exact⟨cA,_,_,_,rfl,bgY,frY,hGY,hLY,ewY,fY _ _ b4 ncb,L4.frm fY (Yt s54 bg5),by lia,by lia,by lia,by lia⟩
   ·rintro σ Y ⟨cA,ts,p,q,rfl,bgY,frY,hGY,hLY,ewY,ecY,lcY,p0,p1,q0,q1⟩;refine⟨_,rfl,_,_,rfl,rfl,_,rfl,ZY (fun h1=>?_) (fun h1=>?_)⟩
    rotate_left
    ·refine⟨_,rfl,W8 (W8 ?_)⟩;exact⟨lA,xs,ls,_,_,_,_,_,_,rfl,bgY,frY,flA,hGY,hLY,hW,by lia,hnx⟩
    have m1:0<mm:=kO h1;refine⟨_,_,rfl,rfl,_,rfl,ZY (fun h2=>?_) (fun h2=>?_)⟩
    rotate_left
    ·refine W8 ?_;exact⟨lA,xs,ls,_,_,_,_,_,_,rfl,bgY,frY,flA,hGY,hLY,hW,by lia,hnx⟩
    refine⟨_,rfl,.inl ⟨rfl,_,Zt.of ewY⟩,wA,_,_,rfl,rfl,Zt.of ewY,rfl,fs _,_,_,rfl,rfl,_,rfl,ZY (fun h3=>?_) (fun h3=>?_)⟩
    rotate_left
    ·refine W8 ?_;exact⟨lA,xs,ls,_,_,_,_,_,_,rfl,bgY,frY,flA,hGY,hLY,hW,by lia,hnx⟩
    refine⟨_,rfl,.inl ⟨rfl,_,Zt.of ewY⟩,wA,_,_,rfl,rfl,Zt.of ewY,rfl,fs _,_,_,rfl,rfl,_,rfl,ZY (fun h4=>?_) (fun h4=>?_)⟩
    rotate_left
    ·exact⟨lA,xs,ls,_,_,_,_,_,_,rfl,bgY,frY,flA,hGY,hLY,hW,by lia,hnx⟩
    have h4:(((ls.map fun p=>V.str p.1).countP fun z=>eqV z (.str "cross"):Nat):Int)<12:=kO h4;rw[Zir] at h4;have k1':kk<mm:=by revert k1;split<;>lia
    refine⟨_,rfl,_,rfl,_,rfl,lA,_,rfl,Zt.of hGY,fun f1 hf1=>?_⟩;rw[ZjN (xs:=xs) (t:=t) (by lia)];refine lay2 (o:=.lst (xs.take t)) hf1 fun Z1 g1 j1=>?_;have lct:=lcY.len;refine⟨_,rfl,f1,cA,_,_,rfl,rfl,j1,g1 _ _ ecY,(by rw[kL,lct,Kn];show min t xs.length+3<=_;lia),fun f2 hf2=>?_⟩;obtain⟨Z2,z,g2,j2⟩:=lay (o:=.lst (xs.take t++ts)) hf2;rw[z];clear z;have g12:=g1.trans g2;refine⟨_,rfl,_,rfl,_,rfl,lA,_,rfl,Zt.of (g12 _ _ hGY),fun f3 hf3=>?_⟩;rw[Zof];refine lay2 (o:=.lst (xs.drop t)) hf3 fun Z3 g3 j3=>?_;refine⟨f2,f3,_,_,rfl,rfl,g3 _ _ j2,j3,(by rw[kg,kL,KU,lct,Kn];show min t xs.length+3+(xs.length-t)<=_;lia),fun f4 hf4=>?_⟩;obtain⟨Z4,z,g4,j4⟩:=lay (o:=.lst (xs.take t++ts++xs.drop t)) hf4;rw[z];clear z;have g14:=(g12.trans g3).trans g4;have bgZ:=Yt g14 bgY;refine⟨f4,_,ls.take t++crl p q++ls.drop t,_,_,_,_,_,_,rfl,bgZ,frY.trans g14.frm,?_,j4,?_,ZnM hW p0 (by rw[<- hm];lia) q0 (by rw[<- hm];lia),?_,?_⟩
    ·exact frY.free bgY ((g12.trans g3).free hf4)
    ·exact(((Zix hLY t).append lcY).append (ZiL hLY t)).same g14
    ·rw[kg,kg,kL,KU];show min t ls.length+3+_<=_;lia
    ·have e:nX (ls.take t)+nX (ls.drop t)=nX ls:=by rw[<- Ge,Kt]
     have ec:nX (crl p q)=1:=rfl;rw[Ge,Ge,ec];lia
  ·rintro σ G ⟨lA,xs,ls,v4,v5,v6,v7,v8,v9,rfl,bg,fr,flA,hG,hL,hW,hlen,hnx⟩;exact⟨_,rfl,k lA G ls flA bg fr ⟨xs,hG,hL,hW,by lia⟩ hnx⟩
theorem Zmz {ls:QB}(hW:Wk ls 0):∀d i,i+d<=ls.length->(rb (ls.take i)).2<=(rb (ls.take (i+d))).2
 | 0,i,_=>qK _
 | d+1,i,h=>by
  refine LS (Zmz hW d i (by lia)) ?_;have hq:ls[i+d]? = some ls[i+d]:=by simp[show i+d<ls.length by lia]
  obtain⟨tk,c⟩:=ZdC hW hq;show _<=(rb (ls.take (i+d+1))).2;rw[tk,YM];generalize hp:ls[i+d]=p at c;obtain⟨px,pk⟩:=p;rcases c with⟨e,_⟩ | ⟨e,_⟩ | ⟨e,_⟩
  ·have e:px = "born" := e;subst e;rw[WA];show _<=(rb (ls.take (i+d))).2+2;lia
  ·have e:px = "cross" := e;subst e;rw[JL];exact qK _
  ·have e:px = "end" := e;subst e;rw[Gx];exact qK _
theorem ZhH {ls:QB}(hW:Wk ls 0){t:Nat}(ht:t<=ls.length){x:Int}(hx:x∈rowAt ls t):0<=x/\x<(Jl ls:Int):=by
 obtain⟨h0,h1,h2⟩:=ZbC hW t ht;have a:=YY.mp (h2.mem_iff.mp (Xm _ hx));obtain⟨g0,g1,g2⟩:=ZbC hW ls.length (ki _);have e:rowAt ls ls.length = []:=by unfold rowAt;rw[kK (ki _)];have:=Zah hW;exact K9.mp (by lia)
 rw[e,qX] at g2;have hl:=g2.length_eq;rw[Uc,Ue] at hl;have le:=Zmz hW (ls.length-t) t (by lia);rw[show t+(ls.length-t)=ls.length by lia] at le;have hn:Jl ls=(rb (ls.take ls.length)).2.toNat:=hl;rw[hn];lia
theorem ZgV {ls:QB}(hW:Wk ls 0){t:Nat}{q:Str×Int}(hq:ls[t]? = some q)(hb:q.1 ≠ "born"):(0<=(Jo ls t).1/\(Jo ls t).1<(Jl ls:Int))/\(0<=(Jo ls t).2/\(Jo ls t).2<(Jl ls:Int)):=by
 obtain⟨k0,k1,pe⟩:=Zfl hW hq hb;have ht:t<ls.length:=(kI.mp hq).1;rw[pe];refine⟨ZhH hW (KN ht) ?_,ZhH hW (KN ht) ?_⟩
 ·show (rowAt ls t).getD q.2.toNat 0∈_;rw[show (rowAt ls t).getD q.2.toNat 0=(rowAt ls t)[q.2.toNat]'(by lia) by simp[show q.2.toNat<(rowAt ls t).length by lia]];exact qp _
 ·show (rowAt ls t).getD (q.2.toNat+1) 0∈_;rw[show (rowAt ls t).getD (q.2.toNat+1) 0=(rowAt ls t)[q.2.toNat+1]'k1 by simp[k1]];exact qp _
theorem Wn {ls:QB}{i:Nat}{q:Str×Int}(hq:ls[i]? = some q){pr:Str->Bool}:UW ls pr i=pr q.1:=by unfold UW;rw[hq];cases h:pr q.1<;>simp[h]
abbrev GV:Str->Bool:=fun x=>!decide (x = "born")
def HG (sc:Int)(ls:QB)(g:QX):Prop:=(sc=1/\g=fun _=>0)∨(sc≠1 /\ ∃T L,GU (Jv (Jd ls)) (Jl ls) [T]/\UY (Z7 (Jd ls)) T=0/\One (Jd ls) (Jl ls) T L/\g=hgt (Z7 (Jd ls)) T)
theorem thV.hg {sc:Int}{ls:QB}{zs:QH}(h:thV sc ls zs):∃g,HG sc ls g/\zs=(tab (Jl ls) g).map V.int:=by
 rcases h with⟨a,e⟩ | ⟨a,T,L,b,c,d,e⟩
 ·exact⟨fun _=>0,.inl ⟨a,rfl⟩,by rw[e,Zba]⟩
 ·exact⟨hgt (Z7 (Jd ls)) T,.inr ⟨a,T,L,b,c,d,rfl⟩,by rw[e,Zba]⟩
theorem HG.uniq {sc:Int}{ls:QB}{g g':QX}(a:HG sc ls g)(b:HG sc ls g'):g=g':=by
 rcases a with⟨e,rfl⟩ | ⟨ne,T,L,tr,_,_,rfl⟩
 ·rcases b with⟨_,rfl⟩ | ⟨ne,_⟩
  ·rfl
  ·exact absurd e ne
 ·rcases b with⟨e,_⟩ | ⟨_,T',L',tr',_,_,rfl⟩
  ·exact absurd e ne
  ·have:=tr.uniq tr';cases this;rfl
def dfs (g:QX)(ls:QB)(ns:QG):QG:=ns.map fun t=>g (Jo ls t.toNat).1-g (Jo ls t.toNat).2
def Zo2 (C:Addr):Sp:=fun vs H Q E=>∃(l:Addr)(sc:Int)(xs:QH)(ls:QB),vs = [.ref l,.int sc]/\H l=some (.lst xs)/\ZD H xs ls/\ls.length<=60/\Wk ls 0 /\
 (∀(p:Addr)(H':Hp)(g:QX),H p=none->Zi H H'->HG sc ls g->H' p=some (.lst ((dfs g ls (Ya ls GV ls.length)).map V.int))->Q (.ref p) H') /\
 (∀(H':Hp)(ts:QA),Zi H H'->sc≠1->GU (Jv (Jd ls)) (Jl ls) ts->ts.map (UY (Z7 (Jd ls))) ≠ [0]->E (.ref C) none H')
abbrev J1:Stmt:=top 22
theorem UO:ZA ["drawing", "scale", "heights"] ["drawing", "scale"] (Zj J1):={}
theorem ZoP {f YU:Addr}{fd:FuncData}(F:WC K "name_heights" "name_heights" J1 f fd)(Wi:ZjB P w K mg base 8 "thread_heights" ["drawing", "scale"] (ZoH YU))(Jh:JM P w K mg base 2 "pairs_ahead" ["drawing", "numbers"] Zet)
  (We:JM P w K mg base 1 "names_of" ["drawing"] (Zca GV)):Yi P w K mg base (CX1 P w) 9 f fd ["drawing", "scale"] (Zo2 YU):=by
 refine F.okX UO (fun vs H Q E h=>?_) (fun cdv A outer s H vs Q E hr h=>?_)
 ·obtain⟨l,sc,xs,ls,rfl,_⟩:=h;rfl
 ·obtain⟨l,sc,xs,ls,rfl,hl,hL,hlen,hW,k,kx⟩:=h;have n120:=Wh hlen;refine⟨_,(Zd (Zm (i:=2) UO.nd rfl (Or.inr rfl) (Zg7 Wi (hr.mono (by decide)) ZoB (Za (pv 0) (Za (pv 1) Zb))))
   (Zg (Zz (Ga (Ls:=["upper", "lower"]) (Fs:=["heights"]) (fi:=[2]) (ZZ.of (show YC ["drawing", "scale", "heights"] (Zj J1) _ ["heights"] [2]=true by decide +kernel)) rfl (ZT (K:=K) rfl (Zq Jh hr (Za (pv 0) (Za (Zq We hr (Za (pv 0) Zb)) Zb)))) (fun cl C s3 H3 ex=>⟨(Z6 (K:=K) (n:=2) rfl rfl (Zo (Zl (i:=0) (show ((["upper", "lower"]:QP)++(["heights"]:QP)).Nodup by decide +kernel) rfl (.inl rfl)) (Zo (Zl (i:=1) (show ((["upper", "lower"]:QP)++(["heights"]:QP)).Nodup by decide +kernel) rfl (.inl rfl)) ZQ))),YX,(Zk YN (Zw (Zs (K:=K) rfl) (pv 2) (pv 0) (fun _ _=>rfl)) (Zw (Zs (K:=K) rfl) (pv 2) (pv 1) (fun _ _=>rfl)))⟩))))),?_⟩
  refine⟨_,rfl,_,rfl,l,sc,xs,ls,rfl,hl,hL,hlen,hW,fun p H1 zs fp s1 ep tv=>?_,kx⟩;obtain⟨g,hg,rfl⟩:=tv.hg;refine⟨_,rfl,_,rfl,l,xs,ls,rfl,s1 l _ hl,hL.same s1,hlen,hW.kd,fun nA H2 fn s2 en=>?_⟩;have s12:=s1.trans s2;have mem:∀t∈Ya ls GV ls.length,0<=t /\ ∃q,ls[t.toNat]? = some q/\q.1 ≠ "born" := fun t ht=>by obtain⟨a,_,q,hq,z⟩:=Zfx ht;exact⟨a,q,hq,by simpa using z⟩
  refine⟨l,nA,xs,ls,Ya ls GV ls.length,rfl,s12 l _ hl,hL.same s12,hlen,hW,en,Kx (J2 _ _ _) hlen,mem,fun pA H3 ys fp' s3 ep' pv=>?_⟩;have yl:=pv.len;have s13:=s12.trans s3;have ll:=J2 ls GV ls.length;rw[ke] at yl;have ep3:=s3 _ _ (s2 _ _ ep);refine⟨pA,rfl,⟨_,Zt.of ep'⟩,Ja (K:=K) (a:=pA) (xs:=ys) (KN (Zy (by lia))) (fun i zs G=>Zi H3 G/\zs=(dfs g ls ((Ya ls GV ls.length).take i)).map V.int) ⟨Zi.refl _,rfl⟩
   (fun i zs G q=>by rw[q.2,ke];unfold dfs;rw[ke,kL];lia) (fun i zs G q=>Zt.of (q.1 pA _ ep')) (fun i x zs G hx q=>?_) (fun zs G q D hD=>?_)⟩
  ·obtain⟨sG,rfl⟩:=q;obtain⟨⟨u,lw⟩,t,hp,rfl,ht⟩:=pv.get hx;rw[kE] at hp;obtain⟨tt,ht1,ht2⟩:=Ka.mp hp;obtain⟨t0,q,hq,hb⟩:=mem tt (k9 ht1);have dm:=ZgV hW hq hb;rw[ht2] at dm;refine⟨t,_,rfl,YJ.of (sG _ _ ht),rfl,_,_,rfl,_,_,rfl,rfl,?_⟩;refine lcT ?_;refine⟨_,rfl,_,rfl,p,_,_,_,rfl,rfl,Zt.of (sG _ _ ep3),Zaz g dm.1.1 dm.1.2,_,rfl,_,rfl,p,_,_,_,rfl,rfl,Zt.of (sG _ _ ep3),Zaz g dm.2.1 dm.2.2,_,_,rfl,rfl,sG,?_⟩;unfold dfs;rw[Jg (ns:=Ya ls GV ls.length) _ ht1,k6,ht2];rfl
  obtain⟨sG,rfl⟩:=q;rw[yl,kK (ki _)];exact k D _ g ((s13.trans sG).free hD) ((s13.trans sG).step hD) hg Zc
def lnV (sc:Int)(ls:QB)(H H':Hp)(v:V):Prop:=(∃p g,HG sc ls g/\v = .ref p/\H p=none/\H' p=some (.lst ((dfs g ls (Ya ls GV ls.length)).map V.int)))∨(v = .non/\sc≠1 /\ ∃ts,GU (Jv (Jd ls)) (Jl ls) ts/\ts.map (UY (Z7 (Jd ls))) ≠ [0])
def ZiX:Sp:=fun vs H Q _=>∃(l:Addr)(sc:Int)(xs:QH)(ls:QB),vs = [.ref l,.int sc]/\(sc=0∨sc=1)/\H l=some (.lst xs)/\ZD H xs ls/\ls.length<=60/\Wk ls 0 /\
 ∀(v:V)(H':Hp),Zi H H'->lnV sc ls H H' v->Q v H'
theorem Zkr {sc:Int}{ls:QB}{H H':Hp}{v:V}(h:lhV sc ls H H' v):(∃p g,HG sc ls g/\v = .ref p/\H p=none/\H' p=some (.lst ((tab (Jl ls) g).map V.int)))∨(v = .non/\sc≠1 /\ ∃ts,GU (Jv (Jd ls)) (Jl ls) ts/\ts.map (UY (Z7 (Jd ls))) ≠ [0]):=by
 rcases h with⟨e,p,rfl,fp,ep⟩ | ⟨ne,ts,tr,⟨z,rfl⟩ | ⟨p,T,L,rfl,t0,o,rfl,fp,ep⟩⟩
 ·exact .inl ⟨p,fun _=>0,.inl ⟨e,rfl⟩,rfl,fp,by rw[ep,Zba]⟩
 ·exact .inr ⟨rfl,ne,ts,tr,z⟩
 ·exact .inl ⟨p,hgt (Z7 (Jd ls)) T,.inr ⟨ne,T,L,tr,t0,o,rfl⟩,rfl,fp,by rw[ep,Zba]⟩
theorem HG.atEnd {sc:Int}{ls:QB}{g:QX}(h:HG sc ls g)(hsc:sc=0∨sc=1)(hW:Wk ls 0){i:Nat}{q:Str×Int}(hq:ls[i]? = some q)(he:q.1 = "end"):g (Jo ls i).1-g (Jo ls i).2=1-sc:=by
 rcases h with⟨e,rfl⟩ | ⟨ne,T,L,_,_,o,rfl⟩
 ·rw[e];rfl
 ·have s0:sc=0:=hsc.elim id fun z=>absurd z ne;have hi:i<ls.length:=(kI.mp hq).1;have mem:Jo ls i∈Jd ls:=by
   unfold Jd Jr;refine Kq.mpr ⟨(i:Int),?_,by simp⟩;unfold Ya;refine qo.mpr ⟨i,qa.mpr hi,?_⟩;rw[Wn hq,kj];rw[he];unfold Ub;simp
  have dm:=ZgV hW hq (fun z=>by rw[z] at he;exact absurd he (by decide +kernel));have:=o.ends (u:=(Jo ls i).1) (l:=(Jo ls i).2) mem dm.1;rw[s0,this];lia
theorem Zf1 {g:QX}{ls:QB}{i:Nat}{q:Str×Int}(hq:ls[i]? = some q)(hb:q.1 ≠ "born"):(dfs g ls (Ya ls GV i)).map V.int ++ [V.int (g (Jo ls i).1-g (Jo ls i).2)]=(dfs g ls (Ya ls GV (i+1))).map V.int:=by have kk:=Wn hq (pr:=GV);rw[JS,kk,kj (by simpa using hb)];unfold dfs;simp
theorem Zjh {g:QX}{ls:QB}{i:Nat}{q:Str×Int}(hq:ls[i]? = some q)(hb:q.1 = "born"):dfs g ls (Ya ls GV i)=dfs g ls (Ya ls GV (i+1)):=by have kk:=Wn hq (pr:=GV);rw[JS,kk,kh (by simp[hb]),KL]
abbrev JC:Stmt:=top 41
theorem ZP:ZA ["_law_drawing_here", "_law_scale", "_law_known", "_law_rows_here", "_law_found", "_law_t", "_law_letter", "_law_one", "_law_other"] ["_law_drawing_here", "_law_scale"] (Zj JC):={}
theorem Zns {f:Addr}{fd:FuncData}(F:WC K "_law_name_heights" "_law_name_heights" JC f fd)(Gs:JM P w K mg base 3 "_law_heights" ["_law_drawing_here", "_law_scale"] ZoI)(YW:JM P w K mg base 1 "_law_rows" ["_law_drawing_here"] Zb4)
  (ZJ:mg "enumerate" = none):Yi P w K mg base WH 4 f fd ["_law_drawing_here", "_law_scale"] ZiX:=by
 refine F.ok ZP (fun vs H Q E h=>?_) (fun cdv A outer s H vs Q E hr h=>?_)
 ·obtain⟨l,sc,xs,ls,rfl,_⟩:=h;rfl
 ·obtain⟨l,sc,xs,ls,rfl,hsc,hl,hL,hlen,hW,k⟩:=h;have n120:=Wh hlen;have hxl:=hL.len;refine⟨_,(Zd (Zm (i:=2) ZP.nd rfl (.inl rfl) (Zq Gs hr (Za (pv 0) (Za (pv 1) Zb))))
   (Zd (Z9 (Zr ZnJ (pv 2) Uq (Zp _)) (Zg (Zz Uq)) ZN)
   (Zd (Zm (i:=3) ZP.nd rfl (.inl rfl) (Zq YW hr (Za (pv 0) Zb)))
   (Zd (Zm (i:=4) ZP.nd rfl (.inl rfl) (ZH Zb))
   (Zd (Yj Kj rfl (Gd (K:=K) rfl (by rfl) ZJ (Za (pv 0) Zb)) (Z6 (K:=K) (n:=2) rfl rfl (Zo (Zl (i:=5) ZP.nd rfl (.inl rfl)) (Zo (Zl (i:=6) ZP.nd rfl (.inl rfl)) ZQ))) (Zg (Z9 (Zr Ym (Zw (ZL (K:=K) rfl) (pv 6) Ze (fun _ _=>rfl)) ZG (Zp _)) (Zd (Yd (YL (Js (K:=K) rfl) (Zw (Zs (K:=K) rfl) (pv 3) (pv 5) (fun _ _=>rfl)) (Yq (Zw (ZL (K:=K) rfl) (pv 6) Ze (fun _ _=>rfl))) (Yq (Zk Zx (Zw (ZL (K:=K) rfl) (pv 6) Ze (fun _ _=>rfl)) Ze))) (Zcm (K:=K) (n:=2) rfl rfl (Zo (Zl (i:=7) ZP.nd rfl (.inl rfl)) (Zo (Zl (i:=8) ZP.nd rfl (.inl rfl)) ZQ))))
   (Zg (Ye (Yh (K:=K) rfl (YT kY Kf Kg ZW (pv 4) (Za (Zk YN (Zw (Zs (K:=K) rfl) (pv 2) (pv 7) (fun _ _=>rfl)) (Zw (Zs (K:=K) rfl) (pv 2) (pv 8) (fun _ _=>rfl))) Zb)))))) (Zg (Z9 (Zr Ym (Zw (ZL (K:=K) rfl) (pv 6) Ze (fun _ _=>rfl)) ZG (Zp _)) (Zg (Ye (Yh (K:=K) rfl (YT kY Kf Kg ZW (pv 4) (Za (Zk YN Ze (pv 1)) Zb))))) ZN)))))
   (Zg (Zz (pv 4)))))))),?_⟩
  refine⟨_,rfl,_,rfl,l,sc,xs,ls,rfl,hl,hL,hlen,hW,fun v H1 s1 lv=>?_⟩;rcases Zkr lv with⟨p,g,hg,rfl,fp,ep⟩ | ⟨rfl,ne,hts⟩
  rotate_left
  ·refine⟨_,rfl,rfl,_,rfl,ZaY ?_⟩;exact k _ H1 s1 (.inr ⟨rfl,ne,hts⟩)
  refine⟨_,rfl,rfl,_,rfl,W8 ?_⟩;refine⟨_,rfl,l,xs,ls,rfl,s1 l _ hl,hL.same s1,hlen,hW,fun R H2 ys fR s2 eR rv ap ndr=>?_⟩;refine⟨sz0,fun fA hfA=>?_⟩;have s12:=s1.trans s2;have s3:Zi H2 (upd H2 fA (.lst [])):=Zi.laid hfA;have e3:(upd H2 fA (.lst [])) fA=some (.lst []):=Zc;have fH:H fA=none:=s12.free hfA;generalize upd H2 fA (.lst [])=H3 at *;have hl2:=s12 _ _ hl;have hL2:=hL.same s12;refine⟨_,rfl,l,rfl,⟨_,Zt.of (s3 _ _ hl2)⟩,Zbd (K:=K) (a:=l) (xs:=xs) (fun i σ G=>∃(v5 v6 v7 v8:QI),σ = [some (.ref l),some (.int sc),some (.ref p),some (.ref R),some (.ref fA),v5,v6,v7,v8]/\Zi H2 G/\G fA=some (.lst ((dfs g ls (Ya ls GV i)).map V.int)))
   ⟨none,none,none,none,rfl,s3,e3⟩ (fun i σ G _ ⟨_,_,_,_,_,sm,_⟩=>Zt.of (sm l _ hl2)) ?_ ?_⟩
  ·rintro i x pa σ G hx ⟨v5,v6,v7,v8,rfl,sm,eF⟩ hp;obtain⟨⟨qx,qk⟩,ta,hq,rfl,hta⟩:=hL2.get hx;have hi:i<ls.length:=(kI.mp hq).1;have sp:Zi G (upd G pa (.tup [.int i,.ref ta])):=Zi.laid hp;have epa:(upd G pa (.tup [.int i,.ref ta])) pa=some (.tup [.int i,.ref ta]):=Zc;generalize upd G pa (.tup [.int i,.ref ta])=G0 at *;have sg0:=sm.trans sp;have eF0:=sp _ _ eF;have hta':=sg0 ta _ hta;have short:((dfs g ls (Ya ls GV i)).map V.int).length<sizeLine:=by
    rw[ke];unfold dfs;rw[ke];have:=J2 ls GV i;exact Zy (by lia)
   refine⟨pa,_,rfl,YJ.of epa,rfl,_,_,rfl,_,_,rfl,rfl,?_⟩;refine⟨_,rfl,ta,_,_,_,rfl,rfl,YJ.of hta',Zn (j:=0) rfl,rfl,_,rfl,?_⟩;refine ZY (fun hc=>?_) (fun hc=>?_)
   ·have e:qx = "cross" := V.str.inj (kO hc);subst e;have nb:(("cross" : Str),qk).1 ≠ "born" := show ("cross" : Str) ≠ "born" by decide +kernel
    obtain⟨k0,k1,pe⟩:=Zfl hW hq nb;have dm:=ZgV hW hq nb;have sn:=Zf1 (g:=g) hq nb;obtain⟨kn,rfl⟩:=kT (show 0<=qk from k0);simp only[kX] at k1 pe;obtain⟨ra,hra,hrr⟩:=rv.at (Zax ls (i:=i) (n:=ls.length+1) (by lia));obtain⟨u,hu⟩:∃u,u=(rowAt ls i).getD kn 0:=⟨_,rfl⟩;obtain⟨w',hw⟩:∃w',w'=(rowAt ls i).getD (kn+1) 0:=⟨_,rfl⟩;rw[<- hu,<- hw] at pe;rw[pe] at dm sn;refine⟨_,rfl,_,rfl,R,_,_,_,rfl,rfl,Zt.of (sg0 R _ eR),Zn hra,_,rfl,ta,_,_,_,rfl,rfl,YJ.of hta',Zn (j:=1) rfl,_,rfl,_,rfl,ta,_,_,_,rfl,rfl,YJ.of hta',Zn (j:=1) rfl,_,_,rfl,rfl,_,rfl,ra,_,rfl,Zt.of (sg0 ra _ hrr),fun cA hcA=>?_⟩;rw[Zer k1,<- hu,<- hw];have s4:Zi G0 (upd G0 cA (.lst [.int u,.int w'])):=Zi.laid hcA;have e4:(upd G0 cA (.lst [.int u,.int w'])) cA=some (.lst [.int u,.int w']):=Zc;generalize upd G0 cA (.lst [.int u,.int w'])=G1 at *;refine⟨cA,_,rfl,Zt.of e4,rfl,_,_,rfl,_,_,rfl,rfl,?_⟩;have ep1:=s4 _ _ (sg0 _ _ (s2 _ _ ep));have eF1:=s4 _ _ eF0;refine⟨_,rfl,.inl ⟨rfl,_,Zt.of eF1⟩,_,rfl,_,rfl,p,_,_,_,rfl,rfl,Zt.of ep1,Zaz g dm.1.1 dm.1.2,_,rfl,_,rfl,p,_,_,_,rfl,rfl,Zt.of ep1,Zaz g dm.2.1 dm.2.2,_,_,rfl,rfl,fA,_,_,rfl,rfl,eF1,short,?_⟩;refine⟨_,_,_,_,rfl,(sg0.trans s4).put hfA,?_⟩;rw[Zc,sn]
   ·have nc:¬qx = "cross" := fun z=>hc (kM (Ky V.str z));refine⟨_,rfl,ta,_,_,_,rfl,rfl,YJ.of hta',Zn (j:=0) rfl,rfl,_,rfl,?_⟩;refine ZY (fun hc2=>?_) (fun hc2=>?_)
    ·have e:qx = "end" := V.str.inj (kO hc2);subst e;have nb:(("end" : Str),qk).1 ≠ "born" := show ("end" : Str) ≠ "born" by decide +kernel
     have sn:=Zf1 (g:=g) hq nb;rw[hg.atEnd hsc hW hq rfl] at sn;refine⟨_,rfl,.inl ⟨rfl,_,Zt.of eF0⟩,_,rfl,_,_,rfl,rfl,fA,_,_,rfl,rfl,eF0,short,?_⟩;refine⟨_,_,_,_,rfl,sg0.put hfA,?_⟩;rw[Zc,sn]
    ·have ne2:¬qx = "end" := fun z=>hc2 (kM (Ky V.str z));have b:qx = "born" := by
      rcases hW.kd _ (k9 hq) with z | z | z
      ·exact z
      ·exact absurd z nc
      ·exact absurd z ne2
     refine⟨_,_,_,_,rfl,sg0,?_⟩;rw[eF0,Zjh hq b]
  ·rintro σ G ⟨v5,v6,v7,v8,rfl,sm,eF⟩;rw[hxl] at eF;exact⟨_,rfl,k _ G (s12.trans sm) (.inl ⟨fA,g,hg,rfl,fH,eF⟩)⟩
def Zhs:Sp:=fun vs H Q _=>∃(b:Addr)(n:Int),vs = [.ref b,.int n]/\Bag H b/\2<=n/\n<=12 /\ ∀(l:Addr)(H':Hp)(ls:QB),H l=none->Bag H' b->YK b H H'->Drw H' l ls->nX ls<=13->Q (.ref l) H'
theorem ZfZ {H:Hp}{t:Addr}{q:Str×Int}(h:H t=some (.tup [.str q.1,.int q.2])):∀n:Nat,ZD H (List.replicate n (V.ref t)) (List.replicate n q)
 | 0=>.nil
 | n+1=>.cons ⟨t,rfl,h⟩ (ZfZ h n)
theorem Zn4 (n:Nat)(k:Int):nX (List.replicate n ((("cross" : Str),k):Str×Int))=n:=by unfold nX;rw[List.countP_replicate,kj (by show decide (("cross" : Str)=("cross" : Str))=true;decide)]
abbrev UH:Stmt:=top 45
theorem JF:ZA ["_law_bag_here", "_law_most", "_law_way", "_law_letters", "_law_turn"] ["_law_bag_here", "_law_most"] (Zj UH):={}
theorem Zk6 {f:Addr}{fd:FuncData}(F:WC K "_law_front" "_law_front" UH f fd)(Zu:JM P w K mg base 1 "_law_take" ["_law_bag_here", "_law_many"] Zb0)(ZaN:JM P w K mg base 3 "_law_any" ["_law_bag_here", "_law_most"] Zfo)(JP:JM P w K mg base 2 "_law_plat" ["_law_bag_here", "_law_most"] Zfo)
  (GI:JM P w K mg base 2 "_law_curled" ["_law_bag_here", "_law_letters", "_law_most"] Zh9) (Z8:mg "range" = none) (Yr:mg "len" = none) (Gy:mg "max" = none) (ZaJ:mg "min" = none):
  Yi P w K mg base WH 4 f fd ["_law_bag_here", "_law_most"] Zhs:=by
 refine F.ok JF (fun vs H Q E h=>?_) (fun cdv A outer s H vs Q E hr h=>?_)
 ·obtain⟨b,n,rfl,_⟩:=h;rfl
 ·obtain⟨b,n,rfl,hbag,n2,n12,k⟩:=h;refine⟨_,(Zd (Zm (i:=2) JF.nd rfl (.inl rfl) (Zq Zu hr (Za (pv 0) (Za Ze Zb))))
   (Zd (Z9 (Zr Ym (pv 2) Ze (Zp _)) (Zg (Zz (Zq ZaN hr (Za (pv 0) (Za (pv 1) Zb))))) ZN)
   (Zd (Z9 (Zr Ym (pv 2) Ze (Zp _)) (Zg (Zz (Zq JP hr (Za (pv 0) (Za (pv 1) Zb))))) ZN)
   (Zd (Zm (i:=3) JF.nd rfl (.inl rfl) (Zk Gj (ZH (Za (ZC (Za ZG (Za Ze Zb))) (Za (ZC (Za ZG (Za Ze Zb))) Zb))) (Zk ZaM (ZH (Za (ZC (Za ZG (Za Ze Zb))) Zb)) (Zk Zx Ze (Zq Zu hr (Za (pv 0) (Za (pv 1) Zb)))))))
   (Zd (Z9 (Zr Ym (pv 2) Ze (Zp _)) (Zd (Zm (i:=3) JF.nd rfl (.inl rfl) (ZH (Za (ZC (Za ZG (Za Ze Zb))) (Za (ZC (Za ZG (Za Ze Zb))) (Za (ZC (Za ZG (Za Ze Zb))) Zb)))))
   (Zd (Yj Kj rfl (Y0 (by rfl) Z8 (Za (Zk Zx Ze (Zq Zu hr (Za (pv 0) (Za (Zv (W4 rfl) (by rfl) Gy MR (Za Ze (Za (Zk YN (pv 1) Ze) Zb))) Zb)))) Zb)) (Zl (i:=4) JF.nd rfl (.inl rfl)) (Zg (Ye (Yh (K:=K) rfl (YT kY Kf Kg ZW (pv 3) (Za (ZC (Za ZG (Za (Zw (Zs (K:=K) rfl) (ZH (Za Ze (Za Ze (Za Ze Zb)))) (Zk Gh (Zq Zu hr (Za (pv 0) (Za Ze Zb))) Ze) (fun _ _=>rfl)) Zb))) Zb))))))
   (Zg (Zz (Zk Gj (pv 3) (ZH (Za (ZC (Za ZG (Za Ze Zb))) (Za (ZC (Za ZG (Za Ze Zb))) (Za (ZC (Za ZG (Za Ze Zb))) Zb))))))))) ZN)
   (Zg (Zz (Zq GI hr (Za (pv 0) (Za (Zk Gj (pv 3) (ZH (Za (ZC (Za ZG (Za Ze Zb))) (Za (ZC (Za ZG (Za Ze Zb))) Zb)))) (Za (Zv (W4 rfl) (by rfl) Gy MR (Za Ze (Za (Zv (ZaB rfl) (by rfl) ZaJ boot_min (Za Ze (Za (Zk YN Ze (Zv (Ys (K:=K) rfl) (by rfl) Yr qd (Za (pv 3) Zb))) Zb))) Zb))) Zb))))))))))),?_⟩
  have nb:∀{c:Addr},H c=none->c≠b:=fun {c} h z=>by obtain⟨_,_,_,e⟩:=hbag;rw[z,e] at h;cases h
  refine⟨_,rfl,b,5,rfl,hbag,by decide,by decide,fun wy H1 w0 w1 bg1 f1=>?_⟩;refine⟨_,rfl,rfl,_,rfl,ZY (fun _=>?_) (fun _=>?_)⟩
  ·exact⟨_,rfl,_,rfl,b,n,rfl,bg1,by lia,by lia,fun l H2 ls hl bg2 f2 dr nx=>k l H2 ls (f1.free bg1 hl) bg2 (f1.trans f2) dr (by lia)⟩
  refine⟨_,rfl,rfl,_,rfl,ZY (fun _=>?_) (fun _=>?_)⟩
  ·exact⟨_,rfl,_,rfl,b,n,rfl,bg1,by lia,by lia,fun l H2 ls hl bg2 f2 dr nx=>k l H2 ls (f1.free bg1 hl) bg2 (f1.trans f2) dr (by lia)⟩
  refine⟨sz2,fun t1 h1=>?_⟩;refine lay2 (o:=.tup [.str "born", .int 0]) h1 fun X1 a1 b1=>?_;refine⟨sz2,fun t2 h2=>?_⟩;refine lay2 (o:=.tup [.str "born", .int 2]) h2 fun X2 a2 b2=>?_;refine⟨sz2,fun c1 h3=>?_⟩;refine lay2 (o:=.lst [.ref t1,.ref t2]) h3 fun X3 a3 b3=>?_;refine⟨sz2,fun t3 h4=>?_⟩;refine lay2 (o:=.tup [.str "cross", .int 1]) h4 fun X4 a4 b4=>?_;refine⟨sz1,fun c2 h5=>?_⟩;refine lay2 (o:=.lst [.ref t3]) h5 fun X5 a5 b5=>?_;have s15:=(((a1.trans a2).trans a3).trans a4).trans a5;have bg5:=Yt s15 bg1;have nb5:∀{c:Addr}{G:Hp},Bag G b->G c=none->c≠b:=fun {c G} h e z=>by obtain⟨_,_,_,q⟩:=h;rw[z,q] at e;cases e
  have n1:c1≠b:=nb5 (Yt (a1.trans a2) bg1) h3;have n2':c2≠b:=nb5 (Yt (((a1.trans a2).trans a3).trans a4) bg1) h5;have L3:ZD X5 [.ref t1,.ref t2] [("born", 0),("born", 2)]:=.cons ⟨t1,rfl,a5 _ _ (a4 _ _ (a3 _ _ (a2 _ _ b1)))⟩ (.cons ⟨t2,rfl,a5 _ _ (a4 _ _ (a3 _ _ b2))⟩ .nil);have L4:∀m:Nat,ZD X5 (List.replicate m (V.ref t3)) (List.replicate m ((("cross" : Str),1):Str×Int)):=fun m=>ZfZ (a5 _ _ b4) m;refine⟨_,rfl,_,rfl,b,n,rfl,bg5,by lia,by lia,fun d H2 d0 d1 bg2 f2=>⟨_,_,rfl,rfl,?_⟩⟩;obtain⟨mm,hmm⟩:∃mm:Nat,mm=(1+d).toNat:=⟨_,rfl⟩;refine⟨c2,_,_,rfl,rfl,f2 _ _ b5 n2',by lia,by lia,(by rw[<- hmm,Kn];simp;lia),fun c3 h6=>?_⟩;rw[<- hmm,List.flatten_replicate_singleton];refine lay2 (o:=.lst (List.replicate mm (V.ref t3))) h6 fun X6 a6 b6=>?_;refine⟨c1,c3,_,_,rfl,rfl,a6 _ _ (f2 _ _ (a5 _ _ (a4 _ _ b3)) n1),b6,(by rw[K0,Kn];show 2+mm<=_;lia),fun c4 h7=>?_⟩;obtain⟨X7,z,a7,b7⟩:=lay (o:=.lst ([.ref t1,.ref t2]++List.replicate mm (V.ref t3))) h7;rw[z];clear z;have s27:=a6.trans a7;have bg7:=Yt s27 bg2;have f17:YK b H X7:=((f1.trans s15.frm).trans f2).trans s27.frm;have L7:ZD X7 ([.ref t1,.ref t2]++List.replicate mm (V.ref t3)) (([("born", 0),("born", 2)]:QB)++List.replicate mm ((("cross" : Str),1):Str×Int)):=((L3.frm f2 bg5).append ((L4 mm).frm f2 bg5)).same s27;refine⟨_,rfl,rfl,_,rfl,ZY (fun _=>?_) (fun _=>?_)⟩
  ·refine⟨sz2,fun u1 e1=>?_⟩;refine lay2 (o:=.tup [.str "born", .int 0]) e1 fun Y1 g1 j1=>?_;refine⟨sz2,fun u2 e2=>?_⟩;refine lay2 (o:=.tup [.str "born", .int 2]) e2 fun Y2 g2 j2=>?_;refine⟨sz2,fun u3 e3=>?_⟩;refine lay2 (o:=.tup [.str "born", .int 4]) e3 fun Y3 g3 j3=>?_;refine⟨sz3,fun l e4=>?_⟩;refine lay2 (o:=.lst [.ref u1,.ref u2,.ref u3]) e4 fun Y4 g4 j4=>?_;have sY:=((g1.trans g2).trans g3).trans g4;have bgY:=Yt sY bg7;have fl:H l=none:=f17.free bg7 (((g1.trans g2).trans g3).free e4);have hlb:=nb fl;have LY:ZD Y4 [.ref u1,.ref u2,.ref u3] [("born", 0),("born", 2),("born", 4)]:=.cons ⟨u1,rfl,g4 _ _ (g3 _ _ (g2 _ _ j1))⟩ (.cons ⟨u2,rfl,g4 _ _ (g3 _ _ j2)⟩ (.cons ⟨u3,rfl,g4 _ _ j3⟩ .nil));have WY:Wk [("born", 0),("born", 2),("born", 4)] 6:=Wk.born (k:=4) (Wk.born (k:=2) (Wk.born (k:=0) .nil (by decide) (by decide)) (by decide) (by decide)) (by decide) (by decide);refine⟨_,rfl,_,rfl,_,_,rfl,rfl,_,_,rfl,b,_,rfl,bgY,(by split<;>lia),(by split<;>lia),fun d2 H3 d20 d21 bg3 f3=>⟨_,_,rfl,rfl,?_⟩⟩;have d2n:d2<=11:=by revert d21;split<;>lia
   refine⟨_,rfl,by lia,by lia,JQ (n:=(2+d2).toNat) (fun i σ G=>∃(xs:QH)(ls:QB)(v4:QI),σ = [some (.ref b),some (.int n),some (.int wy),some (.ref l),v4]/\Bag G b/\YK b H G/\G l=some (.lst xs)/\ZD G xs ls/\Wk ls 6/\ls.length<=3+i/\nX ls<=i)
    ⟨_,_,_,rfl,bg3,(f17.trans sY.frm).trans f3,f3 _ _ j4 hlb,LY.frm f3 bgY,WY,ki _,ki _⟩ ?_ ?_⟩
   ·rintro i σ G hi ⟨xs,ls,v4,rfl,bg,fr4,hG,hL,hW,hlen,hx⟩;have hxl:=hL.len;refine⟨_,rfl,.inl ⟨rfl,_,Zt.of hG⟩,sz3,fun q1 hq1=>?_⟩;refine lay2 (o:=.lst [.int 1,.int 3,.int 2]) hq1 fun Z1 r1 o1=>?_;have bgZ:=Yt r1 bg;refine⟨_,rfl,b,7,rfl,bgZ,by decide,by decide,fun e Z2 e0 e1' bgZ2 fZ=>⟨_,_,rfl,rfl,(by show (0:Int)<3;decide),?_⟩⟩;have nq:q1≠b:=nb5 bg hq1;obtain⟨jj,hjj⟩:∃jj:Nat,e % 3=(jj:Int):=⟨(e % 3).toNat,by lia⟩;have jj3:jj<3:=by lia
    dsimp only;rw[hjj];obtain⟨kk,hkk,k0,k4⟩:∃kk:Int,([V.int 1,.int 3,.int 2]:QH)[jj]? = some (.int kk)/\0<=kk/\kk<=4:=by
     match jj,jj3 with
     | 0,_=>exact⟨_,rfl,by decide,by decide⟩
     | 1,_=>exact⟨_,rfl,by decide,by decide⟩
     | 2,_=>exact⟨_,rfl,by decide,by decide⟩
    refine⟨q1,_,_,_,rfl,rfl,Zt.of (fZ _ _ o1 nq),Zn hkk,sz2,fun t ht=>?_⟩;obtain⟨c1',c2',c3',c4',c5'⟩:=Wx "cross" kk (fr4.trans r1.frm) bgZ (r1 _ _ hG) (hL.same r1) hlb fl fZ bgZ2 ht;refine⟨l,_,_,rfl,rfl,c1',Zy (by lia),?_⟩;exact⟨xs ++ [.ref t],ls ++ [((("cross" : Str),kk):Str×Int)],_,rfl,c2',c3',c4',c5',Wk.cross hW k0 (by lia),by rw[kg,Ks];lia,by rw[UZ];lia⟩
   ·rintro σ G ⟨xs,ls,v4,rfl,bg,fr4,hG,hL,hW,hlen,hx⟩;have hxl:=hL.len;refine⟨_,rfl,sz2,fun w1' e1'=>?_⟩;refine lay2 (o:=.tup [.str "end", .int 0]) e1' fun Z1 r1 o1=>?_;refine⟨sz2,fun w2' e2'=>?_⟩;refine lay2 (o:=.tup [.str "end", .int 0]) e2' fun Z2 r2 o2=>?_;refine⟨sz2,fun w3' e3'=>?_⟩;refine lay2 (o:=.tup [.str "end", .int 0]) e3' fun Z3 r3 o3=>?_;refine⟨sz3,fun w4' e4'=>?_⟩;refine lay2 (o:=.lst [.ref w1',.ref w2',.ref w3']) e4' fun Z4 r4 o4=>?_;have sZ:=((r1.trans r2).trans r3).trans r4;refine⟨l,w4',_,_,rfl,rfl,sZ _ _ hG,o4,(by rw[hxl,Kn];show ls.length+3<=_;lia),fun w5 e5=>?_⟩;obtain⟨Z5,z,r5,o5⟩:=lay (o:=.lst (xs ++ [.ref w1',.ref w2',.ref w3'])) e5;rw[z];clear z;have sZ5:=sZ.trans r5;have LE:ZD Z5 [.ref w1',.ref w2',.ref w3'] (List.replicate 3 ((("end" : Str),0):Str×Int)):=.cons ⟨w1',rfl,r5 _ _ (r4 _ _ (r3 _ _ (r2 _ _ o1)))⟩ (.cons ⟨w2',rfl,r5 _ _ (r4 _ _ (r3 _ _ o2))⟩ (.cons ⟨w3',rfl,r5 _ _ (r4 _ _ o3)⟩ .nil));refine k w5 Z5 (ls++List.replicate 3 ((("end" : Str),0):Str×Int)) (fr4.free bg (sZ.free e5)) (Yt sZ5 bg) (fr4.trans sZ5.frm) ⟨_,o5,(hL.same sZ5).append LE,?_,?_⟩ ?_
    ·have:=Zct 3 hW 3 (ki _);simpa using this
    ·rw[kg,K0];lia
    ·rw[Ge];have:nX (List.replicate 3 ((("end" : Str),0):Str×Int))=0:=rfl;lia
  ·refine⟨_,rfl,_,rfl,sz2,fun w1' e1'=>?_⟩;refine lay2 (o:=.tup [.str "end", .int 0]) e1' fun Z1 r1 o1=>?_;refine⟨sz2,fun w2' e2'=>?_⟩;refine lay2 (o:=.tup [.str "end", .int 0]) e2' fun Z2 r2 o2=>?_;refine⟨sz2,fun w4' e4'=>?_⟩;refine lay2 (o:=.lst [.ref w1',.ref w2']) e4' fun Z4 r4 o4=>?_;have sZ:=(r1.trans r2).trans r4;have l7:([V.ref t1,.ref t2]++List.replicate mm (V.ref t3)).length=2+mm:=by rw[kg,K0];rfl
   refine⟨c4,w4',_,_,rfl,rfl,sZ _ _ b7,o4,(by rw[l7,Kn];show 2+mm+2<=_;lia),fun w5 e5=>?_⟩;obtain⟨Z5,z,r5,o5⟩:=lay (o:=.lst ([.ref t1,.ref t2]++List.replicate mm (V.ref t3) ++ [.ref w1',.ref w2'])) e5;rw[z];clear z;have sZ5:=sZ.trans r5;have LE:ZD Z5 [.ref w1',.ref w2'] (List.replicate 2 ((("end" : Str),0):Str×Int)):=.cons ⟨w1',rfl,r5 _ _ (r4 _ _ (r2 _ _ o1))⟩ (.cons ⟨w2',rfl,r5 _ _ (r4 _ _ o2)⟩ .nil);have bgZ:=Yt sZ5 bg7;have f0:H w5=none:=f17.free bg7 (sZ.free e5);have WX:∀m:Nat,Wk (([("born", 0),("born", 2)]:QB)++List.replicate m ((("cross" : Str),1):Str×Int)) 4:=fun m=>by
    induction m with
    | zero=>exact Wk.born (k:=2) (Wk.born (k:=0) .nil (by decide) (by decide)) (by decide) (by decide)
    | succ m ih=>rw[qS,<- kJ];exact Wk.cross ih (by decide) (by decide)
   refine⟨_,rfl,c4,_,rfl,.inl (Zt.of (sZ5 _ _ b7)),_,_,rfl,rfl,_,_,rfl,_,_,rfl,?_⟩;rw[l7];refine⟨b,w5,_,([("born", 0),("born", 2)]:QB)++List.replicate mm ((("cross" : Str),1):Str×Int)++List.replicate 2 ((("end" : Str),0):Str×Int),rfl,bgZ,⟨_,o5,(L7.same sZ5).append LE,?_,?_⟩,nb f0,?_,?_,?_,?_,fun l G ls hl bg fr dr nx=>k l G ls ((f17.trans sZ5.frm).free bgZ hl) bg ((f17.trans sZ5.frm).trans fr) dr nx⟩
   ·have:=Zct 2 (WX mm) 2 (ki _);simpa using this
   ·rw[kg,kg,K0,K0];show 2+mm+2<=60;lia
   ·rw[kg,kg,K0,K0];show 2+mm+2<=40;lia
   ·rw[Ge,Ge,Zn4];have e1:nX (List.replicate 2 ((("end" : Str),0):Str×Int))=0:=rfl;have e2:nX ([("born", 0),("born", 2)]:QB)=0:=rfl;lia
   ·split<;>(try split)<;>lia
   ·split<;>(try split)<;>lia
def ZfE:Sp:=fun vs H Q _=>∃(l:Addr)(ls:QB),vs = [.ref l]/\Drw H l ls /\ ∀(p:Addr)(H':Hp)(scs:QG),Zi H H'->H p=none->H' p=some (.lst (scs.map V.int))->scs.length<=2->(∀sc∈scs,(sc=0∨sc=1) /\ ∃g,HG sc ls g)->Q (.ref p) H'
abbrev Wr:Stmt:=top 46
theorem ZcL:ZA ["_law_drawing_here"] ["_law_drawing_here"] (Zj Wr):={}
theorem ZiD {f:Addr}{fd:FuncData}(F:WC K "_law_scales" "_law_scales" Wr f fd)(Yk:JM P w K mg base 4 "_law_name_heights" ["_law_drawing_here", "_law_scale"] ZiX):Yi P w K mg base WH 5 f fd ["_law_drawing_here"] ZfE:=by
 refine F.ok ZcL (fun vs H Q E h=>?_) (fun cdv A outer s H vs Q E hr h=>?_)
 ·obtain⟨l,ls,rfl,_⟩:=h;rfl
 ·obtain⟨l,ls,rfl,⟨xs,hl,hL,hW,hlen⟩,k⟩:=h;refine⟨_,(Zg (Zz (Ga (Ls:=["_law_scale"]) (Fs:=["_law_drawing_here"]) (fi:=[0]) (ZZ.of (show YC ["_law_drawing_here"] (Zj Wr) _ ["_law_drawing_here"] [0]=true by decide +kernel)) rfl (ZT (K:=K) rfl (ZH (Za Ze (Za Ze Zb)))) (fun cl C s3 H3 ex=>⟨(Zl (i:=0) (show ((["_law_scale"]:QP)++(["_law_drawing_here"]:QP)).Nodup by decide +kernel) rfl (.inl rfl)),(Za4 (Zr Zeg (Zq Yk hr (Za (pv 1) (Za (pv 0) Zb))) Uq (Zp _))),(pv 0)⟩)))),?_⟩;refine⟨sz2,fun D hD=>?_⟩;refine lay2 (o:=.lst [.int 0,.int 1]) hD fun G0 s0 e0=>?_;refine⟨D,rfl,⟨_,Zt.of e0⟩,Ja (K:=K) (a:=D) (xs:=[.int 0,.int 1]) sz2 (fun i zs G=>Zi G0 G /\ ∃scs:QG,zs=scs.map V.int/\scs.length<=i /\ ∀sc∈scs,(sc=0∨sc=1) /\ ∃g,HG sc ls g) ⟨Zi.refl _,[],rfl,ki _,fun _ h=>(nomatch h)⟩
   (fun i zs G ⟨_,scs,e,l,_⟩=>by rw[e,ke];exact l) (fun i zs G x=>Zt.of (x.1 _ _ e0)) (fun i y zs G hy x=>?_) (fun zs G x p hp=>?_)⟩
  ·obtain⟨sG,scs,rfl,ln,al⟩:=x;obtain⟨sc,rfl,hsc⟩:∃sc:Int,y = .int sc/\(sc=0∨sc=1):=by
    match i,hy with
    | 0,h=>exact⟨0,(Kb h).symm,.inl rfl⟩
    | 1,h=>exact⟨1,(Kb h).symm,.inr rfl⟩
   have s2:=s0.trans sG;refine⟨_,rfl,_,rfl,l,sc,xs,ls,rfl,hsc,s2 _ _ hl,hL.same s2,hlen,hW,fun v G' s' lv=>⟨rfl,_,rfl,?_⟩⟩;rcases lv with⟨p,g,hg,rfl,_,_⟩ | ⟨rfl,_,_⟩
   ·refine ZaY ⟨_,rfl,sG.trans s',scs ++ [sc],by simp,by rw[kg];show _+1<=_;lia,fun x hx=>?_⟩;rcases KC.mp hx with h | h
    ·exact al x h
    ·rw[k7.mp h];exact⟨hsc,g,hg⟩
   ·exact W8 ⟨sG.trans s',scs,rfl,by lia,al⟩
  ·obtain⟨sG,scs,rfl,ln,al⟩:=x;exact k p _ scs (s0.trans (sG.step hp)) (s0.free (sG.free hp)) Zc ln al
theorem HG.told {sc:Int}{ls:QB}{g:QX}{H H':Hp}{v:V}(h:HG sc ls g)(lv:lnV sc ls H H' v):∃p,v = .ref p/\H p=none/\H' p=some (.lst ((dfs g ls (Ya ls GV ls.length)).map V.int)):=by
 rcases lv with⟨p,g',hg,rfl,fp,e⟩ | ⟨_,ne,ts,tr,z⟩
 ·have:=h.uniq hg;subst this;exact⟨p,rfl,fp,e⟩
 ·exfalso;rcases h with⟨e,_⟩ | ⟨_,T,L,tr',t0,_⟩
  ·exact ne e
  ·have:=tr.uniq tr';rw[this] at z;exact z (by rw[LA,t0])
def Zdr (ls:QB)(i m:Nat):QG:=(List.range' i m).filterMap fun i=>if UW ls GV i=true then some (i:Int) else none
theorem Zd9 (ls:QB)(i m:Nat):Zdr ls i (m+1)=(if UW ls GV i=true then[(i:Int)] else[])++Zdr ls (i+1) m:=by
 unfold Zdr;rw[List.range'_succ,qY];split
 ·rename_i h
  split at h
  ·cases h
  ·rename_i q;rw[kh q];rfl
 ·rename_i h
  split at h
  ·rename_i q;cases h;rw[kj q];rfl
  ·cases h
def GB (g:QX)(ls:QB)(i:Nat):QW:=if UW ls GV i=true then some (g (Jo ls i).1-g (Jo ls i).2) else none
def oI:Option Int->V
 | some i=>.int i
 | none=>.non
def lhL (g:QX)(ls:QB)(n:Nat):QH:=(List.range n).map fun i=>oI (GB g ls i)
def Zgk:Sp:=fun vs H Q _=>∃(l:Addr)(sc:Int)(ls:QB)(g:QX),vs = [.ref l,.int sc]/\(sc=0∨sc=1)/\Drw H l ls/\HG sc ls g /\ ∀(p:Addr)(H':Hp),Zi H H'->H p=none->H' p=some (.lst (lhL g ls ls.length))->Q (.ref p) H'
abbrev Jj:Stmt:=top 47
theorem YE:ZA ["_law_drawing_here", "_law_scale", "_law_known", "_law_found", "_law_letter"] ["_law_drawing_here", "_law_scale"] (Zj Jj):={}
theorem ZlQ {f:Addr}{fd:FuncData}(F:WC K "_law_letter_heights" "_law_letter_heights" Jj f fd)(Yk:JM P w K mg base 4 "_law_name_heights" ["_law_drawing_here", "_law_scale"] ZiX)(Yf:mg "list" = none):Yi P w K mg base WH 5 f fd ["_law_drawing_here", "_law_scale"] Zgk:=by
 refine F.ok YE (fun vs H Q E h=>?_) (fun cdv A outer s H vs Q E hr h=>?_)
 ·obtain⟨l,sc,ls,g,rfl,_⟩:=h;rfl
 ·obtain⟨l,sc,ls,g,rfl,hsc,⟨xs,hl,hL,hW,hlen⟩,hg,k⟩:=h;refine⟨_,(Zd (Zm (i:=2) YE.nd rfl (.inl rfl) (Z0 (Jc (K:=K) rfl) (by rfl) Yf XN (Za (Zq Yk hr (Za (pv 0) (Za (pv 1) Zb))) Zb)))
   (Zd (Zm (i:=3) YE.nd rfl (.inl rfl) (ZH Zb))
   (Zd (Yj Kj rfl (ZT (K:=K) rfl (pv 0)) (Zl (i:=4) YE.nd rfl (.inl rfl)) (Zg (Z9 (Zr Ym (Zw (ZL (K:=K) rfl) (pv 4) Ze (fun _ _=>rfl)) ZG (Zp _)) (Zg (Ye (Yh (K:=K) rfl (YT kY Kf Kg ZW (pv 3) (Za Uq Zb))))) (Zg (Ye (Yh (K:=K) rfl (YT kY Kf Kg ZW (pv 3) (Za (Yh (K:=K) rfl (YT kY TN TQ ZcX (pv 2) (Za Ze Zb))) Zb))))))))
   (Zg (Zz (pv 3)))))),?_⟩
  refine⟨_,rfl,_,rfl,l,sc,xs,ls,rfl,hsc,hl,hL,hlen,hW,fun v H1 s1 lv=>?_⟩;obtain⟨p,rfl,fp,ep⟩:=hg.told lv;refine⟨p,_,rfl,.inl (Zt.of ep),fun kn hkn=>?_⟩;refine lay2 (o:=.lst ((dfs g ls (Ya ls GV ls.length)).map V.int)) hkn fun H2 s2 e2=>?_;refine⟨sz0,fun q hq=>?_⟩;refine lay2 (o:=.lst []) hq fun H3 s3 e3=>?_;have s03:=(s1.trans s2).trans s3;have fk:H kn=none:=s1.free hkn;have fq:H q=none:=(s1.trans s2).free hq;have kq:kn≠q:=Zf e2 hq;have hxl:=hL.len;have e0:(dfs g ls (Ya ls GV ls.length))=dfs g ls (Zdr ls 0 (ls.length-0)):=by unfold Ya Zdr;rw[List.range_eq_range',L5]
  rw[e0] at e2;refine⟨_,rfl,l,rfl,⟨_,Zt.of (s03 _ _ hl)⟩,JG (K:=K) (a:=l) (xs:=xs) (fun i σ G=>∃v4:QI,σ = [some (.ref l),some (.int sc),some (.ref kn),some (.ref q),v4]/\Zi H G/\G kn=some (.lst ((dfs g ls (Zdr ls i (ls.length-i))).map V.int))/\G q=some (.lst (lhL g ls i))) ⟨_,rfl,s03,s3 _ _ e2,e3⟩ (fun i σ G _ ⟨_,_,s,_⟩=>Zt.of (s _ _ hl)) ?_ ?_⟩
  ·rintro i x σ G hx ⟨v4,rfl,sG,ek,eq⟩;obtain⟨pq,ta,hp,rfl,hta⟩:=(hL.same sG).get hx;have hi:i<ls.length:=(kI.mp hp).1;have kk:=Wn hp (pr:=GV);have lq:(lhL g ls i).length=i:=by simp[lhL]
   have em:ls.length-i=(ls.length-(i+1))+1:=by lia
   have putq:∀{G':Hp}{o:HO},Zi H G'->Zi H (upd G' q o):=fun s c o e=>by rw[Zh (Zf e fq)];exact s c o e
   have putk:∀{G':Hp}{o:HO},Zi H G'->Zi H (upd G' kn o):=fun s c o e=>by rw[Zh (Zf e fk)];exact s c o e
   refine⟨_,rfl,ta,_,_,_,rfl,rfl,YJ.of hta,Zn (j:=0) rfl,rfl,_,rfl,ZY (fun hb=>?_) (fun hb=>?_)⟩
   ·have eb:pq.1 = "born" := by
     have:=kO hb;injection this
    have kf:UW ls GV i=false:=by rw[kk,eb];decide
    refine⟨_,rfl,.inl ⟨rfl,_,Zt.of eq⟩,q,_,_,rfl,rfl,eq,(by rw[lq,Kn];lia),?_⟩;refine⟨_,rfl,putq sG,?_,?_⟩
    ·rw[Zh kq,ek,em,Zd9,kf];rfl
    ·rw[Zc];unfold lhL;rw[K7,k6];show some (HO.lst (_ ++ [V.non]))=some (HO.lst (_ ++ [oI (GB g ls i)]));have:GB g ls i=none:=by unfold GB;rw[kf];rfl
     rw[this];rfl
   ·have kt:UW ls GV i=true:=by
     rw[kk];unfold GV;simp;intro z;rw[z] at hb;exact hb (kM rfl)
    have el:Zdr ls i (ls.length-i)=(i:Int)::Zdr ls (i+1) (ls.length-(i+1)):=by rw[em,Zd9,kt];rfl
    rw[el] at ek;have ek':G kn=some (.lst (V.int (g (Jo ls i).1-g (Jo ls i).2)::(dfs g ls (Zdr ls (i+1) (ls.length-(i+1)))).map V.int)):=by rw[ek];unfold dfs;rw[kH,kH];simp
    refine⟨_,rfl,.inl ⟨rfl,_,Zt.of eq⟩,_,rfl,.inl ⟨rfl,_,Zt.of ek'⟩,kn,_,0,0,_,rfl,rfl,ek',by decide,by decide,MD (by decide) (by simp),rfl,?_⟩;have eq2:(upd G kn (.lst (((V.int (g (Jo ls i).1-g (Jo ls i).2))::(dfs g ls (Zdr ls (i+1) (ls.length-(i+1)))).map V.int).eraseIdx 0))) q=some (.lst (lhL g ls i)):=by rw[Zh (Kz kq)];exact eq
    refine⟨q,_,_,rfl,rfl,eq2,(by rw[lq,Kn];lia),?_⟩;refine⟨_,rfl,putq (putk sG),?_,?_⟩
    ·rw[Zh kq,Zc];rfl
    ·rw[Zc];unfold lhL;rw[K7,k6];show some (HO.lst (_ ++ [V.int _]))=some (HO.lst (_ ++ [oI (GB g ls i)]));have:GB g ls i=some (g (Jo ls i).1-g (Jo ls i).2):=by unfold GB;rw[kt];rfl
     rw[this];rfl
  ·rintro σ G ⟨v4,rfl,sG,ek,eq⟩;rw[hxl] at eq;exact⟨_,rfl,k q G sG fq eq⟩
def PtL (ps:QG):Prop:=∀(i:Nat)(x:Int),ps[i]? = some x -> ∃j:Nat,x=(j:Int)/\ps[j]? = some (i:Int)/\j≠i
def upB (k:Nat)(x:Int):Int:=if x>=(k:Int) then x+2 else x
def dnE (k:Nat)(x:Int):Int:=if x>(k:Int) then x-2 else x
def GQ (k:Nat)(x:Int):Int:=if x=(k:Int) then(k:Int)+1 else if x=(k:Int)+1 then(k:Int) else x
def Zaf (ps:QG)(k:Nat):QG:=(ps.map (upB k)).take k ++ [(k:Int)+1,(k:Int)]++(ps.map (upB k)).drop k
def ZbY (ps:QG)(k:Nat):QG:=(ps.take k++ps.drop (k+2)).map (dnE k)
theorem ZjV (ps:QG)(k:Nat):(Zaf ps k).length=ps.length+2:=by unfold Zaf;simp;lia
theorem Zl5 {ps:QG}{k:Nat}(h:k+1<ps.length):(ZbY ps k).length+2=ps.length:=by unfold ZbY;simp;lia
theorem Zbx {ps:QG}{k:Nat}(hk:k<=ps.length)(i:Nat):(Zaf ps k)[i]? = if i<k then ps[i]?.map (upB k) else if i=k then some ((k:Int)+1) else if i=k+1 then some (k:Int) else ps[i-2]?.map (upB k):=by
 unfold Zaf;have l1:((ps.map (upB k)).take k).length=k:=by simp;lia
 by_cases h1:i<k
 ·rw[kj h1,kJ,KH (by lia),LB,kj h1,kE]
 ·rw[kh h1,kJ,Kh (by lia),l1];by_cases h2:i=k
  ·rw[kj h2,h2,XE];rfl
  ·rw[kh h2];by_cases h3:i=k+1
   ·rw[kj h3,h3,show k+1-k=1 by lia];rfl
   ·rw[kh h3,Kh (by show 2<=_;lia),LC,kE];congr 2;show k+(i-k-2)=i-2;lia
theorem PtL.born {ps:QG}{k:Nat}(h:PtL ps)(hk:k<=ps.length):PtL (Zaf ps k):=by
 intro i x e;rw[Zbx hk] at e;have old:∀(i':Nat)(y:Int),ps[i']? = some y -> ∃j:Nat,upB k y=(j:Int)/\(Zaf ps k)[j]? = some (upB k (i':Int))/\(j:Int)≠upB k (i':Int):=fun i' y e'=>by
  obtain⟨j,rfl,e2,ne⟩:=h i' y e';unfold upB;by_cases hj:k<=j
  ·refine⟨j+2,by rw[kj (by lia)];rfl,?_,?_⟩
   ·rw[Zbx hk,kh (by lia),kh (by lia),kh (by lia),Nat.add_sub_cancel,e2];rfl
   ·split<;>lia
  ·refine⟨j,by rw[kh (by lia)],?_,?_⟩
   ·rw[Zbx hk,kj (by lia),e2];rfl
   ·split<;>lia
 by_cases h1:i<k
 ·rw[kj h1] at e;obtain⟨y,e',rfl⟩:=Ka.mp e;obtain⟨j,a,b,c⟩:=old i y e';have:upB k (i:Int)=(i:Int):=by unfold upB;rw[kh (by lia)]
  rw[this] at b c;exact⟨j,a,b,by lia⟩
 rw[kh h1] at e;by_cases h2:i=k
 ·rw[kj h2] at e;injection e with e
  refine⟨k+1,by lia,?_,by lia⟩;rw[Zbx hk,kh (by lia),kh (by lia),kj rfl,h2]
 rw[kh h2] at e;by_cases h3:i=k+1
 ·rw[kj h3] at e;injection e with e
  refine⟨k,by lia,?_,by lia⟩;rw[Zbx hk,kh (by lia),kj rfl,h3];rfl
 rw[kh h3] at e;obtain⟨y,e',rfl⟩:=Ka.mp e;obtain⟨j,a,b,c⟩:=old (i-2) y e';have:upB k ((i-2:Nat):Int)=(i:Int):=by unfold upB;rw[kj (by lia)];lia
 rw[this] at b c;exact⟨j,a,b,by lia⟩
theorem ZgP {ps:QG}{k:Nat}(hk:k+1<ps.length)(i:Nat):(ZbY ps k)[i]? = (if i<k then ps[i]? else ps[i+2]?).map (dnE k):=by
 unfold ZbY;rw[kE];congr 1;by_cases h1:i<k
 ·rw[kj h1,KH (by simp;lia),LB,kj h1]
 ·rw[kh h1,Kh (by simp;lia),LC];congr 1;simp;lia
theorem PtL.ended {ps:QG}{k:Nat}(h:PtL ps)(e0:ps[k]? = some ((k:Int)+1)):PtL (ZbY ps k):=by
 obtain⟨j0,j1,e1,_⟩:=h k _ e0;have:j0=k+1:=by lia
 subst this;have hk:k+1<ps.length:=(kI.mp e1).1;have old:∀(i':Nat)(y:Int),i'≠k->i'≠k+1->ps[i']? = some y -> ∃j:Nat,dnE k y=(j:Int)/\(ZbY ps k)[j]? = some (dnE k (i':Int))/\(j:Int)≠dnE k (i':Int):=fun i' y n1 n2 e'=>by
  obtain⟨j,rfl,e2,ne⟩:=h i' y e';have m1:j≠k:=fun z=>by subst z;rw[e0] at e2;injection e2;lia
  have m2:j≠k+1:=fun z=>by subst z;rw[e1] at e2;injection e2;lia
  unfold dnE;by_cases hj:k<j
  ·refine⟨j-2,by rw[kj (by lia)];lia,?_,?_⟩
   ·rw[ZgP hk,kh (by lia),show j-2+2=j by lia,e2];rfl
   ·split<;>lia
  ·refine⟨j,by rw[kh (by lia)],?_,?_⟩
   ·rw[ZgP hk,kj (by lia),e2];rfl
   ·split<;>lia
 intro i x e;rw[ZgP hk] at e;obtain⟨y,e',rfl⟩:=Ka.mp e;by_cases h1:i<k
 ·rw[kj h1] at e';obtain⟨j,a,b,c⟩:=old i y (by lia) (by lia) e';have:dnE k (i:Int)=(i:Int):=by unfold dnE;rw[kh (by lia)]
  rw[this] at b c;exact⟨j,a,b,by lia⟩
 ·rw[kh h1] at e';obtain⟨j,a,b,c⟩:=old (i+2) y (by lia) (by lia) e';have:dnE k ((i+2:Nat):Int)=(i:Int):=by unfold dnE;rw[kj (by lia)];lia
  rw[this] at b c;exact⟨j,a,b,by lia⟩
def ZhK:Sp:=fun vs H Q _=>∃(v:V)(k:Nat)(ps:QG),vs = [v,.int k]/\Je H v ps/\ps.length<=200 /\ ∀(v':V)(H':Hp),Zi H H'->Je H' v' (Zaf ps k)->Q v' H'
abbrev JH:Stmt:=top 25
theorem Uj:ZA ["partners", "k", "moved"] ["partners", "k"] (Zj JH):={}
theorem Zkf {f:Addr}{fd:FuncData}(F:WC K "partners_born" "partners_born" JH f fd)(YZ:mg "tuple" = none):Yi P w K mg base WH 1 f fd ["partners", "k"] ZhK:=by
 refine F.ok Uj (fun vs H Q E h=>?_) (fun cdv A outer s H vs Q E hr h=>?_)
 ·obtain⟨v,k,ps,rfl,_⟩:=h;rfl
 ·obtain⟨v,k,ps,rfl,⟨a,rfl,ha⟩,hlen,q⟩:=h;refine⟨_,(Zd (Zm (i:=2) Uj.nd rfl (.inl rfl) (Z0 Wv (by rfl) YZ Nw (Za (Ga (Ls:=["one"]) (Fs:=["k"]) (fi:=[1]) (ZZ.of (show YC ["partners", "k", "moved"] (Zj JH) _ ["k"] [1]=true by decide +kernel)) rfl (Zh4 (K:=K) rfl (pv 0)) (fun cl C s3 H3 ex=>⟨(Zl (i:=0) (show ((["one"]:QP)++(["k"]:QP)).Nodup by decide +kernel) rfl (.inl rfl)),YX,(Zap (Zr Zk5 (pv 0) (pv 1) (Zp _)) (Zk Zx (pv 0) Ze) (pv 0))⟩)) Zb)))
   (Zg (Zz (Zk Zcr (Zk Zcr (YL (Zbq (K:=K) rfl) (pv 2) JI (Yq (pv 1))) (ZC (Za (Zk Zx (pv 1) Ze) (Za (pv 1) Zb)))) (YL (Zbq (K:=K) rfl) (pv 2) (Yq (pv 1)) JI))))),?_⟩
  refine⟨_,rfl,a,rfl,⟨_,YJ.of ha⟩,Zk9 (K:=K) (a:=a) (xs:=ps.map V.int) (by rw[ke,Kn];lia) (fun i zs G=>G=H/\zs=((ps.map (upB k)).take i).map V.int) ⟨rfl,rfl⟩ (fun i zs G x=>by rw[x.2,ke,kL];lia) (fun i zs G x=>by rw[x.1];exact YJ.of ha) (fun i y zs G hy x=>?_) (fun zs G x p hp=>?_)⟩
  ·obtain⟨rfl,rfl⟩:=x;obtain⟨n,hn,rfl⟩:∃n,ps[i]? = some n/\y=V.int n:=by
    rw[kE] at hy;obtain⟨n,h1,h2⟩:=Ka.mp hy;exact⟨n,h1,h2.symm⟩
   have hi:i<ps.length:=(kI.mp hn).1;have st:((ps.map (upB k)).take (i+1)).map V.int=((ps.map (upB k)).take i).map V.int ++ [V.int (upB k n)]:=by rw[Ke,kE,hn,k6];rfl
   refine⟨_,rfl,_,rfl,_,_,rfl,rfl,_,rfl,ZY (fun c=>?_) (fun c=>?_)⟩
   ·refine⟨_,rfl,_,_,rfl,rfl,rfl,?_⟩;rw[st];unfold upB;rw[kj (kO c)]
   ·refine⟨_,rfl,rfl,?_⟩;rw[st];unfold upB;rw[kh (fun z=>c (kM z))]
  ·obtain⟨rfl,rfl⟩:=x;rw[ke,kK (by rw[ke];exact ki _)];refine lay2 (o:=.lst ((ps.map (upB k)).map V.int)) hp fun G1 s1 e1=>?_;refine⟨p,_,rfl,e1,fun m hm=>?_⟩;refine lay2 (o:=.tup ((ps.map (upB k)).map V.int)) hm fun G2 s2 e2=>?_;refine⟨_,rfl,_,rfl,_,rfl,Zjy ⟨m,rfl,e2⟩ fun v1 G3 s3 w1=>?_⟩;refine⟨_,rfl,_,_,rfl,rfl,_,rfl,sz2,fun t ht=>?_⟩;refine lay2 (o:=.tup [.int ((k:Int)+1),.int k]) ht fun G4 s4 e4=>?_;have wl:∀{G G':Hp}{v:V}{x:QG},Zi G G'->Je G v x->Je G' v x:=fun s ⟨b,e,h⟩=>⟨b,e,s _ _ h⟩;refine Zbl (b:=[(k:Int)+1,(k:Int)]) (wl s4 w1) ⟨t,rfl,e4⟩ (by rw[Kn];simp;lia) fun v2 G5 s5 w2=>?_;refine⟨_,rfl,_,rfl,_,rfl,?_⟩;dsimp only[Zaw];refine ZkE rfl ⟨m,rfl,s5 _ _ (s4 _ _ (s3 _ _ e2))⟩ fun v3 G6 s6 w3=>?_;refine Zbl (wl s6 w2) w3 (by rw[Kn];simp;lia) fun v4 G7 s7 w4=>?_;exact q v4 G7 ((((((s1.trans s2).trans s3).trans s4).trans s5).trans s6).trans s7) w4
def Zi7:Sp:=fun vs H Q _=>∃(v:V)(k:Nat)(ps:QG),vs = [v,.int k]/\Je H v ps/\ps.length<=200 /\ ∀(v':V)(H':Hp),Zi H H'->Je H' v' (ZbY ps k)->Q v' H'
abbrev JA:Stmt:=top 26
theorem Gz:ZA ["partners", "k", "left"] ["partners", "k"] (Zj JA):={}
theorem Zme {f:Addr}{fd:FuncData}(F:WC K "partners_ended" "partners_ended" JA f fd)(YZ:mg "tuple" = none):Yi P w K mg base WH 1 f fd ["partners", "k"] Zi7:=by
 refine F.ok Gz (fun vs H Q E h=>?_) (fun cdv A outer s H vs Q E hr h=>?_)
 ·obtain⟨v,k,ps,rfl,_⟩:=h;rfl
 ·obtain⟨v,k,ps,rfl,wv,hlen,q⟩:=h;refine⟨_,(Zd (Zm (i:=2) Gz.nd rfl (.inl rfl) (Zk Zcr (YL (Zbq (K:=K) rfl) (pv 0) JI (Yq (pv 1))) (YL (Zbq (K:=K) rfl) (pv 0) (Yq (Zk Zx (pv 1) Ze)) JI)))
   (Zg (Zz (Z0 Wv (by rfl) YZ Nw (Za (Ga (Ls:=["one"]) (Fs:=["k"]) (fi:=[1]) (ZZ.of (show YC ["partners", "k", "left"] (Zj JA) _ ["k"] [1]=true by decide +kernel)) rfl (Zh4 (K:=K) rfl (pv 2)) (fun cl C s3 H3 ex=>⟨(Zl (i:=0) (show ((["one"]:QP)++(["k"]:QP)).Nodup by decide +kernel) rfl (.inl rfl)),YX,(Zap (Zr Za7 (pv 0) (pv 1) (Zp _)) (Zk YN (pv 0) Ze) (pv 0))⟩)) Zb))))),?_⟩
  have wl:∀{G G':Hp}{v:V}{x:QG},Zi G G'->Je G v x->Je G' v x:=fun s ⟨b,e,h⟩=>⟨b,e,s _ _ h⟩;refine⟨_,rfl,_,rfl,_,rfl,?_⟩;dsimp only[Zaw];refine Zjy wv fun v1 G1 s1 w1=>?_;refine⟨_,rfl,_,rfl,_,_,rfl,rfl,_,rfl,?_⟩;dsimp only[Zaw];refine ZkE (k:=k+2) (by push_cast;rfl) (wl s1 wv) fun v2 G2 s2 w2=>?_;refine Zbl (wl s2 w1) w2 (by rw[Kn];simp;lia) fun v3 G3 s3 ⟨a,ev3,ha⟩=>?_;subst ev3;obtain⟨L,eL⟩:∃L,ps.take k++ps.drop (k+2)=L:=⟨_,rfl⟩;have lL:L.length<=200:=by rw[<- eL];simp;lia
  rw[eL] at ha;refine⟨_,rfl,a,rfl,⟨_,YJ.of ha⟩,Zk9 (K:=K) (a:=a) (xs:=L.map V.int) (by rw[ke,Kn];lia) (fun i zs G=>G=G3/\zs=((L.map (dnE k)).take i).map V.int) ⟨rfl,rfl⟩ (fun i zs G x=>by rw[x.2,ke,kL];lia) (fun i zs G x=>by rw[x.1];exact YJ.of ha) (fun i y zs G hy x=>?_) (fun zs G x p hp=>?_)⟩
  ·obtain⟨rfl,rfl⟩:=x;obtain⟨n,hn,rfl⟩:∃n,L[i]? = some n/\y=V.int n:=by
    rw[kE] at hy;obtain⟨n,h1,h2⟩:=Ka.mp hy;exact⟨n,h1,h2.symm⟩
   have st:((L.map (dnE k)).take (i+1)).map V.int=((L.map (dnE k)).take i).map V.int ++ [V.int (dnE k n)]:=by rw[Ke,kE,hn,k6];rfl
   refine⟨_,rfl,_,rfl,_,_,rfl,rfl,_,rfl,ZY (fun c=>?_) (fun c=>?_)⟩
   ·refine⟨_,rfl,_,_,rfl,rfl,rfl,?_⟩;rw[st];unfold dnE;rw[kj (kO c)]
   ·refine⟨_,rfl,rfl,?_⟩;rw[st];unfold dnE;rw[kh (fun z=>c (kM z))]
  ·obtain⟨rfl,rfl⟩:=x;rw[ke,kK (by rw[ke];exact ki _)];refine lay2 (o:=.lst ((L.map (dnE k)).map V.int)) hp fun G4 s4 e4=>?_;refine⟨p,_,rfl,e4,fun m hm=>?_⟩;refine lay2 (o:=.tup ((L.map (dnE k)).map V.int)) hm fun G5 s5 e5=>?_;refine q (.ref m) G5 ((((s1.trans s2).trans s3).trans s4).trans s5) ⟨m,rfl,?_⟩;rw[e5];unfold ZbY;rw[eL]
def Uk (ps:QG)(k:Nat):QG:=((ps.map (GQ k)).set k ((ps.map (GQ k)).getD (k+1) 0)).set (k+1) ((ps.map (GQ k)).getD k 0)
structure Zck (ps:QG)(k a b:Nat):Prop where
 pt:PtL ps
 ea:ps[k]? = some (a:Int)
 eb:ps[k+1]? = some (b:Int)
 ne:a≠k+1
theorem Zck.facts {ps:QG}{k a b:Nat}(h:Zck ps k a b):ps[a]? = some (k:Int)/\ps[b]? = some ((k:Int)+1)/\a≠k/\b≠k+1/\b≠k/\a≠b/\a<ps.length/\b<ps.length/\k+1<ps.length:=by
 obtain⟨j,e1,e2,n1⟩:=h.pt k _ h.ea;obtain⟨j',e3,e4,n2⟩:=h.pt (k+1) _ h.eb;have:j=a:=by lia
 subst this;have:j'=b:=by lia
 subst this;have nb:j'≠k:=fun z=>by
  subst z;rw[e2.symm.trans (by rfl)] at e2;have:=h.ea.symm.trans e4;injection this with this
  exact h.ne (by lia)
 have nab:j≠j':=fun z=>by
  subst z;have:=e2.symm.trans e4;injection this with this
  lia
 exact⟨e2,by rw[e4];rfl,n1,n2,nb,nab,(kI.mp e2).1,(kI.mp e4).1,(kI.mp h.eb).1⟩
theorem ZkF (ps:QG)(k:Nat):(Uk ps k).length=ps.length:=by unfold Uk;simp
theorem Ur {ps:QG}{k a b:Nat}(h:Zck ps k a b)(i:Nat):(Uk ps k)[i]? = if i=k+1 then some (a:Int) else if i=k then some (b:Int) else ps[i]?.map (GQ k):=by
 obtain⟨fa,fb,n1,n2,n3,n4,l1,l2,l3⟩:=h.facts;have ma:(ps.map (GQ k)).getD k 0=(a:Int):=by rw[KO,kE,h.ea];show GQ k a=_;unfold GQ;have:=h.ne;rw[kh (by lia),kh (by lia)]
 have mb:(ps.map (GQ k)).getD (k+1) 0=(b:Int):=by rw[KO,kE,h.eb];show GQ k b=_;unfold GQ;rw[kh (by lia),kh (by lia)]
 unfold Uk;rw[ma,mb,qj,KY,ke,qj,ke,kE];by_cases h1:i=k+1
 ·rw[kj h1,kj h1.symm,kj (by lia)]
 ·rw[kh h1,kh (Kz h1)];by_cases h2:i=k
  ·rw[kj h2,kj h2.symm,kj (by lia)]
  ·rw[kh h2,kh (Kz h2)]
theorem Zck.kept {ps:QG}{k a b:Nat}(h:Zck ps k a b):PtL (Uk ps k):=by
 obtain⟨fa,fb,n1,n2,n3,n4,l1,l2,l3⟩:=h.facts;have nn:=h.ne;intro i x e;rw[Ur h] at e;by_cases h1:i=k+1
 ·rw[kj h1] at e;injection e with e
  refine⟨a,e.symm,?_,by lia⟩;rw[Ur h,kh (by lia),kh (by lia),fa,h1];show some (GQ k k)=_;unfold GQ;rw[kj rfl];rfl
 rw[kh h1] at e;by_cases h2:i=k
 ·rw[kj h2] at e;injection e with e
  refine⟨b,e.symm,?_,by lia⟩;rw[Ur h,kh (by lia),kh (by lia),fb,h2];show some (GQ k ((k:Int)+1))=_;unfold GQ;rw[kh (by lia),kj rfl]
 rw[kh h2] at e;obtain⟨y,e',rfl⟩:=Ka.mp e;obtain⟨j,rfl,e2,n⟩:=h.pt i y e';unfold GQ;by_cases c1:j=k
 ·subst c1;rw[kj rfl];refine⟨j+1,by rfl,?_,by lia⟩;rw[Ur h,kj rfl,<- h.ea,e2]
 by_cases c2:j=k+1
 ·subst c2;rw[kh (by lia),kj (by rfl)];refine⟨k,by rfl,?_,by lia⟩;rw[Ur h,kh (by lia),kj rfl,<- h.eb,e2]
 rw[kh (by lia),kh (by lia)];refine⟨j,rfl,?_,n⟩;rw[Ur h,kh c2,kh c1,e2];show some (GQ k i)=_;unfold GQ;rw[kh (by lia),kh (by lia)]
theorem Zl2 {ps:QG}{k a b:Nat}(h:Zck ps k a b):(((ps.set k (b:Int)).set (k+1) (a:Int)).set b (k:Int)).set a ((k:Int)+1)=Uk ps k:=by
 obtain⟨fa,fb,n1,n2,n3,n4,l1,l2,l3⟩:=h.facts;have nn:=h.ne;refine NK fun i=>?_;rw[Ur h,qj,KY,KY,KY,qj,KY,KY,qj,KY,qj];by_cases c1:a=i
 ·subst c1;rw[kj rfl,kj l1,kh (by lia),kh (by lia),fa];show _=some (GQ k k);unfold GQ;rw[kj rfl]
 rw[kh c1];by_cases c2:b=i
 ·subst c2;rw[kj rfl,kj l2,kh (by lia),kh (by lia),fb];show _=some (GQ k ((k:Int)+1));unfold GQ;rw[kh (by lia),kj rfl]
 rw[kh c2];by_cases c3:i=k+1
 ·rw[kj c3,kj c3.symm,kj l3]
 rw[kh c3,kh (Kz c3)];by_cases c4:i=k
 ·rw[kj c4,kj c4.symm,kj (by lia)]
 rw[kh c4,kh (Kz c4)];cases e:ps[i]? with
 | none=>rfl
 | some y=>
  show _=some (GQ k y);obtain⟨j,rfl,e2,n⟩:=h.pt i y e;unfold GQ;rw[kh (fun z=>?_),kh (fun z=>?_)]
  ·have:j=k+1:=by lia
   subst this;have:=e2.symm.trans h.eb;injection this with this
   lia
  ·have:j=k:=by lia
   subst this;have:=e2.symm.trans h.ea;injection this with this
   lia
abbrev WN:Stmt:=top 27
theorem Ui:ZA ["partners", "k", "row"] ["partners", "k"] (Zj WN):={}
def ZhL:Sp:=fun vs H Q _=>∃(v:V)(k a b:Nat)(ps:QG),vs = [v,.int k]/\Je H v ps/\ps.length<=200/\Zck ps k a b /\ ∀(v':V)(H':Hp),Zi H H'->Je H' v' (Uk ps k)->Q v' H'
theorem Zi2 {f:Addr}{fd:FuncData}(F:WC K "partners_kept" "partners_kept" WN f fd)(YZ:mg "tuple" = none)(Yf:mg "list" = none):Yi P w K mg base WH 1 f fd ["partners", "k"] ZhL:=by
 refine F.ok Ui (fun vs H Q E h=>?_) (fun cdv A outer s H vs Q E hr h=>?_)
 ·obtain⟨v,k,a,b,ps,rfl,_⟩:=h;rfl
 ·obtain⟨v,k,a,b,ps,rfl,⟨pa,rfl,hpa⟩,hlen,tb,q⟩:=h;refine⟨_,(Zd (Zm (i:=2) Ui.nd rfl (.inl rfl) (Z0 (Jc (K:=K) rfl) (by rfl) Yf XN (Za (pv 0) Zb)))
   (Zd (Yd (ZC (Za (Zw (Zs (K:=K) rfl) (pv 2) (Zk Zx (pv 1) Ze) (fun _ _=>rfl)) (Za (Zw (Zs (K:=K) rfl) (pv 2) (pv 1) (fun _ _=>rfl)) Zb))) (Z6 (K:=K) (n:=2) rfl rfl (Zo (Yp (pv 2) (pv 1) set_list) (Zo (Yp (pv 2) (Zk Zx (pv 1) Ze) set_list) ZQ))))
   (Zd (Yd (pv 1) (Yp (pv 2) (Zw (Zs (K:=K) rfl) (pv 2) (pv 1) (fun _ _=>rfl)) set_list))
   (Zd (Yd (Zk Zx (pv 1) Ze) (Yp (pv 2) (Zw (Zs (K:=K) rfl) (pv 2) (Zk Zx (pv 1) Ze) (fun _ _=>rfl)) set_list))
   (Zg (Zz (Z0 Wv (by rfl) YZ Nw (Za (pv 2) Zb)))))))),?_⟩
  obtain⟨fa,fb,n1,n2,n3,n4,l1,l2,l3⟩:=tb.facts;have nn:=tb.ne;refine⟨_,rfl,pa,_,rfl,.inr (YJ.of hpa),fun l hl=>?_⟩;refine lay2 (o:=.lst (ps.map V.int)) hl fun G1 s1 e1=>?_;have g1:(ps.map V.int)[k+1]? = some (V.int b):=by rw[kE,tb.eb];rfl
  have g0:(ps.map V.int)[k]? = some (V.int a):=by rw[kE,tb.ea];rfl
  have kc:(k:Int)+1=((k+1:Nat):Int):=by push_cast;rfl
  refine⟨_,rfl,_,rfl,_,_,rfl,rfl,l,_,_,_,rfl,rfl,Zt.of e1,(by rw[kc];exact Zn g1),_,rfl,_,rfl,l,_,_,_,rfl,rfl,Zt.of e1,Zn g0,sz2,fun t ht=>?_⟩;refine lay2 (o:=.tup [.int b,.int a]) ht fun G2 s2 e2=>?_;have ntl:t≠l:=Zf e1 ht |>.symm;have sl2:=s2 _ _ e1;have put:∀{G:Hp}{o:HO},Zi H G->Zi H (upd G l o):=fun s c o e=>by rw[Zh (Zf e hl)];exact s c o e
  have sH2:=s1.trans s2;generalize eX1:(ps.map V.int).set k (V.int b)=X1;generalize eX2:X1.set (k+1) (V.int a)=X2;generalize eX3:X2.set b (V.int k)=X3;generalize eX4:X3.set a (V.int ((k:Int)+1))=X4;have m0:(ps.map V.int).length=ps.length:=ke ..;have m1:X1.length=ps.length:=by rw[<- eX1,KY,m0]
  have m2:X2.length=ps.length:=by rw[<- eX2,KY,m1]
  have m3:X3.length=ps.length:=by rw[<- eX3,KY,m2]
  have i2:X2[k]? = some (V.int b):=by rw[<- eX2,qj,kh (by lia),<- eX1,qj,kj rfl,kj (by lia)]
  have i3:X3[k+1]? = some (V.int a):=by rw[<- eX3,qj,kh (by lia),<- eX2,qj,kj rfl,kj (by lia)]
  have x4:X4=(Uk ps k).map V.int:=by rw[<- Zl2 tb,<- eX4,<- eX3,<- eX2,<- eX1,qZ,qZ,qZ,qZ]
  refine⟨t,_,rfl,YJ.of e2,rfl,_,_,rfl,_,rfl,_,rfl,l,_,_,k,rfl,rfl,sl2,Y9 (by lia),?_⟩;rw[eX1];refine⟨_,_,rfl,_,rfl,_,rfl,_,_,rfl,rfl,l,_,_,k+1,rfl,rfl,Zc,(by rw[kc];exact Y9 (by lia)),?_⟩;rw[eX2,Jz];refine⟨rfl,_,rfl,_,rfl,_,rfl,_,rfl,l,_,_,_,rfl,rfl,Zt.of Zc,Zn i2,l,_,_,b,rfl,rfl,Zc,Y9 (by lia),?_⟩;rw[eX3,Jz];refine⟨_,rfl,_,_,rfl,rfl,_,rfl,_,rfl,_,rfl,_,_,rfl,rfl,l,_,_,_,rfl,rfl,Zt.of Zc,(by rw[kc];exact Zn i3),l,_,_,a,rfl,rfl,Zc,Y9 (by lia),?_⟩;rw[eX4,Jz];refine⟨_,rfl,l,_,rfl,Zc,fun m hm=>?_⟩;exact q (.ref m) _ ((put sH2).trans (Zi.laid hm)) ⟨m,rfl,by rw[Zc,x4]⟩
theorem ZmW {x y:Nat}{l:QG}(p:l.Perm [(x:Int),(y:Int)])(s:l.Pairwise (· <= ·)):l = [((min x y:Nat):Int),((max x y:Nat):Int)]:=by
 refine ZaS (p.trans ?_) s (by simp;lia);rcases Nat.le_total x y with h | h
 ·rw[Mv h,Nat.max_eq_right h]
 ·rw[N9 h,Nat.max_eq_left h];exact List.Perm.swap ..
theorem Zd3 {α:Type}{a b x y:α}(h:[a,b].Perm [x,y]):(a=x/\b=y)∨(a=y/\b=x):=by
 have h1:a ∈ [x,y]:=h.mem_iff.mp kQ;rcases kP.mp h1 with e | e
 ·subst e;have:=Nx h;exact .inl ⟨rfl,T4.mp this⟩
 ·have e:=k7.mp e;subst e;have:=Nx (h.trans (List.Perm.swap ..));exact .inr ⟨rfl,T4.mp this⟩
def GF (k a b:Nat):Bool:=(decide (min k a<min (k+1) b)&&decide (min (k+1) b<max k a)&&decide (max k a<max (k+1) b))||(decide (min (k+1) b<min k a)&&decide (min k a<max (k+1) b)&&decide (max (k+1) b<max k a))
def ZkL:Sp:=fun vs H Q _=>∃(v:V)(k a b:Nat)(ps:QG),vs = [v,.int k]/\Je H v ps/\ps.length<=200/\Zck ps k a b /\ ∀(H':Hp),Zi H H'->Q (.bl (GF k a b)) H'
abbrev UG:Stmt:=top 28
theorem GL:ZA ["partners", "k", "first", "second"] ["partners", "k"] (Zj UG):={}
theorem Zlx {f:Addr}{fd:FuncData}(F:WC K "is_tangled" "is_tangled" UG f fd)(Yv:mg "sorted" = none):Yi P w K mg base WH 1 f fd ["partners", "k"] ZkL:=by
 refine F.ok GL (fun vs H Q E h=>?_) (fun cdv A outer s H vs Q E hr h=>?_)
 ·obtain⟨v,k,a,b,ps,rfl,_⟩:=h;rfl
 ·obtain⟨v,k,a,b,ps,rfl,⟨pa,rfl,hpa⟩,hlen,tb,q⟩:=h;refine⟨_,(Zd (Yd (Zv (ZcC (K:=K) rfl hr.units) (by rfl) Yv Tt (Za (ZH (Za (Zv (Zbv (K:=K) rfl) (by rfl) Yv Tt (Za (ZH (Za (pv 1) (Za (Zw (ZL (K:=K) rfl) (pv 0) (pv 1) (fun _ _=>rfl)) Zb))) Zb)) (Za (Zv (Zbv (K:=K) rfl) (by rfl) Yv Tt (Za (ZH (Za (Zk Zx (pv 1) Ze) (Za (Zw (ZL (K:=K) rfl) (pv 0) (Zk Zx (pv 1) Ze) (fun _ _=>rfl)) Zb))) Zb)) Zb))) Zb)) (Zcm (K:=K) (n:=2) rfl rfl (Zo (Zl (i:=2) GL.nd rfl (.inl rfl)) (Zo (Zl (i:=3) GL.nd rfl (.inl rfl)) ZQ))))
   (Zg (Zz (Zkc Gi Gi (Zw (Zs (K:=K) rfl) (pv 3) Ze (fun _ _=>rfl)) (Zw (Zs (K:=K) rfl) (pv 2) Ze (fun _ _=>rfl)) (Zw (Zs (K:=K) rfl) (pv 3) Ze (fun _ _=>rfl)))))),?_⟩
  obtain⟨fa,fb,n1,n2,n3,n4,l1,l2,l3⟩:=tb.facts;have nn:=tb.ne;have g1:(ps.map V.int)[k+1]? = some (V.int b):=by rw[kE,tb.eb];rfl
  have g0:(ps.map V.int)[k]? = some (V.int a):=by rw[kE,tb.ea];rfl
  have kc:(k:Int)+1=((k+1:Nat):Int):=by push_cast;rfl
  refine⟨_,rfl,_,rfl,_,rfl,pa,_,_,_,rfl,rfl,YJ.of hpa,Zn g0,sz2,fun d1 hd1=>?_⟩;refine lay2 (o:=.lst [.int k,.int a]) hd1 fun G1 s1 e1=>?_;refine⟨d1,[(k:Int),(a:Int)],rfl,Zt.of e1,(by show 2<64;decide),fun r1 ns1 hr1 p1 o1=>?_⟩;have:=ZmW p1 o1;subst this;refine lay2 (o:=.lst ([((min k a:Nat):Int),((max k a:Nat):Int)].map V.int)) hr1 fun G2 s2 e2=>?_;refine⟨_,rfl,_,_,rfl,rfl,_,rfl,_,rfl,_,_,rfl,rfl,pa,_,_,_,rfl,rfl,YJ.of (s2 _ _ (s1 _ _ hpa)),(by rw[kc];exact Zn g1),sz2,fun d2 hd2=>?_⟩;refine lay2 (o:=.lst [.int ((k:Int)+1),.int b]) hd2 fun G3 s3 e3=>?_;refine⟨d2,[((k+1:Nat):Int),(b:Int)],rfl,Zt.of (by rw[e3,kc];rfl),(by show 2<64;decide),fun r2 ns2 hr2 p2 o2=>?_⟩;have:=ZmW p2 o2;subst this;refine lay2 (o:=.lst ([((min (k+1) b:Nat):Int),((max (k+1) b:Nat):Int)].map V.int)) hr2 fun G4 s4 e4=>?_;refine⟨sz2,fun d3 hd3=>?_⟩;refine lay2 (o:=.lst [.ref r1,.ref r2]) hd3 fun G5 s5 e5=>?_;refine⟨d3,_,[_,_],rfl,Zt.of e5,.cons ⟨r1,rfl,s5 _ _ (s4 _ _ (s3 _ _ e2))⟩ (.cons ⟨r2,rfl,s5 _ _ e4⟩ .nil),(by show 2<64;decide),fun l zs vs fl pz pv lr rise=>?_⟩;have lz:=pz.length_eq;have lv:=pv.length_eq
  match zs,vs,lz,lv,pv,lr,rise with
  | [z1,z2],[v1,v2],_,_,pv,.cons ⟨c1,ez1,hc1⟩ (.cons ⟨c2,ez2,hc2⟩ .nil),rise=>
  subst ez1 ez2;refine lay2 (o:=.lst [.ref c1,.ref c2]) fl fun G6 s6 e6=>?_;have hc1:=s6 _ _ hc1;have hc2:=s6 _ _ hc2;have sH:=((((s1.trans s2).trans s3).trans s4).trans s5).trans s6;have lx:lexLt v2 v1=false:=by have:=qu.mp rise;exact this.1 _ kQ
  refine⟨l,_,rfl,Zt.of e6,rfl,_,_,rfl,_,_,rfl,rfl,?_⟩;rcases Zd3 pv with⟨e,e'⟩ | ⟨e,e'⟩<;>subst e e'
  ·have dn:(min k a)≠(min (k+1) b):=by lia
   have lo:min k a<min (k+1) b:=by rw[L2.lexLt,kh (by lia)] at lx;have:=LD lx;lia
   refine⟨_,rfl,c2,_,_,_,rfl,rfl,Zt.of hc2,Zn (j:=0) rfl,_,rfl,c1,_,_,_,rfl,rfl,Zt.of hc1,Zn (j:=1) rfl,_,_,rfl,rfl,_,rfl,ZY (fun c=>?_) (fun c=>?_)⟩
   ·refine⟨_,rfl,c2,_,_,_,rfl,rfl,Zt.of hc2,Zn (j:=1) rfl,_,_,rfl,rfl,?_⟩;have e:GF k a b=decide (((max k a:Nat):Int)<((max (k+1) b:Nat):Int)):=by
     have c:=kO c;rw[qW,KA];unfold GF;simp only[XG,KQ,KA];lia
    have q':=q _ sH;rw[e] at q';exact q'
   ·have e:GF k a b=false:=by
     have c:¬_:=fun z=>c (kM z);rw[Bool.eq_false_iff];unfold GF;simp only[XG,KQ,KA,ne_eq];lia
    rw[e] at q;exact q _ sH
  ·have dn:(min k a)≠(min (k+1) b):=by lia
   have lo:min (k+1) b<min k a:=by rw[L2.lexLt,kh (by lia)] at lx;have:=LD lx;lia
   refine⟨_,rfl,c2,_,_,_,rfl,rfl,Zt.of hc2,Zn (j:=0) rfl,_,rfl,c1,_,_,_,rfl,rfl,Zt.of hc1,Zn (j:=1) rfl,_,_,rfl,rfl,_,rfl,ZY (fun c=>?_) (fun c=>?_)⟩
   ·refine⟨_,rfl,c2,_,_,_,rfl,rfl,Zt.of hc2,Zn (j:=1) rfl,_,_,rfl,rfl,?_⟩;have e:GF k a b=decide (((max (k+1) b:Nat):Int)<((max k a:Nat):Int)):=by
     have c:=kO c;rw[qW,KA];unfold GF;simp only[XG,KQ,KA];lia
    have q':=q _ sH;rw[e] at q';exact q'
   ·have e:GF k a b=false:=by
     have c:¬_:=fun z=>c (kM z);rw[Bool.eq_false_iff];unfold GF;simp only[XG,KQ,KA,ne_eq];lia
    rw[e] at q;exact q _ sH
def ZpN (H:Hp)(v:V)(r:QG×Bool):Prop:=∃(t:Addr)(x:V),v = .ref t/\H t=some (.tup [x,.bl r.2])/\Je H x r.1
def J7 (ps:QG)(q:Str×Int)(h:QW):List (QG×Bool):=
 if q.1 = "born" then[(Zaf ps q.2.toNat,false)]
 else if decide (ps.getD q.2.toNat 0=q.2+1) != decide (q.1 = "end") then[]
 else if q.1 = "end" then[(ZbY ps q.2.toNat,false)]
 else(Uk ps q.2.toNat,false)::(if h=some 0/\GF q.2.toNat (ps.getD q.2.toNat 0).toNat (ps.getD (q.2.toNat+1) 0).toNat=false then[(ps,true)] else[])
def Zgw:Sp:=fun vs H Q _=>∃(v:V)(t:Addr)(q:Str×Int)(h:QW)(ps:QG),vs = [v,.ref t,oI h]/\Je H v ps/\H t=some (.tup [.str q.1,.int q.2])/\ps.length<=200/\PtL ps/\0<=q.2 /\
 (q.1 ≠ "born" -> q.2+1<ps.length)/\((q.1 = "cross")->h≠none)/\(q.1 = "born" ∨ q.1 = "end" ∨ q.1 = "cross") /\ ∀(p:Addr)(xs:QH)(H':Hp),Zi H H'->H' p=some (.lst xs)->Paired (ZpN H') xs (J7 ps q h)->Q (.ref p) H'
abbrev Zb1:Stmt:=top 29
theorem UJ:ZA ["partners", "letter", "height", "kind", "k", "found"] ["partners", "letter", "height"] (Zj Zb1):={}
theorem Zmp {f:Addr}{fd:FuncData}(F:WC K "ways_on" "ways_on" Zb1 f fd)(WM:JM P w K mg base 1 "partners_born" ["partners", "k"] ZhK)(Wj:JM P w K mg base 1 "partners_ended" ["partners", "k"] Zi7)(WK:JM P w K mg base 1 "partners_kept" ["partners", "k"] ZhL)(Uo:JM P w K mg base 1 "is_tangled" ["partners", "k"] ZkL):Yi P w K mg base WH 2 f fd ["partners", "letter", "height"] Zgw:=by
 refine F.ok UJ (fun vs H Q E h=>?_) (fun cdv A outer s H vs Q E hr h=>?_)
 ·obtain⟨v,t,q,h,ps,rfl,_⟩:=h;rfl
 ·obtain⟨v,t,q,h,ps,rfl,wv,ht,hlen,pt,k0,hk,hh,hq,k⟩:=h;refine⟨_,(Zd (Yd (pv 1) (Z6 (K:=K) (n:=2) rfl rfl (Zo (Zl (i:=3) UJ.nd rfl (.inl rfl)) (Zo (Zl (i:=4) UJ.nd rfl (.inl rfl)) ZQ))))
   (Zd (Z9 (Zr Ym (pv 3) ZG (Zp _)) (Zg (Zz (ZH (Za (ZC (Za (Zq WM hr (Za (pv 0) (Za (pv 4) Zb))) (Za ZaH Zb))) Zb)))) ZN)
   (Zd (Z9 (Zr ZdX (Yy Ym (Zw (ZL (K:=K) rfl) (pv 0) (pv 4) (fun _ _=>rfl)) (Zk Zx (pv 4) Ze) (Zp _)) (Yy Ym (pv 3) ZG (Zp _)) (Zp _)) (Zg (Zz (ZH Zb))) ZN)
   (Zd (Z9 (Zr Ym (pv 3) ZG (Zp _)) (Zg (Zz (ZH (Za (ZC (Za (Zq Wj hr (Za (pv 0) (Za (pv 4) Zb))) (Za ZaH Zb))) Zb)))) ZN)
   (Zd (Zm (i:=5) UJ.nd rfl (.inl rfl) (ZH (Za (ZC (Za (Zq WK hr (Za (pv 0) (Za (pv 4) Zb))) (Za ZaH Zb))) Zb)))
   (Zd (Z9 (PW.pt (GJ (Zr Ym (pv 2) Ze (Zp _)) (Up (ZcD (U9 (Zq Uo hr (Za (pv 0) (Za (pv 4) Zb)))))))) (Zg (Ye (Yh (K:=K) rfl (YT kY Kf Kg ZW (pv 5) (Za (ZC (Za (pv 0) (Za ZaH Zb))) Zb))))) ZN)
   (Zg (Zz (pv 5))))))))),?_⟩
  obtain⟨kd,kk⟩:=q;obtain⟨pa,rfl,hpa⟩:=wv;dsimp only at ht k0 hk hh hq k;obtain⟨n,rfl⟩:=kT k0;have wv:Je H (.ref pa) ps:=⟨pa,rfl,hpa⟩;refine⟨_,rfl,t,_,rfl,YJ.of ht,rfl,_,_,rfl,_,_,rfl,rfl,?_⟩;refine⟨_,rfl,rfl,_,rfl,ZY (fun hb=>?_) (fun hb=>?_)⟩
  ·have eb:kd = "born" := by
    have:=kO hb;injection this
   refine⟨_,rfl,_,rfl,_,n,ps,rfl,wv,hlen,fun v1 H1 s1 w1=>⟨sz2,fun t1 f1=>?_⟩⟩;refine lay2 (o:=.tup [v1,.bl false]) f1 fun H2 s2 e2=>?_;refine⟨sz1,fun p fp=>?_⟩;refine lay2 (o:=.lst [.ref t1]) fp fun H3 s3 e3=>?_;refine k p _ H3 ((s1.trans s2).trans s3) e3 ?_;obtain⟨c,rfl,hc⟩:=w1;unfold J7;rw[kj eb];exact .cons ⟨t1,_,rfl,s3 _ _ e2,c,rfl,s3 _ _ (s2 _ _ hc)⟩ .nil
  have nb:kd ≠ "born" := fun z=>hb (by rw[z];exact kM rfl);have hk:=hk nb;obtain⟨x,hx⟩:∃x,ps[n]? = some x:=⟨_,kU (by lia)⟩;obtain⟨a,rfl,ea,na⟩:=pt n x hx;obtain⟨y,hy⟩:∃y,ps[n+1]? = some y:=⟨_,kU (by lia)⟩;obtain⟨b,rfl,eb,nb'⟩:=pt (n+1) y hy;have g0:(ps.map V.int)[n]? = some (V.int a):=by rw[kE,hx];rfl
  have gd:ps.getD n 0=(a:Int):=by rw[KO,hx];rfl
  have gd1:ps.getD (n+1) 0=(b:Int):=by rw[KO,hy];rfl
  have hq:kd = "end" ∨ kd = "cross" := hq.resolve_left nb;have key:((!decide (V.bl (decide (V.int a=V.int ((n:Int)+1)))=V.bl (decide (V.str kd=V.str "end"))))=true) ↔ ((decide ((a:Int)=(n:Int)+1) != decide (kd = "end"))=true):=by simp only[V.int.injEq,V.str.injEq,V.bl.injEq];by_cases A:(a:Int)=(n:Int)+1<;>by_cases B:kd = "end" <;> simp[A,B]
  refine⟨_,rfl,_,rfl,pa,_,_,_,rfl,rfl,YJ.of hpa,Zn g0,_,rfl,_,_,rfl,rfl,rfl,_,rfl,rfl,rfl,_,rfl,ZY (fun c=>?_) (fun c=>?_)⟩
  ·refine⟨sz0,fun p fp=>?_⟩;refine k p _ _ (Zi.laid fp) Zc ?_;have:J7 ps (kd,(n:Int)) h = []:=by
    unfold J7;dsimp only;rw[kh nb,kX,gd,kj (key.mp c)]
   rw[this];exact .nil
  have c:¬((decide ((a:Int)=(n:Int)+1) != decide (kd = "end"))=true):=fun z=>c (key.mpr z);have c':(a=n+1 ↔ kd = "end"):=by by_cases A:(a:Int)=(n:Int)+1<;>by_cases B:kd = "end" <;> simp[A,B] at c ⊢<;>lia
  refine⟨_,rfl,rfl,_,rfl,ZY (fun he=>?_) (fun he=>?_)⟩
  ·have ee:kd = "end" := by
    have:=kO he;injection this
   refine⟨_,rfl,_,rfl,_,n,ps,rfl,wv,hlen,fun v1 H1 s1 w1=>⟨sz2,fun t1 f1=>?_⟩⟩;refine lay2 (o:=.tup [v1,.bl false]) f1 fun H2 s2 e2=>?_;refine⟨sz1,fun p fp=>?_⟩;refine lay2 (o:=.lst [.ref t1]) fp fun H3 s3 e3=>?_;refine k p _ H3 ((s1.trans s2).trans s3) e3 ?_;obtain⟨c1,rfl,hc⟩:=w1;have:J7 ps (kd,(n:Int)) h = [(ZbY ps n,false)]:=by unfold J7;dsimp only;rw[kh nb,kX,gd,kh c,kj ee]
   rw[this];exact .cons ⟨t1,_,rfl,s3 _ _ e2,c1,rfl,s3 _ _ (s2 _ _ hc)⟩ .nil
  have ne:kd ≠ "end" := fun z=>he (by rw[z];exact kM rfl);have ec:kd = "cross" := hq.resolve_left ne;have tb:Zck ps n a b:=⟨pt,hx,hy,fun z=>ne (c'.mp z)⟩;obtain⟨hh0,rfl⟩:∃i,h=some i:=by
   cases h with
   | none=>exact absurd rfl (hh ec)
   | some i=>exact⟨i,rfl⟩
  have wy:J7 ps (kd,(n:Int)) (some hh0)=(Uk ps n,false)::(if hh0=0/\GF n a b=false then[(ps,true)] else[]):=by unfold J7;dsimp only;rw[kh nb,kX,gd,gd1,kX,kX,kh c,kh ne];simp
  rw[wy] at k;refine⟨_,rfl,_,rfl,_,n,a,b,ps,rfl,wv,hlen,tb,fun v1 H1 s1 ⟨c1,ev1,hc⟩=>⟨sz2,fun t1 f1=>?_⟩⟩;subst ev1;refine lay2 (o:=.tup [.ref c1,.bl false]) f1 fun H2 s2 e2=>?_;refine⟨sz1,fun p fp=>?_⟩;refine lay2 (o:=.lst [.ref t1]) fp fun H3 s3 e3=>?_;have s03:=(s1.trans s2).trans s3;have fpH:H p=none:=(s1.trans s2).free fp;have hc3:=s3 _ _ (s2 _ _ hc);have e23:=s3 _ _ e2;have one:∀{G:Hp},Zi H3 G->(¬(hh0=0/\GF n a b=false))->Q (.ref p) G:=fun sG no=>by refine k p _ _ (s03.trans sG) (sG _ _ e3) ?_;rw[kh no];exact .cons ⟨t1,_,rfl,sG _ _ e23,c1,rfl,sG _ _ hc3⟩ .nil
  refine⟨_,rfl,rfl,_,rfl,ZY (fun h0=>?_) (fun h0=>?_)⟩
  ·have h0:hh0=0:=by
    have:=kO h0;injection this
   refine⟨_,rfl,_,rfl,_,n,a,b,ps,rfl,⟨pa,rfl,s03 _ _ hpa⟩,hlen,tb,fun H4 s4=>⟨_,rfl,ZY (fun tt=>?_) (fun tt=>?_)⟩⟩
   ·have tf:GF n a b=false:=by simpa using tt
    have e34:=s4 _ _ e3;refine⟨_,rfl,.inl ⟨rfl,_,Zt.of e34⟩,_,rfl,sz2,fun t2 f2=>?_⟩;refine lay2 (o:=.tup [.ref pa,.bl true]) f2 fun H5 s5 e5=>?_;refine⟨p,_,_,rfl,rfl,s5 _ _ e34,(by show 1<sizeLine;decide),?_⟩;have sH5:Zi H H5:=(s03.trans s4).trans s5;have put:Zi H (upd H5 p (.lst ([.ref t1] ++ [.ref t2]))):=fun c o e=>by rw[Zh (Zf e fpH)];exact sH5 c o e
    have n1:t1≠p:=fun z=>by rw[z] at e2;rw[e2] at fp;cases fp
    have n2:t2≠p:=fun z=>by rw[z,e34] at f2;cases f2
    have n3:c1≠p:=fun z=>by rw[z] at hc;rw[s2 _ _ hc] at fp;cases fp
    have n4:pa≠p:=fun z=>by rw[z,fpH] at hpa;cases hpa
    refine⟨_,rfl,k p _ _ put Zc ?_⟩;rw[kj ⟨h0,tf⟩];refine .cons ⟨t1,_,rfl,?_,c1,rfl,?_⟩ (.cons ⟨t2,_,rfl,?_,pa,rfl,?_⟩ .nil)
    ·rw[Zh n1];exact s5 _ _ (s4 _ _ e23)
    ·rw[Zh n3];exact s5 _ _ (s4 _ _ hc3)
    ·rw[Zh n2];exact e5
    ·rw[Zh n4];exact sH5 _ _ hpa
   ·exact⟨_,rfl,one s4 fun z=>tt (by rw[z.2];rfl)⟩
  ·exact W8 ⟨_,rfl,one (Zi.refl _) fun z=>h0 (by rw[z.1];rfl)⟩
def WU (ps:QG)(q:Str×Int):Option QG:=
 if q.1 = "born" then some (Zaf ps q.2.toNat)
 else if decide (ps.getD q.2.toNat 0=q.2+1) != decide (q.1 = "end") then none
 else if q.1 = "end" then some (ZbY ps q.2.toNat)
 else some (Uk ps q.2.toNat)
def ZeY:Sp:=fun vs H Q _=>∃(l:Addr)(k a b:Nat)(ps:QG),vs = [.ref l,.int k]/\H l=some (.tup (ps.map V.int))/\ps.length<=200/\Zck ps k a b/\Q (.bl (!GF k a b)) H
abbrev WJ:Stmt:=top 48
theorem Wg:ZA ["_law_partners", "_law_k", "_law_low", "_law_high", "_law_there", "_law_far"] ["_law_partners", "_law_k"] (Zj WJ):={}
theorem Zji {f:Addr}{fd:FuncData}(F:WC K "_law_is_apart" "_law_is_apart" WJ f fd)(ZaJ:mg "min" = none)(Gy:mg "max" = none):Yi P w K mg base WH 1 f fd ["_law_partners", "_law_k"] ZeY:=by
 refine F.ok Wg (fun vs H Q E h=>?_) (fun cdv A outer s H vs Q E hr h=>?_)
 ·obtain⟨l,k,a,b,ps,rfl,_⟩:=h;rfl
 ·obtain⟨l,k,a,b,ps,rfl,hl,hlen,tb,q⟩:=h;refine⟨_,(Zd (Zjk (i:=2) (j:=3) rfl Wg.nd rfl rfl (by decide) (by rfl) (by rfl) (Za (Zv (ZaB rfl) (by rfl) ZaJ boot_min (Za (pv 1) (Za (Zw (ZL (K:=K) rfl) (pv 0) (pv 1) (fun _ _=>rfl)) Zb))) (Za (Zv (W4 rfl) (by rfl) Gy MR (Za (pv 1) (Za (Zw (ZL (K:=K) rfl) (pv 0) (pv 1) (fun _ _=>rfl)) Zb))) Zb)) (by rfl))
   (Zd (Zjk (i:=4) (j:=5) rfl Wg.nd rfl rfl (by decide) (by rfl) (by rfl) (Za (Zv (ZaB rfl) (by rfl) ZaJ boot_min (Za (Zk Zx (pv 1) Ze) (Za (Zw (ZL (K:=K) rfl) (pv 0) (Zk Zx (pv 1) Ze) (fun _ _=>rfl)) Zb))) (Za (Zv (W4 rfl) (by rfl) Gy MR (Za (Zk Zx (pv 1) Ze) (Za (Zw (ZL (K:=K) rfl) (pv 0) (Zk Zx (pv 1) Ze) (fun _ _=>rfl)) Zb))) Zb)) (by rfl))
   (Zg (Zz (Zg1 (Yy Gi (pv 3) (pv 4) (Zp _)) (Zg1 (Yy Gi (pv 5) (pv 2) (Zp _)) (Zg1 (ZbZ (Yy Gi (pv 2) (pv 4) (Zp _)) (Zai (Yy Gi (pv 5) (pv 3) (Zp _)))) (Zai (ZbZ (Yy Gi (pv 4) (pv 2) (Zp _)) (Zai (Yy Gi (pv 3) (pv 5) (Zp _)))))))))))),?_⟩
  obtain⟨fa,fb,n1,n2,n3,n4,l1,l2,l3⟩:=tb.facts;have nn:=tb.ne;have g1:(ps.map V.int)[k+1]? = some (V.int b):=by rw[kE,tb.eb];rfl
  have g0:(ps.map V.int)[k]? = some (V.int a):=by rw[kE,tb.ea];rfl
  have kc:(k:Int)+1=((k+1:Nat):Int):=by push_cast;rfl
  refine⟨_,rfl,_,rfl,_,rfl,l,_,_,_,rfl,rfl,YJ.of hl,Zn g0,_,_,rfl,_,rfl,_,rfl,_,rfl,l,_,_,_,rfl,rfl,YJ.of hl,Zn g0,_,_,rfl,_,_,rfl,?_⟩;refine⟨_,rfl,_,_,rfl,rfl,_,rfl,_,rfl,_,_,rfl,rfl,l,_,_,_,rfl,rfl,YJ.of hl,(by rw[kc];exact Zn g1),_,_,rfl,_,rfl,_,_,rfl,rfl,_,rfl,_,rfl,_,_,rfl,rfl,l,_,_,_,rfl,rfl,YJ.of hl,(by rw[kc];exact Zn g1),_,_,rfl,_,_,rfl,?_⟩;obtain⟨lo,elo⟩:∃lo:Int,(if (a:Int)<(k:Int) then(a:Int) else k)=lo:=⟨_,rfl⟩;obtain⟨hi,ehi⟩:∃hi:Int,(if (a:Int)>(k:Int) then(a:Int) else k)=hi:=⟨_,rfl⟩;obtain⟨th,eth⟩:∃th:Int,(if (b:Int)<(k:Int)+1 then(b:Int) else(k:Int)+1)=th:=⟨_,rfl⟩;obtain⟨fr,efr⟩:∃fr:Int,(if (b:Int)>(k:Int)+1 then(b:Int) else(k:Int)+1)=fr:=⟨_,rfl⟩;rw[elo,ehi,eth,efr];have f1:lo=((min k a:Nat):Int):=by rw[<- elo];split<;>lia
  have f2:hi=((max k a:Nat):Int):=by rw[<- ehi];split<;>lia
  have f3:th=((min (k+1) b:Nat):Int):=by rw[<- eth];split<;>lia
  have f4:fr=((max (k+1) b:Nat):Int):=by rw[<- efr];split<;>lia
  have res:∀x:Bool,(x=true ↔ ¬GF k a b=true)->Q (.bl x) H:=fun x hx=>by
   have:x = !GF k a b:=by cases x<;>cases h:GF k a b<;>simp[h] at hx ⊢
   rw[this];exact q
  have tg:GF k a b=true ↔ (lo<th/\th<hi/\hi<fr)∨(th<lo/\lo<fr/\fr<hi):=by unfold GF;rw[f1,f2,f3,f4];simp only[XG,KQ,KA,Int.ofNat_lt,and_assoc]
  have d1:lo<hi:=by clear tg res f3 f4 eth efr;lia
  have d2:th<fr:=by clear tg res f1 f2 elo ehi d1;lia
  have d3:lo≠th/\hi≠fr/\lo≠fr/\hi≠th:=by clear tg res d1 d2;lia
  clear f1 f2 f3 f4 elo ehi eth efr;clear n1 n2 n3 n4 nn l1 l2 l3 kc;refine⟨_,rfl,_,rfl,_,_,rfl,rfl,_,rfl,ZY (fun c1=>?_) (fun c1=>?_)⟩
  ·have c1:=kO c1;exact res true (by rw[tg];simp;lia)
  have c1:¬hi<th:=fun z=>c1 (kM z);refine⟨_,rfl,_,rfl,_,_,rfl,rfl,_,rfl,ZY (fun c2=>?_) (fun c2=>?_)⟩
  ·have c2:=kO c2;exact res true (by rw[tg];simp;lia)
  have c2:¬fr<lo:=fun z=>c2 (kM z);refine⟨_,rfl,_,rfl,_,_,rfl,rfl,_,rfl,ZY (fun c3=>?_) (fun c3=>?_)⟩
  ·have c3:=kO c3;refine⟨_,rfl,_,rfl,_,_,rfl,rfl,_,rfl,ZY (fun c4=>?_) (fun c4=>?_)⟩
   ·have c4:=kO c4;exact res true (by rw[tg];simp;lia)
   have c4:¬fr<hi:=fun z=>c4 (kM z);refine⟨_,rfl,_,rfl,_,_,rfl,rfl,_,rfl,ZY (fun c5=>?_) (fun c5=>?_)⟩
   ·have c5:=kO c5;lia
   ·exact res false (by rw[tg];simp;lia)
  have c3:¬lo<th:=fun z=>c3 (kM z);refine⟨_,rfl,W8 ?_⟩;refine⟨_,rfl,_,rfl,_,_,rfl,rfl,_,rfl,ZY (fun c5=>?_) (fun c5=>?_)⟩
  ·have c5:=kO c5;refine⟨_,rfl,_,rfl,_,_,rfl,rfl,?_⟩;refine res _ (by rw[tg,KA];lia)
  ·exact res false (by rw[tg];have c5:¬th<lo:=fun z=>c5 (kM z);simp;lia)
def ZeV:Sp:=fun vs H Q _=>∃(l t:Addr)(q:Str×Int)(ps:QG),vs = [.ref l,.ref t]/\H l=some (.lst (ps.map V.int))/\H t=some (.tup [.str q.1,.int q.2])/\ps.length<=200/\PtL ps/\0<=q.2 /\
 (q.1 ≠ "born" -> q.2+1<ps.length)/\(q.1 = "born" ∨ q.1 = "end" ∨ q.1 = "cross")/\(WU ps q=none -> ∀H',Zi H H'->Q .non H') /\ ∀(r:QG)(p:Addr)(H':Hp),WU ps q=some r->Zi H H'->H p=none->H' p=some (.lst (r.map V.int))->Q (.ref p) H'
abbrev YQ:Stmt:=top 49
theorem YH:ZA ["_law_partners", "_law_letter", "_law_word", "_law_k", "_law_found"] ["_law_partners", "_law_letter"] (Zj YQ):={}
theorem Zj0 {f:Addr}{fd:FuncData}(F:WC K "_law_moved_on" "_law_moved_on" YQ f fd)(UP:mg "int" = none):Yi P w K mg base WH 1 f fd ["_law_partners", "_law_letter"] ZeV:=by
 refine F.ok YH (fun vs H Q E h=>?_) (fun cdv A outer s H vs Q E hr h=>?_)
 ·obtain⟨l,t,q,ps,rfl,_⟩:=h;rfl
 ·obtain⟨l,t,q,ps,rfl,hl,ht,hlen,pt,k0,hk,hq,kN,k⟩:=h;refine⟨_,(Zd (Yd (pv 1) (Z6 (K:=K) (n:=2) rfl rfl (Zo (Zl (i:=2) YH.nd rfl (.inl rfl)) (Zo (Zl (i:=3) YH.nd rfl (Or.inr rfl)) ZQ))))
   (Zd (Z9 (Zr Ym (pv 2) ZG (Zp _)) (Zd (Zdc (i:=4) YH.nd rfl (.inl rfl) (Ls:=["_law_one"]) (Fs:=["_law_k"]) (fi:=[3]) (ZZ.of (show YC ["_law_partners", "_law_letter", "_law_word", "_law_k", "_law_found"] (Zj YQ) _ ["_law_k"] [3]=true by decide +kernel)) rfl (ZT (K:=K) rfl (pv 0)) (fun cl C s3 H3 ex=>⟨(Zl (i:=0) (show ((["_law_one"]:QP)++(["_law_k"]:QP)).Nodup by decide +kernel) rfl (.inl rfl)),YX,(Zk Zx (pv 0) (Zk Wa Ze (Z0 Ug (by rfl) UP MQ (Za (Yy Zk5 (pv 0) (pv 1) (Zp _)) Zb))))⟩))
   (Zg (Zz (Zk Gj (Zk Gj (YL (Js (K:=K) rfl) (pv 4) JI (Yq (pv 3))) (ZH (Za (Zk Zx (pv 3) Ze) (Za (pv 3) Zb)))) (YL (Js (K:=K) rfl) (pv 4) (Yq (pv 3)) JI))))) ZN)
   (Zd (Z9 (Zr ZdX (Yy Ym (Zw (Zs (K:=K) rfl) (pv 0) (pv 3) (fun _ _=>rfl)) (Zk Zx (pv 3) Ze) (Zp _)) (Yy Ym (pv 2) ZG (Zp _)) (Zp _)) (Zg (Zz Uq)) ZN)
   (Zd (Z9 (Zr Ym (pv 2) ZG (Zp _)) (Zd (Zdc (i:=4) YH.nd rfl (.inl rfl) (Ls:=["_law_one"]) (Fs:=["_law_k"]) (fi:=[3]) (ZZ.of (show YC ["_law_partners", "_law_letter", "_law_word", "_law_k", "_law_found"] (Zj YQ) _ ["_law_k"] [3]=true by decide +kernel)) rfl (ZT (K:=K) rfl (pv 0)) (fun cl C s3 H3 ex=>⟨(Zl (i:=0) (show ((["_law_one"]:QP)++(["_law_k"]:QP)).Nodup by decide +kernel) rfl (.inl rfl)),YX,(Zk YN (pv 0) (Zk Wa Ze (Z0 Ug (by rfl) UP MQ (Za (Yy Za7 (pv 0) (pv 1) (Zp _)) Zb))))⟩))
   (Zg (Zz (Zk Gj (YL (Js (K:=K) rfl) (pv 4) JI (Yq (pv 3))) (YL (Js (K:=K) rfl) (pv 4) (Yq (Zk Zx (pv 3) Ze)) JI))))) ZN)
   (Zd (Zdc (i:=4) YH.nd rfl (.inl rfl) (Ls:=["_law_one"]) (Fs:=["_law_k"]) (fi:=[3]) (ZZ.of (show YC ["_law_partners", "_law_letter", "_law_word", "_law_k", "_law_found"] (Zj YQ) _ ["_law_k"] [3]=true by decide +kernel)) rfl (ZT (K:=K) rfl (pv 0)) (fun cl C s3 H3 ex=>⟨(Zl (i:=0) (show ((["_law_one"]:QP)++(["_law_k"]:QP)).Nodup by decide +kernel) rfl (.inl rfl)),YX,(Zk YN (Zk Zx (pv 0) (Z0 Ug (by rfl) UP MQ (Za (Yy Ym (pv 0) (pv 1) (Zp _)) Zb))) (Z0 Ug (by rfl) UP MQ (Za (Yy Ym (pv 0) (Zk Zx (pv 1) Ze) (Zp _)) Zb)))⟩))
   (Zd (Yd (ZC (Za (Zw (Zs (K:=K) rfl) (pv 4) (Zk Zx (pv 3) Ze) (fun _ _=>rfl)) (Za (Zw (Zs (K:=K) rfl) (pv 4) (pv 3) (fun _ _=>rfl)) Zb))) (Z6 (K:=K) (n:=2) rfl rfl (Zo (Yp (pv 4) (pv 3) set_list) (Zo (Yp (pv 4) (Zk Zx (pv 3) Ze) set_list) ZQ))))
   (Zg (Zz (pv 4))))))))),?_⟩
  obtain⟨kd,kk⟩:=q;dsimp only at ht k0 hk hq;obtain⟨n,rfl⟩:=kT k0;refine⟨_,rfl,t,_,rfl,YJ.of ht,rfl,_,_,rfl,_,_,rfl,rfl,?_⟩;refine⟨_,rfl,rfl,_,rfl,ZY (fun hb=>?_) (fun hb=>?_)⟩
  ·have eb:kd = "born" := by
    have:=kO hb;injection this
   have mv:WU ps (kd,(n:Int))=some (Zaf ps n):=by unfold WU;rw[kj eb];rfl
   refine⟨_,rfl,l,rfl,⟨_,Zt.of hl⟩,Ja (K:=K) (a:=l) (xs:=ps.map V.int) (by rw[ke,Kn];lia) (fun i zs G=>G=H/\zs=((ps.map (upB n)).take i).map V.int) ⟨rfl,rfl⟩ (fun i zs G x=>by rw[x.2,ke,kL];lia) (fun i zs G x=>by rw[x.1];exact Zt.of hl) (fun i y zs G hy x=>?_) (fun zs G x p hp=>?_)⟩
   ·obtain⟨rfl,rfl⟩:=x;obtain⟨m,hm,rfl⟩:∃m,ps[i]? = some m/\y=V.int m:=by
     rw[kE] at hy;obtain⟨m,h1,h2⟩:=Ka.mp hy;exact⟨m,h1,h2.symm⟩
    have st:((ps.map (upB n)).take (i+1)).map V.int=((ps.map (upB n)).take i).map V.int ++ [V.int (upB n m)]:=by rw[Ke,kE,hm,k6];rfl
    refine⟨_,rfl,_,rfl,_,rfl,_,_,rfl,rfl,.inr ⟨_,rfl,_,_,rfl,rfl,.inl ⟨by decide,by decide⟩,_,_,rfl,rfl,rfl,?_⟩⟩;have val:m+2*(if decide ((n:Int)<=m)=true then 1 else 0)=upB n m:=by
     unfold upB;by_cases c:(n:Int)<=m
     ·rw[kM c,kj rfl,kj c];rfl
     ·rw[Ki c,kh (by decide),kh (by lia)];lia
    rw[st,<- val]
   ·obtain⟨rfl,rfl⟩:=x;rw[ke,kK (by rw[ke];exact ki _)];refine lay2 (o:=.lst ((ps.map (upB n)).map V.int)) hp fun G1 s1 e1=>?_;refine⟨_,rfl,_,rfl,_,rfl,p,_,rfl,Zt.of e1,fun d1 h1=>?_⟩;rw[Zcp];refine lay2 (o:=.lst (((ps.map (upB n)).map V.int).take n)) h1 fun G2 s2 e2=>?_;refine⟨_,rfl,_,_,rfl,rfl,_,rfl,sz2,fun d2 h2=>?_⟩;refine lay2 (o:=.lst [.int ((n:Int)+1),.int n]) h2 fun G3 s3 e3=>?_;refine⟨d1,d2,_,_,rfl,rfl,s3 _ _ e2,e3,(by rw[Kn];simp;lia),fun d3 h3=>?_⟩;obtain⟨G4,z,s4,e4⟩:=lay (o:=.lst (((ps.map (upB n)).map V.int).take n ++ [.int ((n:Int)+1),.int n])) h3;rw[z];clear z;refine⟨_,rfl,_,rfl,_,rfl,?_⟩;dsimp only[Zaw];refine⟨p,_,rfl,Zt.of (s4 _ _ (s3 _ _ (s2 _ _ e1))),fun d4 h4=>?_⟩;rw[Zcs];refine lay2 (o:=.lst (((ps.map (upB n)).map V.int).drop n)) h4 fun G5 s5 e5=>?_;refine⟨d3,d4,_,_,rfl,rfl,s5 _ _ e4,e5,(by rw[Kn];simp;lia),fun d5 h5=>?_⟩;have sA:=(((s1.trans s2).trans s3).trans s4).trans s5;refine k _ d5 _ mv (sA.trans (Zi.laid h5)) (sA.free h5) ?_;rw[Zc];unfold Zaf;simp
  have nb:kd ≠ "born" := fun z=>hb (by rw[z];exact kM rfl);have hk:=hk nb;obtain⟨x,hx⟩:∃x,ps[n]? = some x:=⟨_,kU (by lia)⟩;obtain⟨a,rfl,ea,na⟩:=pt n x hx;have g0:(ps.map V.int)[n]? = some (V.int a):=by rw[kE,hx];rfl
  have gd:ps.getD n 0=(a:Int):=by rw[KO,hx];rfl
  have hq:kd = "end" ∨ kd = "cross" := hq.resolve_left nb;have key:((!decide (V.bl (decide (V.int a=V.int ((n:Int)+1)))=V.bl (decide (V.str kd=V.str "end"))))=true) ↔ ((decide ((a:Int)=(n:Int)+1) != decide (kd = "end"))=true):=by simp only[V.int.injEq,V.str.injEq,V.bl.injEq];by_cases A:(a:Int)=(n:Int)+1<;>by_cases B:kd = "end" <;> simp[A,B]
  refine⟨_,rfl,_,rfl,l,_,_,_,rfl,rfl,Zt.of hl,Zn g0,_,rfl,_,_,rfl,rfl,rfl,_,rfl,rfl,rfl,_,rfl,ZY (fun c=>?_) (fun c=>?_)⟩
  ·refine kN ?_ H (Zi.refl _);unfold WU;dsimp only;rw[kh nb,kX,gd,kj (key.mp c)]
  have c:¬((decide ((a:Int)=(n:Int)+1) != decide (kd = "end"))=true):=fun z=>c (key.mpr z);refine⟨_,rfl,rfl,_,rfl,ZY (fun he=>?_) (fun he=>?_)⟩
  ·have ee:kd = "end" := by
    have:=kO he;injection this
   have mv:WU ps (kd,(n:Int))=some (ZbY ps n):=by unfold WU;dsimp only;rw[kh nb,kX,gd,kh c,kj ee]
   refine⟨_,rfl,l,rfl,⟨_,Zt.of hl⟩,Ja (K:=K) (a:=l) (xs:=ps.map V.int) (by rw[ke,Kn];lia) (fun i zs G=>G=H/\zs=((ps.map (dnE n)).take i).map V.int) ⟨rfl,rfl⟩ (fun i zs G x=>by rw[x.2,ke,kL];lia) (fun i zs G x=>by rw[x.1];exact Zt.of hl) (fun i y zs G hy x=>?_) (fun zs G x p hp=>?_)⟩
   ·obtain⟨rfl,rfl⟩:=x;obtain⟨m,hm,rfl⟩:∃m,ps[i]? = some m/\y=V.int m:=by
     rw[kE] at hy;obtain⟨m,h1,h2⟩:=Ka.mp hy;exact⟨m,h1,h2.symm⟩
    have st:((ps.map (dnE n)).take (i+1)).map V.int=((ps.map (dnE n)).take i).map V.int ++ [V.int (dnE n m)]:=by rw[Ke,kE,hm,k6];rfl
    refine⟨_,rfl,_,rfl,_,rfl,_,_,rfl,rfl,.inr ⟨_,rfl,_,_,rfl,rfl,.inl ⟨by decide,by decide⟩,_,_,rfl,rfl,rfl,?_⟩⟩;have val:m-2*(if decide ((n:Int)<m)=true then 1 else 0)=dnE n m:=by
     unfold dnE;by_cases c:(n:Int)<m
     ·rw[kM c,kj rfl,kj c];rfl
     ·rw[Ki c,kh (by decide),kh (by lia)];lia
    rw[st,<- val]
   ·obtain⟨rfl,rfl⟩:=x;rw[ke,kK (by rw[ke];exact ki _)];refine lay2 (o:=.lst ((ps.map (dnE n)).map V.int)) hp fun G1 s1 e1=>?_;refine⟨_,rfl,_,rfl,_,rfl,p,_,rfl,Zt.of e1,fun d1 h1=>?_⟩;rw[Zcp];refine lay2 (o:=.lst (((ps.map (dnE n)).map V.int).take n)) h1 fun G2 s2 e2=>?_;refine⟨_,rfl,_,rfl,_,_,rfl,rfl,_,rfl,?_⟩;dsimp only[Zaw];refine⟨p,_,rfl,Zt.of (s2 _ _ e1),fun d4 h4=>?_⟩;rw[show (n:Int)+2=((n+2:Nat):Int) by push_cast;rfl,Zcs];refine lay2 (o:=.lst (((ps.map (dnE n)).map V.int).drop (n+2))) h4 fun G5 s5 e5=>?_;refine⟨d1,d4,_,_,rfl,rfl,s5 _ _ e2,e5,(by rw[Kn];simp;lia),fun d5 h5=>?_⟩;have sA:=(s1.trans s2).trans s5;refine k _ d5 _ mv (sA.trans (Zi.laid h5)) (sA.free h5) ?_;rw[Zc];unfold ZbY;simp
  have ne:kd ≠ "end" := fun z=>he (by rw[z];exact kM rfl);have mv:WU ps (kd,(n:Int))=some (Uk ps n):=by unfold WU;dsimp only;rw[kh nb,kX,gd,kh c,kh ne]
  refine⟨_,rfl,l,rfl,⟨_,Zt.of hl⟩,Ja (K:=K) (a:=l) (xs:=ps.map V.int) (by rw[ke,Kn];lia) (fun i zs G=>G=H/\zs=((ps.map (GQ n)).take i).map V.int) ⟨rfl,rfl⟩ (fun i zs G x=>by rw[x.2,ke,kL];lia) (fun i zs G x=>by rw[x.1];exact Zt.of hl) (fun i y zs G hy x=>?_) (fun zs G x p hp=>?_)⟩
  ·obtain⟨rfl,rfl⟩:=x;obtain⟨m,hm,rfl⟩:∃m,ps[i]? = some m/\y=V.int m:=by
    rw[kE] at hy;obtain⟨m,h1,h2⟩:=Ka.mp hy;exact⟨m,h1,h2.symm⟩
   have st:((ps.map (GQ n)).take (i+1)).map V.int=((ps.map (GQ n)).take i).map V.int ++ [V.int (GQ n m)]:=by rw[Ke,kE,hm,k6];rfl
   refine⟨_,rfl,_,rfl,_,rfl,rfl,.inr ⟨_,rfl,_,_,rfl,rfl,_,rfl,_,rfl,_,_,rfl,rfl,rfl,.inr ⟨_,rfl,_,_,rfl,rfl,rfl,?_⟩⟩⟩;have val:m+(if decide (V.int m=V.int n)=true then 1 else 0)-(if decide (V.int m=V.int ((n:Int)+1))=true then 1 else 0)=GQ n m:=by
    unfold GQ;simp only[V.int.injEq,KA];by_cases c1:m=(n:Int)
    ·rw[kj c1,kj c1,kh (by lia)];lia
    ·rw[kh c1,kh c1];by_cases c2:m=(n:Int)+1
     ·rw[kj c2,kj c2];lia
     ·rw[kh c2,kh c2];lia
   rw[st,<- val]
  ·obtain⟨rfl,rfl⟩:=x;rw[ke,kK (by rw[ke];exact ki _)];refine lay2 (o:=.lst ((ps.map (GQ n)).map V.int)) hp fun G1 s1 e1=>?_;generalize eM:ps.map (GQ n)=M at *;have lM:M.length=ps.length:=by rw[<- eM,ke]
   have kc:(n:Int)+1=((n+1:Nat):Int):=by push_cast;rfl
   have g1:(M.map V.int)[n+1]? = some (V.int (M.getD (n+1) 0)):=by rw[kE,KO,kU (by lia)];rfl
   have g0:(M.map V.int)[n]? = some (V.int (M.getD n 0)):=by rw[kE,KO,kU (by lia)];rfl
   refine⟨_,rfl,_,rfl,_,_,rfl,rfl,p,_,_,_,rfl,rfl,Zt.of e1,(by rw[kc];exact Zn g1),_,rfl,_,rfl,p,_,_,_,rfl,rfl,Zt.of e1,Zn g0,sz2,fun t2 h2=>?_⟩;refine lay2 (o:=.tup [.int (M.getD (n+1) 0),.int (M.getD n 0)]) h2 fun G2 s2 e2=>?_;have put:∀{G':Hp}{o:HO},Zi G G'->Zi G (upd G' p o):=fun s c o e=>by rw[Zh (Zf e hp)];exact s c o e
   refine⟨t2,_,rfl,YJ.of e2,rfl,_,_,rfl,_,rfl,_,rfl,p,_,_,n,rfl,rfl,s2 _ _ e1,Y9 (by rw[ke];lia),?_⟩;refine⟨_,_,rfl,_,rfl,_,rfl,_,_,rfl,rfl,p,_,_,n+1,rfl,rfl,Zc,(by rw[kc];exact Y9 (by rw[KY,ke];lia)),?_⟩;rw[Jz];refine⟨rfl,_,rfl,k _ p _ mv (put (s1.trans s2)) hp ?_⟩;rw[Zc];unfold Uk;rw[eM,qZ,qZ]
def US (ps:QG)(k:Nat):Bool:=GF k (ps.getD k 0).toNat (ps.getD (k+1) 0).toNat
def J4 (q:Str×Int)(z:Bool)(t:Nat)(r:QG×QG):List (QG×QG):=
 match WU r.2 q with
 | none=>[]
 | some ps=>(r.1,ps)::(if q.1 = "cross" /\ z=true/\US r.2 q.2.toNat=false then[(r.1 ++ [(t:Int)],r.2)] else[])
def YD (ls:QB)(z:Nat->Bool):Nat->List (QG×QG)
 | 0=>[([],[])]
 | i+1=>match ls[i]? with
  | none=>YD ls z i
  | some q=>(YD ls z i).flatMap (J4 q (z i) i)
def Zif (q:Str×Int)(n m:Int):Prop:=0<=q.2/\((q.1 = "born" /\ q.2<=n/\m=n+2)∨(q.1 = "cross" /\ q.2+1<n/\m=n)∨(q.1 = "end" /\ q.2+1<n/\m=n-2))
theorem Zep {l:QB}{p:Str×Int}{m:Int}(h:Wk (l ++ [p]) m):∃n,Wk l n/\Zif p n m:=by
 generalize hq:l ++ [p]=q at h;cases h with
 | nil=>exact absurd hq (by simp)
 | born h h0 h1=>obtain⟨rfl,rfl⟩:=Ua hq;exact⟨_,h,h0,.inl ⟨rfl,h1,rfl⟩⟩
 | cross h h0 h1=>obtain⟨rfl,rfl⟩:=Ua hq;exact⟨_,h,h0,.inr (.inl ⟨rfl,h1,rfl⟩)⟩
 | fin h h0 h1=>obtain⟨rfl,rfl⟩:=Ua hq;exact⟨_,h,h0,.inr (.inr ⟨rfl,h1,rfl⟩)⟩
theorem ZcH {l:QB}{n m:Int}(a:Wk l n)(b:Wk l m):n=m:=(Zah a).symm.trans (Zah b)
theorem Zjx {ps:QG}{n:Nat}(pt:PtL ps)(hn:n+1<ps.length)(ne:ps.getD n 0≠(n:Int)+1):Zck ps n (ps.getD n 0).toNat (ps.getD (n+1) 0).toNat:=by
 obtain⟨x,hx⟩:∃x,ps[n]? = some x:=⟨_,kU (by lia)⟩;obtain⟨a,rfl,ea,na⟩:=pt n x hx;obtain⟨y,hy⟩:∃y,ps[n+1]? = some y:=⟨_,kU (by lia)⟩;obtain⟨b,rfl,eb,nb⟩:=pt (n+1) y hy;have gd:ps.getD n 0=(a:Int):=by rw[KO,hx];rfl
 have gd1:ps.getD (n+1) 0=(b:Int):=by rw[KO,hy];rfl
 rw[gd] at ne;rw[gd,gd1,kX,kX];exact⟨pt,hx,hy,fun z=>ne (by lia)⟩
theorem ZkX {ps r:QG}{q:Str×Int}{n m:Int}(pt:PtL ps)(hl:(ps.length:Int)=n)(ft:Zif q n m)(h:WU ps q=some r):PtL r/\(r.length:Int)=m:=by
 obtain⟨kd,k⟩:=q;obtain⟨k0,ft⟩:=ft;dsimp only at k0 ft;obtain⟨k,rfl⟩:=kT k0;unfold WU at h;dsimp only at h;rw[kX] at h;rcases ft with⟨rfl,f1,rfl⟩ | ⟨rfl,f1,rfl⟩ | ⟨rfl,f1,rfl⟩
 ·rw[kj rfl] at h;injection h with h
  subst h;exact⟨pt.born (by lia),by rw[ZjV];lia⟩
 ·rw[kh (by decide)] at h;split at h
  ·cases h
  ·rename_i c
   rw[kh (by decide)] at h;injection h with h
   subst h;have ne:ps.getD k 0≠(k:Int)+1:=fun z=>c (by rw[kM z];rfl);exact⟨(Zjx pt (by lia) ne).kept,by rw[ZkF];lia⟩
 ·rw[kh (by decide)] at h;split at h
  ·cases h
  ·rename_i c
   rw[kj rfl] at h;injection h with h
   subst h;have e:ps.getD k 0=(k:Int)+1:=by
    by_cases z:ps.getD k 0=(k:Int)+1
    ·exact z
    ·exact absurd (by rw[Ki z];rfl) c
   have hx:ps[k]? = some ((k:Int)+1):=by rw[<- e,KO,kU (by lia)];rfl
   have:=Zl5 (ps:=ps) (k:=k) (by lia);exact⟨pt.ended hx,by lia⟩
theorem ZcF {ls:QB}{z:Nat->Bool}{n0:Int}(hW:Wk ls n0):∀i,i<=ls.length -> ∃n,Wk (ls.take i) n /\ ∀r∈YD ls z i,PtL r.2/\(r.2.length:Int)=n
 | 0,_=>⟨0,by simpa using Wk.nil,fun r hr=>by
   rw[k7.mp hr];exact⟨fun i x e=>by simp at e,rfl⟩⟩
 | i+1,h=>by
  obtain⟨n,wn,al⟩:=ZcF hW i (by lia);obtain⟨q,hq⟩:∃q,ls[i]? = some q:=⟨_,kU (by lia)⟩;obtain⟨m,wm⟩:=GA hW (i+1);refine⟨m,wm,fun r hr=>?_⟩;rw[Ke,hq] at wm;obtain⟨n',wn',ft⟩:=Zep (show Wk (ls.take i ++ [q]) m from wm);have:=ZcH wn wn';subst this;rw[YD,hq] at hr;obtain⟨r0,h0,hr⟩:=KW.mp hr;obtain⟨p0,l0⟩:=al r0 h0;unfold J4 at hr;cases hm:WU r0.2 q with
  | none=>rw[hm] at hr;cases hr
  | some ps=>
   rw[hm] at hr;rcases kP.mp hr with rfl | hr
   ·exact ZkX p0 l0 ft hm
   ·split at hr
    ·rename_i c
     rw[k7.mp hr];refine⟨p0,?_⟩;rcases ft.2 with⟨e,_⟩ | ⟨_,_,e⟩ | ⟨e,_⟩
     ·exact absurd (e.symm.trans c.1) (by decide)
     ·rw[e];exact l0
     ·exact absurd (e.symm.trans c.1) (by decide)
    ·cases hr
theorem Zbi {α β:Type}(f:α -> List β)(c:Nat):∀l:List α,(∀x∈l,(f x).length<=c)->(l.flatMap f).length<=l.length*c
 | [],_=>by simp
 | x::l,h=>by rw[qm,kg,K3,Nat.succ_mul];have h1:=h x kQ;have h2:=Zbi f c l fun y hy=>h y (kS _ hy);lia
theorem ZdJ {ls:QB}{z:Nat->Bool}:∀i,i<=ls.length->(YD ls z i).length<=2 ^ nX (ls.take i)
 | 0,_=>by simp[YD,nX]
 | i+1,h=>by
  have ih:=ZdJ (ls:=ls) (z:=z) i (by lia);obtain⟨q,hq⟩:∃q,ls[i]? = some q:=⟨_,kU (by lia)⟩;rw[YD,hq,Ke,hq];have e:nX (ls.take i ++ [q])=nX (ls.take i)+(if q.1=("cross" : Str) then 1 else 0):=by unfold nX;rw[Lz,List.countP_singleton];by_cases c:q.1=("cross" : Str)<;>simp[c]
  show _<=2 ^ nX (ls.take i ++ [q]);rw[e];by_cases c:q.1=("cross" : Str)
  ·rw[kj c,Nat.pow_succ];refine Kx (Zbi _ 2 _ fun r _=>?_) (MS 2 ih);unfold J4;split
   ·simp
   ·split<;>simp
  ·rw[kh c,Nd];refine Kx (Zbi _ 1 _ fun r _=>?_) (by lia);unfold J4;split
   ·simp
   ·rw[kh (fun z=>c z.1)];simp
theorem Zhp (ls:QB)(i:Nat):nX (ls.take i)<=nX ls:=by unfold nX;exact List.Sublist.countP_le (List.take_sublist i ls)
theorem U4 {ls:QB}{z:Nat->Bool}:∀i,∀r∈YD ls z i,r.1.length<=i
 | 0,r,hr=>by rw[k7.mp hr];exact ki _
 | i+1,r,hr=>by
  rw[YD] at hr;split at hr
  ·have:=U4 i r hr;lia
  ·obtain⟨r0,h0,hr⟩:=KW.mp hr;have ih:=U4 i r0 h0;unfold J4 at hr;split at hr
   ·cases hr
   ·rcases kP.mp hr with rfl | hr
    ·exact Kx ih (qR _)
    ·split at hr
     ·rw[k7.mp hr];rw[kg,Ks];lia
     ·cases hr
theorem ZkP (q:Str×Int)(z:Bool)(t:Nat)(r:QG×QG):(J4 q z t r).length<=2:=by
 unfold J4;split
 ·simp
 ·split<;>simp
theorem Zds {α β:Type}{F:α -> β -> Prop}:∀{l:List α}{m:List β}{i:Nat}{x:α},Paired F l m->l[i]? = some x -> ∃y,m[i]? = some y/\F x y
 | _,_,_,_,.nil,e=>by simp at e
 | _,_,0,_,.cons r _,e=>by simp at e;subst e;exact⟨_,rfl,r⟩
 | _,_,i+1,_,.cons _ t,e=>by obtain⟨y,h1,h2⟩:=Zds (i:=i) t (by simpa using e);exact⟨y,by simpa using h1,h2⟩
theorem ZaT {α β:Type}{F:α -> β -> Prop}:∀{l:List α}{m:List β},Paired F l m->l.length=m.length
 | _,_,.nil=>rfl
 | _,_,.cons _ t=>Ky (· + 1) (ZaT t)
theorem Paired.snoc' {α β:Type}{F:α -> β -> Prop}{x:α}{y:β}(hxy:F x y):∀{l:List α}{m:List β},Paired F l m->Paired F (l ++ [x]) (m ++ [y])
 | _,_,.nil=>.cons hxy .nil
 | _,_,.cons r t=>.cons r (Paired.snoc' hxy t)
abbrev DL:=List (QG×QA)
def Yx (L:DL):List (QG×QG):=L.flatMap fun r=>r.2.map fun ch=>(ch,r.1)
def Ut:DL->List Int->List QG->DL
 | [],k,n=>[(k,n)]
 | r::L,k,n=>if r.1=k then(k,n)::L else r::Ut L k n
def GW:DL->List Int->List QG
 | [],_=>[]
 | r::L,k=>if r.1=k then r.2 else GW L k
theorem ZdP (k:QG)(n:QA):∀(L:DL),∀x,x∈(Ut L k n).map (·.1) ↔ x=k∨x∈L.map (·.1)
 | [],x=>by simp[Ut]
 | r::L,x=>by
  unfold Ut;split
  ·rename_i c;subst c;simp
  ·rw[kH,kP,ZdP k n L x,kH,kP];constructor
   ·rintro(h | h | h)
    ·exact .inr (.inl h)
    ·exact .inl h
    ·exact .inr (.inr h)
   ·rintro(h | h | h)
    ·exact .inr (.inl h)
    ·exact .inl h
    ·exact .inr (.inr h)
theorem ZcK (k:QG)(n:QA):∀{L:DL},(L.map (·.1)).Nodup->((Ut L k n).map (·.1)).Nodup
 | [],_=>by simp[Ut]
 | r::L,nd=>by
  rw[kH,Kl] at nd;unfold Ut;split
  ·rename_i c
   rw[kH,Kl];rw[c] at nd;exact nd
  ·rename_i c
   rw[kH,Kl,ZdP];exact⟨fun z=>z.elim c nd.1,ZcK k n nd.2⟩
theorem Zh7 (k:QG){n:QA}(hn:n ≠ []):∀{L:DL},(∀r∈L,r.2 ≠ []) -> ∀r∈Ut L k n,r.2 ≠ []
 | [],_,r,hr=>by rw[k7.mp hr];exact hn
 | r0::L,h,r,hr=>by
  unfold Ut at hr;split at hr
  ·rcases kP.mp hr with rfl | hr
   ·exact hn
   ·exact h r (kS _ hr)
  ·rcases kP.mp hr with rfl | hr
   ·exact h r kQ
   ·exact Zh7 k hn (fun x hx=>h x (kS _ hx)) r hr
theorem ZdS (k:QG)(more:QA):∀(L:DL),(Yx (Ut L k (GW L k++more))).Perm (Yx L++more.map fun ch=>(ch,k))
 | []=>by simp[Ut,GW,Yx]
 | r::L=>by
  unfold Ut GW;by_cases c:r.1=k
  ·rw[kj c,kj c];unfold Yx;rw[qm,qm,k6,c,kJ,kJ];exact KD _ KG
  ·rw[kh c,kh c];unfold Yx;rw[qm,qm,kJ];exact KD _ (ZdS k more L)
theorem ZhB:∀{L:DL},(∀r∈L,r.2 ≠ [])->L.length<=(Yx L).length
 | [],_=>KP _
 | r::L,h=>by unfold Yx;rw[qm,kg,ke,K3];have h1:=ZhB (L:=L) fun x hx=>h x (kS _ hx);have h2:0<r.2.length:=List.length_pos_iff.mpr (h r kQ);unfold Yx at h1;lia
theorem Zhl (k:QG):∀L:DL,(GW L k).length<=(Yx L).length
 | []=>KP _
 | r::L=>by
  unfold GW Yx;rw[qm,kg,ke];split
  ·lia
  ·have:=Zhl k L;unfold Yx at this;lia
def ZbT (t:Nat)(chs:QA)(w:QG×Bool):List (QG×QG):=(if w.2=true then chs.map fun ch=>ch ++ [(t:Int)] else chs).map fun ch=>(ch,w.1)
theorem ZeM (ps:QG)(q:Str×Int)(h:QW)(hq:q.1 = "born" ∨ q.1 = "end" ∨ q.1 = "cross"):J7 ps q h=match WU ps q with
  | none=>[]
  | some r=>(r,false)::(if q.1 = "cross" /\ h=some 0/\US ps q.2.toNat=false then[(ps,true)] else[]):=by
 unfold J7 WU;by_cases c1:q.1 = "born"
 ·rw[kj c1,kj c1];dsimp only;rw[kh (fun z=>absurd (c1.symm.trans z.1) (by decide))]
 ·rw[kh c1,kh c1];by_cases c2:(decide (ps.getD q.2.toNat 0=q.2+1) != decide (q.1 = "end"))=true
  ·rw[kj c2,kj c2]
  ·rw[kh c2,kh c2];by_cases c3:q.1 = "end"
   ·rw[kj c3,kj c3];dsimp only;rw[kh (fun z=>absurd (c3.symm.trans z.1) (by decide))]
   ·rw[kh c3,kh c3];have c4:q.1 = "cross" := (hq.resolve_left c1).resolve_left c3;dsimp only;unfold US;congr 1;by_cases c5:h=some 0/\GF q.2.toNat (ps.getD q.2.toNat 0).toNat (ps.getD (q.2.toNat+1) 0).toNat=false
    ·rw[kj c5,kj ⟨c4,c5⟩]
    ·rw[kh c5,kh (fun z=>c5 z.2)]
theorem ZmX {α β:Type}(f g:α -> β)(c:Prop)[Decidable c]:∀l:List α,(l.flatMap fun x=>f x::(if c then[g x] else[])).Perm (l.map f++if c then l.map g else[])
 | []=>by simp
 | x::l=>by
  have ih:=ZmX f g c l;rw[qm,kH];by_cases h:c
  ·rw[kj h,kj h] at *;rw[kH];refine List.Perm.cons _ ?_;refine(List.Perm.cons _ ih).trans ?_;exact List.perm_middle.symm
  ·rw[kh h,kh h] at *;exact List.Perm.cons _ ih
theorem ZiQ (ps:QG)(q:Str×Int)(h:QW)(t:Nat)(hq:q.1 = "born" ∨ q.1 = "end" ∨ q.1 = "cross")(chs:QA):
  ((J7 ps q h).flatMap (ZbT t chs)).Perm ((chs.map fun ch=>(ch,ps)).flatMap (J4 q (decide (h=some 0)) t)):=by
 rw[ZeM ps q h hq,List.flatMap_map];unfold J4;dsimp only;cases hm:WU ps q with
 | none=>simp
 | some r=>
  dsimp only;refine List.Perm.symm ?_;refine((ZmX (fun ch=>((ch,r):QG×QG)) (fun ch=>(ch ++ [(t:Int)],ps)) (q.1 = "cross" /\ decide (h=some 0)=true/\US ps q.2.toNat=false) chs).trans ?_);rw[qm];refine List.Perm.of_eq ?_;unfold ZbT;by_cases c:q.1 = "cross" /\ h=some 0/\US ps q.2.toNat=false
  ·rw[kj c,kj ⟨c.1,kM c.2.1,c.2.2⟩];simp
  ·rw[kh c,kh (fun z=>c ⟨z.1,kO z.2.1,z.2.2⟩)];simp
def Gg (G:Hp)(kv:List Key×V)(r:QG×QA):Prop:=kv.1=kW r.1 /\ ∃(a:Addr)(ws:QH),kv.2 = .ref a/\G a=some (.lst ws)/\Words G ws r.2
theorem Gg.mono {G G':Hp}(h1:∀a ws,G a=some (.lst ws)->G' a=some (.lst ws))(h2:∀a ws,G a=some (.tup ws)->G' a=some (.tup ws)){kv:List Key×V}{r:QG×QA}:Gg G kv r->Gg G' kv r
 | ⟨e,a,ws,e2,h,w⟩=>⟨e,a,ws,e2,h1 _ _ h,L2.Paired.imp' (fun _ _ ⟨b,e,h⟩=>⟨b,e,h2 _ _ h⟩) w⟩
theorem Zda {G:Hp}{k:QG}:∀{kvs:List (List Key×V)}{L:DL},Paired (Gg G) kvs L->(Y5 kvs (kW k)=none/\GW L k = []) ∨ ∃(a:Addr)(ws:QH),Y5 kvs (kW k)=some (.ref a)/\G a=some (.lst ws)/\Words G ws (GW L k)
 | _,_,.nil=>.inl ⟨rfl,rfl⟩
 | _,_,.cons (a:=kv) (b:=r) ⟨e,a,ws,e2,h,w⟩ t=>by
  by_cases c:r.1=k
  ·refine .inr ⟨a,ws,?_,h,?_⟩
   ·rw[YA (by rw[e,c]),e2]
   ·unfold GW;rw[kj c];exact w
  ·have:=Zda (k:=k) t;rw[YB (by rw[e];exact fun z=>c (Zei z))];unfold GW;rw[kh c];exact this
theorem ZiM {p:List Key×V}{r:List (List Key×V)}{k:List Key}{v:V}(e:¬p.1=k):putK (p::r) k v=p::putK r k v:=by
 unfold putK;rw[qQ,Ki e,M9];split
 ·rw[kH,kh e]
 ·rfl
theorem Zfq {G:Hp}{k:QG}{p:Addr}{ws:QH}{n:QA}(hp:G p=some (.lst ws))(hw:Words G ws n):∀{kvs:List (List Key×V)}{L:DL},(L.map (·.1)).Nodup->Paired (Gg G) kvs L->Paired (Gg G) (putK kvs (kW k) (.ref p)) (Ut L k n)
 | _,_,_,.nil=>.cons ⟨rfl,p,ws,rfl,hp,hw⟩ .nil
 | kv::kvs,r::L,nd,.cons ⟨e,a,ws',e2,h,w⟩ t=>by
  rw[kH,Kl] at nd;by_cases c:r.1=k
  ·have e1:kv.1=kW k:=by rw[e,c]
   have un:∀{kvs:List (List Key×V)}{L:DL},Paired (Gg G) kvs L->k∉L.map (·.1)->kvs.map (fun x=>if x.1=kW k then(x.1,V.ref p) else x)=kvs:=fun {kvs L} t hk=>by
    induction t with
    | nil=>rfl
    | cons r0 t ih=>
     rw[kH,kP,Om] at hk;rw[kH,ih hk.2,kh (by rw[r0.1];exact fun z=>hk.1 (Zei z).symm)]
   unfold putK Ut;rw[kj c,kj (by rw[qQ,kM e1,Mk]),kH,kj e1,un t (by rw[<- c];exact nd.1)];exact .cons ⟨e1,p,ws,rfl,hp,hw⟩ t
  ·rw[ZiM (by rw[e];exact fun z=>c (Zei z))];unfold Ut;rw[kh c];exact .cons ⟨e,a,ws',e2,h,w⟩ (Zfq hp hw nd.2 t)
def Zow (K:QF)(sp:Sp):TS:=
 WR (W6 (Zb5 sp [] E0 (Yl (ZX 0) (Yl (ZX 1) JT))) (Yw 2))
  (WR (W6 (Zi4 (Zbh JT) (Zkl (Yl (Zbh JT) JT))) (Yw 3))
   (WR
    (ZgG (ZjZ K (Yl (ZX 0) JT)) (ZeL K 2 (GC (Yw 4) (GC (Yw 5) Zfu)))
     (WR (W6 ZjF (Yw 6))
      (WR
       (ZgG (Zky (ZX 3)) (ZeL K 2 (GC (Yw 7) (GC (Yw 8) Zfu)))
        (ZgG
         (Zfw K
          (Zb5 Zgw [] E0 (Yl (ZX 7) (Yl (ZX 5) (Yl (Zkd (ZX 2) (ZX 4)) JT)))))
         (ZeL K 2 (GC (Yw 9) (GC (Yw 10) Zfu)))
         (WR
          (W6
           (tIf (tB (ZX 10))
            (tLc [Str.ofString "one"].length [4] (Zfw K (ZX 8)) (Yw 0) ZdK
             (tOp Zg3 (ZX 0) (Zbh (Yl (ZX 1) JT))))
            (ZX 8))
           (Yw 11))
          (W6 (tOp ZlP (Zeq (ZX 6) (ZX 9) (Zkl JT)) (ZX 11)) (ZgD (ZX 6) (ZX 9) Zc8)))))
       (W6 (ZX 6) (Yw 3)))))
    (Zn1
     (tLc [Str.ofString "one"].length []
      (Zfw K (tCB (ZeH K) (Yl (Zeq (ZX 3) (Zbh JT) (Zkl JT)) JT))) (Yw 0) ZdK
      (tCB
       (Za9 K)
       (Yl (ZX 0) JT))))))
def Zn5:Sp:=fun vs H Q _=>∃l:Addr,∃sc:Int,∃ls:QB,∃g:QX,vs = [.ref l,.int sc]/\(sc=0∨sc=1)/\Drw H l ls/\HG sc ls g /\ ∀(p:Addr)(H':Hp)(kvs:QD),Zi H H'->H p=none->H' p=some (.dK kvs)->(∀t:Nat,t<ls.length->Y5 kvs (Sum.inl (t:Int))=(GB g ls t).map V.int)->Q (.ref p) H'
def Zpo:Sp:=fun vs H Q _=>∃l:Addr,∃sc:Int,∃ls:QB,∃g:QX,vs = [.ref l,.int sc]/\(sc=0∨sc=1)/\Drw H l ls/\HG sc ls g/\nX ls<=13 /\ ∀(p:Addr)(H':Hp)(as:List Addr)(ws:QA),Zi H H'->H p=none->H' p=some (.lst (as.map V.ref))->as.Nodup->(∀a∈as,H a=none/\a≠p)->Paired (fun a w=>H' a=some (.lst (w.map V.int))) as ws->ws.Perm ((YD ls (fun i=>decide (GB g ls i=some 0)) ls.length).map (·.1))->Q (.ref p) H'
theorem ZoO {G:Hp}{b:Addr}{k:QG}(h:G b=some (.tup ((kW k).map kV))):Je G (.ref b) k:=⟨b,rfl,by rw[h,ZjT]⟩
theorem Zce:∀{L:DL}{r:QG×QA},r∈L->r.2.length<=(Yx L).length
 | r0::L,r,h=>by
  unfold Yx;rw[qm,kg,ke];rcases kP.mp h with rfl | h
  ·lia
  ·have:=Zce h;unfold Yx at this;lia
theorem ZeD (L:DL)(j:Nat):(Yx (L.take j)).length<=(Yx L).length:=by
 have:Yx L=Yx (L.take j)++Yx (L.drop j):=by unfold Yx;rw[<- Tc,Kt]
 rw[this,kg];lia
theorem Zk2 (ps:QG)(q:Str×Int)(h:QW)(hq:q.1 = "born" ∨ q.1 = "end" ∨ q.1 = "cross"):(J7 ps q h).length<=2:=by
 rw[ZeM ps q h hq];split
 ·simp
 ·split<;>simp
theorem ZkV {H:Hp}{Q:VK}(l:Addr)(sc:Int)(ls:QB)(g:QX)(hsc:sc=0∨sc=1)(dr:Drw H l ls)(hg:HG sc ls g)(n13:nX ls<=13)
  (k:∀(p:Addr)(H':Hp)(as:List Addr)(ws:QA),Zi H H'->H p=none->H' p=some (.lst (as.map V.ref))->as.Nodup->(∀a∈as,H a=none/\a≠p)->Paired (fun a w=>H' a=some (.lst (w.map V.int))) as ws->ws.Perm ((YD ls (fun i=>decide (GB g ls i=some 0)) ls.length).map (·.1))->Q (.ref p) H'):
  Zow K Zn5 { nx:=fun x H'=>Q V.non H',rt:=Q } (L2.start [Str.ofString "drawing", Str.ofString "scale", Str.ofString "heights", Str.ofString "begun", Str.ofString "t", Str.ofString "letter", Str.ofString "behind", Str.ofString "partners", Str.ofString "lists", Str.ofString "then", Str.ofString "changed", Str.ofString "more"] [.ref l,.int sc]) H:=by
 obtain⟨xs,hl,hL,hW,hlen⟩:=id dr;have hxl:=hL.len;refine⟨_,rfl,_,rfl,l,sc,ls,g,rfl,hsc,dr,hg,fun hp H1 kvh s1 fh eh vh=>?_⟩;refine fun bg0 fb=>?_;refine lay2 (o:=.dT []) fb fun H2 s2 e2=>?_;refine⟨sz0,fun e0 fe0=>?_⟩;refine lay2 (o:=.tup []) fe0 fun H3 s3 e3=>?_;refine⟨sz0,fun e1 fe1=>?_⟩;refine lay2 (o:=.tup []) fe1 fun H4 s4 e4=>?_;refine⟨sz1,fun l1 fl1=>?_⟩;refine lay2 (o:=.lst [.ref e1]) fl1 fun H5 s5 e5=>?_;have b5:=s5 _ _ (s4 _ _ (s3 _ _ e2));refine⟨b5,e0,[],rfl,s5 _ _ (s4 _ _ e3),?_⟩;obtain⟨G0,eG0⟩:∃G0,upd H5 bg0 (.dT [([],.ref l1)])=G0:=⟨_,rfl⟩;rw[eG0];have s15:Zi H1 H5:=((s2.trans s3).trans s4).trans s5;have sG0:Zi H1 G0:=fun c o e=>by rw[<- eG0,Zh (Zf e fb)];exact s15 c o e
 have n1:l1≠bg0:=J0 e5 b5 (fun z=>nomatch z);have n2:e1≠bg0:=J0 (s5 _ _ e4) b5 (fun z=>nomatch z);have g1:G0 l1=some (.lst [.ref e1]):=by rw[<- eG0,Zh n1];exact e5
 have g2:G0 e1=some (.tup []):=by rw[<- eG0,Zh n2];exact s5 _ _ e4
 have g3:G0 bg0=some (.dT [([],.ref l1)]):=by rw[<- eG0];exact Zc
 obtain⟨zf,ezf⟩:∃zf:Nat->Bool,zf=fun i=>decide (GB g ls i=some 0):=⟨_,rfl⟩;rw[<- ezf] at k;have few:∀i,i<=ls.length->(YD ls zf i).length<=8192:=fun i hi=>by refine Kx (ZdJ i hi) (Kx (MT (by decide) (Kx (Zhp ls i) n13)) (by decide))
 have hl1:=s1 _ _ hl;refine⟨_,rfl,l,rfl,⟨_,Zt.of (sG0 _ _ hl1)⟩,Zbd (K:=K) (a:=l) (xs:=xs) (fun i σ G=>∃(bg:Addr)(kvs:List (List Key×V))(L:DL)(v4 v5 v6 v7 v8 v9 v10 v11:QI),σ = [some (.ref l),some (.int sc),some (.ref hp),some (.ref bg),v4,v5,v6,v7,v8,v9,v10,v11]/\Zi H1 G/\H1 bg=none/\G bg=some (.dT kvs)/\Paired (Gg G) kvs L/\(L.map (·.1)).Nodup/\(∀r∈L,r.2 ≠ [])/\(Yx L).Perm (YD ls zf i))
  ⟨bg0,_,[([],[[]])],_,_,_,_,_,_,_,_,rfl,sG0,fb,g3,.cons ⟨rfl,l1,_,rfl,g1,.cons ⟨e1,rfl,g2⟩ .nil⟩ .nil,by simp,by simp,XX _⟩ (fun i σ G _ ⟨_,_,_,_,_,_,_,_,_,_,_,_,s',_⟩=>Zt.of (s' _ _ hl1)) ?_ ?_⟩
 ·rintro i x pe σ G hx ⟨bg,kvs,L,v4,v5,v6,v7,v8,v9,v10,v11,rfl,sG,fbg,ebg,hB,nd,ne,pm⟩ fpe;obtain⟨q,ta,hq,rfl,hta⟩:=hL.get hx;have hi:i<ls.length:=(kI.mp hq).1;obtain⟨n,wn,al⟩:=ZcF (z:=zf) hW i (by lia);obtain⟨m,ft⟩:∃m,Zif q n m:=by
   obtain⟨m,wm⟩:=GA hW (i+1);rw[Ke,hq] at wm;obtain⟨n',wn',ft⟩:=Zep (show Wk (ls.take i ++ [q]) m from wm);rw[ZcH wn wn'];exact⟨m,ft⟩
  have n2:=ZbE wn;have tl:(ls.take i).length=i:=by rw[kL];lia
  have psz:YD ls zf (i+1)=(YD ls zf i).flatMap (J4 q (zf i) i):=by rw[YD,hq]
  have kq:q.1 = "born" ∨ q.1 = "end" ∨ q.1 = "cross" := by
   rcases ft.2 with⟨e,_⟩ | ⟨e,_⟩ | ⟨e,_⟩
   ·exact .inl e
   ·exact .inr (.inr e)
   ·exact .inr (.inl e)
  refine⟨pe,_,rfl,YJ.of Zc,rfl,_,_,rfl,_,_,rfl,rfl,?_⟩;refine lay2 (o:=.tup [.int (i:Int),.ref ta]) fpe fun G1 sg1 eg1=>?_;refine fun bh fbh=>?_;refine lay2 (o:=.dT []) fbh fun G2 sg2 eg2=>?_;have ebg2:=sg2 _ _ (sg1 _ _ ebg);have nbb:bg≠bh:=Zf (sg1 _ _ ebg) fbh;refine⟨_,rfl,bg,kvs,rfl,ebg2,fun o=>?_⟩;obtain⟨G3,eG3⟩:∃G3,upd G2 bg (.frz o (.dT kvs))=G3:=⟨_,rfl⟩;rw[eG3];have fr3:YK bg G2 G3:=by rw[<- eG3];exact YK.upd
  have sH2:Zi H1 G2:=(sG.trans sg1).trans sg2;have sH3:Zi H1 G3:=fun c u e=>fr3 c u (sH2 c u e) (Zf e fbg);have ebg3:G3 bg=some (.frz o (.dT kvs)):=by rw[<- eG3];exact Zc
  have ebh3:G3 bh=some (.dT []):=fr3 _ _ eg2 (Kz nbb);have fbhH:H1 bh=none:=(sG.trans sg1).free fbh;have hB3:Paired (Gg G3) kvs L:=L2.Paired.imp' (fun _ _ h=>h.mono (fun a ws e=>fr3 a _ (sg2 _ _ (sg1 _ _ e)) (J0 e ebg (fun z=>nomatch z))) (fun a ws e=>fr3 a _ (sg2 _ _ (sg1 _ _ e)) (J0 e ebg (fun z=>nomatch z)))) hB;have kl:=ZaT hB;have zi:zf i=decide (GB g ls i=some 0):=by rw[ezf]
  have lim:∀{X:List (QG×QG)}{T:DL} , True:=fun {_ _}=>trivial;refine ZiG (d:=bg) (o:=o) (kvs:=kvs) (fun j σ G'=>∃(kb:List (List Key×V))(B:DL)(v7 v8 v9 v10 v11:QI),σ = [some (.ref l),some (.int sc),some (.ref hp),some (.ref bg),some (.int (i:Int)),some (.ref ta),some (.ref bh),v7,v8,v9,v10,v11]/\YK bh G3 G'/\G' bh=some (.dT kb)/\Paired (Gg G') kb B/\(B.map (·.1)).Nodup/\(∀r∈B,r.2 ≠ [])/\(Yx B).Perm ((Yx (L.take j)).flatMap (J4 q (zf i) i)))
   ⟨[],[],_,_,_,_,_,rfl,YK.refl _ _,ebh3,.nil,by simp,by simp,XX _⟩ (fun j σ G' _ ⟨_,_,_,_,_,_,_,_,f',_⟩=>f' _ _ ebg3 nbb) ?_ ?_
  ·rintro j kk xv t b σ G' hkv ⟨kb,B,v7,v8,v9,v10,v11,rfl,f',ebh,hBB,ndB,neB,pmB⟩ ftt htb;obtain⟨r,hr',ek,al0,ws,exv,hws,hww⟩:=Zds hB3 hkv;dsimp only at ek exv;subst ek exv;have rm:r∈L:=k9 hr';obtain⟨ch0,hch0⟩:∃ch,ch∈r.2:=NC _ (ne r rm);have inp:(ch0,r.1)∈YD ls zf i:=pm.mem_iff.mp (KW.mpr ⟨r,rm,Kq.mpr ⟨ch0,hch0,rfl⟩⟩);obtain⟨ptr,lr⟩:=al _ inp;dsimp only at ptr lr;refine⟨t,_,rfl,YJ.of Zc,rfl,_,_,rfl,_,_,rfl,rfl,?_⟩;refine lay2 (o:=.tup [.ref b,.ref al0]) ftt fun G4 sg4 eg4=>?_;have f4:YK bh G3 G4:=f'.trans sg4.frm;have hp4:G4 hp=some (.dK kvh):=f4 _ _ (sH3 _ _ eh) (Zf eh fbhH);have ta4:G4 ta=some (.tup [.str q.1,.int q.2]):=f4 _ _ (sH3 _ _ (s1 _ _ hta)) (Zf (s1 _ _ hta) fbhH);refine⟨_,rfl,_,rfl,_,rfl,hp,rfl,.inl ⟨_,.inl hp4⟩,_,rfl,_,.inl ⟨kvh,.inl (i:Int),.inl hp4,rfl,rfl⟩,?_⟩;rw[vh i hi];refine⟨.ref b,ta,q,GB g ls i,r.1,(by cases GB g ls i<;>rfl),ZoO (sg4 _ _ htb),ta4,by lia,ptr,ft.1,?_,?_,kq,fun p ys H6 s6 e6 pw=>?_⟩
   ·intro nb;rcases ft.2 with⟨e,_⟩ | ⟨_,e,_⟩ | ⟨_,e,_⟩
    ·exact absurd e nb
    ·lia
    ·lia
   ·intro ec z;have kt:UW ls GV i=true:=by rw[Wn hq (pr:=GV),ec];decide
    unfold GB at z;rw[kt] at z;cases z
   have ebh6:H6 bh=some (.dT kb):=s6 _ _ (sg4 _ _ ebh);have nl:∀{a:Addr}{w:QH},G3 a=some (.lst w)->a≠bh:=fun e=>J0 e ebh3 (fun z=>nomatch z);have nt:∀{a:Addr}{w:QH},G3 a=some (.tup w)->a≠bh:=fun e=>J0 e ebh3 (fun z=>nomatch z);have al6:H6 al0=some (.lst ws):=s6 _ _ (f4 _ _ hws (nl hws));have ww6:Words H6 ws r.2:=L2.Paired.imp' (fun _ _ ⟨c,e,h⟩=>⟨c,e,s6 _ _ (f4 _ _ h (nt h))⟩) hww;have hB6:Paired (Gg H6) kb B:=L2.Paired.imp' (fun _ _ h=>h.mono (fun a w e=>s6 _ _ (sg4 _ _ e)) (fun a w e=>s6 _ _ (sg4 _ _ e))) hBB;have f6:YK bh G3 H6:=f4.trans s6.frm;have fle:=ZeD L j;have pml:=pm.length_eq;have fw:=few i (by lia);have rle:=Zce rm;have w2:=Zk2 r.1 q (GB g ls i) kq;have bl:((Yx (L.take j)).flatMap (J4 q (zf i) i)).length<=16384:=Kx (Zbi _ 2 _ fun x _=>ZkP _ _ _ x) (by lia);have wxl:∀w:QG×Bool,(ZbT i r.2 w).length=r.2.length:=fun w=>by unfold ZbT;split<;>simp
   have stj:((Yx (L.take (j+1))).flatMap (J4 q (zf i) i))=((Yx (L.take j)).flatMap (J4 q (zf i) i))++((r.2.map fun ch=>(ch,r.1)).flatMap (J4 q (zf i) i)):=by rw[Ke,hr'];unfold Yx;rw[Tc,Tc];simp
   refine⟨p,rfl,⟨_,Zt.of e6⟩,JG (K:=K) (a:=p) (xs:=ys) (fun m σ G''=>∃(kb:List (List Key×V))(B:DL)(v9 v10 v11:QI),σ = [some (.ref l),some (.int sc),some (.ref hp),some (.ref bg),some (.int (i:Int)),some (.ref ta),some (.ref bh),some (.ref b),some (.ref al0),v9,v10,v11]/\YK bh H6 G''/\G'' bh=some (.dT kb)/\Paired (Gg G'') kb B/\(B.map (·.1)).Nodup/\(∀r∈B,r.2 ≠ [])/\(Yx B).Perm ((Yx (L.take j)).flatMap (J4 q (zf i) i)++((J7 r.1 q (GB g ls i)).take m).flatMap (ZbT i r.2)))
    ⟨kb,B,_,_,_,rfl,YK.refl _ _,ebh6,hB6,ndB,neB,by rw[Nv];simpa using pmB⟩ (fun m σ G'' _ ⟨_,_,_,_,_,_,f',_⟩=>Zt.of (f' _ _ e6 (J0 e6 ebh6 (fun z=>nomatch z)))) ?_ ?_⟩
   ·rintro m y σ G'' hym ⟨kb,B,v9,v10,v11,rfl,f7,eb7,hB7,nd7,ne7,pm7⟩;obtain⟨⟨th,c⟩,hw',t',x',rfl,ht',tb',ex',htb'⟩:=Zds pw hym;dsimp only at ht' htb';subst ex';have nl6:∀{a:Addr}{w:QH},H6 a=some (.lst w)->a≠bh:=fun e=>J0 e ebh6 (fun z=>nomatch z);have nt6:∀{a:Addr}{w:QH},H6 a=some (.tup w)->a≠bh:=fun e=>J0 e ebh6 (fun z=>nomatch z);have ht7:=f7 _ _ ht' (nt6 ht');have htb7:=f7 _ _ htb' (nt6 htb');have al7:=f7 _ _ al6 (nl6 al6);have ww7:Words G'' ws r.2:=L2.Paired.imp' (fun _ _ ⟨c,e,h⟩=>⟨c,e,f7 _ _ h (nt6 h)⟩) ww6;have fbl:(Yx B).length<=32768:=by
     rw[pm7.length_eq,kg];have h1:(((J7 r.1 q (GB g ls i)).take m).flatMap (ZbT i r.2)).length<=2*8192:=by
      refine Kx (Zbi _ 8192 _ fun w _=>?_) (MS _ ?_)
      ·rw[wxl];lia
      ·rw[kL];lia
     lia
    have fin:∀(D:Ends)(mr:Addr)(wm:QH)(chs:QA)(G7:Hp),Zi G'' G7->G7 mr=some (.lst wm)->Words G7 wm chs->chs.length<=8192 ->
      (∀(kb':List (List Key×V))(G8:Hp),YK bh H6 G8->G8 bh=some (.dT kb')->Paired (Gg G8) kb' (Ut B th (GW B th++chs))->D.nx [some (.ref l),some (.int sc),some (.ref hp),some (.ref bg),some (.int (i:Int)),some (.ref ta),some (.ref bh),some (.ref b),some (.ref al0),some (.ref tb'),some (.bl c),some (.ref mr)] G8) ->
      W6 (tOp ZlP (Zeq (ZX 6) (ZX 9) (Zkl JT)) (ZX 11)) (ZgD (ZX 6) (ZX 9) Zc8) D [some (.ref l),some (.int sc),some (.ref hp),some (.ref bg),some (.int (i:Int)),some (.ref ta),some (.ref bh),some (.ref b),some (.ref al0),some (.ref tb'),some (.bl c),some (.ref mr)] G7:=by
     intro D mr wm chs G7 s7 emr hwm lc kD;have eb8:=s7 _ _ eb7;refine⟨_,rfl,bh,rfl,.inr ⟨_,.inl eb8⟩,_,rfl,sz0,fun dl fdl=>?_⟩;refine lay2 (o:=.lst []) fdl fun G9 s9 e9=>?_;have s79:=s7.trans s9;have eb9:=s79 _ _ eb7;have tb9:G9 tb'=some (.tup ((kW th).map kV)):=by rw[ZjT];exact s79 _ _ htb7
     have hB9:Paired (Gg G9) kb B:=L2.Paired.imp' (fun _ _ h=>h.mono (fun a w e=>s79 _ _ e) (fun a w e=>s79 _ _ e)) hB7;have wm9:Words G9 wm chs:=Words.same s9 hwm;have kbl:=ZaT hB9;have fge:=ZhB ne7;have vle:=Zhl th B;have wml:=ZaT hwm;have put:∀(old:QH),Words G9 old (GW B th) -> ∀np,G9 np=none->D.nx [some (.ref l),some (.int sc),some (.ref hp),some (.ref bg),some (.int (i:Int)),some (.ref ta),some (.ref bh),some (.ref b),some (.ref al0),some (.ref tb'),some (.bl c),some (.ref mr)] (upd (upd G9 np (.lst (old++wm))) bh (.dT (putK kb (kW th) (.ref np)))):=fun old ho np fnp=>by
      obtain⟨G10,z,s10,e10⟩:=lay (o:=.lst (old++wm)) fnp;rw[z];clear z;have eb10:=s10 _ _ eb9;have app:∀{a b:QH}{x y:QA},Words G10 a x->Words G10 b y->Words G10 (a++b) (x++y):=fun {a b x y} h1 h2=>by
       induction h1 with
       | nil=>exact h2
       | cons r _ ih=>exact .cons r ih
      have p10:=Zfq (k:=th) e10 (app (Words.same s10 ho) (Words.same s10 wm9)) nd7 (L2.Paired.imp' (fun _ _ h=>h.mono (fun a w e=>s10 _ _ e) (fun a w e=>s10 _ _ e)) hB9);refine kD _ _ ?_ Zc (L2.Paired.imp' (fun _ _ h=>h.mono (fun a w e=>?_) (fun a w e=>?_)) p10)
      ·exact(f7.trans (s79.trans s10).frm).trans YK.upd
      ·rw[Zh (J0 e eb10 (fun z=>nomatch z))];exact e
      ·rw[Zh (J0 e eb10 (fun z=>nomatch z))];exact e
     have tb10:∀{np:Addr}{w:QH},G9 np=none->(upd G9 np (.lst w)) tb'=some (.tup ((kW th).map kV)):=fun h=>Zi.laid h _ _ tb9;have eb10:∀{np:Addr}{w:QH},G9 np=none->(upd G9 np (.lst w)) bh=some (.dT kb):=fun h=>Zi.laid h _ _ eb9;rcases Zda (k:=th) hB9 with⟨hv,hva⟩ | ⟨a1,ws1,hv,ha1,hw1⟩
     ·refine⟨none,.inr ⟨kb,kW th,tb',.inl eb9,rfl,tb9,hv.symm⟩,_,rfl,dl,mr,[],wm,rfl,rfl,e9,s9 _ _ emr,(by rw[Kn];simp;lia),fun np fnp=>?_⟩;refine⟨_,rfl,_,rfl,bh,_,rfl,.inr ⟨kb,kW th,tb',eb10 fnp,rfl,tb10 fnp,(by rw[Kn];lia),rfl⟩,put [] (by rw[hva];exact .nil) np fnp⟩
     ·refine⟨some (.ref a1),.inr ⟨kb,kW th,tb',.inl eb9,rfl,tb9,hv.symm⟩,_,rfl,a1,mr,ws1,wm,rfl,rfl,ha1,s9 _ _ emr,(by have:=ZaT hw1;rw[Kn];lia),fun np fnp=>?_⟩;refine⟨_,rfl,_,rfl,bh,_,rfl,.inr ⟨kb,kW th,tb',eb10 fnp,rfl,tb10 fnp,(by rw[Kn];lia),rfl⟩,put ws1 hw1 np fnp⟩
    have stm:((J7 r.1 q (GB g ls i)).take (m+1)).flatMap (ZbT i r.2)=((J7 r.1 q (GB g ls i)).take m).flatMap (ZbT i r.2)++ZbT i r.2 (th,c):=by rw[Ke,hw',Tc];simp
    have don:∀(chs:QA),chs ≠ []->chs.map (fun ch=>(ch,th))=ZbT i r.2 (th,c)->((Ut B th (GW B th++chs)).map (·.1)).Nodup/\(∀r∈Ut B th (GW B th++chs),r.2 ≠ [])/\(Yx (Ut B th (GW B th++chs))).Perm ((Yx (L.take j)).flatMap (J4 q (zf i) i)++((J7 r.1 q (GB g ls i)).take (m+1)).flatMap (ZbT i r.2)):=fun chs hne he=>by refine⟨ZcK _ _ nd7,Zh7 _ (by simp[hne]) ne7,?_⟩;refine(ZdS th chs B).trans ?_;rw[stm,<- kJ,he];exact qy _ pm7
    refine⟨t',_,rfl,YJ.of ht7,rfl,_,_,rfl,_,_,rfl,rfl,?_⟩;refine⟨_,rfl,_,rfl,ZY (fun cc=>?_) (fun cc=>?_)⟩
    ·have chl:∀ch∈r.2,ch.length<=i:=fun ch hc=>U4 i (ch,r.1) (pm.mem_iff.mp (KW.mpr ⟨r,rm,Kq.mpr ⟨ch,hc,rfl⟩⟩));have wsl:=ZaT ww7;refine⟨_,rfl,al0,rfl,⟨_,Zt.of al7⟩,Ja (K:=K) (a:=al0) (xs:=ws) (by rw[Kn];lia) (fun n zs G7=>Zi G'' G7/\Words G7 zs ((r.2.map fun ch=>ch ++ [(i:Int)]).take n)) ⟨Zi.refl _,.nil⟩ (fun n zs G7 x=>by rw[ZaT x.2,kL];lia) (fun n zs G7 x=>Zt.of (x.1 _ _ al7)) (fun n y zs G7 hy x=>?_) (fun zs G7 x D hD=>?_)⟩
     ·obtain⟨s7,hz⟩:=x;obtain⟨ch,hch,wch⟩:=Zds ww7 hy;have cl:=chl ch (k9 hch);refine⟨_,rfl,_,rfl,sz1,fun tt ftt'=>?_⟩;refine lay2 (o:=.tup [.int (i:Int)]) ftt' fun G9 s9 e9=>?_;refine Zbl (b:=[(i:Int)]) (Je.same (s7.trans s9) wch) ⟨tt,rfl,e9⟩ (by rw[Kn];show ch.length+1<=_;lia) fun v G10 s10 w10=>⟨(s7.trans s9).trans s10,?_⟩;rw[Ke,kE,hch];exact Paired.snoc' w10 (Words.same (s9.trans s10) hz)
     ·obtain⟨s7,hz⟩:=x;rw[wsl,kK (by rw[ke];exact ki _)] at hz;refine fin _ D zs _ _ (s7.trans (Zi.laid hD)) Zc (Words.same (Zi.laid hD) hz) (by rw[ke];lia) fun kb' G8 f8 e8 p8=>?_;obtain⟨d1,d2,d3⟩:=don (r.2.map fun ch=>ch ++ [(i:Int)]) (by simp[ne r rm]) (by unfold ZbT;rw[kj cc]);exact⟨kb',_,_,_,_,rfl,f8,e8,p8,d1,d2,d3⟩
    ·refine⟨_,rfl,fin _ al0 ws r.2 G'' (Zi.refl _) al7 ww7 (by lia) fun kb' G8 f8 e8 p8=>?_⟩;obtain⟨d1,d2,d3⟩:=don r.2 (ne r rm) (by unfold ZbT;rw[kh cc]);exact⟨kb',_,_,_,_,rfl,f8,e8,p8,d1,d2,d3⟩
   ·rintro σ G'' ⟨kb,B,v9,v10,v11,rfl,f7,eb7,hB7,nd7,ne7,pm7⟩;refine⟨kb,B,_,_,_,_,_,rfl,f6.trans f7,eb7,hB7,nd7,ne7,?_⟩;have yl:=ZaT pw;rw[yl,qz] at pm7;rw[stj];refine pm7.trans (KD _ ?_);rw[zi];exact ZiQ r.1 q (GB g ls i) i kq r.2
  ·rintro σ G' ⟨kb,B,v7,v8,v9,v10,v11,rfl,f',ebh,hBB,ndB,neB,pmB⟩;refine⟨_,rfl,bh,kb,B,_,_,_,_,_,_,_,_,rfl,fun c u e=>f' c u (sH3 c u e) (Zf e fbhH),fbhH,ebh,hBB,ndB,neB,?_⟩;rw[kl,qz] at pmB;rw[psz];exact pmB.trans (pm.flatMap_right _)
 ·rintro σ G ⟨bg,kvs,L,v4,v5,v6,v7,v8,v9,v10,v11,rfl,sG,fbg,ebg,hB,nd,ne,pm⟩;rw[hxl] at pm;obtain⟨n,wn,al⟩:=ZcF (z:=zf) hW ls.length (ki _);rw[qz] at wn;have n0:=ZcH wn hW;subst n0;have ky:∀r∈L,r.1 = []:=fun r rm=>by
   obtain⟨ch,hc⟩:=NC _ (ne r rm);have:=(al _ (pm.mem_iff.mp (KW.mpr ⟨r,rm,Kq.mpr ⟨ch,hc,rfl⟩⟩))).2;exact XC (by dsimp only at this;lia)
  have fl:Yx L=(GW L []).map fun ch=>(ch,[]):=by
   match L,ky,nd with
   | [],_,_=>rfl
   | [r],ky,_=>simp[Yx,GW,ky r kQ]
   | r::r'::L,ky,nd=>
    have h1:=ky r kQ;have h2:=ky r' (kS _ kQ);rw[kH,kH,Kl] at nd;exact absurd (by rw[h1,h2];exact kQ) nd.1
  have pv0:(GW L []).Perm ((YD ls zf ls.length).map (·.1)):=by have:=(pm.map (·.1));rw[fl,qh] at this;simpa [Function.comp_def] using this
  have vl:(GW L []).length<=8192:=by have h1:=pv0.length_eq;rw[ke] at h1;have:=few ls.length (ki _);lia
  refine⟨_,rfl,bg,rfl,.inr ⟨_,.inl ebg⟩,sz0,fun e6 fe6=>?_⟩;refine lay2 (o:=.tup []) fe6 fun G1 sg1 eg1=>?_;refine⟨sz0,fun dl fdl=>?_⟩;refine lay2 (o:=.lst []) fdl fun G2 sg2 eg2=>?_;have s02:=sg1.trans sg2;have hB2:Paired (Gg G2) kvs L:=L2.Paired.imp' (fun _ _ h=>h.mono (fun a w e=>s02 _ _ e) (fun a w e=>s02 _ _ e)) hB;obtain⟨p0,yw,o0,hget,eo,ep0,wyw⟩:∃(p0:Addr)(yw:QH)(o0:QI),Y5 kvs (kW [])=o0/\o0.getD (.ref dl) = .ref p0/\G2 p0=some (.lst yw)/\Words G2 yw (GW L []):=by
   rcases Zda (k:=[]) hB2 with⟨hv,hva⟩ | ⟨a1,ws1,hv,ha1,hw1⟩
   ·exact⟨dl,[],none,hv,rfl,eg2,by rw[hva];exact .nil⟩
   ·exact⟨a1,ws1,_,hv,rfl,ha1,hw1⟩
  refine⟨o0,.inr ⟨kvs,kW [],e6,.inl (s02 _ _ ebg),rfl,sg2 _ _ eg1,hget.symm⟩,?_⟩;rw[eo];refine⟨p0,yw,_,rfl,Zt.of ep0,wyw,fun lz zs vs fz pz pv wz=>?_⟩;refine lay2 (o:=.lst zs) fz fun G3 sg3 eg3=>?_;have zl:=ZaT wz;have vsl:=pv.length_eq;have sA:Zi H G3:=(s1.trans sG).trans (s02.trans sg3);refine⟨lz,rfl,⟨_,Zt.of eg3⟩,Ja (K:=K) (a:=lz) (xs:=zs) (by rw[Kn];lia) (fun n zs' G7=>∃as:List Addr,zs'=as.map V.ref/\Zi G3 G7/\as.Nodup/\(∀a∈as,G3 a=none)/\Paired (fun a w=>G7 a=some (.lst (w.map V.int))) as (vs.take n)) ⟨[],rfl,Zi.refl _,MG,fun _ h=>(nomatch h),.nil⟩ (fun n zs' G7 ⟨as,e,_,_,_,pa⟩=>by rw[e,ke,ZaT pa,kL];lia) (fun n zs' G7 ⟨_,_,s7,_⟩=>Zt.of (s7 _ _ eg3)) (fun n y zs' G7 hy x=>?_) (fun zs' G7 x D hD=>?_)⟩
  ·obtain⟨as,rfl,s7,ndA,frA,pa⟩:=x;obtain⟨wd,hwd,cb,rfl,hcb⟩:=Zds wz hy;refine⟨_,rfl,cb,_,rfl,.inr (YJ.of (s7 _ _ (sg3 _ _ hcb))),fun l' hl'=>⟨as ++ [l'],by simp,s7.trans (Zi.laid hl'),?_,?_,?_⟩⟩
   ·rw[qD];refine⟨ndA,by simp,fun a ha b hb z=>?_⟩;rw[k7.mp hb] at z;subst z;obtain⟨w',_,hw'⟩:=Paired.mem1 pa a ha;rw[hw'] at hl';cases hl'
   ·intro a ha;rcases KC.mp ha with h | h
    ·exact frA a h
    ·rw[k7.mp h];exact s7.free hl'
   ·rw[Ke,hwd];exact Paired.snoc' (F:=fun(a:Addr) (w:QG)=>(upd G7 l' (.lst (wd.map V.int))) a=some (.lst (w.map V.int))) Zc (L2.Paired.imp' (fun a w h=>Zi.laid hl' _ _ h) pa)
  ·obtain⟨as,rfl,s7,ndA,frA,pa⟩:=x;rw[zl,qz] at pa;refine k D _ as vs ((sA.trans s7).trans (Zi.laid hD)) ((sA.trans s7).free hD) Zc ndA (fun a ha=>⟨sA.free (frA a ha),fun z=>?_⟩) (L2.Paired.imp' (fun a w h=>Zi.laid hD _ _ h) pa) (pv.trans pv0);obtain⟨w',_,hw'⟩:=Paired.mem1 pa a ha;rw[z,hD] at hw';cases hw'
abbrev Gp:Stmt:=top 30
theorem Yn:ZA ["drawing", "scale", "heights", "begun", "t", "letter", "behind", "partners", "lists", "then", "changed", "more"] ["drawing", "scale"] (Zj Gp):={}
theorem ZoY {fd:FuncData}{f:Addr}(F:WC K "bandings" "bandings" Gp f fd)(J8:JM P w K mg base 10 "heights_by_name" ["drawing", "scale"] Zn5)(ZbM:JM P w K mg base 2 "ways_on" ["partners", "letter", "height"] Zgw)(ZJ:mg "enumerate" = none)(Yv:mg "sorted" = none)(Yf:mg "list" = none):Yi P w K mg base WH 11 f fd ["drawing", "scale"] Zpo:=by
 refine F.ok Yn (fun vs H Q E h=>?_) (fun cdv A outer s H vs Q E hr h=>?_)
 ·obtain⟨l,sc,ls,g,rfl,_⟩:=h;rfl
 ·obtain⟨l,sc,ls,g,rfl,hsc,dr,hg,n13,k⟩:=h;refine⟨_,(Zd (Zm (i:=2) Yn.nd rfl (.inl rfl) (Zq J8 hr (Za (pv 0) (Za (pv 1) Zb))))
   (Zd (Zm (i:=3) Yn.nd rfl (.inl rfl) (Zjv (Jf hr) (ZC Zb) (ZH (Za (ZC Zb) Zb))))
   (Zd (Yj Kj rfl (Gd (K:=K) rfl (by rfl) ZJ (Za (pv 0) Zb)) (Z6 (K:=K) (n:=2) rfl rfl (Zo (Zl (i:=4) Yn.nd rfl (Or.inr rfl)) (Zo (Zl (i:=5) Yn.nd rfl (.inl rfl)) ZQ))) (Zd (Zm (i:=6) Yn.nd rfl (.inl rfl) ZiY)
   (Zd (Yj Kj rfl (ZkR (pv 3)) (Z6 (K:=K) (n:=2) rfl rfl (Zo (Zl (i:=7) Yn.nd rfl (.inl rfl)) (Zo (Zl (i:=8) Yn.nd rfl (.inl rfl)) ZQ))) (Zg (Yj Kj rfl (ZT (K:=K) rfl (Zq ZbM hr (Za (pv 7) (Za (pv 5) (Za (Zkm (Jf hr) (pv 2) (pv 4) ⟨rfl,rfl,rfl,rfl⟩) Zb))))) (Z6 (K:=K) (n:=2) rfl rfl (Zo (Zl (i:=9) Yn.nd rfl (.inl rfl)) (Zo (Zl (i:=10) Yn.nd rfl (.inl rfl)) ZQ))) (Zd (Zm (i:=11) Yn.nd rfl (.inl rfl) (Zap (U9 (pv 10)) (Ga (Ls:=["one"]) (Fs:=["t"]) (fi:=[4]) (ZZ.of (show YC ["drawing", "scale", "heights", "begun", "t", "letter", "behind", "partners", "lists", "then", "changed", "more"] (Zj Gp) _ ["t"] [4]=true by decide +kernel)) rfl (ZT (K:=K) rfl (pv 8)) (fun cl C s3 H3 ex=>⟨(Zl (i:=0) (show ((["one"]:QP)++(["t"]:QP)).Nodup by decide +kernel) rfl (.inl rfl)),YX,(Zk Zcr (pv 0) (ZC (Za (pv 1) Zb)))⟩)) (pv 8)))
   (Zg (Yd (Zk Gj (Zc2 (Jf hr) (pv 6) (pv 9) (ZH Zb) ⟨rfl,rfl,rfl,rfl⟩) (pv 11)) (Yp (pv 6) (pv 9) (set_dict (Jf hr)))))))))
   (Zg (Zm (i:=3) Yn.nd rfl (.inl rfl) (pv 6))))))
   (Zg (Zz (Ga (Ls:=["one"]) (Fs:=[]) (fi:=[]) (ZZ.of (show YC ["drawing", "scale", "heights", "begun", "t", "letter", "behind", "partners", "lists", "then", "changed", "more"] (Zj Gp) _ [] []=true by decide +kernel)) rfl (ZT (K:=K) rfl (Zv (ZcY (K:=K) rfl hr.units) (by rfl) Yv Tt (Za (Zc2 (Jf hr) (pv 3) (ZC Zb) (ZH Zb) ⟨rfl,rfl,rfl,rfl⟩) Zb))) (fun cl C s3 H3 ex=>⟨(Zl (i:=0) (show ((["one"]:QP)++([]:QP)).Nodup by decide +kernel) rfl (.inl rfl)),YX,(Z0 (Jc (K:=K) rfl) (by rfl) Yf XN (Za (pv 0) Zb))⟩))))))),?_⟩
  exact ZkV l sc ls g hsc dr hg n13 k
theorem Zo6 {X:L2.Cx}:Passes (CX1 P w) X (fun _ _ _=>False):=fun _ _ _ _ _ _ _ c=>by obtain⟨_,_,_,_,_,_,_,_,_,_,_,_,_,_,h⟩:=c;exact h.elim
theorem Zkw (F:Int->V)(t:Int):∀(ns:QG)(acc:QD),Y5 (Zac acc (ns.zip (ns.map F))) (Sum.inl t)=if t∈ns then some (F t) else Y5 acc (Sum.inl t)
 | [],acc=>by simp[Zac]
 | n::ns,acc=>by
  show Y5 (Zac (putK acc (Sum.inl n) (F n)) (ns.zip (ns.map F))) (Sum.inl t)=_;rw[Zkw F t ns,Zde];by_cases h1:t∈ns
  ·rw[kj h1,kj (kS _ h1)]
  ·rw[kh h1];by_cases h2:t=n
   ·subst h2;rw[kj rfl,kj kQ]
   ·rw[kh (fun z=>h2 (by injection z)),kh (fun z=>by rcases kP.mp z with z | z;exact h2 z;exact h1 z)]
abbrev JV:Stmt:=top 24
theorem Za0:ZA ["drawing", "scale"] ["drawing", "scale"] (Zj JV):={}
theorem ZoE {f C:Addr}{fd:FuncData}(F:WC K "heights_by_name" "heights_by_name" JV f fd)(We:JM P w K mg base 1 "names_of" ["drawing"] (Zca GV))(Gb:ZjB P w K mg base 9 "name_heights" ["drawing", "scale"] (Zo2 C))(ZgX:mg "dict" = none)(Zby:mg "zip" = none):Yi P w K mg base WH 10 f fd ["drawing", "scale"] Zn5:=by
 refine F.ok Za0 (fun vs H Q E h=>?_) (fun cdv A outer s H vs Q E hr h=>?_)
 ·obtain⟨l,sc,ls,g,rfl,_⟩:=h;rfl
 ·obtain⟨l,sc,ls,g,rfl,hsc,⟨xs,hl,hL,hW,hlen⟩,hg,k⟩:=h;refine⟨_,(Zg (Zz (ZgB (K:=K) rfl rfl (by rfl) ZgX (by rfl) Zby (Za (Zq We hr (Za (pv 0) Zb)) (Za (Zg7 Gb (hr.mono (by decide)) Zo6 (Za (pv 0) (Za (pv 1) Zb))) Zb))))),?_⟩;refine⟨_,rfl,l,xs,ls,rfl,hl,hL,hlen,hW.kd,fun pn H1 fn s1 en=>?_⟩;refine⟨_,rfl,_,rfl,l,sc,xs,ls,rfl,s1 _ _ hl,hL.same s1,hlen,hW,fun ph H2 g' fh s2 hg' eh=>?_,fun H2 ts s2 n1 tr z=>?_⟩
  ·have:=hg.uniq hg';subst this;have ll:(Ya ls GV ls.length).length<=60:=by
    unfold Ya;refine Kx (NQ _ _) ?_;rw[qV];exact hlen
   have ed:(dfs g ls (Ya ls GV ls.length)).map V.int=(Ya ls GV ls.length).map fun t=>V.int (g (Jo ls t.toNat).1-g (Jo ls t.toNat).2):=by unfold dfs;rw[qh];rfl
   rw[ed] at eh;refine⟨pn,ph,_,_,rfl,Zt.of (s2 _ _ en),Zt.of eh,by rw[ke],by lia,fun D hD=>?_⟩;refine k D _ _ ((s1.trans s2).trans (Zi.laid hD)) ((s1.trans s2).free hD) Zc fun t ht=>?_;rw[Zkw];have mm:((t:Int)∈Ya ls GV ls.length) ↔ UW ls GV t=true:=by
    unfold Ya;rw[qo];constructor
    ·rintro⟨a,_,h⟩;split at h
     ·rename_i c
      have:a=t:=by injection h with h;lia
      rw[<- this];exact c
     ·cases h
    ·exact fun c=>⟨t,qa.mpr ht,by rw[kj c]⟩
   unfold GB;by_cases c:UW ls GV t=true
   ·rw[kj (mm.mpr c),kj c,kX];rfl
   ·rw[kh (fun z=>c (mm.mp z)),kh c];rfl
  ·rcases hg with⟨e,_⟩ | ⟨_,T,L,tr',t0,_⟩
   ·exact n1 e
   ·have:=tr.uniq tr';rw[this] at z;exact z (by rw[LA,t0])
def ZaX (q:Str×Int)(h:QW)(ps:QG):Bool:=decide (h=some 0)&&(decide (q.1 = "end")||(decide (q.1 = "cross")&&US ps q.2.toNat))
def wq (q:Str×Int):Nat:=if q.1 = "cross" then 2 else 1
theorem ZoX {ls:QB}{i:Nat}{q:Str×Int}(h:ls[i]? = some q):2 ^ nX (ls.take (i+1))=wq q*2 ^ nX (ls.take i):=by
 rw[Ke,h,Ge];unfold wq;have e:nX (some q).toList=if q.1=("cross" : Str) then 1 else 0:=by show nX [q]=_;unfold nX;rw[X8,List.countP_nil];by_cases c:q.1=("cross" : Str)<;>simp[c]
 rw[e];by_cases c:q.1=("cross" : Str)
 ·rw[kj c,kj c,Nat.pow_succ,Nat.mul_comm]
 ·rw[kh c,kh c,Nd,Nat.one_mul]
theorem Ziu {ps:QG}{q:Str×Int}{n m:Int}(ft:Zif q n m)(pt:PtL ps)(hl:(ps.length:Int)=n)(ec:q.1 = "cross"){h:QW}{w:QG×Bool}(hw:w∈J7 ps q h):Zck ps q.2.toNat (ps.getD q.2.toNat 0).toNat (ps.getD (q.2.toNat+1) 0).toNat:=by
 obtain⟨kd,k⟩:=q;dsimp only at ec ft ⊢;subst ec;obtain⟨k0,ft⟩:=ft;dsimp only at k0 ft;obtain⟨k,rfl⟩:=kT k0;rw[kX];have hk:(k:Int)+1<n:=by
  rcases ft with⟨e,_⟩ | ⟨_,e,_⟩ | ⟨e,_⟩
  ·exact absurd e (by decide)
  ·exact e
  ·exact absurd e (by decide)
 refine Zjx pt (by lia) fun z=>?_;unfold J7 at hw;dsimp only at hw;rw[kh (by decide),kX] at hw;rw[kj (by rw[kM z];rfl)] at hw;cases hw
abbrev SE:=(QG×Int)×Addr×Addr×Int×Int
def kk (k:QG×Int):List Key×Key:=(kW k.1,Sum.inl k.2)
theorem ZgL {a b:QG×Int}(h:kk a=kk b):a=b:=by
 unfold kk at h;injection h with h1 h2
 injection h2 with h2
 exact NY (Zei h1) h2
def toP (e:SE):PEn:=(kk e.1,e.2.1,e.2.2.1)
def Zgr (H:Hp)(S:List SE):Prop:=∀e∈S,H e.2.2.1=some (.tup [.int e.2.2.2.1,.int e.2.2.2.2])
def Con (H:Hp)(S:List SE):Prop:=UC H (S.map toP)/\Zgr H S/\(S.map (·.1)).Nodup
theorem Con.mono {H H':Hp}{S:List SE}(h:∀a ws,H a=some (.tup ws)->H' a=some (.tup ws))(c:Con H S):Con H' S:=⟨c.1.mono h,fun e he=>h _ _ (c.2.1 e he),c.2.2⟩
def ZaC:List SE->List Int×Int->Option SE
 | [],_=>none
 | e::S,k=>if e.1=k then some e else ZaC S k
def Ul:List SE->List Int×Int->Addr->Addr->Int×Int->List SE
 | [],k,b,v,c=>[(k,b,v,c)]
 | e::S,k,b,v,c=>if e.1=k then(e.1,e.2.1,v,c)::S else e::Ul S k b v c
def Wz (f:QG×Int->Int×Int->Int)(S:List SE):Int:=(S.map fun e=>f e.1 e.2.2.2).sum
theorem GZ (f:QG×Int->Int×Int->Int)(e:SE)(S:List SE):Wz f (e::S)=f e.1 e.2.2.2+Wz f S:=by unfold Wz;rw[kH,Xd]
def UT (S:List SE)(k:QG×Int):Int×Int:=((ZaC S k).map (·.2.2.2)).getD (0,0)
def UU (a b:Int×Int):Int×Int:=(a.1+b.1,a.2+b.2)
def Lin (f:QG×Int->Int×Int->Int):Prop:=∀k a b,f k (UU a b)=f k a+f k b
theorem Lin.zero {f:QG×Int->Int×Int->Int}(h:Lin f)(k:QG×Int):f k (0,0)=0:=by have:=h k (0,0) (0,0);have e:UU (0,0) (0,0)=((0,0):Int×Int):=rfl;rw[e] at this;lia
theorem Zc6 {f:QG×Int->Int×Int->Int}(hf:Lin f)(k:QG×Int)(b v:Addr)(m:Int×Int):∀S:List SE,Wz f (Ul S k b v (UU (UT S k) m))=Wz f S+f k m
 | []=>by
  show Wz f [(k,b,v,UU (0,0) m)]=Wz f []+f k m;rw[GZ];show f k (UU (0,0) m)+0=0+f k m;rw[hf,hf.zero,Ta]
 | e::S=>by
  unfold Ul UT ZaC;by_cases c:e.1=k
  ·rw[kj c,kj c,GZ,GZ];show f e.1 (UU e.2.2.2 m)+_=_;rw[hf,c,LF]
  ·rw[kh c,kh c,GZ,GZ];have:=Zc6 hf k b v m S;unfold UT at this;rw[this,Ld]
theorem ZfV (k:QG×Int)(b v:Addr)(c:Int×Int):∀(S:List SE),∀x,x∈(Ul S k b v c).map (·.1) ↔ x=k∨x∈S.map (·.1)
 | [],x=>by simp[Ul]
 | e::S,x=>by
  unfold Ul;split
  ·rename_i c;rw[kH,kP,kH,kP,c];simp
  ·rw[kH,kP,ZfV k b v c S x,kH,kP,or_left_comm]
theorem Zcy (k:QG×Int)(b v:Addr)(c:Int×Int):∀{S:List SE},(S.map (·.1)).Nodup->((Ul S k b v c).map (·.1)).Nodup
 | [],_=>by simp[Ul]
 | e::S,nd=>by
  rw[kH,Kl] at nd;unfold Ul;split
  ·rw[kH,Kl];exact nd
  ·rename_i d
   rw[kH,Kl,ZfV];exact⟨fun z=>z.elim d nd.1,Zcy k b v c nd.2⟩
theorem ZcQ (k:QG×Int)(b v:Addr)(c:Int×Int):∀(S:List SE),(Ul S k b v c).length<=S.length+1
 | []=>ki _
 | e::S=>by
  unfold Ul;split
  ·exact qR _
  ·exact N0 (ZcQ k b v c S)
theorem U0 {p:SE->Prop}{k:QG×Int}{b v:Addr}{c:Int×Int}:∀{S:List SE},(∀e∈S,p e)->p (k,b,v,c)->(∀e∈S,e.1=k->p (e.1,e.2.1,v,c)) -> ∀e∈Ul S k b v c,p e
 | [],_,h2,_,e,he=>by rw[k7.mp he];exact h2
 | e0::S,h1,h2,h3,e,he=>by
  unfold Ul at he;split at he
  ·rename_i d
   rcases kP.mp he with rfl | he
   ·exact h3 e0 kQ d
   ·exact h1 e (kS _ he)
  ·rcases kP.mp he with rfl | he
   ·exact h1 _ kQ
   ·exact U0 (fun x hx=>h1 x (kS _ hx)) h2 (fun x hx=>h3 x (kS _ hx)) e he
theorem Zbt {k:QG×Int}:∀{S:List SE}{e:SE},ZaC S k=some e->e∈S/\e.1=k
 | e0::S,e,h=>by
  unfold ZaC at h;split at h
  ·rename_i c
   injection h with h
   subst h;exact⟨kQ,c⟩
  ·obtain⟨a,b⟩:=Zbt h;exact⟨kS _ a,b⟩
theorem ZeQ:∀{S:List SE}{j:Nat}{e:SE},(S.map (·.1)).Nodup->S[j]? = some e->ZaC S e.1=some e
 | e0::S,0,e,_,h=>by
  simp at h;subst h;unfold ZaC;rw[kj rfl]
 | e0::S,j+1,e,nd,h=>by
  rw[kH,Kl] at nd;have h:S[j]? = some e:=by simpa using h
  unfold ZaC;rw[kh (fun z=>nd.1 (by rw[z];exact Kq.mpr ⟨e,k9 h,rfl⟩))];exact ZeQ nd.2 h
theorem ZbG (k:QG×Int):∀S:List SE,ZeK (S.map toP) (kk k)=(ZaC S k).map (·.2.2.1)
 | []=>rfl
 | e::S=>by
  have ih:=ZbG k S;unfold ZeK at ih ⊢;unfold ZaC;rw[kH,qw];by_cases c:e.1=k
  ·rw[kj c,show decide ((toP e).1=kk k)=true from kM (by show kk e.1=kk k;rw[c])];rfl
  ·rw[kh c,show decide ((toP e).1=kk k)=false from Ki (fun z=>c (ZgL z))];exact ih
theorem ZhA (k:QG×Int)(b v:Addr)(c:Int×Int):∀{S:List SE},(S.map (·.1)).Nodup->Zg0 (S.map toP) (kk k) b v=(Ul S k b v c).map toP
 | [],_=>rfl
 | e::S,nd=>by
  rw[kH,Kl] at nd;have ih:=ZhA k b v c nd.2;unfold Zg0 at ih ⊢;rw[ZbG] at ih ⊢;unfold Ul ZaC;by_cases d:e.1=k
  ·rw[kj d,kj d,kj (show ((some e).map (·.2.2.1)).isSome=true from rfl),kH,kH,kH,kj (show (toP e).1=kk k by show kk e.1=kk k;rw[d])];refine Ky _ ?_;rw[qh];refine Tb fun x hx=>?_;exact kh (fun z=>nd.1 (by rw[d,<- ZgL z];exact Kq.mpr ⟨x,hx,rfl⟩))
  ·rw[kh d,kh d,kH];by_cases y:((ZaC S k).map (·.2.2.1)).isSome=true
   ·rw[kj y] at ih ⊢;rw[kH,kh (show ¬(toP e).1=kk k from fun z=>d (ZgL z)),ih,kH]
   ·rw[kh y] at ih ⊢;rw[kH,<- ih];rfl
theorem Zjf {H:Hp}{S:List SE}{k:QG×Int}{b v:Addr}{c:Int×Int}(h:Con H S)(hb:UM H (kk k) b)(hv:H v=some (.tup [.int c.1,.int c.2])):Con H (Ul S k b v c):=by
 refine⟨fun x hx=>?_,?_,Zcy k b v c h.2.2⟩
 ·obtain⟨e,he,rfl⟩:=Kq.mp hx;exact U0 (p:=fun e=>UM H (kk e.1) e.2.1) (fun e he=>h.1 _ (Kq.mpr ⟨e,he,rfl⟩)) hb (fun e he _=>h.1 _ (Kq.mpr ⟨e,he,rfl⟩)) e he
 ·exact U0 h.2.1 hv fun e _ _=>hv
theorem Zc3 (f:QG×Int->Int×Int->Int)(L:List SE)(j:Nat){r:SE}(h:L[j]? = some r):Wz f (L.take (j+1))=Wz f (L.take j)+f r.1 r.2.2.2:=by unfold Wz;rw[Ke,h,k6,XJ];simp
def OkS (n:Int)(S:List SE):Prop:=∀e∈S,PtL e.1.1/\(e.1.1.length:Int)=n
theorem Zho {n:Int}{S:List SE}{k:QG×Int}{b v:Addr}{c:Int×Int}(h:OkS n S)(hk:PtL k.1/\(k.1.length:Int)=n):OkS n (Ul S k b v c):=U0 h hk fun e he _=>h e he
def Zcl (S:List SE):Prop:=∀e∈S,0<e.2.2.2.1
theorem Zks {S:List SE}(h:Zcl S)(k:QG×Int):0<=(UT S k).1:=by
 unfold UT;cases hv:ZaC S k with
 | none=>exact qK _
 | some e=>exact Oc (h e (Zbt hv).1)
theorem Ze8 {S:List SE}{k:QG×Int}{b v:Addr}{m:Int×Int}(h:Zcl S)(hm:0<m.1):Zcl (Ul S k b v (UU (UT S k) m)):=by
 have:0<(UU (UT S k) m).1:=by show 0<(UT S k).1+m.1;have:=Zks h k;lia
 exact U0 h this fun e _ _=>this
def bk2 (q:Str×Int)(h:QW)(f:QG×Int->Int×Int->Int)(k:QG×Int)(c:Int×Int):Int:=match WU k.1 q with
 | none=>0
 | some r=>f (r,k.2) (c.1,(if ZaX q h k.1=true then 2 else 1)*c.2)+(if q.1 = "cross" /\ h=some 0/\US k.1 q.2.toNat=false then f (k.1,k.2+1) c else 0)
theorem Zae {q:Str×Int}{h:QW}{f:QG×Int->Int×Int->Int}{k:QG×Int}{c:Int×Int}(e:WU k.1 q=none):bk2 q h f k c=0:=by unfold bk2;rw[e]
theorem W9 {q:Str×Int}{h:QW}{f:QG×Int->Int×Int->Int}{k:QG×Int}{c:Int×Int}{r:QG}(e:WU k.1 q=some r):bk2 q h f k c=f (r,k.2) (c.1,(if ZaX q h k.1=true then 2 else 1)*c.2)+(if q.1 = "cross" /\ h=some 0/\US k.1 q.2.toNat=false then f (k.1,k.2+1) c else 0):=by unfold bk2;rw[e]
theorem ZlS {q:Str×Int}{h:QW}{f:QG×Int->Int×Int->Int}(hf:Lin f):Lin (bk2 q h f):=fun k a b=>by
 cases e:WU k.1 q with
 | none=>rw[Zae e,Zae e,Zae e];rfl
 | some r=>
  rw[W9 e,W9 e,W9 e];have e1:(((UU a b).1,(if ZaX q h k.1=true then 2 else 1)*(UU a b).2):Int×Int)=UU (a.1,(if ZaX q h k.1=true then 2 else 1)*a.2) (b.1,(if ZaX q h k.1=true then 2 else 1)*b.2):=by unfold UU;dsimp only;rw[Int.mul_add]
  rw[e1,hf];by_cases d:q.1 = "cross" /\ h=some 0/\US k.1 q.2.toNat=false
  ·rw[kj d,kj d,kj d,hf];lia
  ·rw[kh d,kh d,kh d];lia
def bR2 (ls:QB)(hs:Nat->Option Int):Nat->(QG×Int->Int×Int->Int)->Int
 | 0,f=>f ([],0) (1,1)
 | i+1,f=>match ls[i]? with
  | none=>bR2 ls hs i f
  | some q=>bR2 ls hs i (bk2 q (hs i) f)
theorem Zft {ls:QB}{hs:Nat->Option Int}{i:Nat}{q:Str×Int}(h:ls[i]? = some q)(f:QG×Int->Int×Int->Int):bR2 ls hs (i+1) f=bR2 ls hs i (bk2 q (hs i) f):=by rw[bR2,h]
def tkA:TE:=(Zbh (Yl (ZX 6) (Yl (tOp (rI0 fun i j=>V.int (i+j)) (ZX 7) (tC (V.int 1))) JT)))
def tkB:TE:=(Zbh (Yl (tCB Zjs (Yl (ZX 9) JT)) (Yl (ZX 7) JT)))
def Znb (P:Program)(w:World)(K:QF)(tk tm:TE):TS:=(WR (W6 (ZkS P w (ZX 5) tk (Zbh (Yl (tC (V.int 0)) (Yl (tC (V.int 0)) JT)))) (Yw 11)) (W6 (Zbh (Yl (tOp (rI0 fun i j=>V.int (i+j)) (tOp (Zdh K) (ZX 11) (tC (V.int 0))) (tOp (Zdh K) (ZX 8) (tC (V.int 0)))) (Yl (tOp (rI0 fun i j=>V.int (i+j)) (tOp (Zdh K) (ZX 11) (tC (V.int 1))) tm) JT))) (ZgD (ZX 5) tk (ZmR P w))))
def Zmg (K:QF):TS:=(W6 (tOp (rI0 fun i j=>V.int (i+j)) (tC (V.int 1)) (tCB (fun xs H Q=>(∃i,xs = [V.int i]/\Q (V.int i) H) ∨ ∃k,xs = [V.bl k]/\Q (V.int (if k=true then 1 else 0)) H) (Yl (ZmM (tOp rEq (tOp (Zdh K) (ZX 3) (tC (V.int 0))) (tC (V.str (Str.ofString "end")))) (tOp rEq (ZX 1) (tC (V.int 1)))) JT))) (Yw 10))
def Zm6 (P:Program)(w:World)(K:QF):TS:=(ZeI (Zlu (ZdV (tOp rEq (tOp (Zdh K) (ZX 3) (tC (V.int 0))) (tC (V.str (Str.ofString "cross"))))) (Zlu (ZdV (tOp Zhh (ZX 9) (tC V.non))) (ZdV (tOp rEq (ZX 4) (tC (V.int 0)))))) (ZeI (tB (Zb5 ZeY [] E0 (Yl (ZX 6) (Yl (tOp (Zdh K) (ZX 3) (tC (V.int 1))) JT)))) (Znb P w K tkA (tOp (Zdh K) (ZX 8) (tC (V.int 1)))) (W6 (tC (V.int 2)) (Yw 10))) ZhW)
def Zlc (P:Program)(w:World)(K:QF):TS:=(ZeI (ZdV (tOp Zhh (ZX 9) (tC V.non))) (Znb P w K tkB (tOp (rI ZlE fun i j=>V.int (i*j)) (ZX 10) (tOp (Zdh K) (ZX 8) (tC (V.int 1))))) ZhW)
def ZmG (P:Program)(w:World)(K:QF):TS:=(WR (W6 (Zj4 P w (ZX 2) (Zbh (Yl (ZX 6) (Yl (ZX 7) JT)))) (Yw 8)) (WR (W6 (Zb5 ZeV [] E0 (Yl (tCB (Za9 K) (Yl (ZX 6) JT)) (Yl (ZX 3) JT))) (Yw 9)) (WR (Zmg K) (WR (Zm6 P w K) (Zlc P w K)))))
def Zov (P:Program)(w:World)(K:QF):TS:=WR (W6 (Zka P w (Zbh (Yl (Zbh JT) (Yl (tC (V.int 0)) JT))) (Zbh (Yl (tC (V.int 1)) (Yl (tC (V.int 1)) JT)))) (Yw 2)) (WR (ZgG (Zn6 K (Yl (ZX 0) (Yl (Zb5 Zgk [] E0 (Yl (ZX 0) (Yl (ZX 1) JT))) JT))) (ZeL K 2 (GC (Yw 3) (GC (Yw 4) Zfu))) (WR (W6 (ZmN P w) (Yw 5)) (WR (ZgG (ZkK P w (ZX 2)) (ZeL K 2 (GC (Yw 6) (GC (Yw 7) Zfu))) (ZmG P w K)) (W6 (ZX 5) (Yw 2))))) (WR (W6 ZjX (Yw 12)) (WR (ZgG (ZkK P w (ZX 2)) (ZeL K 2 (GC (Yw 6) (GC (Yw 7) Zfu))) (W6 (Zj4 P w (ZX 2) (Zbh (Yl (ZX 6) (Yl (ZX 7) JT)))) (ZgD (ZX 12) (ZX 7) Zc8))) (Zn1 (ZX 12)))))
theorem Zha {D:Ends}{tk tm:TE}{x0 x1 x2 x3 x4 x6 x7 x9 x10 x11 x12:QI}{bl hv:Addr}{k:QG×Int}{h0 h1 m:Int}{S:List SE}{G:Hp}
  (hk:∀(x:QI)(G1:Hp)(R:VK),Zi G G1->(∀t G2,Zi G1 G2->UM G2 (kk k) t->R (.ref t) G2)->tk [x0,x1,x2,x3,x4,some (.ref bl),x6,x7,some (.ref hv),x9,x10,x,x12] G1 R)
  (hm:∀(x:QI)(G1:Hp)(R:VK),Zi G G1->R (.int m) G1->tm [x0,x1,x2,x3,x4,some (.ref bl),x6,x7,some (.ref hv),x9,x10,x,x12] G1 R)
  (e:G bl=some (DPo P w bl (S.map toP))) (cn:Con G S) (hh:G hv=some (.tup [.int h0,.int h1])) (sz:S.length<40000)
  (kD:∀(v b:Addr)(x:QI)(G':Hp),YK bl G G'->G' bl=some (DPo P w bl ((Ul S k b v (UU (UT S k) (h0,m))).map toP))->Con G' (Ul S k b v (UU (UT S k) (h0,m)))->D.nx [x0,x1,x2,x3,x4,some (.ref bl),x6,x7,some (.ref hv),x9,x10,x,x12] G'):
  Znb P w K tk tm D [x0,x1,x2,x3,x4,some (.ref bl),x6,x7,some (.ref hv),x9,x10,x11,x12] G:=by
 refine⟨_,rfl,bl,_,rfl,.inl e,cn.1,hk _ G _ (Zi.refl _) fun t G1 s1 k1=>⟨sz2,fun d fd=>?_⟩⟩;refine lay2 (o:=.tup [.int 0,.int 0]) fd fun G2 s2 e2=>?_;have s02:=s1.trans s2;have c2:=cn.mono (fun a ws q=>s02 _ _ q);refine⟨_,kk k,t,d,.inl (s02 _ _ e),c2.1,rfl,k1.mono (fun a ws q=>s2 _ _ q),rfl,?_⟩;rw[ZbG];obtain⟨av,eav,hav⟩:∃(av:Addr),((ZaC S k).map (·.2.2.1)).getD d=av/\G2 av=some (.tup [.int (UT S k).1,.int (UT S k).2]):=by
  unfold UT;cases hv:ZaC S k with
  | none=>exact⟨d,rfl,e2⟩
  | some en=>
   exact⟨en.2.2.1,rfl,c2.2.1 en (Zbt hv).1⟩
 rw[eav];have hh2:=s02 _ _ hh;refine⟨_,rfl,av,_,_,_,rfl,rfl,YJ.of hav,Zn (j:=0) rfl,_,rfl,hv,_,_,_,rfl,rfl,YJ.of hh2,Zn (j:=0) rfl,_,_,rfl,rfl,?_⟩;refine⟨_,rfl,av,_,_,_,rfl,rfl,YJ.of hav,Zn (j:=1) rfl,hm _ _ _ s02 ⟨_,_,rfl,rfl,sz2,fun v fv=>?_⟩⟩;refine lay2 (o:=.tup [.int ((UT S k).1+h0),.int ((UT S k).2+m)]) fv fun G3 s3 e3=>?_;have s03:=s02.trans s3;refine⟨_,rfl,hk _ G3 _ s03 fun b G4 s4 k4=>?_⟩;have s04:=s03.trans s4;have c4:=cn.mono (fun a ws q=>s04 _ _ q);refine⟨bl,_,kk k,b,v,rfl,rfl,rfl,s04 _ _ e,c4.1,k4,(by rw[ke,Kn];lia),?_⟩;rw[ZhA k b v (UU (UT S k) (h0,m)) c4.2.2];have e4:=s04 _ _ e;have nt:∀(a:Addr)(ws:QH),G4 a=some (.tup ws)->a≠bl:=fun a ws q z=>by rw[z,e4] at q;cases q
 refine kD v b _ _ (s04.frm.trans YK.upd) Zc ((Zjf c4 k4 (s4 _ _ e3)).mono fun a ws q=>by rw[Zh (nt a ws q)];exact q)
theorem ZhZ {D:Ends}{T:TS}{x0 x2 x4 x5 x6 x7 x8 x9 x10 x11 x12:QI}{sc:Int}{ta:Addr}{q:Str×Int}{G:Hp}(hta:G ta=some (.tup [.str q.1,.int q.2]))
  (k:∀o:Int,o=(if q.1 = "end" /\ sc=1 then 2 else 1)->T D [x0,some (.int sc),x2,some (.ref ta),x4,x5,x6,x7,x8,x9,some (.int o),x11,x12] G):
  WR (Zmg K) T D [x0,some (.int sc),x2,some (.ref ta),x4,x5,x6,x7,x8,x9,x10,x11,x12] G:=by
 refine⟨_,rfl,ta,_,_,_,rfl,rfl,YJ.of hta,Zn (j:=0) rfl,rfl,_,rfl,ZY (fun c=>?_) (fun c=>?_)⟩
 ·have ee:q.1 = "end" := by
   have:=kO c;injection this
  refine⟨_,rfl,rfl,.inr ⟨_,rfl,_,_,rfl,rfl,k _ ?_⟩⟩;by_cases d:sc=1
  ·rw[kj (show decide (V.int sc=V.int 1)=true by rw[d];exact kM rfl),kj ⟨ee,d⟩];rfl
  ·rw[kh (show ¬decide (V.int sc=V.int 1)=true from fun z=>d (by have:=kO z;injection this)),kh fun z=>d z.2];rfl
 ·have ne:q.1 ≠ "end" := fun z=>c (by rw[z];exact kM rfl);exact .inr ⟨_,rfl,_,_,rfl,rfl,k _ (by show (1:Int)+0=_;rw[kh fun z=>ne z.1];rfl)⟩
theorem ZkY {D:Ends}{x0 x8 x9 x10 x11 x12:QI}{sc pw:Int}{st ta bl b:Addr}{h:QW}{q:Str×Int}{n m:Int}{ps:QG}{L S:List SE}{en:SE}{G:Hp}
  (rs:Rd G st (DPo P w st (L.map toP))) (cL:Con G L) (hen:ZaC L (ps,pw)=some en) (ek:en.1=(ps,pw)) (hb:G b=some (.tup ((kW ps).map kV))) (e:G bl=some (DPo P w bl (S.map toP))) (cn:Con G S) (sz:S.length<30000) (okS:OkS m S) (pS:Zcl S) (pL:Zcl L)
  (hta:G ta=some (.tup [.str q.1,.int q.2])) (ft:Zif q n m) (pt:PtL ps) (hl:(ps.length:Int)=n) (l200:ps.length<=200) (kq:q.1 = "born" ∨ q.1 = "end" ∨ q.1 = "cross")
  (hc:q.1 = "cross" -> h≠none) (hbn:q.1 = "born" -> h=none) (hed:q.1 = "end" -> h=some (1-sc))
  (kD:∀(S':List SE)(y8 y9 y10 y11:QI)(G':Hp),YK bl G G'->G' bl=some (DPo P w bl (S'.map toP))->Con G' S'->S'.length<=S.length+wq q->OkS m S'->Zcl S'->(∀f,Lin f->Wz f S'=Wz f S+bk2 q h f en.1 en.2.2.2) ->
   D.nx [x0,some (.int sc),some (.ref st),some (.ref ta),some (oI h),some (.ref bl),some (.ref b),some (.int pw),y8,y9,y10,y11,x12] G'):
  ZmG P w K D [x0,some (.int sc),some (.ref st),some (.ref ta),some (oI h),some (.ref bl),some (.ref b),some (.int pw),x8,x9,x10,x11,x12] G:=by
 have hva:=cL.2.1 en (Zbt hen).1;have pen:=pL en (Zbt hen).1;have ek1:en.1.1=ps:=by rw[ek]
 have ek2:en.1.2=pw:=by rw[ek]
 refine⟨_,rfl,_,rfl,_,rfl,sz2,fun t ft1=>?_⟩;refine lay2 (o:=.tup [.ref b,.int pw]) ft1 fun G1 s1 e1=>?_;have rs1:Rd G1 st (DPo P w st (L.map toP)):=rs.elim (fun x=>.inl (s1 _ _ x)) fun⟨o,x⟩=>.inr ⟨o,s1 _ _ x⟩;refine⟨st,_,kk (ps,pw),t,en.2.2.1,rfl,rs1,(cL.mono fun a ws x=>s1 _ _ x).1,rfl,⟨b,e1,s1 _ _ hb⟩,(by rw[ZbG,hen];rfl),?_⟩;have hb1:G1 b=some (.tup (ps.map V.int)):=by rw[<- ZjT];exact s1 _ _ hb
 refine⟨_,rfl,b,_,rfl,.inr (YJ.of hb1),fun l fl=>?_⟩;refine lay2 (o:=.lst (ps.map V.int)) fl fun G2 s2 e2=>?_;have s02:=s1.trans s2;refine⟨_,rfl,l,ta,q,ps,rfl,e2,s02 _ _ hta,l200,pt,ft.1,?_,kq,fun mv G3 s3=>?_,fun r p G3 mv s3 fp ep=>?_⟩
 ·intro nb;rcases ft.2 with⟨e,_⟩ | ⟨_,e,_⟩ | ⟨_,e,_⟩
  ·exact absurd e nb
  ·lia
  ·lia
 ·have hta3:=s3 _ _ (s02 _ _ hta);have s03:=s02.trans s3;show WR (Zmg K) (WR (Zm6 P w K) (Zlc P w K)) D [x0,some (.int sc),some (.ref st),some (.ref ta),some (oI h),some (.ref bl),some (.ref b),some (.int pw),some (.ref en.2.2.1),some V.non,x10,x11,x12] G3;refine ZhZ hta3 fun o eo=>?_;have nn:(!decide (V.non=V.non))=false:=by simp
  have fin:Zlc P w K D [x0,some (.int sc),some (.ref st),some (.ref ta),some (oI h),some (.ref bl),some (.ref b),some (.int pw),some (.ref en.2.2.1),some V.non,some (.int o),x11,x12] G3:=by refine⟨_,rfl,rfl,_,rfl,?_⟩;rw[nn];refine W8 (kD S _ _ _ _ G3 s03.frm (s03 _ _ e) (cn.mono fun a ws x=>s03 _ _ x) (N2 _ _) okS pS fun f hf=>?_);rw[Zae (by rw[ek1];exact mv),Ta]
  refine⟨_,rfl,ta,_,_,_,rfl,rfl,YJ.of hta3,Zn (j:=0) rfl,rfl,_,rfl,ZY (fun c=>?_) (fun c=>?_)⟩
  ·refine⟨_,rfl,rfl,_,rfl,?_⟩;rw[nn];exact W8 (W8 fin)
  ·exact W8 fin
 ·have hta3:=s3 _ _ (s02 _ _ hta);have s03:=s02.trans s3;show WR (Zmg K) (WR (Zm6 P w K) (Zlc P w K)) D [x0,some (.int sc),some (.ref st),some (.ref ta),some (oI h),some (.ref bl),some (.ref b),some (.int pw),some (.ref en.2.2.1),some (.ref p),x10,x11,x12] G3;refine ZhZ hta3 fun o eo=>?_;have nn:(!decide (V.ref p=V.non))=true:=by simp
  obtain⟨rpt,rlen⟩:=ZkX pt hl ft mv;have hva3:=s03 _ _ hva;have c3:=cn.mono fun a ws x=>s03 _ _ x;have e3:=s03 _ _ e;have hb3:G3 b=some (.tup ((kW ps).map kV)):=s03 _ _ hb;have w2:wq q<=2:=by unfold wq;split<;>lia
  have fin:∀(S1:List SE)(o:Int)(y11:QI)(G4:Hp),YK bl G3 G4->G4 bl=some (DPo P w bl (S1.map toP))->Con G4 S1->S1.length+1<=S.length+wq q->(-(2 ^ 64)<o/\o<2 ^ 64)->OkS m S1->Zcl S1->(∀f,Lin f->Wz f S1+f (r,pw) (en.2.2.2.1,o*en.2.2.2.2)=Wz f S+bk2 q h f en.1 en.2.2.2) ->
    Zlc P w K D [x0,some (.int sc),some (.ref st),some (.ref ta),some (oI h),some (.ref bl),some (.ref b),some (.int pw),some (.ref en.2.2.1),some (.ref p),some (.int o),y11,x12] G4:=by
   intro S1 o y11 G4 f4 e4 c4 sz4 ob ok4 ps4 sm;have np:p≠bl:=fun z=>by rw[z,s02 _ _ e] at fp;cases fp
   have hp4:=f4 _ _ ep np;have hva4:G4 en.2.2.1=some (.tup [.int en.2.2.2.1,.int en.2.2.2.2]):=f4 _ _ hva3 (fun z=>by rw[z,e3] at hva3;cases hva3);refine⟨_,rfl,rfl,_,rfl,?_⟩;rw[nn];refine ZaY (Zha (k:=(r,pw)) (m:=o*en.2.2.2.2) (h0:=en.2.2.2.1) (h1:=en.2.2.2.2) (S:=S1) ?_ ?_ e4 c4 hva4 (by lia) fun v b' x G' f' e' c'=>?_)
   ·intro x G5 R s5 kR;refine⟨_,rfl,p,_,rfl,s5 _ _ hp4,fun u fu=>?_⟩;refine lay2 (o:=.tup (r.map V.int)) fu fun G6 s6 e6=>?_;refine⟨_,rfl,sz2,fun t5 ft5=>?_⟩;refine lay2 (o:=.tup [.ref u,.int pw]) ft5 fun G7 s7 e7=>?_;exact kR t5 G7 (s6.trans s7) ⟨u,e7,by rw[show ((kk (r,pw)).1.map kV)=r.map V.int from ZjT _];exact s7 _ _ e6⟩
   ·intro x G5 R s5 kR;exact⟨_,rfl,_,rfl,en.2.2.1,_,_,_,rfl,rfl,YJ.of (s5 _ _ hva4),Zn (j:=1) rfl,_,_,rfl,rfl,.inl ob,kR⟩
   ·refine kD _ _ _ _ _ G' ((s03.frm.trans f4).trans f') e' c' (by have:=ZcQ (r,pw) b' v (UU (UT S1 (r,pw)) (en.2.2.2.1,o*en.2.2.2.2)) S1;lia) (Zho ok4 ⟨rpt,rlen⟩) (Ze8 ps4 pen) fun f hf=>?_;rw[Zc6 hf];exact sm f hf
  have mv':WU en.1.1 q=some r:=by rw[ek1];exact mv
  have one:∀f,Lin f->(ZaX q h ps=false) -> ¬(q.1 = "cross" /\ h=some 0/\US ps q.2.toNat=false)->Wz f S+f (r,pw) (en.2.2.2.1,1*en.2.2.2.2)=Wz f S+bk2 q h f en.1 en.2.2.2:=fun f hf f0 nc=>by rw[W9 mv',ek1,ek2,f0,kh nc,kh (by decide),Ta]
  have two:∀f,Lin f->(ZaX q h ps=true) -> ¬(q.1 = "cross" /\ h=some 0/\US ps q.2.toNat=false)->Wz f S+f (r,pw) (en.2.2.2.1,2*en.2.2.2.2)=Wz f S+bk2 q h f en.1 en.2.2.2:=fun f hf f1 nc=>by rw[W9 mv',ek1,ek2,f1,kh nc,kj rfl,Ta]
  have w1:1<=wq q:=by unfold wq;split<;>lia
  have eo2 : -(2 ^ 64)<o/\o<2 ^ 64:=by rw[eo];split<;>decide
  refine⟨_,rfl,ta,_,_,_,rfl,rfl,YJ.of hta3,Zn (j:=0) rfl,rfl,_,rfl,ZY (fun c=>?_) (fun c=>?_)⟩
  ·have ec:q.1 = "cross" := by
    have:=kO c;injection this
   have o1:o=1:=by rw[eo,kh fun z=>absurd (ec.symm.trans z.1) (by decide)]
   subst o1;refine⟨_,rfl,rfl,_,rfl,?_⟩;rw[nn];obtain⟨i,rfl⟩:∃i,h=some i:=by
    cases h with
    | none=>exact absurd rfl (hc ec)
    | some i=>exact⟨i,rfl⟩
   refine ZaY ⟨_,rfl,rfl,_,rfl,ZY (fun c1=>?_) (fun c1=>?_)⟩
   ·have i0:i=0:=by
     have:=kO c1;injection this
    subst i0;obtain⟨kn,hkn⟩:=kT ft.1;have tw:=Ziu ft pt hl ec (h:=some 0) (w:=(r,false)) (by rw[ZeM ps q _ kq,mv];exact kQ);rw[hkn,kX] at tw;refine⟨_,rfl,_,rfl,ta,_,_,_,rfl,rfl,YJ.of hta3,Zn (j:=1) rfl,b,kn,_,_,ps,by rw[hkn];rfl,by rw[<- ZjT];exact hb3,l200,tw,_,rfl,ZY (fun c2=>?_) (fun c2=>?_)⟩
    ·have tq:US ps q.2.toNat=false:=by
      rw[hkn,kX];unfold US;simpa using c2
     have f0:ZaX q (some 0) ps=false:=by unfold ZaX;rw[tq,Ki (fun z=>absurd (ec.symm.trans z) (by decide))];simp
     refine Zha (k:=(ps,pw+1)) (m:=en.2.2.2.2) (h0:=en.2.2.2.1) (h1:=en.2.2.2.2) (S:=S) ?_ ?_ e3 c3 hva3 (by lia) fun v b' x G' f' e' c'=>?_
     ·intro x G5 R s5 kR;refine⟨_,rfl,_,rfl,_,_,rfl,rfl,sz2,fun t5 ft5=>?_⟩;refine lay2 (o:=.tup [.ref b,.int (pw+1)]) ft5 fun G7 s7 e7=>?_;exact kR t5 G7 s7 ⟨b,e7,s7 _ _ (s5 _ _ hb3)⟩
     ·intro x G5 R s5 kR;exact⟨_,rfl,en.2.2.1,_,_,_,rfl,rfl,YJ.of (s5 _ _ hva3),Zn (j:=1) rfl,kR⟩
     ·refine fin _ 1 _ G' f' e' c' ?_ ⟨by decide,by decide⟩ (Zho okS ⟨pt,?_⟩) (Ze8 pS pen) fun f hf=>?_
      ·have:=ZcQ (ps,pw+1) b' v (UU (UT S (ps,pw+1)) (en.2.2.2.1,en.2.2.2.2)) S;have:wq q=2:=by unfold wq;rw[kj ec]
       lia
      ·rcases ft.2 with⟨x,_⟩ | ⟨_,_,x⟩ | ⟨x,_⟩
       ·exact absurd (x.symm.trans ec) (by decide)
       ·rw[x];exact hl
       ·exact absurd (x.symm.trans ec) (by decide)
      ·rw[Zc6 hf,W9 mv',ek1,ek2,f0,kh (show ¬(false=true) by decide),kj ⟨ec,rfl,tq⟩,Ld,Int.add_comm (f (ps,pw+1) _)]
    ·have tq:US ps q.2.toNat=true:=by
      rw[hkn,kX];unfold US;simpa using c2
     have f1:ZaX q (some 0) ps=true:=by unfold ZaX;rw[tq,kM ec];simp
     exact fin S 2 _ G3 (YK.refl _ _) e3 c3 (by lia) ⟨by decide,by decide⟩ okS pS fun f hf=>two f hf f1 fun z=>by rw[tq] at z;exact absurd z.2.2 (by decide)
   ·have i0:i≠0:=fun z=>c1 (by rw[z];exact kM rfl);have f0:ZaX q (some i) ps=false:=by
     unfold ZaX;rw[Ki (fun z=>i0 (by injection z)),MC]
    exact fin S 1 _ G3 (YK.refl _ _) e3 c3 (by lia) ⟨by decide,by decide⟩ okS pS fun f hf=>one f hf f0 fun z=>i0 (by injection z.2.1)
  ·have nc:q.1 ≠ "cross" := fun z=>c (by rw[z];exact kM rfl);refine W8 ?_;rcases kq with eb | ee | ec
   ·have o1:o=1:=by rw[eo,kh fun z=>absurd (eb.symm.trans z.1) (by decide)]
    subst o1;refine fin S 1 _ G3 (YK.refl _ _) e3 c3 (by lia) ⟨by decide,by decide⟩ okS pS fun f hf=>one f hf ?_ fun z=>nc z.1;rw[hbn eb];rfl
   ·by_cases s1':sc=1
    ·have o2:o=2:=by rw[eo,kj ⟨ee,s1'⟩]
     subst o2;refine fin S 2 _ G3 (YK.refl _ _) e3 c3 (by lia) ⟨by decide,by decide⟩ okS pS fun f hf=>two f hf ?_ fun z=>nc z.1;unfold ZaX;rw[hed ee,s1',kM ee];rfl
    ·have o1:o=1:=by rw[eo,kh fun z=>s1' z.2]
     subst o1;refine fin S 1 _ G3 (YK.refl _ _) e3 c3 (by lia) ⟨by decide,by decide⟩ okS pS fun f hf=>one f hf ?_ fun z=>nc z.1;unfold ZaX;rw[hed ee,Ki (fun z=>s1' (by injection z;lia)),MC]
   ·exact absurd ec nc
def Zi6:Sp:=fun vs H Q _=>∃(l:Addr)(sc:Int)(ls:QB)(g:QX),vs = [.ref l,.int sc]/\(sc=0∨sc=1)/\Drw H l ls/\HG sc ls g/\nX ls<=13 /\
 ∀(p:Addr)(H':Hp)(L:List SE),Zi H H'->H p=none->H' p=some (.dK (L.map fun e=>(Sum.inl e.1.2,V.ref e.2.2.1)))->Zgr H' L->(L.map fun e=>e.1.2).Nodup->L.length<=8192->Zcl L->(∀e∈L,e.1.1 = [])->(∀f,Lin f->Wz f L=bR2 ls (GB g ls) ls.length f)->Q (.ref p) H'
theorem ZkO {H:Hp}{Q:VK}(l:Addr)(sc:Int)(ls:QB)(g:QX)(hsc:sc=0∨sc=1)(dr:Drw H l ls)(hg:HG sc ls g)(n13:nX ls<=13)
  (k:∀(p:Addr)(H':Hp)(L:List SE),Zi H H'->H p=none->H' p=some (.dK (L.map fun e=>(Sum.inl e.1.2,V.ref e.2.2.1)))->Zgr H' L->(L.map fun e=>e.1.2).Nodup->L.length<=8192->Zcl L->(∀e∈L,e.1.1 = [])->(∀f,Lin f->Wz f L=bR2 ls (GB g ls) ls.length f)->Q (.ref p) H'):
  Zov P w K { nx:=fun x H'=>Q V.non H',rt:=Q } [some (.ref l),some (.int sc),none,none,none,none,none,none,none,none,none,none,none] H:=by
 obtain⟨xs,hl,hL,hW,hlen⟩:=id dr;have hxl:=hL.len;have pw13:∀i,2 ^ nX (ls.take i)<=8192:=fun i=>Kx (MT (by decide) (Kx (Zhp ls i) n13)) (by decide);refine fun st0 fst=>?_;refine lay2 (o:=DPo P w st0 []) fst fun H1 s1 e1=>?_;refine⟨sz0,fun b0 fb0=>?_⟩;refine lay2 (o:=.tup []) fb0 fun H2 s2 e2=>?_;refine⟨sz2,fun k0 fk0=>?_⟩;refine lay2 (o:=.tup [.ref b0,.int 0]) fk0 fun H3 s3 e3=>?_;refine⟨sz2,fun v0 fv0=>?_⟩;refine lay2 (o:=.tup [.int 1,.int 1]) fv0 fun H4 s4 e4=>?_;have s14:=(s2.trans s3).trans s4;refine⟨s14 _ _ e1,kk ([],0),k0,v0,rfl,rfl,⟨b0,s4 _ _ e3,s4 _ _ (s3 _ _ e2)⟩,?_⟩;obtain⟨H5,eH5⟩:∃H5,upd H4 st0 (DPo P w st0 [(kk ([],0),k0,v0)])=H5:=⟨_,rfl⟩;rw[eH5];have n4:∀(a:Addr)(ws:QH),H4 a=some (.tup ws)->a≠st0:=fun a ws q z=>by rw[z,s14 _ _ e1] at q;cases q
 have t45:∀(a:Addr)(ws:QH),H4 a=some (.tup ws)->H5 a=some (.tup ws):=fun a ws q=>by rw[<- eH5,Zh (n4 a ws q)];exact q
 have sH5:Zi H H5:=fun c o e=>by rw[<- eH5,Zh (Zf e fst)];exact s14 _ _ (s1 _ _ e)
 have est5:H5 st0=some (DPo P w st0 ([((([],0),k0,v0,1,1):SE)].map toP)):=by rw[<- eH5];exact Zc
 have con5:Con H5 [(([],0),k0,v0,1,1)]:=⟨fun x hx=>by rw[k7.mp hx];exact⟨b0,t45 _ _ (s4 _ _ e3),t45 _ _ (s4 _ _ (s3 _ _ e2))⟩,fun e he=>by rw[k7.mp he];exact t45 _ _ e4,by simp⟩;have hl5:=sH5 _ _ hl;refine⟨_,rfl,_,rfl,_,rfl,l,sc,ls,g,rfl,hsc,⟨xs,hl5,hL.same sH5,hW,hlen⟩,hg,fun hp Hb sb fhp ehp=>?_⟩;have estb:=sb _ _ est5;have hlb:=sb _ _ hl5;have lhl:(lhL g ls ls.length).length=ls.length:=by unfold lhL;rw[ke,qV]
 have nhp:hp≠st0:=fun z=>by rw[z,est5] at fhp;cases fhp
 have nl0:l≠st0:=Zf hl fst;refine⟨l,hp,rfl,⟨_,Zt.of hlb⟩,⟨_,Zt.of ehp⟩,Zht (K:=K) (a:=l) (b:=hp) (xs:=xs) (ys:=lhL g ls ls.length) (by rw[hxl,lhl]) (fun i σ G=>∃(st:Addr)(L:List SE)(n:Int)(v3 v4 v5 v6 v7 v8 v9 v10 v11:QI),σ = [some (.ref l),some (.int sc),some (.ref st),v3,v4,v5,v6,v7,v8,v9,v10,v11,none]/\YK st0 Hb G/\(∃u,G st0=some u)/\(st=st0∨Hb st=none)/\G st=some (DPo P w st (L.map toP))/\Con G L/\L.length<=2 ^ nX (ls.take i)/\Wk (ls.take i) n/\OkS n L/\Zcl L /\ ∀f,Lin f->Wz f L=bR2 ls (GB g ls) i f)
  ⟨st0,_,0,_,_,_,_,_,_,_,_,_,rfl,YK.refl _ _,⟨_,estb⟩,.inl rfl,estb,con5.mono (fun a ws q=>sb _ _ q),by rw[Nv];exact ki _,.nil,fun r hr=>by rw[k7.mp hr];exact⟨fun i x e=>by simp at e,rfl⟩,(fun e he=>by rw[k7.mp he];exact Int.zero_lt_one),fun f _=>by unfold Wz;simp[bR2]⟩ (fun i σ G ⟨_,_,_,_,_,_,_,_,_,_,_,_,_,f',_⟩=>⟨Zt.of (f' _ _ hlb nl0),Zt.of (f' _ _ ehp nhp)⟩) ?_ ?_⟩
 ·rintro i x y p σ G hx hy ⟨st,L,n,v3,v4,v5,v6,v7,v8,v9,v10,v11,rfl,fG,⟨u0,hu0⟩,hst,est,cL,Ll,wn,okL,pL,sm⟩ fp;obtain⟨q,ta,hq,rfl,hta⟩:=hL.get hx;have hi:i<ls.length:=(kI.mp hq).1;have ey:y=oI (GB g ls i):=by
   unfold lhL at hy;rw[kE,List.getElem?_range hi] at hy;injection hy with hy
   exact hy.symm
  subst ey;obtain⟨m,wm,ft⟩:∃m,Wk (ls.take (i+1)) m/\Zif q n m:=by obtain⟨m,wm⟩:=GA hW (i+1);have wm':=wm;rw[Ke,hq] at wm;obtain⟨n',wn',ft⟩:=Zep (show Wk (ls.take i ++ [q]) m from wm);rw[ZcH wn wn'];exact⟨m,wm',ft⟩
  have n2:=ZbE wn;have tl:(ls.take i).length=i:=by rw[kL];lia
  have kq:q.1 = "born" ∨ q.1 = "end" ∨ q.1 = "cross" := by
   rcases ft.2 with⟨e,_⟩ | ⟨e,_⟩ | ⟨e,_⟩
   ·exact .inl e
   ·exact .inr (.inr e)
   ·exact .inr (.inl e)
  have hc:q.1 = "cross" -> GB g ls i≠none:=fun ec z=>by
   have kt:UW ls GV i=true:=by rw[Wn hq (pr:=GV),ec];decide
   unfold GB at z;rw[kt] at z;cases z
  have hbn:q.1 = "born" -> GB g ls i=none:=fun eb=>by
   have kt:UW ls GV i=false:=by rw[Wn hq (pr:=GV),eb];decide
   unfold GB;rw[kt];rfl
  have hed:q.1 = "end" -> GB g ls i=some (1-sc):=fun ee=>by
   have kt:UW ls GV i=true:=by rw[Wn hq (pr:=GV),ee];decide
   unfold GB;rw[kt,kj rfl,hg.atEnd hsc hW hq ee]
  refine⟨p,_,rfl,YJ.of Zc,rfl,_,_,rfl,_,_,rfl,rfl,?_⟩;refine lay2 (o:=.tup [.ref ta,oI (GB g ls i)]) fp fun G1 sg1 eg1=>?_;refine fun bl fbl=>?_;refine lay2 (o:=DPo P w bl []) fbl fun G2 sg2 eg2=>?_;have s02:=sg1.trans sg2;have est2:=s02 _ _ est;have nsb:st≠bl:=Zf (sg1 _ _ est) fbl;refine⟨_,rfl,st,_,(L.map toP).map (fun x=>V.ref x.2.1),rfl,⟨est2,.inr ⟨_,rfl,rfl⟩⟩,fun o=>?_⟩;obtain⟨G3,eG3⟩:∃G3,upd G2 st (.frz o (DPo P w st (L.map toP)))=G3:=⟨_,rfl⟩;rw[eG3];have fr3:YK st G2 G3:=by rw[<- eG3];exact YK.upd
  have est3:G3 st=some (.frz o (DPo P w st (L.map toP))):=by rw[<- eG3];exact Zc
  have ebl3:G3 bl=some (DPo P w bl (([]:List SE).map toP)):=fr3 _ _ eg2 (Kz nsb);have t03:∀(a:Addr)(ws:QH),G a=some (.tup ws)->G3 a=some (.tup ws):=fun a ws q=>fr3 _ _ (s02 _ _ q) (fun z=>by rw[z,est] at q;cases q);have cL3:=cL.mono t03;have fb3:∀c o,Hb c=some o->c≠st0->G3 c=some o:=fun c o e n0=>fr3 _ _ (s02 _ _ (fG _ _ e n0)) (by
   rcases hst with z | z
   ·rw[z];exact n0
   ·exact Zf e z)
  have nb0:bl≠st0:=fun z=>by rw[z,sg1 _ _ hu0] at fbl;cases fbl
  have fblb:Hb bl=none:=by
   cases hz:Hb bl with
   | none=>rfl
   | some o'=>rw[sg1 _ _ (fG _ _ hz nb0)] at fbl;cases fbl
  have u3:∃u,G3 st0=some u:=by
   by_cases z:st0=st
   ·rw[z];exact⟨_,est3⟩
   ·exact⟨_,fr3 _ _ (s02 _ _ hu0) z⟩
  have hta3:G3 ta=some (.tup [.str q.1,.int q.2]):=fb3 _ _ (sb _ _ (sH5 _ _ hta)) (Zf hta fst);have kl:((L.map toP).map (fun x=>V.ref x.2.1)).length=L.length:=by rw[ke,ke]
  have w2:wq q<=2:=by unfold wq;split<;>lia
  have lw:wq q*L.length<=16384:=Kx (Nat.mul_le_mul w2 (Kx Ll (pw13 i))) (by decide);refine Zfh (d:=st) (o:=o) (ks:=(L.map toP).map (fun x=>V.ref x.2.1)) (fun j σ G'=>∃(S:List SE)(v6 v7 v8 v9 v10 v11:QI),σ = [some (.ref l),some (.int sc),some (.ref st),some (.ref ta),some (oI (GB g ls i)),some (.ref bl),v6,v7,v8,v9,v10,v11,none]/\YK bl G3 G'/\G' bl=some (DPo P w bl (S.map toP))/\Con G' S/\S.length<=wq q*j/\OkS m S/\Zcl S /\ ∀f,Lin f->Wz f S=Wz (bk2 q (GB g ls i) f) (L.take j))
   ⟨[],_,_,_,_,_,_,rfl,YK.refl _ _,ebl3,⟨fun x hx=>(nomatch hx),fun e he=>(nomatch he),MG⟩,KP _,fun r hr=>(nomatch hr),fun r hr=>(nomatch hr),fun f _=>rfl⟩ (fun j σ G' _ ⟨_,_,_,_,_,_,_,_,f',_⟩=>f' _ _ est3 nsb) ?_ ?_
  ·rintro j kx σ G' hkx ⟨S,v6,v7,v8,v9,v10,v11,rfl,f',ebl,cS,Sl,okS,pS,smS⟩;rw[kE,kE] at hkx;obtain⟨x0,hx0,rfl⟩:=Ka.mp hkx;obtain⟨en,hen,rfl⟩:=Ka.mp hx0;have jl:j<L.length:=(kI.mp hen).1;have nt:∀(a:Addr)(ws:QH),G3 a=some (.tup ws)->a≠bl:=fun a ws q z=>by rw[z,ebl3] at q;cases q
   have t3:∀(a:Addr)(ws:QH),G3 a=some (.tup ws)->G' a=some (.tup ws):=fun a ws q=>f' _ _ q (nt a ws q);have cL':=cL3.mono t3;obtain⟨b,hka,hkb⟩:=cL'.1 (toP en) (Kq.mpr ⟨en,k9 hen,rfl⟩);obtain⟨ptr,lr⟩:=okL en (k9 hen);have j1:wq q*j+wq q<=16384:=by have:wq q*(j+1)<=wq q*L.length:=M4 _ jl;rw[Nat.mul_succ] at this;lia
   refine⟨en.2.1,_,rfl,YJ.of hka,rfl,_,_,rfl,_,_,rfl,rfl,?_⟩;refine ZkY (P:=P) (w:=w) (K:=K) (L:=L) (S:=S) (en:=en) (q:=q) (n:=n) (m:=m) (ps:=en.1.1) (pw:=en.1.2) (.inr ⟨o,f' _ _ est3 nsb⟩) cL' (ZeQ cL.2.2 hen) rfl hkb ebl cS (by lia) okS pS pL (t3 _ _ hta3) ft ptr lr (by lia) kq hc hbn hed fun S' y8 y9 y10 y11 G'' f'' e'' c'' sl ok'' ps'' sm''=>?_;refine⟨S',_,_,_,_,_,_,rfl,f'.trans f'',e'',c'',by rw[Nat.mul_succ];lia,ok'',ps'',fun f hf=>?_⟩;rw[sm'' f hf,smS f hf,Zc3 _ L j hen]
  ·rintro σ G' ⟨S,v6,v7,v8,v9,v10,v11,rfl,f',ebl,cS,Sl,okS,pS,smS⟩;rw[kl] at Sl smS;obtain⟨u,hu⟩:=u3;refine⟨_,rfl,bl,S,m,_,_,_,_,_,_,_,_,_,rfl,fun c o e n0=>f' _ _ (fb3 c o e n0) (Zf e fblb),⟨u,f' _ _ hu (Kz nb0)⟩,.inr fblb,ebl,cS,?_,wm,okS,pS,fun f hf=>?_⟩
   ·rw[ZoX hq];exact Kx Sl (M4 _ Ll)
   ·rw[smS f hf,qz,sm _ (ZlS hf),Zft hq]
 ·rintro σ G ⟨st,L,n,v3,v4,v5,v6,v7,v8,v9,v10,v11,rfl,fG,⟨u0,hu0⟩,hst,est,cL,Ll,wn,okL,pL,sm⟩;rw[hxl,qz] at wn;have n0:=ZcH wn hW;rw[hxl] at sm Ll;have ky:∀e∈L,e.1.1 = []:=fun e he=>XC (by have:=(okL e he).2;lia);have L8:=Kx Ll (pw13 ls.length);refine fun fd ffd=>?_;refine lay2 (o:=.dK []) ffd fun G2 s02 efd=>?_;have est2:=s02 _ _ est;have nsf:st≠fd:=Zf est ffd;have ndp:(L.map fun e=>e.1.2).Nodup:=by
   have:=cL.2.2;refine qE.mpr (NT (fun {a b} ha hb h z=>h ?_) (qE.mp this));exact NY ((ky a ha).trans (ky b hb).symm) z
  refine⟨_,rfl,st,_,(L.map toP).map (fun x=>V.ref x.2.1),rfl,⟨est2,.inr ⟨_,rfl,rfl⟩⟩,fun o=>?_⟩;obtain⟨G3,eG3⟩:∃G3,upd G2 st (.frz o (DPo P w st (L.map toP)))=G3:=⟨_,rfl⟩;rw[eG3];have fr3:YK st G2 G3:=by rw[<- eG3];exact YK.upd
  have est3:G3 st=some (.frz o (DPo P w st (L.map toP))):=by rw[<- eG3];exact Zc
  have efd3:G3 fd=some (.dK []):=fr3 _ _ efd (Kz nsf);have t03:∀(a:Addr)(ws:QH),G a=some (.tup ws)->G3 a=some (.tup ws):=fun a ws q=>fr3 _ _ (s02 _ _ q) (fun z=>by rw[z,est] at q;cases q);have cL3:=cL.mono t03;have kl:((L.map toP).map (fun x=>V.ref x.2.1)).length=L.length:=by rw[ke,ke]
  have nf0:fd≠st0:=fun z=>by rw[z,hu0] at ffd;cases ffd
  refine Zfh (d:=st) (o:=o) (ks:=(L.map toP).map (fun x=>V.ref x.2.1)) (fun j σ G'=>∃(v3 v4 v5 v6 v7 v8 v9 v10 v11:QI),σ = [some (.ref l),some (.int sc),some (.ref st),v3,v4,v5,v6,v7,v8,v9,v10,v11,some (.ref fd)]/\YK fd G3 G'/\G' fd=some (.dK ((L.take j).map fun e=>(Sum.inl e.1.2,V.ref e.2.2.1))))
   ⟨_,_,_,_,_,_,_,_,_,rfl,YK.refl _ _,efd3⟩ (fun j σ G' _ ⟨_,_,_,_,_,_,_,_,_,_,f',_⟩=>f' _ _ est3 nsf) ?_ ?_
  ·rintro j kx σ G' hkx ⟨v3,v4,v5,v6,v7,v8,v9,v10,v11,rfl,f',ef'⟩;rw[kE,kE] at hkx;obtain⟨x0,hx0,rfl⟩:=Ka.mp hkx;obtain⟨en,hen,rfl⟩:=Ka.mp hx0;have jl:j<L.length:=(kI.mp hen).1;have t3:∀(a:Addr)(ws:QH),G3 a=some (.tup ws)->G' a=some (.tup ws):=fun a ws q=>f' _ _ q (fun z=>by rw[z,efd3] at q;cases q);have cL':=cL3.mono t3;obtain⟨b,hka,hkb⟩:=cL'.1 (toP en) (Kq.mpr ⟨en,k9 hen,rfl⟩);refine⟨en.2.1,_,rfl,YJ.of hka,rfl,_,_,rfl,_,_,rfl,rfl,?_⟩;refine⟨_,rfl,_,rfl,_,rfl,sz2,fun t ft1=>?_⟩;refine lay2 (o:=.tup [.ref b,kV (toP en).1.2]) ft1 fun G4 s4' e4'=>?_;refine⟨st,_,kk en.1,t,en.2.2.1,rfl,.inr ⟨o,s4' _ _ (f' _ _ est3 nsf)⟩,(cL'.mono fun a ws x=>s4' _ _ x).1,rfl,⟨b,e4',s4' _ _ hkb⟩,(by rw[ZbG,ZeQ cL.2.2 hen];rfl),?_⟩;refine⟨_,rfl,_,rfl,fd,_,rfl,.inl ⟨_,Sum.inl en.1.2,s4' _ _ ef',rfl,(by rw[ke,kL,Kn];lia),rfl⟩,?_⟩;refine⟨_,_,_,_,_,_,_,_,_,rfl,(f'.trans s4'.frm).trans YK.upd,?_⟩;rw[Zc,Ke,hen,k6];refine Ky (fun z=>some (HO.dK z)) (ZcT fun h=>?_);rw[qh] at h;obtain⟨e,he,z⟩:=Kq.mp h;have z:e.1.2=en.1.2:=by injection z
   obtain⟨i',hi',rfl⟩:=TZ.mp he;rw[kL] at hi';have hj:(L.map fun e=>e.1.2)[i']'(by rw[ke];lia)≠(L.map fun e=>e.1.2)[j]'(by rw[ke];exact jl):=(NA.mp ndp) i' j _ _ (by lia);rw[List.getElem_map,List.getElem_map] at hj;rw[List.getElem_take] at z;refine hj (z.trans ?_);have:L[j]=en:=by rw[kU jl] at hen;injection hen
   rw[this]
  ·rintro σ G' ⟨v3,v4,v5,v6,v7,v8,v9,v10,v11,rfl,f',ef'⟩;rw[kl,qz] at ef';have t3:∀(a:Addr)(ws:QH),G3 a=some (.tup ws)->G' a=some (.tup ws):=fun a ws q=>f' _ _ q (fun z=>by rw[z,efd3] at q;cases q);refine⟨_,rfl,k fd G' L (fun c o e=>?_) ?_ ef' (cL3.mono t3).2.1 ndp L8 pL ky sm⟩
   ·have nc0:=Zf e fst;have eb:=sb _ _ (sH5 _ _ e);have e3:G3 c=some o:=fr3 _ _ (s02 _ _ (fG _ _ eb nc0)) (by
     rcases hst with z | z
     ·rw[z];exact nc0
     ·exact Zf eb z)
    exact f' _ _ e3 (fun z=>by rw[z] at eb;rw[fG _ _ eb nf0] at ffd;cases ffd)
   ·cases hz:H fd with
    | none=>rfl
    | some o'=>rw[fG _ _ (sb _ _ (sH5 _ _ hz)) nf0] at ffd;cases ffd
abbrev GN:Stmt:=top 50
theorem ZE:ZA ["_law_drawing_here", "_law_scale", "_law_states", "_law_letter", "_law_height", "_law_later", "_law_partners", "_law_power", "_law_here", "_law_there", "_law_often", "_law_ahead", "_law_found"] ["_law_drawing_here", "_law_scale"] (Zj GN):={}
theorem Zml {fd:FuncData}{f:Addr}(F:WC K "_law_counts" "_law_counts" GN f fd)(Jn:JM P w K mg base 5 "_law_letter_heights" ["_law_drawing_here", "_law_scale"] Zgk)(WL:JM P w K mg base 1 "_law_moved_on" ["_law_partners", "_law_letter"] ZeV)(WI:JM P w K mg base 1 "_law_is_apart" ["_law_partners", "_law_k"] ZeY)(Zby:mg "zip" = none)(Yf:mg "list" = none)(UP:mg "int" = none)(YZ:mg "tuple" = none):Yi P w K mg base WH 6 f fd ["_law_drawing_here", "_law_scale"] Zi6:=by
 refine F.ok ZE (fun vs H Q E h=>?_) (fun cdv A outer s H vs Q E hr h=>?_)
 ·obtain⟨l,sc,ls,g,rfl,_⟩:=h;rfl
 ·obtain⟨l,sc,ls,g,rfl,hsc,dr,hg,n13,k⟩:=h;refine⟨_,(Zd (Zm (i:=2) ZE.nd rfl (.inl rfl) (ZjR (P:=P) (w:=w) rfl rfl (ZaU hr) (ZC (Za (ZC Zb) (Za Ze Zb))) (ZC (Za Ze (Za Ze Zb)))))
   (Zd (Yj Kj rfl (Zh0 (K:=K) rfl (by rfl) Zby (Za (pv 0) (Za (Zq Jn hr (Za (pv 0) (Za (pv 1) Zb))) Zb))) (Z6 (K:=K) (n:=2) rfl rfl (Zo (Zl (i:=3) ZE.nd rfl (.inl rfl)) (Zo (Zl (i:=4) ZE.nd rfl (.inl rfl)) ZQ))) (Zd (Zm (i:=5) ZE.nd rfl (.inl rfl) (Zmo (P:=P) (w:=w) rfl rfl))
   (Zd (Yj Kj rfl (Zhb (P:=P) (w:=w) rfl rfl (pv 2)) (Z6 (K:=K) (n:=2) rfl rfl (Zo (Zl (i:=6) ZE.nd rfl (.inl rfl)) (Zo (Zl (i:=7) ZE.nd rfl (.inl rfl)) ZQ))) (Zd (Zm (i:=8) ZE.nd rfl (.inl rfl) (ZhE (P:=P) (w:=w) rfl rfl (ZaU hr) (pv 2) (ZC (Za (pv 6) (Za (pv 7) Zb))) (fun _ _=>rfl)))
   (Zd (Zm (i:=9) ZE.nd rfl (.inl rfl) (Zq WL hr (Za (Z0 (Jc (K:=K) rfl) (by rfl) Yf XN (Za (pv 6) Zb)) (Za (pv 3) Zb))))
   (Zd (Zm (i:=10) ZE.nd rfl (.inl rfl) (Zk Zx Ze (Z0 Ug (by rfl) UP MQ (Za (ZbZ (Yy Ym (Zw (ZL (K:=K) rfl) (pv 3) Ze (fun _ _=>rfl)) ZG (Zp _)) (Zai (Yy Ym (pv 1) Ze (Zp _)))) Zb))))
   (Zd (Z9 (PW.pt (GJ (Zr Ym (Zw (ZL (K:=K) rfl) (pv 3) Ze (fun _ _=>rfl)) ZG (Zp _)) (GJ (Zr Zeg (pv 9) Uq (Zp _)) (Up (Zr Ym (pv 4) Ze (Zp _)))))) (Zg (Z9 (U9 (Zq WI hr (Za (pv 6) (Za (Zw (ZL (K:=K) rfl) (pv 3) Ze (fun _ _=>rfl)) Zb)))) (Zd (Zm (i:=11) ZE.nd rfl (.inl rfl) (Zf4 (P:=P) (w:=w) rfl rfl (ZaU hr) (pv 5) (ZC (Za (pv 6) (Za (Zk Zx (pv 7) Ze) Zb))) (ZC (Za Ze (Za Ze Zb))) ⟨rfl,rfl,rfl,rfl⟩))
   (Zg (Yd (ZC (Za (Zk Zx (Zw (ZL (K:=K) rfl) (pv 11) Ze (fun _ _=>rfl)) (Zw (ZL (K:=K) rfl) (pv 8) Ze (fun _ _=>rfl))) (Za (Zk Zx (Zw (ZL (K:=K) rfl) (pv 11) Ze (fun _ _=>rfl)) (Zw (ZL (K:=K) rfl) (pv 8) Ze (fun _ _=>rfl))) Zb))) (Yp (pv 5) (ZC (Za (pv 6) (Za (Zk Zx (pv 7) Ze) Zb))) (Zjj (P:=P) (w:=w) rfl rfl (ZaU hr)))))) (Zg (Zm (i:=10) ZE.nd rfl (.inl rfl) Ze)))) ZN)
   (Zg (Z9 (Zr Zeg (pv 9) Uq (Zp _)) (Zd (Zm (i:=11) ZE.nd rfl (.inl rfl) (Zf4 (P:=P) (w:=w) rfl rfl (ZaU hr) (pv 5) (ZC (Za (Z0 Wv (by rfl) YZ Nw (Za (pv 9) Zb)) (Za (pv 7) Zb))) (ZC (Za Ze (Za Ze Zb))) ⟨rfl,rfl,rfl,rfl⟩))
   (Zg (Yd (ZC (Za (Zk Zx (Zw (ZL (K:=K) rfl) (pv 11) Ze (fun _ _=>rfl)) (Zw (ZL (K:=K) rfl) (pv 8) Ze (fun _ _=>rfl))) (Za (Zk Zx (Zw (ZL (K:=K) rfl) (pv 11) Ze (fun _ _=>rfl)) (Zk Wa (pv 10) (Zw (ZL (K:=K) rfl) (pv 8) Ze (fun _ _=>rfl)))) Zb))) (Yp (pv 5) (ZC (Za (Z0 Wv (by rfl) YZ Nw (Za (pv 9) Zb)) (Za (pv 7) Zb))) (Zjj (P:=P) (w:=w) rfl rfl (ZaU hr)))))) ZN)))))))
   (Zg (Zm (i:=2) ZE.nd rfl (.inl rfl) (pv 5))))))
   (Zd (Zm (i:=12) ZE.nd rfl (.inl rfl) Zdi)
   (Zd (Yj Kj rfl (Zhb (P:=P) (w:=w) rfl rfl (pv 2)) (Z6 (K:=K) (n:=2) rfl rfl (Zo (Zl (i:=6) ZE.nd rfl (.inl rfl)) (Zo (Zl (i:=7) ZE.nd rfl (.inl rfl)) ZQ))) (Zg (Yd (ZhE (P:=P) (w:=w) rfl rfl (ZaU hr) (pv 2) (ZC (Za (pv 6) (Za (pv 7) Zb))) (fun _ _=>rfl)) (Yp (pv 12) (pv 7) (set_dict (Jf hr))))))
   (Zg (Zz (pv 12))))))),?_⟩
  exact ZkO l sc ls g hsc dr hg n13 k
def tk0 (q:Str×Int)(h:QW)(φ:QG×Int->Int)(k:QG×Int):Int:=match WU k.1 q with
 | none=>0
 | some r=>φ (r,k.2)+(if q.1 = "cross" /\ h=some 0/\US k.1 q.2.toNat=false then φ (k.1,k.2+1) else 0)
def ZeB (φ:QG×Int->Int):QG×Int->Int×Int->Int:=fun k c=>c.1 * φ k
theorem Zj1 (φ:QG×Int->Int):Lin (ZeB φ):=fun k a b=>by unfold ZeB UU;rw[Int.add_mul]
theorem Zi8 (q:Str×Int)(h:QW)(φ:QG×Int->Int):bk2 q h (ZeB φ)=ZeB (tk0 q h φ):=by
 funext k c;unfold ZeB tk0;cases e:WU k.1 q with
 | none=>rw[Zae e,Int.mul_zero]
 | some r=>
  rw[W9 e];dsimp only;by_cases d:q.1 = "cross" /\ h=some 0/\US k.1 q.2.toNat=false
  ·rw[kj d,kj d,Int.mul_add]
  ·rw[kh d,kh d,Ta,Ta]
theorem ZoU (q:Str×Int)(h:QW)(t:Nat)(φ:QG×Int->Int)(r:QG×QG):((J4 q (decide (h=some 0)) t r).map fun x=>φ (x.2,(x.1.length:Int))).sum=tk0 q h φ (r.2,(r.1.length:Int)):=by
 unfold J4 tk0;dsimp only;cases WU r.2 q with
 | none=>rfl
 | some ps=>
  dsimp only;by_cases d:q.1 = "cross" /\ h=some 0/\US r.2 q.2.toNat=false
  ·rw[kj d,kj ⟨d.1,kM d.2.1,d.2.2⟩];simp
  ·rw[kh d,kh fun z=>d ⟨z.1,kO z.2.1,z.2.2⟩];simp
theorem ZdY {α β:Type}(f:α -> List β)(g:β -> Int)(k:α -> Int)(h:∀x,((f x).map g).sum=k x):∀l:List α,((l.flatMap f).map g).sum=(l.map k).sum
 | []=>rfl
 | x::l=>by rw[qm,k6,XJ,h,ZdY f g k h l,kH,Xd]
theorem Zjz {ls:QB}{hs:Nat->Option Int}:∀(i:Nat)(φ:QG×Int->Int),i<=ls.length->((YD ls (fun i=>decide (hs i=some 0)) i).map fun r=>φ (r.2,(r.1.length:Int))).sum=bR2 ls hs i (ZeB φ)
 | 0,φ,_=>by rw[YD,bR2];unfold ZeB;simp
 | i+1,φ,h=>by have hq:ls[i]? = some ls[i]:=kU (by lia);rw[Zft hq,Zi8,<- Zjz i _ (by lia),YD,hq];exact ZdY _ _ _ (fun r=>ZoU _ _ _ _ r) _
abbrev AL:=QL
def ZbD:AL->Int->Int->AL
 | [],k,n=>[(k,n)]
 | r::L,k,n=>if r.1=k then(k,n)::L else r::ZbD L k n
def Zdu:AL->Int->Option Int
 | [],_=>none
 | r::L,k=>if r.1=k then some r.2 else Zdu L k
def GK (φ:QX)(B:AL):Int:=(B.map fun r=>r.2 * φ r.1).sum
def ZaQ (B:AL):QD:=B.map fun r=>(Sum.inl r.1,V.int r.2)
theorem JO (φ:QX)(r:Int×Int)(B:AL):GK φ (r::B)=r.2 * φ r.1+GK φ B:=by unfold GK;rw[kH,Xd]
theorem ZfY (φ:QX)(k m:Int):∀B:AL,GK φ (ZbD B k ((Zdu B k).getD 0+m))=GK φ B+m * φ k
 | []=>by show GK φ [(k,0+m)]=GK φ []+m * φ k;rw[JO];show (0+m) * φ k+0=0+m * φ k;rw[Ob,Ta,Ob]
 | r::B=>by
  unfold ZbD Zdu;by_cases c:r.1=k
  ·rw[kj c,kj c,JO,JO,c];show (r.2+m) * φ k+_=_;rw[Int.add_mul,LF]
  ·rw[kh c,kh c,JO,JO,ZfY φ k m B,Ld]
theorem ZcR (k n:Int):∀(B:AL),∀x,x∈(ZbD B k n).map (·.1) ↔ x=k∨x∈B.map (·.1)
 | [],x=>by simp[ZbD]
 | r::B,x=>by
  unfold ZbD;split
  ·rename_i c;subst c;simp
  ·rw[kH,kP,ZcR k n B x,kH,kP,or_left_comm]
theorem ZcI (k n:Int):∀{B:AL},(B.map (·.1)).Nodup->((ZbD B k n).map (·.1)).Nodup
 | [],_=>by simp[ZbD]
 | r::B,nd=>by
  rw[kH,Kl] at nd;unfold ZbD;split
  ·rename_i c
   rw[kH,Kl];rw[c] at nd;exact nd
  ·rename_i c
   rw[kH,Kl,ZcR];exact⟨fun z=>z.elim c nd.1,ZcI k n nd.2⟩
theorem ZfI (k n:Int)(hn:0<n):∀{B:AL},(∀r∈B,0<r.2) -> ∀r∈ZbD B k n,0<r.2
 | [],_,r,hr=>by rw[k7.mp hr];exact hn
 | r0::B,h,r,hr=>by
  unfold ZbD at hr;split at hr
  ·rcases kP.mp hr with rfl | hr
   ·exact hn
   ·exact h r (kS _ hr)
  ·rcases kP.mp hr with rfl | hr
   ·exact h _ kQ
   ·exact ZfI k n hn (fun x hx=>h x (kS _ hx)) r hr
theorem Zfc {k:Int}:∀{B:AL},(∀r∈B,0<r.2)->0<=(Zdu B k).getD 0
 | [],_=>qK _
 | r::B,h=>by
  unfold Zdu;split
  ·exact Oc (h r kQ)
  ·exact Zfc fun x hx=>h x (kS _ hx)
theorem Ze2 {B:AL}(nd:(B.map (·.1)).Nodup){r:Int×Int}(h:r∈B):GK (fun x=>if x=r.1 then 1 else 0) B=r.2:=by
 induction B with
 | nil=>cases h
 | cons s B ih=>
  rw[kH,Kl] at nd;rw[JO];have zero:∀{B:AL}{k:Int},k∉B.map (·.1)->GK (fun x=>if x=k then 1 else 0) B=0:=fun {B k} hk=>by
   induction B with
   | nil=>rfl
   | cons t B ih=>
    rw[kH,kP,Om] at hk;rw[JO,ih hk.2,kh fun z=>hk.1 z.symm];simp
  rcases kP.mp h with rfl | h
  ·rw[zero nd.1,kj rfl];lia
  ·rw[ih nd.2 h,kh fun z=>nd.1 (by rw[z];exact Kq.mpr ⟨r,h,rfl⟩)];lia
theorem Zlt {B:AL}{k:Int}(hk:k∉B.map (·.1)):GK (fun x=>if x=k then 1 else 0) B=0:=by
 induction B with
 | nil=>rfl
 | cons t B ih=>
  rw[kH,kP,Om] at hk;rw[JO,ih hk.2,kh fun z=>hk.1 z.symm];simp
theorem Zf2 {B C:AL}(nB:(B.map (·.1)).Nodup)(nC:(C.map (·.1)).Nodup)(pB:∀r∈B,0<r.2)(h:∀ φ,GK φ B=GK φ C):∀r∈B,r∈C:=fun r hr=>by
 have e:=h fun x=>if x=r.1 then 1 else 0
 rw[Ze2 nB hr] at e;by_cases c:r.1∈C.map (·.1)
 ·obtain⟨s,hs,es⟩:=Kq.mp c;have:=Ze2 nC hs;rw[es,<- e] at this;have:r=s:=NY es.symm this;rw[this];exact hs
 ·rw[Zlt c] at e;have:=pB r hr;lia
theorem nodup_keys {B:AL}(h:(B.map (·.1)).Nodup):B.Nodup:=by refine List.Pairwise.imp (fun {a b} z y=>z (by rw[y])) (qE.mp h)
theorem ZdM {B C:AL}(nB:(B.map (·.1)).Nodup)(nC:(C.map (·.1)).Nodup)(pB:∀r∈B,0<r.2)(pC:∀r∈C,0<r.2)(h:∀ φ,GK φ B=GK φ C):B.Perm C:=
 (List.perm_ext_iff_of_nodup (nodup_keys nB) (nodup_keys nC)).mpr fun r=>⟨Zf2 nB nC pB h r,Zf2 nC nB pC (fun φ=>(h φ).symm) r⟩
theorem Ze6 (k:Int):∀B:AL,Y5 (ZaQ B) (Sum.inl k)=(Zdu B k).map V.int
 | []=>rfl
 | r::B=>by
  unfold Zdu;by_cases c:r.1=k
  ·rw[kj c];show Y5 ((Sum.inl r.1,V.int r.2)::ZaQ B) (Sum.inl k)=_;rw[YA (by rw[c])];rfl
  ·rw[kh c,<- Ze6 k B];show Y5 ((Sum.inl r.1,V.int r.2)::ZaQ B) (Sum.inl k)=_;rw[YB (fun z=>c (by injection z))]
theorem Zeb {k:Int}{v:V}:∀{B:AL},k∉B.map (·.1)->(ZaQ B).map (fun x=>if x.1=Sum.inl k then(x.1,v) else x)=ZaQ B
 | [],_=>rfl
 | r::B,h=>by rw[kH,kP,Om] at h;show (if (Sum.inl r.1:Key)=Sum.inl k then(Sum.inl r.1,v) else(Sum.inl r.1,V.int r.2))::(ZaQ B).map (fun x=>if x.1=Sum.inl k then(x.1,v) else x)=_;rw[kh (fun z=>h.1 (by injection z with z;exact z.symm)),Zeb h.2];rfl
theorem Zgn {p:Key×V}{r:QD}{k:Key}{v:V}(e:¬p.1=k):putK (p::r) k v=p::putK r k v:=by
 unfold putK;rw[qQ,Ki e,M9];split
 ·rw[kH,kh e]
 ·rfl
theorem Zfp (k n:Int):∀{B:AL},(B.map (·.1)).Nodup->putK (ZaQ B) (Sum.inl k) (.int n)=ZaQ (ZbD B k n)
 | [],_=>rfl
 | r::B,nd=>by
  rw[kH,Kl] at nd;show putK ((Sum.inl r.1,V.int r.2)::ZaQ B) _ _=_;unfold ZbD;by_cases c:r.1=k
  ·rw[kj c];unfold putK;rw[kj (by rw[qQ,kM (show (Sum.inl r.1:Key)=Sum.inl k by rw[c]),Mk]),kH,kj (by rw[c]),Zeb (by rw[<- c];exact nd.1)];show (Sum.inl r.1,V.int n)::_=(Sum.inl k,V.int n)::_;rw[c];rfl
  ·rw[Zgn (fun z=>c (by injection z)),kh c,Zfp k n nd.2];rfl
theorem Zii {l m:QG}(p:l.Perm m):l.sum=m.sum:=by
 induction p with
 | nil=>rfl
 | cons x _ ih=>rw[Xd,Xd,ih]
 | swap x y l=>simp only[Xd];lia
 | trans _ _ a b=>exact a.trans b
def Zpq:Sp:=fun vs H Q _=>∃(l:Addr)(sc:Int)(ls:QB)(g:QX),vs = [.ref l,.int sc]/\(sc=0∨sc=1)/\Drw H l ls/\HG sc ls g/\nX ls<=13 /\
 ∀(p:Addr)(H2:Hp)(zs:QH)(vs:QA)(B:AL),Zi H H2->H2 p=none->(B.map (·.1)).Nodup->(∀r∈B,0<r.2) ->
  (∀ φ,GK φ B=((YD ls (fun i=>decide (GB g ls i=some 0)) ls.length).map fun r=>φ ((r.1.length:Int)-((Ya ls (fun x=>decide (x = "end")) ls.length).length:Int))).sum)->vs.Perm (B.map fun r=>[r.1,r.2])->Words H2 zs vs->ZfN vs->B.length<=61->Q (.ref p) (upd H2 p (.lst zs))
abbrev ZaO:Stmt:=top 31
theorem Wu:ZA ["drawing", "scale", "ends", "counts", "banding", "power"] ["drawing", "scale"] (Zj ZaO):={}
theorem Zpp {fd:FuncData}{f:Addr}(F:WC K "band_sum" "band_sum" ZaO f fd)(YR:JM P w K mg base 2 "ends_of" ["drawing"] (Zca fun x=>decide (x = "end")))(ZaP:JM P w K mg base 11 "bandings" ["drawing", "scale"] Zpo)(Yr:mg "len" = none)(Yv:mg "sorted" = none):Yi P w K mg base WH 12 f fd ["drawing", "scale"] Zpq:=by
 refine F.ok Wu (fun vs H Q E h=>?_) (fun cdv A outer s H vs Q E hr h=>?_)
 ·obtain⟨l,sc,ls,g,rfl,_⟩:=h;rfl
 ·obtain⟨l,sc,ls,g,rfl,hsc,dr,hg,n13,k⟩:=h;refine⟨_,(Zd (Zm (i:=2) Wu.nd rfl (.inl rfl) (Zv (Ys (K:=K) rfl) (by rfl) Yr qd (Za (Zq YR hr (Za (pv 0) Zb)) Zb)))
   (Zd (Zm (i:=3) Wu.nd rfl (.inl rfl) Zdi)
   (Zd (Yj Kj rfl (ZT (K:=K) rfl (Zq ZaP hr (Za (pv 0) (Za (pv 1) Zb)))) (Zl (i:=4) Wu.nd rfl (.inl rfl)) (Zd (Zm (i:=5) Wu.nd rfl (.inl rfl) (Zk YN (Zv (Ys (K:=K) rfl) (by rfl) Yr qd (Za (pv 4) Zb)) (pv 2)))
   (Zg (Yd (Zk Zx (Zc2 (Jf hr) (pv 3) (pv 5) Ze ⟨rfl,rfl,rfl,rfl⟩) Ze) (Yp (pv 3) (pv 5) (set_dict (Jf hr)))))))
   (Zg (Zz (Zv (ZeO rfl hr.units) (by rfl) Yv Tt (Za (Zkv (pv 3)) Zb))))))),?_⟩
  obtain⟨xs,hl,hL,hW,hlen⟩:=id dr;have zl:(Ya ls (fun x=>decide (x = "end")) ls.length).length=(Ya ls (fun x=>decide (x = "end")) ls.length).length:=rfl;generalize hE:((Ya ls (fun x=>decide (x = "end")) ls.length).length:Int)=e at k;refine⟨_,rfl,l,xs,ls,rfl,hl,hL,hlen,hW.kd,fun pe H1 fpe s1 epe=>⟨pe,_,rfl,.inl (Zt.of epe),?_⟩⟩;rw[ke,hE];refine fun cd fcd=>?_;refine lay2 (o:=.dK []) fcd fun H2 s2 ecd=>?_;have s02:=s1.trans s2;refine⟨_,rfl,_,rfl,l,sc,ls,g,rfl,hsc,⟨xs,s02 _ _ hl,hL.same s02,hW,hlen⟩,hg,n13,fun pb H3 as ws s3 fpb epb nd fr pa pw=>?_⟩;have ecd3:=s3 _ _ ecd;have wl:=ZaT pa;have b60:∀b∈ws,b.length<=60:=fun b hb=>by obtain⟨r,hr,e⟩:=Kq.mp (pw.mem_iff.mp hb);have:=U4 _ r hr;rw[<- e];lia
  refine⟨pb,rfl,⟨_,Zt.of epb⟩,JG (K:=K) (a:=pb) (xs:=as.map V.ref) (fun j σ G=>∃(B:AL)(v4 v5:QI),σ = [some (.ref l),some (.int sc),some (.int e),some (.ref cd),v4,v5]/\YK cd H3 G/\G cd=some (.dK (ZaQ B))/\(B.map (·.1)).Nodup/\(∀r∈B,0<r.2)/\(∀x∈B.map (·.1),x∈(List.range 61).map fun n:Nat=>(n:Int)-e) /\ ∀ φ,GK φ B=((ws.take j).map fun b=>φ ((b.length:Int)-e)).sum)
   ⟨[],_,_,rfl,YK.refl _ _,ecd3,by simp,fun r hr=>(nomatch hr),fun x hx=>(nomatch hx),fun φ=>rfl⟩ (fun j σ G _ ⟨_,_,_,_,f',_⟩=>Zt.of (f' _ _ epb (J0 epb ecd3 (fun z=>nomatch z)))) ?_ ?_⟩
  ·rintro j y σ G hy ⟨B,v4,v5,rfl,f',ec,ndB,pB,kB,sB⟩;rw[kE] at hy;obtain⟨a,ha,rfl⟩:=Ka.mp hy;obtain⟨b,hb,hab⟩:=Zds pa ha;have hG:=f' _ _ hab (J0 hab ecd3 (fun z=>nomatch z));have bl:=b60 b (k9 hb);have Bl:B.length<=61:=by
    have:=sub_len ndB kB;simpa using this
   refine⟨_,rfl,a,_,rfl,.inl (Zt.of hG),_,rfl,_,_,rfl,rfl,?_⟩;rw[ke];have gv:(Y5 (ZaQ B) (Sum.inl ((b.length:Int)-e))).getD (V.int 0)=V.int ((Zdu B ((b.length:Int)-e)).getD 0):=by rw[Ze6];cases Zdu B ((b.length:Int)-e)<;>rfl
   have cl:(ZaQ B).length=B.length:=by unfold ZaQ;rw[ke]
   refine⟨_,rfl,cd,rfl,.inl ⟨_,.inl ec⟩,_,rfl,_,.inl ⟨ZaQ B,Sum.inl ((b.length:Int)-e),.inl ec,rfl,rfl⟩,_,_,gv,rfl,?_⟩;refine⟨_,rfl,_,rfl,cd,_,rfl,.inl ⟨ZaQ B,Sum.inl ((b.length:Int)-e),ec,rfl,(by rw[cl,Kn];lia),rfl⟩,?_⟩;refine⟨ZbD B ((b.length:Int)-e) ((Zdu B ((b.length:Int)-e)).getD 0+1),_,_,rfl,f'.trans YK.upd,by rw[Zc,Zfp _ _ ndB],ZcI _ _ ndB,ZfI _ _ (by have:=Zfc (k:=(b.length:Int)-e) pB;lia) pB,fun x hx=>?_,fun φ=>?_⟩
   ·rcases(ZcR _ _ B x).mp hx with rfl | h
    ·exact Kq.mpr ⟨b.length,qa.mpr (by lia),rfl⟩
    ·exact kB x h
   ·rw[ZfY,sB,Ke,hb,k6,XJ];simp
  ·rintro σ G ⟨B,v4,v5,rfl,f',ec,ndB,pB,kB,sB⟩;have Bl:B.length<=61:=by
    have:=sub_len ndB kB;simpa using this
   refine⟨_,rfl,cd,_,rfl,.inl ec,fun v fv=>?_⟩;refine lay2 (o:=VwO v cd) fv fun G1 sg1 ev=>?_;refine⟨v,cd,B,rfl,ev,.inl (sg1 _ _ ec),by lia,fun lz zs vs G2 sg2 fl pv wz rise=>k lz G2 zs vs B (fun c o e'=>?_) fl ndB pB (fun φ=>?_) pv wz rise Bl⟩
   ·exact sg2 _ _ (sg1 _ _ (f' _ _ (s3 _ _ (s02 _ _ e')) (Zf (s1 _ _ e') fcd)))
   ·rw[sB,ke,wl,qz];rw[Zii (pw.map fun b:QG=>φ ((b.length:Int)-e)),qh];rfl
theorem Ze5:∀{a b:QA},a.Perm b->ZfN a->ZfN b->a=b
 | [],b,p,_,_=>(List.nil_perm.mp p).symm
 | x::a,[],p,_,_=>absurd p.symm.nil_eq (by simp)
 | x::a,y::b,p,ra,rb=>by
  have ha:=qu.mp ra;have hb:=qu.mp rb;have h1:L2.lexLt x y=false:=by
   rcases kP.mp (p.mem_iff.mp kQ) with e | e
   ·rw[e];exact Zbe _
   ·exact hb.1 x e
  have h2:L2.lexLt y x=false:=by
   rcases kP.mp (p.mem_iff.mpr kQ) with e | e
   ·rw[e];exact Zbe _
   ·exact ha.1 y e
  have:=Zee h1 h2;subst this;rw[Ze5 (Nx p) ha.2 hb.2]
theorem Zlr (L:List SE)(E:Int)(φ:QX):GK φ (L.map fun e=>(e.1.2-E,e.2.2.2.1))=Wz (ZeB fun k=>φ (k.2-E)) L:=by unfold GK Wz ZeB;rw[qh];rfl
theorem ZmE {L:List SE}(E:Int)(nd:(L.map fun e=>e.1.2).Nodup):((L.map fun e=>((e.1.2-E,e.2.2.2.1):Int×Int)).map (·.1)).Nodup:=by rw[qh];refine qE.mpr (List.Pairwise.imp (fun {a b} h z=>h ?_) (qE.mp nd));have:a.1.2-E=b.1.2-E:=z;lia
theorem Zfj {α:Type}{f:α -> Int}:∀{l:List α},(∀x∈l,f x=0)->(l.map f).sum=0
 | [],_=>rfl
 | x::l,h=>by rw[kH,Xd,h x kQ,Zfj fun y hy=>h y (kS _ hy)];rfl
theorem ZpV {L:List SE}{M:List (QG×QG)}(nd:(L.map fun e=>e.1.2).Nodup)(pos:Zcl L)(h:∀ φ:QX,GK φ (L.map fun e=>(e.1.2-0,e.2.2.2.1))=(M.map fun r=>φ ((r.1.length:Int)-0)).sum):∀e∈L,∃r∈M,e.1.2=(r.1.length:Int):=fun e he=>by
 have s1:=Ze2 (ZmE 0 nd) (r:=(e.1.2-0,e.2.2.2.1)) (Kq.mpr ⟨e,he,rfl⟩);rw[h] at s1;have hp:=pos e he;by_cases c:∃r∈M,e.1.2=(r.1.length:Int)
 ·exact c
 ·exfalso;rw[Zfj fun r hr=>kh fun z=>c ⟨r,hr,by lia⟩] at s1;have s1:(0:Int)=e.2.2.2.1:=s1;lia
def cF (L:List SE)(pw:Int):Int:=((L.find? fun e=>decide (e.1.2=pw)).map (·.2.2.2.1)).getD 0
theorem Zkn:∀{L:List SE}{j:Nat}{e:SE},(L.map fun e=>e.1.2).Nodup->L[j]? = some e->cF L e.1.2=e.2.2.2.1
 | e0::L,0,e,_,h=>by
  simp at h;subst h;unfold cF;rw[qw,kM rfl];rfl
 | e0::L,j+1,e,nd,h=>by
  rw[kH,Kl] at nd;have h:L[j]? = some e:=by simpa using h
  have ih:=Zkn nd.2 h;unfold cF at ih ⊢;rw[qw,Ki (fun z=>nd.1 (by rw[z];exact Kq.mpr ⟨e,k9 h,rfl⟩))];exact ih
theorem ZpP {L:List SE}{ns:QG}(E:Int)(nd:(L.map fun e=>e.1.2).Nodup)(hp:ns.Perm (L.map fun e=>e.1.2)):(ns.map fun pw=>[pw-E,cF L pw]).Perm ((L.map fun e=>((e.1.2-E,e.2.2.2.1):Int×Int)).map fun r=>[r.1,r.2]):=by refine(hp.map _).trans (List.Perm.of_eq ?_);rw[qh,qh];refine Tb fun e he=>?_;obtain⟨j,hj⟩:=XQ.mp he;show [e.1.2-E,cF L e.1.2] = [e.1.2-E,e.2.2.2.1];rw[Zkn nd hj]
theorem ZoA {ns:QG}(E:Int)(f:QX)(nd:ns.Nodup)(h:ns.Pairwise (· <= ·)):ZfN (ns.map fun pw=>[pw-E,f pw]):=by
 refine qE.mpr ((List.Pairwise.and h nd).imp fun {a b} z=>?_);have:a<b:=by have:=z.1;have:=z.2;lia
 show L2.lexLt ((b-E) :: [f b]) ((a-E) :: [f a])=false;unfold L2.lexLt;rw[kh (by lia)];exact Ki (by lia)
theorem ZhS:∀{L:List SE}{j:Nat}{e:SE},(L.map fun e=>e.1.2).Nodup->L[j]? = some e->Y5 (L.map fun e=>((Sum.inl e.1.2:Key),V.ref e.2.2.1)) (Sum.inl e.1.2)=some (.ref e.2.2.1)
 | e0::L,0,e,_,h=>by
  simp at h;subst h;rw[kH,YA rfl]
 | e0::L,j+1,e,nd,h=>by
  rw[kH,Kl] at nd;have h:L[j]? = some e:=by simpa using h
  rw[kH,YB (fun z=>nd.1 (by
   injection z with z
   rw[z];exact Kq.mpr ⟨e,k9 h,rfl⟩))]
  exact ZhS nd.2 h
theorem ZhV {H:Hp}{p q:Addr}{v:QG}(h1:H p=some (.tup (v.map V.int)))(h2:H q=some (.tup (v.map V.int))):Eqv K H 60 (.ref p) (.ref q):=
 .tup (n:=59) (YJ.of h1) (YJ.of h2) rfl fun i x y e1 e2=>by rw[e1] at e2;cases e2;rw[kE] at e1;obtain⟨n,_,rfl⟩:=Ka.mp e1;exact .flat rfl
def Zhr (K:QF):Sp:=fun vs H Q _=>∃(a:Addr)(ns:QG),vs = [.ref a]/\Zt K H a (ns.map V.int)/\ns.length<=63 /\ ∀H',Q (.bl true) H'
abbrev Zbb:Stmt:=top 51
theorem GS:ZA ["_law_script", "_law_k", "_law_drawing_here", "_law_ends", "_law_scale", "_law_counts_here", "_law_due", "_law_handed", "_law_turn", "_law_told"] ["_law_script"] (Zj Zbb):={}
theorem Zod {f:Addr}{fd:FuncData}(F:WC K "law" "law" Zbb f fd)(ZaR:JM P w K mg base 1 "_law_bag" ["_law_script", "_law_at"] (ZmO K))(Uw:JM P w K mg base 4 "_law_front" ["_law_bag_here", "_law_most"] Zhs)(GP:JM P w K mg base 5 "_law_scales" ["_law_drawing_here"] ZfE)(GO:JM P w K mg base 6 "_law_counts" ["_law_drawing_here", "_law_scale"] Zi6)(UD:JM P w K mg base 12 "band_sum" ["drawing", "scale"] Zpq)(W5:JM P w K mg base 2 "_law_numbers" ["_law_thing"] ZdD)
  (Z8:mg "range" = none) (Yr:mg "len" = none) (Gy:mg "max" = none) (ZaJ:mg "min" = none) (Yf:mg "list" = none) (Yv:mg "sorted" = none) (Yg:mg "isinstance" = none) (YZ:mg "tuple" = none) (ZdH:mg "all" = none):Yi P w K mg base WH 14 f fd ["_law_script"] (Zhr K):=by
 refine F.ok GS (fun vs H Q E h=>?_) (fun cdv A outer s H vs Q E hr h=>?_)
 ·obtain⟨a,ns,rfl,_⟩:=h;rfl
 ·obtain⟨a,ns,rfl,hS,hlen,k⟩:=h;refine⟨_,(Zd (Yj Kj rfl (Y0 (by rfl) Z8 (Za (Zv (W4 rfl) (by rfl) Gy MR (Za Ze (Za (Zv (ZaB rfl) (by rfl) ZaJ boot_min (Za Ze (Za (Zv (Ys (K:=K) rfl) (by rfl) Yr qd (Za (pv 0) Zb)) Zb))) Zb))) Zb)) (Zl (i:=1) GS.nd rfl (.inl rfl)) (Zd (Zm (i:=2) GS.nd rfl (.inl rfl) (Zq Uw hr (Za (Zq ZaR hr (Za (pv 0) (Za (pv 1) Zb))) (Za Ze Zb))))
   (Zd (Zm (i:=3) GS.nd rfl (Or.inr rfl) (Zv (Ys (K:=K) rfl) (by rfl) Yr qd (Za (Ga (Ls:=["_law_letter"]) (Fs:=[]) (fi:=[]) (ZZ.of (show YC ["_law_script", "_law_k", "_law_drawing_here", "_law_ends", "_law_scale", "_law_counts_here", "_law_due", "_law_handed", "_law_turn", "_law_told"] (Zj Zbb) _ [] []=true by decide +kernel)) rfl (ZT (K:=K) rfl (pv 2)) (fun cl C s3 H3 ex=>⟨(Zl (i:=0) (show ((["_law_letter"]:QP)++([]:QP)).Nodup by decide +kernel) rfl (.inl rfl)),(Za4 (Zr Ym (Zw (ZL (K:=K) rfl) (pv 0) Ze (fun _ _=>rfl)) ZG (Zp _))),(pv 0)⟩)) Zb)))
   (Zg (Yj Kj rfl (ZT (K:=K) rfl (Zq GP hr (Za (pv 2) Zb))) (Zl (i:=4) GS.nd rfl (.inl rfl)) (Zd (Zm (i:=5) GS.nd rfl (Or.inr rfl) (Zq GO hr (Za (pv 2) (Za (pv 4) Zb))))
   (Zd (Zdc (i:=6) GS.nd rfl (.inl rfl) (Ls:=["_law_power"]) (Fs:=["_law_ends", "_law_counts_here"]) (fi:=[3,5]) (ZZ.of (show YC ["_law_script", "_law_k", "_law_drawing_here", "_law_ends", "_law_scale", "_law_counts_here", "_law_due", "_law_handed", "_law_turn", "_law_told"] (Zj Zbb) _ ["_law_ends", "_law_counts_here"] [3,5]=true by decide +kernel)) rfl (ZT (K:=K) rfl (Zv (Zbk rfl) (by rfl) Yv Tt (Za (pv 5) Zb))) (fun cl C s3 H3 ex=>⟨(Zl (i:=0) (show ((["_law_power"]:QP)++(["_law_ends", "_law_counts_here"]:QP)).Nodup by decide +kernel) rfl (.inl rfl)),YX,(ZC (Za (Zk YN (pv 0) (pv 1)) (Za (Zw (ZL (K:=K) rfl) (Zw (UI (Jf hr)) (pv 2) (pv 0) (fun _ _=>rfl)) Ze (fun _ _=>rfl)) Zb)))⟩))
   (Zd (Zm (i:=7) GS.nd rfl (.inl rfl) (Z0 (Jc (K:=K) rfl) (by rfl) Yf XN (Za (pv 2) Zb)))
   (Zg (Yj Kj rfl (Y0 (by rfl) Z8 (Za Ze Zb)) (Zl (i:=8) GS.nd rfl (.inl rfl)) (Zd (Zm (i:=9) GS.nd rfl (.inl rfl) (Zq UD hr (Za (pv 7) (Za (pv 4) Zb))))
   (Zd (Z9 (PW.pt (Zg5 (ZcD (U9 (Zv (JU (K:=K) rfl) (by rfl) Yg Tg (Za (pv 9) (Za (Zbj (v:=.ty "list") (by rfl) Yf XN rfl) Zb))))) (Zg5 (Zr (ZhU (K:=K) rfl hr.units) (pv 9) (pv 6) (Zp _)) (ZgU (Zr (ZhU (K:=K) rfl hr.units) (pv 7) (pv 2) (Zp _)))))) (Zg (Zz ZaH)) ZN)
   (Zd (Z9 (ZcD (U9 (Zv (Zef (K:=K) rfl rfl) (by rfl) ZdH boot_all (Za (Ga (Ls:=["_law_pair"]) (Fs:=[]) (fi:=[]) (ZZ.of (show YC ["_law_script", "_law_k", "_law_drawing_here", "_law_ends", "_law_scale", "_law_counts_here", "_law_due", "_law_handed", "_law_turn", "_law_told"] (Zj Zbb) _ [] []=true by decide +kernel)) rfl (ZT (K:=K) rfl (pv 9)) (fun cl C s3 H3 ex=>⟨(Zl (i:=0) (show ((["_law_pair"]:QP)++([]:QP)).Nodup by decide +kernel) rfl (.inl rfl)),YX,(ZbZ (Zv (JU (K:=K) rfl) (by rfl) Yg Tg (Za (pv 0) (Za (Zbj (v:=.ty "tuple") (by rfl) YZ Nw rfl) Zb))) (Zai (Zq W5 hr (Za (Z0 (Jc (K:=K) rfl) (by rfl) Yf XN (Za (pv 0) Zb)) Zb))))⟩)) Zb)))) (Zg (Zz ZaH)) ZN)
   (Zg (Ye (Yh (K:=K) rfl (YT kY Kf Kg ZW (pv 9) (Za Uq Zb))))))))))))))))))
   (Zg (Zz (Yy (Zlk (K:=K) rfl hr.units) (Zq UD hr (Za (ZH Zb) (Za Ze Zb))) (ZH (Za (ZC (Za Ze (Za Ze Zb))) Zb)) (Zp _))))),?_⟩
  refine⟨_,rfl,a,_,rfl,.inl hS,_,_,rfl,_,_,rfl,_,rfl,?_,?_,JQ (fun i σ H'=>∃v1 v2 v3 v4 v5 v6 v7 v8 v9:QI,σ = [some (.ref a),v1,v2,v3,v4,v5,v6,v7,v8,v9]/\Zi H H') ⟨none,none,none,none,none,none,none,none,none,rfl,Zi.refl _⟩ ?_ ?_⟩
  ·split<;>(try split)<;>lia
  ·rw[ke];split<;>(try split)<;>lia
  ·rintro i σ H0 hi ⟨v1,v2,v3,v4,v5,v6,v7,v8,v9,rfl,sm⟩;have hi':i<1000:=by
    rw[ke] at hi;revert hi;split<;>(try split)<;>lia
   refine⟨_,rfl,_,rfl,a,_,ns,rfl,sm.seq hS,by lia,by lia,fun b H1 hb s1 bg1=>?_⟩;refine⟨b,12,rfl,bg1,by decide,by decide,fun l H2 ls hl bg2 f2 dr nx=>?_⟩;obtain⟨xs,hxl,hL,hW,h60⟩:=id dr;have xl:=hL.len;refine⟨_,rfl,l,rfl,⟨_,Zt.of hxl⟩,Ja (K:=K) (a:=l) (xs:=xs) (by rw[xl,Kn];lia) (fun j ys G'=>G'=H2/\ys.length=(Ya ls (fun x=>decide (x = "end")) j).length) ⟨rfl,rfl⟩ (fun j ys G' x=>by rw[x.2];exact J2 _ _ _) (fun j ys G' x=>by rw[x.1];exact Zt.of hxl) (fun j y ys G' hy x=>?_) (fun ys G' x D hD=>?_)⟩
   ·obtain⟨rfl,ey⟩:=x;obtain⟨q,ta,hq,rfl,hta⟩:=hL.get hy;refine⟨_,rfl,ta,_,_,_,rfl,rfl,YJ.of hta,Zn (j:=0) rfl,rfl,_,rfl,ZY (fun c=>?_) (fun c=>?_)⟩
    ·have ee:q.1 = "end" := by
      have:=kO c;injection this
     refine⟨_,rfl,rfl,?_⟩;rw[kg,ey,JS,Wn hq,kM ee,kj rfl,kg];rfl
    ·have ne:q.1 ≠ "end" := fun z=>c (by rw[z];exact kM rfl);refine⟨rfl,?_⟩;rw[ey,JS,Wn hq,Ki ne,kh (by decide),KL]
   obtain⟨rfl,ey⟩:=x;rw[xl] at ey;refine lay2 (o:=.lst ys) hD fun H3 s3 eD=>?_;refine⟨D,_,rfl,.inl (Zt.of eD),?_⟩;rw[ey];generalize hE:((Ya ls (fun x=>decide (x = "end")) ls.length).length:Int)=E';have dr3:Drw H3 l ls:=⟨xs,s3 _ _ hxl,hL.same s3,hW,h60⟩;refine⟨_,rfl,l,ls,rfl,dr3,fun p H4 scs s4 fp ep sl hsc=>?_⟩;have s34:=s3.trans s4;refine⟨p,rfl,⟨_,Zt.of ep⟩,JG (K:=K) (a:=p) (xs:=scs.map V.int) (fun j σ G=>∃v4 v5 v6 v7 v8 v9:QI,σ = [some (.ref a),some (.int (0+(i:Int))),some (.ref l),some (.int E'),v4,v5,v6,v7,v8,v9]/\Zi H4 G) ⟨_,_,_,_,_,_,rfl,Zi.refl _⟩ (fun j σ G _ ⟨_,_,_,_,_,_,_,s'⟩=>Zt.of (s' _ _ ep)) ?_ ?_⟩
   ·rintro j y σ G hy ⟨v4,v5,v6,v7,v8,v9,rfl,sG⟩;rw[kE] at hy;obtain⟨sc,e1,rfl⟩:=Ka.mp hy;obtain⟨h01,g,hg⟩:=hsc sc (k9 e1);have s2G:=s34.trans sG;refine⟨_,rfl,_,rfl,l,sc,ls,g,rfl,h01,⟨xs,s2G _ _ hxl,hL.same s2G,hW,h60⟩,hg,nx,fun cd G1 L sg1 fcd ecd vl nd L8 pos ky sum=>?_⟩;have par:∀(E:Int)(φ:QX),GK φ (L.map fun e=>(e.1.2-E,e.2.2.2.1))=((YD ls (fun i=>decide (GB g ls i=some 0)) ls.length).map fun r=>φ ((r.1.length:Int)-E)).sum:=fun E φ=>by
     rw[Zlr,sum _ (Zj1 _),<- Zjz ls.length _ (ki _)]
    have pows:=ZpV nd pos (par 0);have Ll:L.length<=61:=by
     have:=sub_len nd (l':=(List.range 61).map fun n:Nat=>(n:Int)) fun x hx=>by obtain⟨e,he,rfl⟩:=Kq.mp hx;obtain⟨r,hr,er⟩:=pows e he;have:=U4 _ r hr;exact Kq.mpr ⟨r.1.length,qa.mpr (by lia),er.symm⟩
     simpa using this
    refine⟨_,rfl,cd,_,L.map fun e=>e.1.2,rfl,ecd,by rw[qh,qh];rfl,by rw[ke];lia,fun ln ns' fln pns ons=>?_⟩;refine lay2 (o:=.lst (ns'.map V.int)) fln fun G2 sg2 eln=>?_;have nsl:ns'.length=L.length:=by rw[pns.length_eq,ke]
    have ndn:ns'.Nodup:=pns.nodup_iff.mpr nd;refine⟨ln,rfl,⟨_,Zt.of eln⟩,Ja (K:=K) (a:=ln) (xs:=ns'.map V.int) (by rw[ke,nsl,Kn];lia) (fun n zs G'=>Zi G2 G'/\Words G' zs ((ns'.take n).map fun pw=>[pw-E',cF L pw])) ⟨Zi.refl _,.nil⟩ (fun n zs G' x=>by rw[ZaT x.2,ke,kL];lia) (fun n zs G' x=>Zt.of (x.1 _ _ eln)) (fun n y zs G' hy x=>?_) (fun zs G' x Dd hDd=>?_)⟩
    ·obtain⟨sG',wz⟩:=x;rw[kE] at hy;obtain⟨pw,hpw,rfl⟩:=Ka.mp hy;obtain⟨en,he,rfl⟩:=Kq.mp (pns.mem_iff.mp (k9 hpw));obtain⟨jj,hj⟩:=XQ.mp he;have s1G':=sg2.trans sG';have hv:=s1G' _ _ (vl en he);refine⟨_,rfl,_,rfl,_,_,rfl,rfl,?_⟩;refine⟨_,rfl,_,rfl,cd,.ref en.2.2.1,rfl,.inl ⟨_,Sum.inl en.1.2,.inl (s1G' _ _ ecd),rfl,(ZhS nd hj).symm⟩,en.2.2.1,_,_,_,rfl,rfl,YJ.of hv,Zn (j:=0) rfl,sz2,fun t ft=>?_⟩;refine lay2 (o:=.tup [.int (en.1.2-E'),.int en.2.2.2.1]) ft fun G3 sg3 et=>?_;refine⟨sG'.trans sg3,?_⟩;rw[Ke,hpw,k6];refine Paired.snoc' ⟨t,rfl,?_⟩ (Words.same sg3 wz);show G3 t=some (.tup ([en.1.2-E',cF L en.1.2].map V.int));rw[Zkn nd hj];exact et
    obtain⟨sG',wz⟩:=x;rw[ke,qz] at wz;refine lay2 (o:=.lst zs) hDd fun G3 sg3 edd=>?_;have wz3:=Words.same sg3 wz;have s13:=(sg2.trans sG').trans sg3;have sG3:=s2G.trans (sg1.trans s13);refine⟨_,rfl,l,_,rfl,.inl (Zt.of (sG3 _ _ hxl)),fun hd fhd=>?_⟩;refine lay2 (o:=.lst xs) fhd fun G4 sg4 ehd=>?_;have s04:=sG3.trans sg4;refine⟨2,rfl,by decide,by decide,JQ (n:=2) (fun n σ G=>∃v8 v9:QI,σ = [some (.ref a),some (.int (0+(i:Int))),some (.ref l),some (.int E'),some (.int sc),some (.ref cd),some (.ref Dd),some (.ref hd),v8,v9]/\Zi G4 G) ⟨_,_,rfl,Zi.refl _⟩ ?_ ?_⟩
    ·rintro n σ G5 hn ⟨v8,v9,rfl,s5⟩;have s05:=s04.trans s5;refine⟨_,rfl,_,rfl,hd,sc,ls,g,rfl,h01,⟨xs,s5 _ _ ehd,hL.same s05,hW,h60⟩,hg,nx,fun pt G6 ts vs B s6 fpt ndB pB sB pv wt rise _=>?_⟩;rw[hE] at sB;refine lay2 (o:=.lst ts) fpt fun G7 s7 ept=>?_;have s47:=(s5.trans s6).trans s7;have pBC:B.Perm (L.map fun e=>(e.1.2-E',e.2.2.2.1)):=ZdM ndB (ZmE E' nd) pB (fun r hr=>by
      obtain⟨e,he,rfl⟩:=Kq.mp hr;exact pos e he) fun φ=>(sB φ).trans (par E' φ).symm
     have ev:vs=ns'.map fun pw=>[pw-E',cF L pw]:=Ze5 ((pv.trans (pBC.map _)).trans (ZpP E' nd pns).symm) rise (ZoA E' _ ndn ons);subst ev;have wt7:=Words.same s7 wt;have edd7:=s47 _ _ (sg4 _ _ edd);have wz7:Words G7 zs (ns'.map fun pw=>[pw-E',cF L pw]):=Words.same (sg4.trans s47) wz3;have tl:=ZaT wt7;have zl:=ZaT wz7;refine⟨_,rfl,_, "list", _,true,rfl,.lst ept,by rfl,true,rfl,W8 ?_⟩;refine⟨_,rfl,_,rfl,pt,Dd,_,_,rfl,rfl,Zt.of ept,Zt.of edd7,(by rw[tl,zl]),fun j' x' y' ex ey'=>?_,_,rfl,W8 ?_⟩
     ·obtain⟨w1,hw1,a1,rfl,ha1⟩:=Zds wt7 ex;obtain⟨w2,hw2,a2,rfl,ha2⟩:=Zds wz7 ey';rw[hw1] at hw2;cases hw2;exact ZhV ha1 ha2
     have ehd7:=s47 _ _ ehd;have l7:=s47 _ _ (s04 _ _ hxl);refine⟨_,rfl,_,rfl,hd,l,_,_,rfl,rfl,Zt.of ehd7,Zt.of l7,rfl,fun j' x' y' a1 a2=>?_,_,rfl,W8 ?_⟩
     ·rw[a1] at a2;cases a2;obtain⟨_,t,_,rfl,_⟩:=hL.get a1;exact .same
     have tsl:ts.length<=61:=by rw[tl,ke,nsl];exact Ll
     refine⟨_,rfl,pt,rfl,⟨_,Zt.of ept⟩,Ja (K:=K) (a:=pt) (xs:=ts) (by rw[Kn];lia) (fun n ys G=>Zi G7 G/\ys=(List.replicate n true).map V.bl) ⟨Zi.refl _,rfl⟩ (fun n ys G p=>by rw[p.2];simp) (fun n ys G p=>Zt.of (p.1 _ _ ept)) (fun n x ys G hx p=>?_) (fun ys G p D' hD'=>?_)⟩
     ·obtain⟨sg,rfl⟩:=p;obtain⟨w1,hw1,a1,rfl,ha1⟩:=Zds wt7 hx;have ha:=sg _ _ ha1;have w2:w1.length<=2:=by
       rw[kE] at hw1;obtain⟨pw,_,rfl⟩:=Ka.mp hw1;exact ki _
      refine⟨_,rfl,_, "tuple", _,true,rfl,.tup ha,by rfl,true,rfl,ZaY ?_⟩;refine⟨_,rfl,a1,_,rfl,.inr (YJ.of ha),fun q hq=>?_⟩;refine lay2 (o:=.lst (w1.map V.int)) hq fun G8 s8 e8=>?_;refine⟨q,w1,rfl,e8,by lia,fun G9 s9=>⟨(sg.trans s8).trans s9,?_⟩⟩;rw[qS,k6];rfl
     obtain⟨sg,rfl⟩:=p;have sD:=Zi.laid (o:=.lst ((List.replicate ts.length true).map V.bl)) hD';refine⟨D',_,rfl,Zt.of Zc,_,rfl,?_⟩;rw[show (List.replicate ts.length true).all id=true by simp];refine W8 ?_;generalize upd G D' (.lst ((List.replicate ts.length true).map V.bl))=G8 at *;have s78:=sg.trans sD;refine⟨_,rfl,.inl ⟨rfl,_,Zt.of (s78 _ _ ept)⟩,pt,_,_,rfl,rfl,s78 _ _ ept,(by rw[Kn];lia),?_⟩;refine⟨_,_,rfl,fun c o e=>?_⟩;rw[Zh (Zf ((s5.trans s6) _ _ e) fpt)];exact s78 _ _ (s47 _ _ e)
    ·rintro σ G5 ⟨v8,v9,rfl,s5⟩;exact⟨_,_,_,_,_,_,rfl,fun c o e=>s5 _ _ (sg4 _ _ (s13 _ _ (sg1 _ _ (sG _ _ e))))⟩
   ·rintro σ G ⟨v4,v5,v6,v7,v8,v9,rfl,sG⟩;refine⟨_,_,_,_,_,_,_,_,_,rfl,fun c o e=>?_⟩;have nb:=Zf (sm c o e) hb;exact sG c o (s34 c o (f2 c o (s1 c o (sm c o e)) nb))
  ·rintro σ H0 ⟨v1,v2,v3,v4,v5,v6,v7,v8,v9,rfl,sm⟩;refine⟨sz0,fun d0 f0=>?_⟩;refine lay2 (o:=.lst []) f0 fun H1 s1 e1=>?_;refine⟨d0,1,[],fun _=>0,rfl,.inr rfl,⟨[],e1,.nil,.nil,KP _⟩,.inl ⟨rfl,rfl⟩,(by decide),fun pt G6 ts vs B s6 fpt ndB pB sB pv wt rise _=>?_⟩;refine lay2 (o:=.lst ts) fpt fun G7 s7 ept=>?_;have pBC:B.Perm [(0,1)]:=ZdM ndB (by simp) pB (fun r hr=>by rw[k7.mp hr];exact Int.zero_lt_one) fun φ=>by
    rw[sB φ];simp[YD,GK,Ya]
   have ev:vs = [[0,1]]:=List.perm_singleton.mp (pv.trans (pBC.map _));subst ev;refine⟨sz2,fun t1 ft1=>?_⟩;refine lay2 (o:=.tup [.int 0,.int 1]) ft1 fun G8 s8 e8=>?_;refine⟨sz1,fun d1 fd1=>?_⟩;refine lay2 (o:=.lst [.ref t1]) fd1 fun G9 s9 e9=>?_;have wt9:=Words.same ((s7.trans s8).trans s9) wt;refine⟨pt,d1,ts,[.ref t1],rfl,rfl,Zt.of ((s8.trans s9) _ _ ept),Zt.of e9,(ZaT wt9).trans rfl,fun j x y ex ey=>?_,k _⟩;obtain⟨w1,hw1,a1,rfl,ha1⟩:=Zds wt9 ex;have:j=0:=by have:=(kI.mp hw1).1;simpa using this
   subst this;simp at hw1 ey;subst hw1 ey;exact ZhV (v:=[0,1]) ha1 (s9 _ _ e8)
end
theorem ZnH {P:Program}{w:World}{K:QF}{mg:QN}{base:Heap}{k:Nat}{x:Str}{ps:QP}{sp:Sp}{f:Addr}{fd:FuncData}(G:Yi P w K mg base WH k f fd ps sp)(m:mg x=some (.ref f))(kp:PySem.W.keepIn K (.ref f)=true)(b:Binds K fd ps []):JM P w K mg base k x ps sp:=⟨f,fd,G,m,kp,b⟩
theorem Zlo {P:Program}{w:World}{K:QF}{mg:QN}{base:Heap}{k:Nat}{x:Str}{ps:QP}{sp:Sp}{f:Addr}{fd:FuncData}(G:Yi P w K mg base (CX1 P w) k f fd ps sp)(m:mg x=some (.ref f))(kp:PySem.W.keepIn K (.ref f)=true)(b:Binds K fd ps []):ZjB P w K mg base k x ps sp:=⟨f,fd,G,m,kp,b⟩
section
theorem us1 {α:Type}{P:List α -> Prop}(h:∀a,P [a]):∀us:List α,us.length=1->P us
 | [_],_=>h _
theorem us2 {α:Type}{P:List α -> Prop}(h:∀a b,P [a,b]):∀us:List α,us.length=2->P us
 | [_,_],_=>h _ _
theorem us3 {α:Type}{P:List α -> Prop}(h:∀a b c,P [a,b,c]):∀us:List α,us.length=3->P us
 | [_,_,_],_=>h _ _ _
structure Df (K:QF)(x:Str)(st:Stmt)(f:Addr)(d:FuncData):Prop where
 a:PySem.W.nsIn K mainGlobals x=some (some (.ref f))
 l:WC K x x st f d
abbrev nB (K:QF)(x:Str):Prop:=PySem.W.nsIn K mainGlobals x=some none
abbrev nR (K:QF)(x:Str)(f:Addr):Prop:=PySem.W.nsIn K mainGlobals x=some (some (.ref f))
theorem nz {K:QF}{h:Heap}{mg:QN}(X:K.In h)(G:h.Ns mainGlobals mg){x:Str}(z:nB K x):mg x=none:=PySem.W.mg_none_of X G z
theorem nr {K:QF}{h:Heap}{mg:QN}(X:K.In h)(G:h.Ns mainGlobals mg){x:Str}{f:Addr}(z:nR K x f):mg x=some (.ref f):=PySem.W.mg_of X G z
theorem Df.has {P:Program}{w:World}{K:QF}{mg:QN}{base:Heap}{h:Heap}(X:K.In h)(G:h.Ns mainGlobals mg){x:Str}{st:Stmt}{f:Addr}{d:FuncData}{k:Nat}{ps:QP}{sp:Sp}(D:Df K x st f d)(o:Yi P w K mg base WH k f d ps sp)
 (b:∀(kV doc pm:Value)(an:Option Addr)(cdv ct:Value)(us:QJ),us.length=ps.length->bindArgs (PySem.W.fnOf x x (UB st) (WQ st) (Zj st) .none kV doc pm an cdv ct) ⟨us,[]⟩=pure (ps.zip us):=by first | exact fun _ _ _ _ _ _=>us1 fun _=>rfl | exact fun _ _ _ _ _ _=>us2 fun _ _=>rfl | exact fun _ _ _ _ _ _=>us3 fun _ _ _=>rfl | exact fun _ _ _ _ _ _=>us4 fun _ _ _ _=>rfl):JM P w K mg base k x ps sp:=ZnH o (nr X G D.a) D.l.kp (D.l.binds b)
theorem Df.hasX {P:Program}{w:World}{K:QF}{mg:QN}{base:Heap}{h:Heap}(X:K.In h)(G:h.Ns mainGlobals mg){x:Str}{st:Stmt}{f:Addr}{d:FuncData}{k:Nat}{ps:QP}{sp:Sp}(D:Df K x st f d)(o:Yi P w K mg base (CX1 P w) k f d ps sp)
 (b:∀(kV doc pm:Value)(an:Option Addr)(cdv ct:Value)(us:QJ),us.length=ps.length->bindArgs (PySem.W.fnOf x x (UB st) (WQ st) (Zj st) .none kV doc pm an cdv ct) ⟨us,[]⟩=pure (ps.zip us):=by first | exact fun _ _ _ _ _ _=>us1 fun _=>rfl | exact fun _ _ _ _ _ _=>us2 fun _ _=>rfl | exact fun _ _ _ _ _ _=>us3 fun _ _ _=>rfl | exact fun _ _ _ _ _ _=>us4 fun _ _ _ _=>rfl):ZjB P w K mg base k x ps sp:=Zlo o (nr X G D.a) D.l.kp (D.l.binds b)
theorem all_mk {l:PySem.W.OpenLaw}{w:World}{K:QF}{h:Heap}{mg:QN}{fa:Addr}(X:K.In h)(G:h.Ns mainGlobals mg)(hfa:mg "law" = some (.ref fa))
  {f0 f1 f2 f3 f4 f5 f6 f7 f8 f9 f10 f11 f12 f13 f14 f15 f16 f17 f18 f19 f20 f21 f22 f23 f24 f25 f26 f27 f28 f29 f30 f31 f32 f33 f34 f35 f36 f37 f38 f39 f40 f41 f42 f43:Addr}{d0 d1 d2 d3 d4 d5 d6 d7 d8 d9 d10 d11 d12 d13 d14 d15 d16 d17 d18 d19 d20 d21 d22 d23 d24 d25 d26 d27 d28 d29 d30 d31 d32 d33 d34 d35 d36 d37 d38 d39 d40 d41 d42 d43:FuncData}
  {YU:Addr} (ZeS:nR K "NoHeights" YU)
  (U2:PySem.W.excIn K YU [.type "ValueError", .type "Exception", .type "BaseException", .type "object"] "ValueError.__new__" = true)
  (D0:Df K "_law_take" Zal f0 d0)
  (D1:Df K "_law_bag" ZaW f1 d1)
  (D2:Df K "_law_drawing" Gk f2 d2)
  (D3:Df K "_law_plat" Wt f3 d3)
  (D4:Df K "_law_any" ZaZ f4 d4)
  (D5:Df K "_law_whole" Us f5 d5)
  (D6:Df K "_law_numbers" J6 f6 d6)
  (D7:Df K "threads" ZbS f7 d7)
  (D8:Df K "_law_rows" U1 f8 d8)
  (D9:Df K "letters_of" WZ f9 d9)
  (D10:Df K "ends_of" ZbQ f10 d10)
  (D11:Df K "names_of" Uz f11 d11)
  (D12:Df K "pairs_ahead" GH f12 d12)
  (D13:Df K "end_pairs" Zaq f13 d13)
  (D14:Df K "born_with" Zad f14 d14)
  (D15:Df K "end_mates" Zao f15 d15)
  (D16:Df K "tour_from" UX f16 d16)
  (D17:Df K "tours" Zev f17 d17)
  (D18:Df K "_law_walks" W0 f18 d18)
  (D19:Df K "uppers_at_ends" Wf f19 d19)
  (D20:Df K "steps_down" Um f20 d20)
  (D21:Df K "turns" Zco f21 d21)
  (D22:Df K "heights_along" WG f22 d22)
  (D23:Df K "has_scale" U7 f23 d23)
  (D24:Df K "thread_heights" Wm f24 d24)
  (D25:Df K "_law_heights" Jt f25 d25)
  (D26:Df K "_law_curled" Ws f26 d26)
  (D27:Df K "name_heights" J1 f27 d27)
  (D28:Df K "_law_name_heights" JC f28 d28)
  (D29:Df K "_law_front" UH f29 d29)
  (D30:Df K "_law_scales" Wr f30 d30)
  (D31:Df K "_law_letter_heights" Jj f31 d31)
  (D32:Df K "partners_born" JH f32 d32)
  (D33:Df K "partners_ended" JA f33 d33)
  (D34:Df K "partners_kept" WN f34 d34)
  (D35:Df K "is_tangled" UG f35 d35)
  (D36:Df K "ways_on" Zb1 f36 d36)
  (D37:Df K "_law_is_apart" WJ f37 d37)
  (D38:Df K "_law_moved_on" YQ f38 d38)
  (D39:Df K "heights_by_name" JV f39 d39)
  (D40:Df K "bandings" Gp f40 d40)
  (D41:Df K "_law_counts" GN f41 d41)
  (D42:Df K "band_sum" ZaO f42 d42)
  (D43:Df K "law" Zbb f43 d43)
  (ZfK:nB K "enumerate")
  (ZnF:nB K "list")
  (Zpi:nB K "len")
  (Zlg:nB K "range")
  (Zpc:nB K "abs")
  (Zpg:nB K "sum")
  (ZoT:nB K "zip")
  (ZjY:nB K "sorted")
  (ZeJ:nB K "isinstance")
  (Zo9:nB K "int")
  (Znd:nB K "bool")
  (ZoD:nB K "all")
  (ZoL:nB K "max")
  (ZoN:nB K "min")
  (Zez:nB K "ValueError")
  (Zoe:nB K "dict")
  (Zlh:nB K "tuple"):
  ∃fd:FuncData,(∀(s:Shared)(v:Value),BindsTo s fd ⟨[v],[]⟩ [("_law_script", v)]) /\ ∀base:Heap,K.In base->base.Ns mainGlobals mg->Yi l.prog w K mg base WH 14 fa fd ["_law_script"] (Zhr K):=by
 have e:=hfa.symm.trans (nr X G D43.a);cases e;have ZJ:=nz X G ZfK;have Yf:=nz X G ZnF;have Yr:=nz X G Zpi;have Z8:=nz X G Zlg;have ZaK:=nz X G Zpc;have ZdN:=nz X G Zpg;have Zby:=nz X G ZoT;have Yv:=nz X G ZjY;have Yg:=nz X G ZeJ;have UP:=nz X G Zo9;have ZgN:=nz X G Znd;have ZdH:=nz X G ZoD;have Gy:=nz X G ZoL;have ZaJ:=nz X G ZoN;have Zmt:=nz X G Zez;have ZgX:=nz X G Zoe;have YZ:=nz X G Zlh;have U3:=nr X G ZeS;obtain⟨oc,od,kV,dc,pm,an,cd,ct,sl,rfl,_,_⟩:=D43.l.ex;refine⟨PySem.W.fnOf "law" "law" (UB Zbb) (WQ Zbb) (Zj Zbb) .none kV dc pm an cd ct,fun s v=>.of_eq rfl,fun base _ _=>?_⟩;have J:=@Df.has l.prog w K mg base _ X G;have JX:=@Df.hasX l.prog w K mg base _ X G;have Zu:=J D0 (Zlm D0.l);have ZaR:=J D1 (Znr D1.l Yr ZaK);have Gn:=J D2 (Zl6 D2.l Zu Z8);have JP:=J D3 (ZlM D3.l Zu Z8);have ZaN:=J D4 (Zm3 D4.l Zu JP Gn);have Uu:=J D5 (ZiZ D5.l Yg UP ZgN);have W5:=J D6 (Zgq D6.l Uu Yg Yf ZdH);have ZbX:=J D7 (ZgZ D7.l Yf);have YW:=J D8 (ZlN D8.l Yf);have UK:=J D9 (ZgS D9.l ZJ);have YR:=J D10 (Zmh D10.l UK);have We:=J D11 (Zjd D11.l ZJ);have Jh:=J D12 (Zkj D12.l ZbX);have JK:=J D13 (Zek D13.l Jh YR);have Ju:=J D14 (Zoz D14.l);have Zan:=J D15 (Zkz D15.l JK Yr);have Zab:=J D16 (Zmw D16.l Ju);have Zau:=J D17 (ZjU D17.l Zan Zab Yr Z8);have UE:=J D18 (Zjc D18.l YW ZJ Yv ZaK);have YI:=J D19 (ZiU D19.l YR JK Yr);have Jy:=J D20 (ZjM D20.l Ju ZJ);have ZeU:=J D21 (ZkT D21.l YI Jy Zau ZaK ZdN);have WE:=J D22 (ZoW D22.l Jy Yr Zby);have U5:=J D23 (ZoZ D23.l ZeU);have Wi:=JX D24 (Zoy D24.l U3 U2 U5 YR Zau YI WE Yr);have Gs:=J D25 (Zpe D25.l UE YW ZJ ZdN Yr Z8);have GI:=J D26 (Ziv D26.l Zu Yf Z8 Yr Gy);have Gb:=JX D27 (ZoP D27.l Wi Jh We);have Yk:=J D28 (Zns D28.l Gs YW ZJ);have Uw:=J D29 (Zk6 D29.l Zu ZaN JP GI Z8 Yr Gy ZaJ);have GP:=J D30 (ZiD D30.l Yk);have Jn:=J D31 (ZlQ D31.l Yk Yf);have WM:=J D32 (Zkf D32.l YZ);have Wj:=J D33 (Zme D33.l YZ);have WK:=J D34 (Zi2 D34.l YZ Yf);have Uo:=J D35 (Zlx D35.l Yv);have ZbM:=J D36 (Zmp D36.l WM Wj WK Uo);have WI:=J D37 (Zji D37.l ZaJ Gy);have WL:=J D38 (Zj0 D38.l UP);have J8:=J D39 (ZoE D39.l We Gb ZgX Zby);have ZaP:=J D40 (ZoY D40.l J8 ZbM ZJ Yv Yf);have GO:=J D41 (Zml D41.l Jn WL WI Zby Yf UP YZ);have UD:=J D42 (Zpp D42.l YR ZaP Yr Yv);exact Zod D43.l ZaR Uw GP GO UD W5 Z8 Yr Gy ZaJ Yf Yv Yg YZ ZdH
theorem walk {l:PySem.W.OpenLaw}{q:Program}{loose:QP}{XP:QN->Heap->Prop}{YP:World->Heap->Prop}{d:DefRec}{K:Params->PySem.W.Frag}(hn:l.most=some 63)(hdf:d.params.defaults = [])
  (hY:∀(w:World)(h:Heap),YP w h->(K w.params).In h)
  (F:∀(w:World)(mg:QN)(fa:Addr)(h:Heap),(K w.params).In h->h.Ns mainGlobals mg->mg d.name=some (.ref fa) ->
   ∃fd:FuncData,(∀(s:Shared)(u:Value),BindsTo s fd ⟨[u],[]⟩ [("_law_script", u)]) /\ ∀base:Heap,(K w.params).In base->base.Ns mainGlobals mg->Yi l.prog w (K w.params) mg base WH 14 fa fd ["_law_script"] (Zhr (K w.params))):
  PySem.W.WalkO q loose XP YP l.row.toRowW d [] (fun f vs=>PySem.call f vs):=
 L2.ZlO (n:=63) (k:=14) (x := "_law_script") (CX:=fun _=>WH) (sp:=fun w=>Zhr (K w.params)) hn (by decide) hdf ⟨rfl,by decide,by decide⟩ hY F (fun _ _ a ns hl _ hS=>⟨a,ns,rfl,hS,hl,fun _=>rfl⟩) fun _ _ _ _ _ z=>z
end
end Qk39
namespace PySem.W.Fast
def tw10767976101975072992:=0
def tw13157643868248815168:=0
def tw11434226622092928:=0
def tw3764230057468727393:=0
def tw9531859676645240001:=0
def tw1606958265451191681:=0
def tw12420837972814063009:=0
def tw10306029838350690785:=0
def tw7004698385006430977:=0
def tw3417007646327360289:=0
def tw2152208591072197569:=0
def tw8297851701780523170:=0
def tw3370122813843667426:=0
def tw9348820069954149954:=0
def tw5544848946569316098:=0
def tw17110527343532268322:=0
def tw2870519997124873122:=0
def tw9613414313521779618:=0
def tw1086887527186428963:=0
def tw7660668339967190179:=0
def tw18013910130092460643:=0
def tw1471310642215065251:=0
def tw16575790111179035395:=0
def tw5540151413876334435:=0
def tw2848589597888258052:=0
def tw18431420794113942596:=0
def tw11858512109696127044:=0
def tw12341866163240260740:=0
def tw10333547267706040804:=0
def tw206248032319720964:=0
def tw5449755419164151396:=0
def tw5342169160163409508:=0
def tw4145004998557185668:=0
def tw14518474923689508580:=0
def tw14543928258466455332:=0
def tw9671337351225273188:=0
def tw4422850622810046372:=0
def tw18093514830720762277:=0
def tw14178002145978154469:=0
def tw6942834908640481861:=0
def tw10365872870002850565:=0
def tw16947522324875653126:=0
def tw12231005998564228134:=0
def tw6650640947195229254:=0
def tw14154277354852071558:=0
def tw7466590560640954502:=0
def tw4499242820541580422:=0
def tw3861760883402091686:=0
def tw6320427721635330214:=0
def tw559953619212455110:=0
def tw5102024714958622918:=0
def tw966514012978885990:=0
def tw10270873430602967430:=0
def tw10196043280316745126:=0
def tw17761026203367906950:=0
def tw3724007420566052550:=0
def tw7138383304235398982:=0
def tw4185005476876638022:=0
def tw11348305171378630566:=0
def tw17799924038310168486:=0
def tw13400185062650607623:=0
def tw7484316070377260103:=0
def tw10063490204644012231:=0
def tw1446948640794939655:=0
def tw8408813023928323399:=0
def tw8161011652589809127:=0
def tw2176629926654648839:=0
def tw12309615325484127847:=0
def tw5088363916588922535:=0
def tw9930992456264714183:=0
def tw4494886578728983527:=0
def tw18120844058901584904:=0
def tw1435199805301064:=0
def tw332075319050695016:=0
def tw4827826286344847816:=0
def tw9741319504985079464:=0
def tw7386843227440078600:=0
def tw17637170770144268361:=0
def tw11891845215256825929:=0
def tw7780352368029967529:=0
def tw15470027263881621833:=0
def tw14016223245226605225:=0
def tw9040533602487476330:=0
def tw2687648623592687786:=0
def tw1629858098368095530:=0
def tw16980265011233179659:=0
def tw13585975262896685195:=0
def tw6373072746637304011:=0
def tw11047733718019631403:=0
def tw3088070970581755307:=0
def tw9017424924950984107:=0
def tw7592591727764861355:=0
def tw2041663110190309835:=0
def tw3391721722722346603:=0
def tw4751511136658699019:=0
def tw6315608722199238571:=0
def tw8659780603529563083:=0
def tw7414858073810276331:=0
def tw14664384999023526060:=0
def tw6714781506604033260:=0
def tw16539297828604054828:=0
def tw8608801753863131628:=0
def tw14157117508466477612:=0
def tw13784128263112348300:=0
def tw6888151524836339789:=0
def tw2659633296950640749:=0
def tw8992663191835433101:=0
def tw9697379463407576525:=0
def tw3233358092676524909:=0
def tw769029984642961357:=0
def tw16720328475630727214:=0
def tw10308374011216503214:=0
def tw7812984726306709934:=0
def tw17318070378859705838:=0
def tw4976632741316971086:=0
def tw11036032439054161518:=0
def tw789808493466252046:=0
def tw5755606487013121870:=0
def tw16347934032050784303:=0
def tw5487993088474795183:=0
def tw6071183026899752111:=0
def tw15917433577030084879:=0
def tw13950596764298488367:=0
def tw11066935083787660879:=0
def tw12516520768158166703:=0
def tw14987957802444753583:=0
def tw1451797293404449487:=0
def tw2741886066200366895:=0
def tw3872965510998740240:=0
def tw11645238162570909008:=0
def tw4805629451588471152:=0
def tw440073249646089680:=0
def tw6936618974409508304:=0
def tw11309060949143046864:=0
def tw6146157387027488496:=0
def tw15644021803651546896:=0
def tw13590974933592778704:=0
def tw14806814123279348720:=0
def tw15228127930354238545:=0
def tw10851523643449545937:=0
def tw12254615958050455857:=0
def tw6194980325499170257:=0
def tw11478602803344509393:=0
def tw6670635509784324657:=0
def tw3143003625778146929:=0
def tw12821968657478113105:=0
def tw6878633308673704082:=0
def tw13102545685337805970:=0
def tw2206600584553610418:=0
def tw15495876417215033682:=0
def tw11510261681555908946:=0
def tw7382165098066118002:=0
def tw6198190353619062162:=0
def tw15203099516679001586:=0
def tw13016454793569395218:=0
def tw1953154450467631762:=0
def tw18223980789328627634:=0
def tw12831258572901321682:=0
def tw8647058210149848050:=0
def tw15309451020127405107:=0
def tw8441220914320883763:=0
def tw7305737877073912883:=0
def tw5732140423603127731:=0
def tw6191386280135364051:=0
def tw3187001252835422771:=0
def tw1553265921349124723:=0
def tw8600314073501955731:=0
def tw9991724630377988947:=0
def tw7159326174873030772:=0
def tw3283170849141782868:=0
def tw1975229631259781556:=0
def tw17535535854033750580:=0
def tw3193276348545394388:=0
def tw13500601772068562868:=0
def tw8925453483319086036:=0
def tw9809603674033608660:=0
def tw5817003810976098260:=0
def tw12192206750281653365:=0
def tw2011127772457181429:=0
def tw8472247582089306389:=0
def tw5340043215632424277:=0
def tw13792476749638277909:=0
def tw12235619489715547029:=0
def tw12915591085836881845:=0
def tw7559605368688518101:=0
def tw11111682264975813974:=0
def tw4231191062202560918:=0
def tw15228097854344779158:=0
def tw16912062905944075862:=0
def tw3838554853894796182:=0
def tw7660733184609736694:=0
def tw2048916083713516663:=0
def tw10015603011787696471:=0
def tw14140322744806713719:=0
def tw651729153632915895:=0
def tw13492149647078473207:=0
def tw4871016330621366807:=0
def tw2636245656654869047:=0
def tw3736776341757011639:=0
def tw13139220816813404855:=0
def tw3171049558774195031:=0
def tw591431822606824375:=0
def tw12951543895196809175:=0
def tw3132715950459502648:=0
def tw14593340307994412216:=0
def tw274969766729803096:=0
def tw13565744075184007544:=0
def tw10641848755127824824:=0
def tw16437820516666286520:=0
def tw14846781782494971352:=0
def tw4831513947311749624:=0
def tw4327706715868143224:=0
def tw13602798147348369112:=0
def tw15548332423629247224:=0
def tw14948244009353956152:=0
def tw7637768453900274552:=0
def tw2480044893291993016:=0
def tw2203597913501679608:=0
def tw7371934757637356761:=0
def tw11746166733770258681:=0
def tw4019786129611413785:=0
def tw17547818933186695513:=0
def tw2042304592649804345:=0
def tw11645786082597146201:=0
def tw16513604538620876569:=0
def tw7068005875332753241:=0
def tw5378390464482290842:=0
def tw14547054502510156026:=0
def tw1024200472756029690:=0
def tw782002390721242426:=0
def tw16478742725049570234:=0
def tw13128636096769469370:=0
def tw17853386818792806459:=0
def tw16779124240122089595:=0
def tw3016332581799283099:=0
def tw18257838586133576123:=0
def tw9117803015646617051:=0
def tw10134787699125019195:=0
def tw8356072932653645499:=0
def tw12044085218888599259:=0
def tw17348818359983043323:=0
def tw3023606836217164731:=0
def tw17302930099773883387:=0
def tw2467741885539527772:=0
def tw238339450349878780:=0
def tw8689717679970689692:=0
def tw2597395143429026684:=0
def tw10855483048898636893:=0
def tw18394690087449394365:=0
def tw2112970149408283901:=0
def tw4432811961859191165:=0
def tw7474108418533575165:=0
def tw9830366105692555965:=0
def tw7325189568222279453:=0
def tw11214185011073397629:=0
def tw18320828653196569469:=0
def tw2832739577091615645:=0
def tw8467198885470870493:=0
def tw10935659420679964669:=0
def tw968445671060578366:=0
def tw4427612705456078974:=0
def tw10481449499500703070:=0
def tw2415914536747113886:=0
def tw8065399834678492734:=0
def tw1981476690959206974:=0
def tw1500456889628416606:=0
def tw12871804262898433790:=0
def tw10897676787097590718:=0
def tw451209943377480638:=0
def tw6859051284704751679:=0
def tw2522044125015473343:=0
def tw11318165931956668671:=0
def tw14189543623099190623:=0
def tw1751853871847846335:=0
def tw6634800987900214783:=0
def tw15589462447492083295:=0
def tw17813402806607172255:=0
def tw12163025887932820223:=0
def tw23629152273002303:=0
def tw80591813144994687:=0
def tw4593510557201722271:=0
def tw5686182659026684927:=0
def tw7034423302909099202:=0
end PySem.W.Fast
open PySem PySem.W PyProof.Rows
set_option maxRecDepth 100000 in
set_option maxHeartbeats 0 in
theorem PySem.Challenge.cw_bendfronts_k39_band_sums_holds : PySem.Challenge.rw_bendfronts_k39_band_sums.Holds := by
 w_on; o_law; k_head; (case hw => w_witness2)
 k_fill
 refine Qk39.walk (l := PySem.Challenge.rw_bendfronts_k39_band_sums) rfl rfl (fun w h Y => PySem.W.kIn_of Y) ?F
 case F =>
  intro w mg fa h KX G hmg;apply Qk39.all_mk KX G hmg
  all_goals first | (show _ = _; first | k_is | k_exc | rfl | decide +kernel) | exact⟨by k_is, L2.Zm0 (by k_is) (by k_is) (by k_is)⟩

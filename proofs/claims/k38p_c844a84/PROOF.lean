import PyProof.Rows.All
import Wide.All
import OpenK.AllK
import Wide.FinOn
import Lean
import PyProof.EqAt
import PyProof.EqKinds
import PyProof.TupleCall
import PyProof.AttrMissHeap
import PyProof.FactsAll.zip_1
import KE.KDictOf
import PyProof.Draws
import KE.KRevIter
import PyProof.FactsAll.range
import PyProof.Rows.RuleM_int
import KE.BitLaws
import PyProof.DictItems
import PySem.Challenge.RW_bendfronts_k38_partners_told
set_option Elab.async false
set_option linter.all false
set_option maxRecDepth 100000
def ke:=@List.length_map
def kg:=@PySem.wpAny_bind
def kh:=@if_neg
def ki:=@List.length_append
def kj:=@if_pos
def km:=@Nat.le_refl
def ko:=@List.getElem?_eq_getElem
def kr:=@List.size_toArray
def kz:=@PySem.Heap.get?_push_of_some
def kC:=@List.getElem?_eq_some_iff
def kE:=@List.getElem?_map
def kF:=@Int.eq_ofNat_of_zero_le
def kG:=@PySem.wpAny_pure
def kH:=@decide_eq_true
def kI:=@of_decide_eq_true
def kJ:=@PySem.F.plainAttrs_list
def kK:=@List.length_take
def kL:=@List.take_of_length_le
def kM:=@Int.toNat_natCast
def kO:=@Bool.false_ne_true
def kP:=@List.map_append
def kQ:=@List.mem_cons
def kR:=@List.mem_singleton
def kS:=@List.mem_cons_self
def kT:=@List.mem_of_getElem?
def kU:=@PySem.F.slot_list_append
def kW:=@PySem.F.type_list_append
def kX:=@List.mem_cons_of_mem
def kY:=@PySem.sizeLine_eq
def kZ:=@Array.length_toList
def k6:=@PySem.Heap.lt_size
def k7:=@List.getD_eq_getElem?_getD
def k8:=@Option.map_eq_some_iff
def k9:=@Option.some.inj
def Ka:=@PySem.PassesOwn.never
def Kb:=@Nat.le_trans
def Kc:=@Bool.and_eq_true
def Ke:=@List.length_singleton
def Kf:=@PySem.Heap.get?_push_size
def Kg:=@List.mem_append
def Kh:=@decide_eq_false
def Ki:=@List.take_add_one
def Kj:=@Nat.ne_of_lt
def Kk:=@List.length_cons
def Kl:=@List.append_assoc
def Km:=@decide_eq_true_eq
def Kn:=@Nat.zero_le
def Ko:=@List.map_cons
def Kq:=@List.getElem?_append_right
def Kr:=@List.length_drop
def Ks:=@List.all_eq_true
def Kt:=@Nat.lt_of_lt_of_le
def Ku:=@List.mem_range
def Kv:=@Nat.le_of_lt
def Kw:=@List.mem_map
def Kx:=@congrArg
def Ky:=@PyProof.Rows.wpS_bind
def Kz:=@List.length_replicate
def KA:=@Ne.symm
def KC:=@PySem.wpAny_holding
def KD:=@PySem.wpAny_mono
def KG:=@List.getElem?_append_left
def KH:=@List.mem_append_right
def KJ:=@PyProof.Rows.wpS_pure
def KL:=@List.nodup_cons
def KN:=@List.range_succ
def KO:=@List.mem_flatMap
def KP:=@List.take_append_drop
def KQ:=@List.length_set
def KR:=@PySem.boot_len
def KS:=@PyProof.Rows.callWith_type1
def KU:=@Nat.min_eq_right
def KW:=@PySem.wpAny_truthy_bool
def KY:=@List.append_nil
def KZ:=@List.mem_filterMap
def K0:=@List.nodup_iff_pairwise_ne
def K6:=@List.drop_eq_getElem_cons
def K7:=@Nat.min_eq_left
def K8:=@PyProof.Rows.boot_isinstance
def K9:=@List.mem_append_left
def qc:=@PySem.wpAny_newObj_type
def qd:=@List.pairwise_cons
def qe:=@PyProof.Rows.slot_tuple_getitem
def qf:=@List.filterMap_cons
def qg:=@PySem.W.kia_one
def qh:=@List.lookup_cons
def qi:=@Array.getElem?_eq_some_iff
def qj:=@List.length_range
def qm:=@List.getElem?_set
def qo:=@List.drop_eq_nil_of_le
def qp:=@PySem.Paired.length
def qq:=@PySem.SetTable.toList_insertAt
def qr:=@Nat.max_eq_right
def qt:=@PySem.wpAny_field
def qu:=@Array.getElem?_toList
def qw:=@List.length_eq_zero_iff
def qy:=@Nat.lt_irrefl
def qz:=@Nat.max_eq_left
def qA:=@PySem.wpAny_call_entry
def qB:=@List.nodup_append
def qC:=@Option.map_some
def qE:=@PySem.wpAny_callSpecial?_slot
def qF:=@PySem.Around.under_plainId
def qG:=@List.map_drop
def qH:=@beq_eq_false_iff_ne
def qI:=@PySem.mem_of_lookup
def qJ:=@Bool.eq_iff_iff
def qK:=@PySem.codeAny_builtin
def qM:=@Array.getElem?_eq_getElem
def qN:=@PySem.Heap.get?_update_self
def qO:=@Bool.false_eq_true
def qP:=@decide_eq_decide
def qQ:=@Int.emod_lt_of_pos
def qR:=@List.getElem?_drop
def qS:=@PySem.wpAny_typeOf
def qT:=@List.map_take
def qU:=@List.take_append_of_le_length
def qV:=@Int.le_refl
def qW:=@PySem.wpAny_loadPart_at
def qX:=@Nat.exists_eq_add_of_le
def qY:=@List.flatten_append
def qZ:=@List.map_set
def Xa:=@Nat.le_add_right
def Xb:=@List.not_mem_nil
def Xc:=@List.Perm.append_left
def Xd:=@List.mem_iff_getElem?
def Xe:=@Classical.byContradiction
def Xf:=@PySem.wpAny_passesOwn
def Xg:=@List.length_nil
def Xh:=@Int.emod_nonneg
def Xi:=@PyProof.Rows.boot_list
def Xj:=@Nat.ne_of_gt
def Xk:=@List.flatten_cons
def Xl:=@List.replicate_succ'
def Xm:=@List.pairwise_map
def Xn:=@PySem.codeAny_call_builtin
def Xo:=@Option.isSome_iff_exists
def Xp:=@List.replicate_succ
def Xq:=@List.getElem?_replicate
def Xr:=@PySem.F.slot_zip_getattribute
def Xs:=@List.take_length
def Xt:=@PySem.F.slot_list_count
def Xu:=@PySem.F.type_list_count
def Xv:=@PySem.wpAny_Call_Name_kw
def Xw:=@PySem.Heap.get?_update_other
def Xx:=@PySem.F.called_set
def Xy:=@Nat.zero_add
def Xz:=@List.nil_append
def XA:=@Bool.or_eq_true
def XB:=@List.find?_cons
def XC:=@PySem.wpAny_ite_split
def XD:=@PySem.wpAny_standAt
def XE:=@PySem.builtinLookup_eq_fast
def XF:=@List.getElem?_eq_none
def XG:=@List.length_filter_le
def XH:=@PySem.F.typeOf_object_class
def XI:=@List.ext_getElem?
def XJ:=@PySem.wpAny_rule
def XM:=@if_false
def XN:=@Nat.le_succ
def XO:=@PySem.wpAny_listPart
def XQ:=@bne_iff_ne
def XR:=@PySem.F.excBase_ValueError
def XS:=@Bool.and_eq_true_iff
def XT:=@List.countP_cons
def XU:=@PySem.wpAny_askSetting
def XW:=@PyProof.Rows.wpS_forRange
def XX:=@Nat.add_zero
def XY:=@PySem.Heap.SameBut.update
def XZ:=@PySem.F.args_tuple_add_2
def X0:=@List.any_cons
def X9:=@PySem.wpAny_comprehension_free
def Ta:=@List.length_erase_of_mem
def Tb:=@PySem.wpAny_execs_nil
def Tc:=@PySem.W.KFB.if_not
def Td:=@PySem.tupleKind_room_in1
def Te:=@PySem.Obj.data_mapFields
def Tf:=@List.getElem?_take
def Th:=@PySem.F.entry_tuple_add
def Ti:=@PySem.Paired.snoc
def Tj:=@PyProof.Rows.F.plain_set_update_loop
def To:=@PySem.W.cellsFrom_some
def Tp:=@PySem.F.slot_tuple_add
def Tq:=@PySem.wpAny_seqItems
def Tr:=@PySem.wpAny_setState_of
def Ts:=@List.drop_of_length_le
def Tt:=@List.perm_append_comm
def Tu:=@PySem.F.slot_dict_get
def Tv:=@PySem.F.slot_list_pop
def Tw:=@PySem.F.type_list_pop
def Tx:=@PySem.call_meets
def Tz:=@List.getElem_mem
def TB:=@List.nodup_range
def TC:=@PySem.wpAny_isInstance
def TF:=@if_true
def TH:=@List.all_cons
def TJ:=@PySem.plainId_quiet
def TK:=@PySem.Calls.evalArgs_plain
def TL:=@PySem.wpAny_of_eq
def TM:=@PySem.W.looks_findIn
def TN:=@List.mem_of_mem_take
def TQ:=@PyProof.Rows.boot_sorted
def TR:=@List.singleton_perm_singleton
def TU:=@List.of_mem_zip
def TV:=@PySem.SeqAt.EqAt.same
def TY:=@PySem.typeLookup_type
def TZ:=@List.length_zip
def T1:=@List.sum_append
def T3:=@List.dropLast_concat_getLast
def T4:=@PySem.F.slot_gs_get
def T5:=@PySem.W.looks_mroIn
def T6:=@PyProof.Rows.getElem?_mirror_all
def T7:=@PySem.codeAny_mono
def T8:=@List.map_map
def T9:=@List.idxOf_lt_length_of_mem
def Na:=@PySem.Calls.Name_function_global
def Nb:=@PyProof.Rows.assignInOrder_cons
def Nc:=@PySem.wpAny_pyIter_range
def Nd:=@PySem.Calls.spliced_cons
def Nf:=@PySem.wpAny_newFunctionEnv_cells
def Ng:=@PySem.Heap.IsSliceOf.new
def Nh:=@PySem.SeqAt.EqAt.int_int
def Ni:=@Nat.lt_of_le_of_lt
def Nj:=@beq_iff_eq
def Nk:=@PySem.Heap.size_push
def Nl:=@PySem.SeqAt.RcNeAt.lists
def Nm:=@PySem.SeqAt.RcNeAt.lists_lengths
def Nn:=@PySem.F.excAttr_ValueError
def Np:=@List.length_eraseIdx_of_lt
def Nq:=@Array.perm_iff_toList_perm
def Nr:=@List.perm_ext_iff_of_nodup
def Nt:=@PySem.F.slot_range_iterator_next
def Nu:=@Nat.add_sub_cancel
def Nv:=@List.getElem?_zip_eq_some
def Nw:=@List.pairwise_iff_getElem
def Nx:=@List.findIdx?_eq_none_iff
def Ny:=@List.getElem?_eq_none_iff
def Nz:=@Decidable.byContradiction
def NA:=@Sum.inl.inj
def NB:=@PySem.wpAny_pyIter_list
def NC:=@PySem.Calls.spliced_nil
def NF:=@List.take_sublist
def NG:=@PySem.wpAny_sequenceKey
def NH:=@Nat.lt_trichotomy
def NI:=@Bool.eq_false_iff
def NJ:=@List.find?_append
def NK:=@PySem.evalPart_none
def NL:=@List.length_filterMap_le
def NM:=@PySem.wpAny_attempt
def NO:=@List.Pairwise.imp_of_mem
def NP:=@PySem.F.slot_list_insert
def NQ:=@PySem.F.type_list_insert
def NR:=@List.sum_cons
def NS:=@PySem.noFill_tuple_add
def NT:=@Option.getD_none
def NU:=@PySem.IsL.isList
def NV:=@Nat.le_of_not_lt
def NW:=@List.eraseIdx_cons_succ
def NX:=@List.cons_append
def NY:=@or_false
def NZ:=@PySem.wpAny_pyIter_zip
def N2:=@PySem.entryFor_of_tree
def N3:=@PySem.F.args_dict_get_2
def N4:=@List.pairwise_singleton
def N5:=@Array.toList_map
def N6:=@PyProof.Rows.boot_max
def N7:=@PyProof.Rows.boot_int
def N8:=@List.getElem?_set_self
def Mb:=@PyProof.noPylong_small
def Me:=@List.map_nil
def Mf:=@Nat.le_of_eq
def Mg:=@List.Perm.append_right
def Mh:=@Nat.mod_lt
def Mj:=@Array.getElem?_eq_none
def Mk:=@Nat.sub_self
def Ml:=@PySem.F.entry_dict_get
def Mm:=@PyProof.Rows.pairsOf_size
def Mn:=@List.length_pos_of_mem
def Mo:=@PyProof.Rows.boot_tuple
def Mp:=@List.all_map
def Mq:=@List.mem_filter
def Mr:=@PySem.wpAny_specialOf
def Ms:=@PySem.SeqAt.eq_listAt
def Mt:=@Nat.not_lt_zero
def Mw:=@List.filterMap_append
def Mx:=@List.set_append_right
def MA:=@List.countP_singleton
def MB:=@List.getElem?_set_ne
def MD:=@Bool.false_and
def MF:=@PySem.seqIndex_of
def MG:=@List.mem_iff_getElem
def MI:=@PySem.isSubtype_type
def MJ:=@PySem.entryFor_alias
def MK:=@PySem.isSubtype_stop
def ML:=@PyProof.Rows.wpS_mono
def MM:=@List.drop_zero
def MN:=@Nat.pow_le_pow_right
def MO:=@List.pairwise_append
def MP:=@List.mem_of_mem_drop
def MQ:=@PySem.F.slot_list_lt
def MS:=@List.mem_erase_of_ne
def MY:=@List.getElem_of_mem
def MZ:=@List.countP_eq_zero
def M0:=@List.map_congr_left
def M3:=@List.getElem?_range
def M4:=@PySem.wpAny_release
def M5:=@PySem.seq_tuple_add
def M6:=@List.take_nil
def M9:=@PySem.W.callWith_K
def La:=@PySem.W.codeRec_of
def Le:=@Option.isNone_none
def Lh:=@Nat.and_one_is_mod
def Lj:=@decide_eq_true_iff
def Ll:=@PySem.intKind_is
def Lm:=@List.findIdx?_cons
def Lp:=@List.countP_append
def Lq:=@List.filter_append
def Lr:=@List.map_singleton
def Lu:=@List.Perm.cons_inv
def Lv:=@of_decide_eq_false
def LH:=@Int.le_trans
def LO:=@Nat.sub_zero
namespace L2
open PySem PySem.Spec PyProof.Rows
theorem sz0:0<=sizeLine:=by decide
theorem sz1:1<=sizeLine:=by decide
theorem sz2:2<=sizeLine:=by decide
theorem sz3:3<=sizeLine:=by decide
abbrev Key:=Sum Int Str
def Di:Key->Value->Bool
 | .inl k,v=>Value.isInt k v
 | .inr x,v=>Value.isStrOf x v
def AX (w:World):Key->Int
 | .inl k=>hashInt k
 | .inr x=>hashStr w x
theorem YF:∀{k:Key}{v:Value},Di k v=true->(∃i t,k=Sum.inl i/\v=Value.int i t)∨(∃x t,k=Sum.inr x/\v=Value.str x t)
 | .inl i,v,h=>by
  obtain⟨t,e⟩:=Value.isInt_shape (k:=i) (v:=v) h;exact .inl ⟨i,t,rfl,e⟩
 | .inr x,v,h=>by obtain⟨t,e⟩:=Value.isStrOf_shape (x:=x) (v:=v) h;exact .inr ⟨x,t,rfl,e⟩
theorem AY (i:Int)(t:Tok):Di (.inl i) (.int i t)=true:=by simp[Di,Value.isInt]
theorem AZ (x:Str)(t:Tok):Di (.inr x) (.str x t)=true:=by simp[Di,Value.isStrOf]
theorem A0 (a b:Int):decide ((Sum.inl a:Key)=Sum.inl b)=(a==b):=by
 by_cases e:a=b
 ·subst e;simp
 ·have h:¬(Sum.inl a:Key)=Sum.inl b:=fun q=>e (NA q);rw[Kh h];exact(qH.mpr e).symm
theorem A4 (a b:Str):decide ((Sum.inr a:Key)=Sum.inr b)=decide (a=b):=by
 by_cases e:a=b
 ·subst e;simp
 ·have h:¬(Sum.inr a:Key)=Sum.inr b:=fun q=>e (Sum.inr.inj q);rw[Kh h,Kh e]
theorem A5 (a:Int)(b:Str):decide ((Sum.inl a:Key)=Sum.inr b)=false:=Kh (fun q=>nomatch q)
theorem A6 (a:Str)(b:Int):decide ((Sum.inr a:Key)=Sum.inl b)=false:=Kh (fun q=>nomatch q)
def Z9 (prog:Program)(w:World):PySem.KeyKind prog w Key where
 is:=Di
 hash:=AX w
 inj:=fun v a b ha hb=>by
  rcases YF ha with⟨i,t,rfl,rfl⟩ | ⟨x,t,rfl,rfl⟩
  ·rcases YF hb with⟨j,u,rfl,e⟩ | ⟨y,u,rfl,e⟩
   ·injection e with e1 _;rw[e1]
   ·exact nomatch e
  ·rcases YF hb with⟨j,u,rfl,e⟩ | ⟨y,u,rfl,e⟩
   ·exact nomatch e
   ·injection e with e1 _;rw[e1]
 byValue:=fun k v h=>by rcases YF h with⟨i,t,rfl,rfl⟩ | ⟨x,t,rfl,rfl⟩<;>rfl
 pyHash:=fun hv h=>by
  rcases YF hv with⟨i,t,rfl,rfl⟩ | ⟨x,t,rfl,rfl⟩
  ·exact wpAny_pyHash_int h
  ·exact wpAny_pyHash_str h
 eqBool:=fun hu hv h=>by
  rcases YF hu with⟨i,t,rfl,rfl⟩ | ⟨x,t,rfl,rfl⟩
  ·rcases YF hv with⟨j,u,rfl,rfl⟩ | ⟨y,u,rfl,rfl⟩
   ·rw[A0] at h;exact wpAny_eqBool_int h
   ·rw[A5] at h;exact SeqAt.EqAt.int_str i t y u _ _ _ _ h
  ·rcases YF hv with⟨j,u,rfl,rfl⟩ | ⟨y,u,rfl,rfl⟩
   ·rw[A6] at h;exact SeqAt.EqAt.str_int x t j u _ _ _ _ h
   ·rw[A4] at h;exact wpAny_eqBool_str h
 «strs»:=fun k x t v h=>by
  rcases YF h with⟨i,u,rfl,e⟩ | ⟨y,u,rfl,e⟩
  ·exact nomatch e
  ·injection e with e1 _
   subst e1;cases v<;>rfl
theorem A7 (prog:Program)(w:World)(i:Int)(t:Tok):(Z9 prog w).is (.inl i) (.int i t)=true:=AY i t
theorem A8 (prog:Program)(w:World)(x:Str)(t:Tok):(Z9 prog w).is (.inr x) (.str x t)=true:=AZ x t
inductive V where
 | non | bl (b:Bool) | int (i:Int) | str (x:Str) | byt (b:Array UInt8) | flt (b:UInt64) | ref (a:Addr) | ty (n:String)
 deriving DecidableEq
def RelV:V->Value->Prop
 | .non,u=>u=Value.none
 | .bl b,u=>u=Value.bool b
 | .int i,u=>∃t,u=Value.int i t
 | .str x,u=>∃t,u=Value.str x t
 | .byt b,u=>∃t,u=Value.bytes b t
 | .flt b,u=>∃t,u=Value.float b t
 | .ref a,u=>u=Value.ref a
 | .ty n,u=>u=Value.type n
abbrev Vals:List V->List Value->Prop:=Paired RelV
theorem Vals.length {xs:List V}{us:List Value}(r:Vals xs us):xs.length=us.length:=qp r
theorem Vals.get:∀{xs:List V}{us:List Value}{i:Nat}{x:V},Vals xs us->xs[i]? = some x -> ∃u,us[i]? = some u/\RelV x u
 | _,_,_,_,.nil,e=>by simp at e
 | _,_,0,_,.cons r _,e=>by simp at e;subst e;exact⟨_,rfl,r⟩
 | _,_,i+1,x,.cons _ t,e=>by obtain⟨u,h1,h2⟩:=Vals.get (i:=i) (x:=x) t (by simpa using e);exact⟨u,by simpa using h1,h2⟩
theorem Vals.set {x:V}{u:Value}(r:RelV x u):∀{xs:List V}{us:List Value}(i:Nat),Vals xs us->Vals (xs.set i x) (us.set i u)
 | _,_,_,.nil=>.nil
 | _,_,0,.cons _ t=>.cons r t
 | _,_,i+1,.cons q t=>.cons q (Vals.set r i t)
theorem Vals.append:∀{xs ys:List V}{us ws:List Value},Vals xs us->Vals ys ws->Vals (xs++ys) (us++ws)
 | _,_,_,_,.nil,s=>s
 | _,_,_,_,.cons r t,s=>.cons r (Vals.append t s)
theorem Vals.take:∀{xs:List V}{us:List Value}(n:Nat),Vals xs us->Vals (xs.take n) (us.take n)
 | _,_,0,_=>.nil
 | _,_,_+1,.nil=>.nil
 | _,_,n+1,.cons r t=>.cons r (Vals.take n t)
theorem Vals.drop:∀{xs:List V}{us:List Value}(n:Nat),Vals xs us->Vals (xs.drop n) (us.drop n)
 | _,_,0,r=>r
 | _,_,_+1,.nil=>.nil
 | _,_,n+1,.cons _ t=>Vals.drop n t
def My:Option V->Option Value->Prop
 | some v,some u=>RelV v u
 | none,none=>True
 | _,_=>False
def KV {κ:Type}:List (κ × V)->List (κ × Value)->Prop:=Paired fun(p:κ × V) (q:κ × Value)=>p.1=q.1/\RelV p.2 q.2
def kV:Key->V
 | .inl i=>.int i
 | .inr x=>.str x
inductive HO where
 | lst (xs:List V)
 | tup (xs:List V)
 | dK (kvs:List (Key×V)) | dT (kvs:List (List Key×V))
 | set (S:Int->Bool) (n:Nat)
 | ins (C dx:Addr) (fs:List (Str×V))
 | own (x:Addr)
 | xd (fs:List (Str×V))
 | met (f x:Addr)
 | rng (lo hi:Int)
 | frz (o:Obj) (u:HO)
 | tbl (ps:Array Value)
 | ext (φ:Heap->Prop)
abbrev Hp:=Addr->Option HO
def upd (H:Hp)(a:Addr)(o:HO):Hp:=fun b=>if b=a then some o else H b
theorem Zd {H:Hp}{a:Addr}{o:HO}:upd H a o a=some o:=by unfold upd;rw[kj rfl]
theorem Zi {H:Hp}{a b:Addr}{o:HO}(h:b≠a):upd H a o b=H b:=by unfold upd;rw[kh h]
theorem JF {H:Hp}{a:Addr}{o u:HO}:upd (upd H a o) a u=upd H a u:=by funext b;unfold upd;split<;>rfl
theorem LQ {H:Hp}{a b:Addr}{o u:HO}(h:H a=some o)(h':H b=some u)(d:o≠u):a≠b:=by intro e;subst e;rw[h] at h';exact d (k9 h')
theorem Zg {H:Hp}{a b:Addr}{o:HO}(h:H a=some o)(h':H b=none):a≠b:=by intro e;subst e;rw[h] at h';cases h'
section
variable (P:Program)(w:World)
def Yy (H:Hp)(h:Heap)(a:Addr):HO->Prop
 | .lst xs=>xs.length<=sizeLine /\ ∃(its:List Value)(n:Nat),Vals xs its/\h.get? a=some { cls:=.type "list", data:=.seq its.toArray n }
 | .tup xs=>xs.length<=sizeLine /\ ∃its:List Value,Vals xs its/\IsTup h a its.toArray
 | .dK kvs=>kvs.length<=sizeLine/\(a==sysModules)=false /\ ∃vs,KV kvs vs/\h.DictOf (Z9 P w) a vs
 | .dT kvs=>kvs.length<=sizeLine/\(a==sysModules)=false /\ ∃xs:List (List Key×Addr×Value),
   Paired (fun(p:List Key×V) (q:List Key×Addr×Value)=>p.1=q.1/\H q.2.1=some (.tup (p.1.map kV))/\RelV p.2 q.2.2) kvs xs /\
   ∃o es ep,h.get? a=some o/\o.ExactDict/\o.data = .dict es ep/\es.toList=xs.map (entryOfKey (tupleKind (Z9 P w)))/\(xs.map (·.1)).Nodup
 | .set S n=>h.SetOf (intKind P w) a S n
 | .ins C dx fs=>H dx=some (.own a)/\fs.length<=1000/\dx≠a/\h.get? a=some (W.instObj C dx) /\
   ∃mA,h.Ns1 dx mA/\(∀f,My (fs.lookup f) (mA f))/\PySem.Within mA (fs.map (·.1))
 | .own _=>∃o,h.get? a=some o
 | .xd fs=>∃mA,h.Ns1 a mA /\ ∀f,My (fs.lookup f) (mA f)
 | .rng lo hi=>∃t u v,h.get? a=some { cls:=.type "range", data:=.fields #[.int lo t,.int hi u,.int 1 v] }
 | .frz o u=>h.get? a=some o/\Yy H h a u
 | .tbl ps=>h.get? a=some { cls:=.none,data:=.fields ps }
 | .met f x=>h.get? a=some (W.methodObj (.ref f) (.ref x))
 | .ext φ=>φ h/\(∃o,h.get? a=some o) /\ ∀h1 h2:Heap,φ h1->(∀o,h1.get? a=some o->h2.get? a=some o) -> φ h2
def HOk (H:Hp)(h:Heap):Prop:=∀a o,H a=some o->Yy P w H h a o
end
section
variable {P:Program}{w:World}{H H':Hp}{h h':Heap}{a:Addr}{o:HO}
theorem Yy.lt (x:Yy P w H h a o):a<h.objs.size:=by
 cases o with
 | lst xs=>obtain⟨_,_,_,_,e⟩:=x;exact k6 e
 | tup xs=>obtain⟨_,_,_,p⟩:=x;exact p.lt
 | dK kvs=>obtain⟨_,_,_,_,o,_,_,e,_⟩:=x;exact k6 e
 | dT kvs=>obtain⟨_,_,_,_,o,_,_,e,_⟩:=x;exact k6 e
 | set S n=>obtain⟨o,_,_,_,e,_⟩:=x;exact k6 e
 | ins C dx fs=>obtain⟨_,_,_,e,_⟩:=x;exact k6 e
 | own y=>obtain⟨_,e⟩:=x;exact k6 e
 | xd fs=>obtain⟨_,⟨_,_,_,e,_⟩,_⟩:=x;exact k6 e
 | rng lo hi=>obtain⟨_,_,_,e⟩:=x;exact k6 e
 | frz ob u=>obtain⟨e,_⟩:=x;exact k6 e
 | tbl ps=>exact k6 (show h.get? a=some _ from x)
 | met f y=>exact k6 (show h.get? a=some _ from x)
 | ext φ=>obtain⟨_,⟨_,e⟩,_⟩:=x;exact k6 e
theorem Paired.mapP {α β:Type}{F G:α -> β -> Prop}:∀{ak:List α}{l₂:List β},Paired F ak l₂->(∀a b,F a b->G a b)->Paired G ak l₂
 | _,_,.nil,_=>.nil
 | _,_,.cons r t,f=>.cons (f _ _ r) (Paired.mapP t f)
theorem Paired.imp' {α β:Type}{F G:α -> β -> Prop}(f:∀a b,F a b->G a b){ak:List α}{l₂:List β}(r:Paired F ak l₂):Paired G ak l₂:=Paired.mapP r f
theorem Yy.stay (x:Yy P w H h a o)(k:∀b u,(b=a∨H b=some (.own a))->h.get? b=some u->h'.get? b=some u)
  (F:∀b,H b=some (.own a)->H' b=some (.own a)) (I:∀b xs,H b=some (.tup xs)->H' b=some (.tup xs)):Yy P w H' h' a o:=by
 induction o with
 | lst xs=>obtain⟨z,its,n,r,e⟩:=x;exact⟨z,its,n,r,k _ _ (.inl rfl) e⟩
 | tup xs=>obtain⟨z,its,r,ob,e,c⟩:=x;exact⟨z,its,r,ob,k _ _ (.inl rfl) e,c⟩
 | dK kvs=>obtain⟨z,y,vs,r,ob,es,ep,e,c⟩:=x;exact⟨z,y,vs,r,ob,es,ep,k _ _ (.inl rfl) e,c⟩
 | dT kvs=>
  obtain⟨z,y,xs,r,ob,es,ep,e,c⟩:=x;exact⟨z,y,xs,Paired.mapP r fun p q z=>⟨z.1,I _ _ z.2.1,z.2.2⟩,ob,es,ep,k _ _ (.inl rfl) e,c⟩
 | set S n=>obtain⟨ob,es,ep,t,e,c⟩:=x;exact⟨ob,es,ep,t,k _ _ (.inl rfl) e,c⟩
 | ins C dx fs=>
  obtain⟨d,z,ne,e,mA,⟨od,es,ep,J,c⟩,r⟩:=x;exact⟨F _ d,z,ne,k _ _ (.inl rfl) e,mA,⟨od,es,ep,k _ _ (.inr d) J,c⟩,r⟩
 | own y=>obtain⟨ob,e⟩:=x;exact⟨ob,k _ _ (.inl rfl) e⟩
 | xd fs=>obtain⟨mA,⟨od,es,ep,e,c⟩,r⟩:=x;exact⟨mA,⟨od,es,ep,k _ _ (.inl rfl) e,c⟩,r⟩
 | rng lo hi=>obtain⟨t,u,v,e⟩:=x;exact⟨t,u,v,k _ _ (.inl rfl) e⟩
 | frz ob u ih=>obtain⟨e,q⟩:=x;exact⟨k _ _ (.inl rfl) e,ih q⟩
 | tbl ps=>
  have e:h.get? a=some { cls:=.none,data:=.fields ps }:=x;show h'.get? a=some { cls:=.none,data:=.fields ps };exact k a _ (.inl rfl) e
 | met f y=>
  have e:h.get? a=some (W.methodObj (.ref f) (.ref y)):=x;show h'.get? a=some (W.methodObj (.ref f) (.ref y));exact k a _ (.inl rfl) e
 | ext φ=>obtain⟨p,⟨o,e⟩,st⟩:=x;exact⟨st _ _ p fun o q=>k _ _ (.inl rfl) q,⟨o,k _ _ (.inl rfl) e⟩,st⟩
theorem HOk.lt (x:HOk P w H h)(e:H a=some o):a<h.objs.size:=(x a o e).lt
theorem HOk.fresh (x:HOk P w H h)(e:h.objs.size<=a):H a=none:=by
 cases q:H a with
 | none=>rfl
 | some u=>exact absurd (Kt (x.lt q) e) (qy _)
theorem HOk.kept (x:HOk P w H h)(k:∀b u,h.get? b=some u->h'.get? b=some u):HOk P w H h':=fun a o e=>
 (x a o e).stay (fun b u _ q=>k b u q) (fun _ q=>q) fun _ _ q=>q
theorem HOk.laid (x:HOk P w H h)(k:∀b u,h.get? b=some u->h'.get? b=some u)(I:h.objs.size<=a)(new:Yy P w (upd H a o) h' a o):HOk P w (upd H a o) h':=fun b u e=>by
 have F:=x.fresh I;by_cases hb:b=a
 ·subst hb;rw[Zd] at e;cases e;exact new
 ·rw[Zi hb] at e;exact(x b u e).stay (fun c v _ q=>k c v q) (fun c q=>by rw[Zi (Zg q F)];exact q) fun c xs q=>by rw[Zi (Zg q F)];exact q
end
def Rd (H:Hp)(a:Addr)(u:HO):Prop:=H a=some u ∨ ∃o,H a=some (.frz o u)
theorem Rd.ok {P:Program}{w:World}{H:Hp}{h:Heap}{a:Addr}{u:HO}(r:Rd H a u)(x:HOk P w H h):Yy P w H h a u:=by
 rcases r with r | ⟨o,r⟩
 ·exact x a u r
 ·obtain⟨_,q⟩:=x a _ r;exact q
def Mut:Option HO->Prop
 | some (.lst _)=>True
 | some (.dK _)=>True
 | some (.dT _)=>True
 | some (.set _ _)=>True
 | some (.ins _ _ _)=>True
 | some (.ext _)=>True
 | _=>False
section
variable {P:Program}{w:World}{H:Hp}{h h':Heap}{x e:Addr}{o':HO}
theorem HOk.write (ok:HOk P w H h)(O:Mut (H x))(V:e=x∨H e=some (.own x))(k:∀b u,b≠e->h.get? b=some u->h'.get? b=some u)(U:∃u,h'.get? e=some u)
  (new:Yy P w (upd H x o') h' x o'):HOk P w (upd H x o') h':=fun b u q=>by
 have I:∀c y,H c=some (.own y)->c≠x:=fun c y r z=>by subst z;rw[r] at O;exact O
 have J:∀c xs,H c=some (.tup xs)->c≠x:=fun c xs r z=>by subst z;rw[r] at O;exact O
 by_cases hb:b=x
 ·subst hb;rw[Zd] at q;cases q;exact new
 ·rw[Zi hb] at q;by_cases F:b=e
  ·have W:H b=some (.own x):=by
    rcases V with z | z
    ·exact absurd (F.trans z) hb
    ·rw[F];exact z
   rw[q] at W;cases W;obtain⟨v,Y⟩:=U;exact⟨v,by rw[F];exact Y⟩
  ·refine(ok b u q).stay (fun c v S r=>k c v ?_ r) (fun c r=>by rw[Zi (I c b r)];exact r) fun c xs r=>by rw[Zi (J c xs r)];exact r
   rcases S with rfl | S
   ·exact F
   ·rintro rfl;rcases V with z | z
    ·exact I c b S z
    ·rw[S] at z;cases z;exact hb rfl
end
structure Un (fs ex:List Addr)(H H':Hp)(h h':Heap):Prop where
 keep:∀b o,h.get? b=some o->H b=none->b∉fs->b∉ex->h'.get? b=some o
 slot:∀b o,h.get? b=some o->H b=none->b∈fs->b∉ex -> ∃sl,h'.get? b=some { o with slots:=sl }
 free:∀b o,h.get? b=some o->H b=none->b∉ex->H' b=none
 there:∀b o,h.get? b=some o->b∉ex -> ∃o',h'.get? b=some o'
 tups:∀b xs,H b=some (.tup xs)->H' b=some (.tup xs)
 frzs:∀b o u,H b=some (.frz o u)->H' b=some (.frz o u)
 tbls:∀b ps,H b=some (.tbl ps) -> ∃more,H' b=some (.tbl (ps++more))
section
variable {fs sk ex m8:List Addr}{H H1 H2:Hp}{h h1 h2 h':Heap}{a x e:Addr}{o:HO}
theorem Un.any (u:Un fs ex H H1 h h1){b:Addr}{ob:Obj}(q:h.get? b=some ob)(n:H b=none)(F:b∉ex):∃sl,h1.get? b=some { ob with slots:=sl }:=by
 by_cases hb:b∈fs
 ·exact u.slot b ob q n hb F
 ·exact⟨ob.slots,u.keep b ob q n hb F⟩
theorem Un.kept (k:∀b u,h.get? b=some u->h'.get? b=some u):Un fs ex H H h h':=
 ⟨fun b ob q _ _ _=>k b ob q,fun b ob q _ _ _=>⟨ob.slots,k b ob q⟩,fun _ _ _ n _=>n,fun b ob q _=>⟨ob,k b ob q⟩,fun _ _ q=>q,fun _ _ _ q=>q,fun _ ps q=>⟨#[],by rw[q];simp⟩⟩
theorem Un.refl:Un fs ex H H h h:=Un.kept fun _ _ q=>q
theorem Un.laid (k:∀b u,h.get? b=some u->h'.get? b=some u)(I:h.objs.size<=a)(F:H a=none):Un fs ex H (upd H a o) h h' where
 keep:=fun b u q _ _ _=>k b u q
 slot:=fun b u q _ _ _=>⟨u.slots,k b u q⟩
 free:=fun b u q n _=>by rw[Zi (Kj (Kt (k6 q) I))];exact n
 there:=fun b u q _=>⟨u,k b u q⟩
 tups:=fun b xs q=>by rw[Zi (Zg q F)];exact q
 frzs:=fun b u xs q=>by rw[Zi (Zg q F)];exact q
 tbls:=fun b ps q=>⟨#[],by rw[Zi (Zg q F),q];simp⟩
theorem Un.write (I:Mut (H x))(U:e=x∨H e=some (.own x))(k:∀b u,b≠e->h.get? b=some u->h'.get? b=some u)(J:∃u,h'.get? e=some u):Un fs ex H (upd H x o) h h':=by
 have S:∀b,H b=none->b≠x:=fun b n z=>by subst z;rw[n] at I;exact I
 have hb:∀b,H b=none->b≠e:=fun b n z=>by
  subst z;rcases U with r | r
  ·exact S b n r
  ·rw[n] at r;cases r
 have O:∀b u,H b=some u -> ¬Mut (some u)->b≠x:=fun b u q nm z=>by subst z;rw[q] at I;exact nm I
 refine⟨fun b u q n _ _=>k b u (hb b n) q,fun b u q n _ _=>⟨u.slots,k b u (hb b n) q⟩,fun b u q n _=>by rw[Zi (S b n)];exact n,fun b u q _=>?_,
  fun b xs q=>by rw[Zi (O b _ q fun z=>z)];exact q,fun b u xs q=>by rw[Zi (O b _ q fun z=>z)];exact q,fun b ps q=>⟨#[],by rw[Zi (O b _ q fun z=>z),q];simp⟩⟩
 by_cases F:b=e
 ·subst F;exact J
 ·exact⟨u,k b u F q⟩
end
def trk (h:Heap)(H:Hp):List Addr:=(List.range h.objs.size).filter fun a=>(H a).isSome
def Ld (h:Heap)(H:Hp):Heap:=W.hideAll h (trk h H)
theorem A9 (h:Heap)(H:Hp):(Ld h H).objs.size=h.objs.size:=W.hideAll_size _ _
theorem Ea {h:Heap}{H:Hp}{b:Addr}{o:Obj}(e:h.get? b=some o)(n:H b=none):(Ld h H).get? b=some o:=
 W.hideAll_get _ e fun F=>by have q:(H b).isSome=true:=(Mq.mp F).2;rw[n] at q;simp at q
theorem Eb {h:Heap}{H:Hp}{b:Addr}{o:Obj}(e:(Ld h H).get? b=some o):h.get? b=some o/\H b=none:=by
 have F:h.get? b=some o:=W.of_hideAll (trk h H) e;refine⟨F,?_⟩;cases q:H b with
 | none=>rfl
 | some x=>
  have I:b∈trk h H:=Mq.mpr ⟨Ku.mpr (k6 F),by simp[q]⟩;have z:(Ld h H).get? b=none:=W.hideAll_none (trk h H) I;rw[z] at e;cases e
def W5 (g h:Heap)(L:Addr):List (Addr×Obj):=(List.range h.objs.size).filterMap fun a=>if a=L∨(g.get? a).isSome=true then none else(h.get? a).map fun o=>(a,o)
theorem Us {g h:Heap}{L a:Addr}{o:Obj}(h1:a≠L)(h2:g.get? a=none)(F:h.get? a=some o):(a,o)∈W5 g h L:=
 KZ.mpr ⟨a,Ku.mpr (k6 F),by simp[h1,h2,F]⟩
theorem Ec {g h:Heap}{L:Addr}{p:Addr×Obj}(F:p∈W5 g h L):p.1≠L/\g.get? p.1=none/\h.get? p.1=some p.2:=by
 obtain⟨b,_,e⟩:=KZ.mp F;split at e
 ·cases e
 ·rename_i hn
  cases q:h.get? b with
  | none=>rw[q] at e;simp at e
  | some u=>
   rw[q] at e;simp only[qC,Option.some.injEq] at e;subst e;refine⟨fun z=>hn (.inl z),?_,q⟩;show g.get? b=none;cases r:g.get? b with
   | none=>rfl
   | some v=>exact(hn (.inr (by simp[r]))).elim
theorem IU {g h:Heap}{L:Addr}:News g L h (W5 g h L):=fun p F=>let ⟨a,b,c⟩:=Ec F;⟨c,a,b⟩
structure Mod (K:W.Frag)(mg:Str->Option Value)(base:Heap):Prop where
 kin:K.In base
 glob:base.Ns mainGlobals mg
 blt:∃mb,base.Ns builtinsNs mb /\ ∀x:Str,x ≠ "__name__" -> mb x=bootBuiltins x
 nolimit:base.NoLimit
structure Cx where
 prog:Program
 w:World
 K:W.Frag
 mg:Str->Option Value
 base:Heap
 A:Around
 N:List Str
 s₀:Shared
 H₀:Hp
 env:Env
 outer:List Env
 stack:List Env
 ex:List Addr
 fn:Str->Bool
 calm:Bool
 pn:List (Addr×Obj)
 xe:Value->Shared->Prop
def frs (l:List Env):List Addr:=l.filterMap (·.frame)
abbrev Cx.fs (X:Cx):List Addr:=frs X.outer
def Vis (sc:Scope)(x:Str):Prop:=sc.names.lookup x=some .local∨sc.names.lookup x=some .cell∨sc.names.lookup x=some .free
def Loc (sc:Scope)(x:Str):Prop:=sc.names.lookup x=some .local∨sc.names.lookup x=some .cell
def Look (env:Env)(h:Heap)(m:Str->Option Value)(x:Str)(u:Value):Prop:=
 (env.kindOf x=some .local/\m x=some u)∨((env.kindOf x=some .cell∨env.kindOf x=some .free) /\ ∃c,env.cells.lookup x=some c/\h.IsCell c (some u))
structure Cx.Ok (X:Cx):Prop where
 mod:Mod X.K X.mg X.base
 kind:X.env.scope.kind = .function
 glob:X.env.globals=mainGlobals
 blt:X.env.builtins=builtinsNs
 above:X.s₀.heap.objs.size<=X.env.locals
 inj:∀x y c,X.env.cells.lookup x=some c->X.env.cells.lookup y=some c->x=y
 has:∀x,(X.env.kindOf x=some .cell∨X.env.kindOf x=some .free) -> ∃c,X.env.cells.lookup x=some c
 cab:∀x c,X.fn x=true->X.env.cells.lookup x=some c->X.s₀.heap.objs.size<=c
 hd:X.calm=true->X.A.handled=none
 frames:X.A.frames=some X.stack
 stk:X.stack=X.outer∨(X.stack=X.env::X.outer/\X.env.frame=some X.env.locals)
 exf:∀b∈X.ex,b≠X.env.locals /\ ∀x c,X.env.cells.lookup x=some c->c≠b
 bs:∀b o,X.base.get? b=some o->X.s₀.heap.get? b=some o/\X.H₀ b=none
 bsz:X.base.objs.size<=X.s₀.heap.objs.size
 noex:∀b o,X.base.get? b=some o->b∉X.ex
 exfs:∀b∈X.ex,b∉X.fs
 funs:X.s₀.heap.FunFrames X.base X.outer
 frf:∀b∈X.fs,X.H₀ b=none
structure Inv (X:Cx)(pins:List (Addr×Obj))(σ:List (Option V))(H:Hp)(s:Shared):Prop where
 ok:X.Ok
 os:s.os=X.s₀.os
 bare:AllBare s.gens
 base:Un X.fs X.ex X.H₀ H X.s₀.heap s.heap
 loc:∃m,s.heap.Ns X.env.locals m /\ ∀(i:Nat)(x:Str)(v:V),X.N[i]? = some x -> σ[i]? = some (some v)->Vis X.env.scope x -> ∃u,RelV v u/\Look X.env s.heap m x u
 cell:∀x c,X.env.cells.lookup x=some c -> ∃v,s.heap.IsCell c v
 free:H X.env.locals=none
 freeC:∀x c,X.env.cells.lookup x=some c->H c=none
 pin:∀p∈X.pn++pins,s.heap.get? p.1=some p.2/\H p.1=none/\p.1≠X.env.locals/\p.1∉X.fs /\ ∀v,p.2.data ≠ .cell v
 hok:HOk X.prog X.w H s.heap
 len:σ.length=X.N.length
section
variable {X:Cx}{pins:List (Addr×Obj)}{σ:List (Option V)}{H H':Hp}{s:Shared}{h':Heap}
theorem Cx.Ok.nofr (ok:X.Ok){b:Addr}{o:Obj}(e:X.base.get? b=some o):b∉X.fs:=fun hb=>by have:=(ok.funs.mem hb).1;rw[e] at this;cases this
theorem Inv.bs (I:Inv X pins σ H s):∀b o,X.base.get? b=some o->s.heap.get? b=some o/\H b=none:=fun b o e=>
 ⟨I.base.keep b o (I.ok.bs b o e).1 (I.ok.bs b o e).2 (I.ok.nofr e) (I.ok.noex b o e),I.base.free b o (I.ok.bs b o e).1 (I.ok.bs b o e).2 (I.ok.noex b o e)⟩
theorem Inv.bk (I:Inv X pins σ H s):∀b o,X.base.get? b=some o->s.heap.get? b=some o:=fun b o e=>(I.bs b o e).1
theorem Inv.mod (I:Inv X pins σ H s):Mod X.K X.mg X.base:=I.ok.mod
theorem Inv.kIn (I:Inv X pins σ H s):X.K.In s.heap:=I.ok.mod.kin.keeps I.bk
theorem Inv.fr (I:Inv X pins σ H s):∃m,Fr X.base X.env.locals s.heap m:=
 let ⟨m,hn,_⟩:=I.loc
 ⟨m,hn,I.bk,Kb I.ok.bsz I.ok.above⟩
theorem Inv.lt (I:Inv X pins σ H s):X.env.locals<s.heap.objs.size:=let ⟨_,hn,_⟩:=I.loc;hn.lt
theorem Inv.sz (I:Inv X pins σ H s):X.s₀.heap.objs.size<=s.heap.objs.size:=Kb I.ok.above (Kv I.lt)
theorem Inv.nofs (I:Inv X pins σ H s){a:Addr}(h:s.heap.objs.size<=a):a∉X.fs:=fun hb=>by obtain⟨_,o,F,_⟩:=I.ok.funs.mem hb;exact absurd (Kt (k6 F) (Kb I.sz h)) (qy _)
theorem Inv.cne (I:Inv X pins σ H s):∀x c,X.env.cells.lookup x=some c->c≠X.env.locals:=fun x c e z=>by obtain⟨v,o,O,hd⟩:=I.cell x c e;obtain⟨m,⟨o',es,ep,F,J,_⟩,_⟩:=I.loc;rw[z,F] at O;cases O;rw[J] at hd;cases hd
theorem Inv.funs (I:Inv X pins σ H s):s.heap.FunFrames X.base X.outer:=by
 have all:∀(l:List Env),(∀b∈frs l,b∈X.fs)->X.s₀.heap.FunFrames X.base l->s.heap.FunFrames X.base l:=by
  intro l
  induction l with
  | nil=>intro _ _;trivial
  | cons env r ih=>
   intro hs O;obtain⟨hk,⟨L,o,F,S,U,hd⟩,V⟩:=O;have J:L∈X.fs:=hs L (by unfold frs;rw[qf,F];exact kS);obtain⟨sl,e⟩:=I.base.slot L o U (I.ok.frf L J) J fun z=>I.ok.exfs L z J;exact⟨hk,⟨L,_,F,S,e,hd⟩,ih (fun b hb=>hs b (by unfold frs;rw[qf,F];exact kX _ hb)) V⟩
 exact all X.outer (fun _ hb=>hb) I.ok.funs
theorem Inv.stack (I:Inv X pins σ H s):s.heap.FunFrames X.base X.stack:=by
 rcases I.ok.stk with e | ⟨e,F⟩
 ·rw[e];exact I.funs
 ·rw[e];obtain⟨m,J,_⟩:=I.loc;refine .cons (by rw[I.ok.kind];decide) F J ?_ I.funs;exact Heap.get?_none_of_le (Kb I.ok.bsz I.ok.above)
theorem Inv.stkSub (I:Inv X pins σ H s):∀b∈frs X.stack,b∈X.env.locals::X.fs:=fun b hb=>by
 rcases I.ok.stk with e | ⟨e,F⟩
 ·rw[e] at hb;exact kX _ hb
 ·rw[e] at hb;unfold frs at hb;rw[qf,F] at hb;exact hb
theorem Inv.stkFree (I:Inv X pins σ H s):∀b∈frs X.stack,H b=none:=fun b hb=>by
 rcases kQ.mp (I.stkSub b hb) with e | hb
 ·rw[e];exact I.free
 ·obtain⟨_,o,F,_⟩:=I.ok.funs.mem hb;exact I.base.free b o F (I.ok.frf b hb) fun z=>I.ok.exfs b z hb
theorem Inv.step {g':Array GenState}{t':Nat}{d':Drawn}{ch:List Addr}(I:Inv X pins σ H s)
  (J:∀b∈ch,(b∈X.ex∨X.s₀.heap.objs.size<=b)/\b≠X.env.locals/\(∀x c,X.env.cells.lookup x=some c->c≠b) /\ ∀p∈X.pn++pins,p.1≠b)
  (keep:∀b o,b≠X.env.locals->b∉X.fs->b∉ch->s.heap.get? b=some o->H b=none->h'.get? b=some o)
  (slot:∀b o,b≠X.env.locals->b∈X.fs->b∉ch->s.heap.get? b=some o->H b=none -> ∃sl,h'.get? b=some { o with slots:=sl }) (free:∀b o,b∉ch->s.heap.get? b=some o->H b=none->H' b=none)
  (there:∀b o,b∉ch->s.heap.get? b=some o -> ∃o',h'.get? b=some o')
  (tups:∀b xs,H b=some (.tup xs)->H' b=some (.tup xs)) (frzs:∀b o u,H b=some (.frz o u)->H' b=some (.frz o u)) (tbls:∀b ps,H b=some (.tbl ps) -> ∃more,H' b=some (.tbl (ps++more)))
  (ns:∀m,s.heap.Ns X.env.locals m->h'.Ns X.env.locals m) (hok:HOk X.prog X.w H' h') (hg:AllBare g'):
  Inv X pins σ H' { s with heap:=h',gens:=g',drawn:=d',toks:=t' }:=by
 have Y:∀b o,X.s₀.heap.get? b=some o->b≠X.env.locals:=fun b o e=>Kj (Kt (k6 e) I.ok.above);have U:∀b o,X.s₀.heap.get? b=some o->b∉X.ex->b∉ch:=fun b o e F hb=>by
  rcases(J b hb).1 with z | z
  ·exact F z
  ·exact absurd (Kt (k6 e) z) (qy _)
 have O:∀x c,X.env.cells.lookup x=some c -> ∀v,s.heap.IsCell c v->h'.IsCell c v:=fun x c e v ⟨o,W,hd⟩=>by
  have S:c∉ch:=fun z=>(J c z).2.2.1 x c e rfl;by_cases hc:c∈X.fs
  ·obtain⟨sl,q⟩:=slot c o (I.cne x c e) hc S W (I.freeC x c e);exact⟨_,q,hd⟩
  ·exact⟨o,keep c o (I.cne x c e) hc S W (I.freeC x c e),hd⟩
 refine⟨I.ok,I.os,hg,⟨fun b o e n hb F=>?_,fun b o e n hb F=>?_,fun b o e n F=>?_,fun b o e F=>?_,fun b xs e=>tups b xs (I.base.tups b xs e),fun b o xs e=>frzs b o xs (I.base.frzs b o xs e),fun b ps e=>?_⟩,?_,fun x c e=>?_,?_,fun x c e=>?_,fun p hp=>?_,hok,I.len⟩
 ·exact keep b o (Y b o e) hb (U b o e F) (I.base.keep b o e n hb F) (I.base.free b o e n F)
 ·obtain⟨sl,V⟩:=I.base.slot b o e n hb F;obtain⟨iF,Z⟩:=slot b _ (Y b o e) hb (U b o e F) V (I.base.free b o e n F);exact⟨iF,Z⟩
 ·obtain⟨o',V⟩:=I.base.there b o e F;exact free b o' (U b o e F) V (I.base.free b o e n F)
 ·obtain⟨o',V⟩:=I.base.there b o e F;exact there b o' (U b o e F) V
 ·obtain⟨m1,V⟩:=I.base.tbls b ps e;obtain⟨m2,Z⟩:=tbls b _ V;exact⟨m1++m2,by rw[Z,Array.append_assoc]⟩
 ·obtain⟨m,hn,hl⟩:=I.loc;refine⟨m,ns m hn,fun i x v V Z e3=>?_⟩;obtain⟨u,r,l⟩:=hl i x v V Z e3;refine⟨u,r,?_⟩;rcases l with l | ⟨k,c,e,z⟩
  ·exact .inl l
  ·exact .inr ⟨k,c,e,O x c e _ z⟩
 ·obtain⟨v,z⟩:=I.cell x c e;exact⟨v,O x c e v z⟩
 ·obtain⟨m,⟨o,_,_,W,_⟩,_⟩:=I.loc;exact free _ o (fun z=>(J _ z).2.1 rfl) W I.free
 ·obtain⟨v,o,W,hd⟩:=I.cell x c e;exact free c o (fun z=>(J c z).2.2.1 x c e rfl) W (I.freeC x c e)
 ·obtain⟨e,n,ne,nf,d⟩:=I.pin p hp;have S:p.1∉ch:=fun z=>(J p.1 z).2.2.2 p hp rfl;exact⟨keep p.1 p.2 ne nf S e n,free p.1 p.2 S e n,ne,nf,d⟩
theorem Inv.un {t':Nat}(I:Inv X pins σ H s)(u:Un X.fs [] H H' s.heap h')(hok:HOk X.prog X.w H' h'):Inv X pins σ H' { s with heap:=h',toks:=t' }:=by
 obtain⟨m,⟨o,es,ep,S,r⟩,_⟩:=id I.loc;obtain⟨sl,U⟩:=u.any S I.free (by simp);exact I.step (g':=s.gens) (d':=s.drawn) (ch:=[]) (fun _ z=>nomatch z) (fun b o _ hb _ e n=>u.keep b o e n hb (by simp)) (fun b o _ hb _ e n=>u.slot b o e n hb (by simp)) (fun b o _ e n=>u.free b o e n (by simp)) (fun b o _ e=>u.there b o e (by simp)) u.tups u.frzs u.tbls (fun Y V=>by obtain⟨o',J,O,F,W⟩:=V;rw[S] at F;cases F;exact⟨_,J,O,U,W⟩) hok I.bare
theorem Inv.call {g':Array GenState}{t':Nat}{d':Drawn}{ch:List Addr}(I:Inv X pins σ H s)(u:Un (frs X.stack) ch H H' s.heap h')(hok:HOk X.prog X.w H' h')(hg:AllBare g')
  (J:∀b∈ch,(b∈X.ex∨X.s₀.heap.objs.size<=b)/\b≠X.env.locals/\(∀x c,X.env.cells.lookup x=some c->c≠b) /\ ∀p∈X.pn++pins,p.1≠b):
  Inv X pins σ H' { s with heap:=h',gens:=g',drawn:=d',toks:=t' }:=by
 obtain⟨m,⟨o,es,ep,W,r⟩,_⟩:=id I.loc;obtain⟨sl,S⟩:=u.any W I.free fun z=>(J _ z).2.1 rfl;exact I.step (ch:=ch) J (fun b o S hb F e n=>u.keep b o e n (fun z=>(kQ.mp (I.stkSub b z)).elim S hb) F) (fun b o _ _ F e n=>u.any e n F) (fun b o F e n=>u.free b o e n F) (fun b o F e=>u.there b o e F) u.tups u.frzs u.tbls (fun m' Y=>by obtain⟨o',U,V,O,Z⟩:=Y;rw[W] at O;cases O;exact⟨_,U,V,S,Z⟩) hok hg
theorem Inv.turned {t':Nat}{it:Addr}(I:Inv X pins σ H s)(k:∀b o,b≠it->s.heap.get? b=some o->h'.get? b=some o)(S:H it=none)(O:it≠X.env.locals)
  (h1:it∈X.ex∨X.s₀.heap.objs.size<=it) (h2:∀x c,X.env.cells.lookup x=some c->c≠it) (U:∀p∈X.pn++pins,p.1≠it):Inv X pins σ H { s with heap:=h',toks:=t' }:=by
 have J:∀b u,H b=some u->b≠it:=fun b u e z=>by rw[z,S] at e;cases e
 refine I.step (g':=s.gens) (d':=s.drawn) (ch:=[it]) (fun b hb=>?_) (fun b o _ _ F e _=>k b o (fun z=>F (by simp[z])) e) (fun b o _ _ F e _=>⟨o.slots,k b o (fun z=>F (by simp[z])) e⟩) (fun _ _ _ _ n=>n)
  (fun b o F e=>⟨o,k b o (fun z=>F (by simp[z])) e⟩) (fun _ _ e=>e) (fun _ _ _ e=>e) (fun b ps e=>⟨#[],by rw[e];simp⟩) (fun m V=>?_) (fun b u e=>?_) I.bare
 ·have e:b=it:=by simpa using hb
  subst e;exact⟨h1,O,h2,U⟩
 ·obtain⟨o,es,ep,W,r⟩:=V;exact⟨o,es,ep,k _ o (KA O) W,r⟩
 ·refine(I.hok b u e).stay (fun c v F q=>k c v ?_ q) (fun _ q=>q) fun _ _ q=>q;rcases F with z | z
  ·rw[z];exact J b u e
  ·exact J c _ z
theorem Inv.tok (I:Inv X pins σ H s)(t:Nat):Inv X pins σ H { s with toks:=t }:=I.un (h':=s.heap) (t':=t) Un.refl I.hok
theorem Inv.kept {t':Nat}(I:Inv X pins σ H s)(k:∀b u,s.heap.get? b=some u->h'.get? b=some u):Inv X pins σ H { s with heap:=h',toks:=t' }:=I.un (Un.kept k) (I.hok.kept k)
theorem Inv.laid {a:Addr}{o:HO}{t':Nat}(I:Inv X pins σ H s)(k:∀b u,s.heap.get? b=some u->h'.get? b=some u)(F:s.heap.objs.size<=a)(new:Yy X.prog X.w (upd H a o) h' a o):
  Inv X pins σ (upd H a o) { s with heap:=h',toks:=t' }:=I.un (Un.laid k F (I.hok.fresh F)) (I.hok.laid k F new)
theorem Inv.write {x e:Addr}{o:HO}{t':Nat}(I:Inv X pins σ H s)(J:Mut (H x))(O:e=x∨H e=some (.own x))(k:∀b u,b≠e->s.heap.get? b=some u->h'.get? b=some u)(F:∃u,h'.get? e=some u)
  (new:Yy X.prog X.w (upd H x o) h' x o):Inv X pins σ (upd H x o) { s with heap:=h',toks:=t' }:=I.un (Un.write J O k F) (I.hok.write J O k F new)
theorem Inv.weak {aD:List (Option V)}(I:Inv X pins σ H s)(F:aD.length = σ.length)(w:∀(i:Nat) v,aD[i]? = some (some v) -> σ[i]? = some (some v)):Inv X pins aD H s:=
 ⟨I.ok,I.os,I.bare,I.base,let ⟨m,hn,bv⟩:=I.loc;⟨m,hn,fun i x v J O S=>bv i x v J (w i v O) S⟩,I.cell,I.free,I.freeC,I.pin,I.hok,F.trans I.len⟩
theorem Inv.pins_of {pins':List (Addr×Obj)}(I:Inv X pins σ H s)(h:∀p∈pins',s.heap.get? p.1=some p.2/\H p.1=none/\p.1≠X.env.locals/\p.1∉X.fs /\ ∀v,p.2.data ≠ .cell v):Inv X pins' σ H s:=
 ⟨I.ok,I.os,I.bare,I.base,I.loc,I.cell,I.free,I.freeC,fun p F=>(Kg.mp F).elim (fun z=>I.pin p (K9 _ z)) (h p),I.hok,I.len⟩
theorem Rr {N:List Str}(F:N.Nodup){i j:Nat}{x:Str}(a:N[i]? = some x)(b:N[j]? = some x):i=j:=by obtain⟨h1,I⟩:=kC.mp a;obtain⟨h2,J⟩:=kC.mp b;exact(List.getElem_inj F).mp (I.trans J.symm)
theorem Rt {M:Model}{A:Around}{E:Value->Shared->Prop}{i:Nat}{x:Str}{v:V}{u:Value}{Q:Unit->Shared->Prop}(I:Inv X pins σ H s)(hN:X.N.Nodup)(hi:X.N[i]? = some x)(S:Loc X.env.scope x)(r:RelV v u)
  (h:∀s',Inv X pins (σ.set i (some v)) H s'->(∃a,Heap.SameBut a s.heap s'.heap/\(a=X.env.locals∨X.env.cells.lookup x=some a))->Q () s') (hf:X.fn x=true∨X.env.scope.names.lookup x=some .local:=by first | exact .inl rfl | exact .inr rfl | assumption):wpAny M A (storeName X.env x u) Q E s:=by
 obtain⟨m,hn,hl⟩:=id I.loc;have bx:(X.env.scope.kind == .class||(X.env.scope.kind == .module&&X.env.locals != X.env.globals))=false:=by rw[I.ok.kind];rfl
 have Y:i < σ.length:=by rw[I.len];exact(kC.mp hi).1
 have cne:=I.cne;have F:∀{a:Addr}{h':Heap},(∃o,s.heap.get? a=some o/\H a=none)->Heap.SameBut a s.heap h'->HOk X.prog X.w H h':=fun {a h'} ha hs b ob e=>by
  obtain⟨_,_,U⟩:=ha;refine(I.hok b ob e).stay (fun c w' O q=>(hs.2 c ?_).trans q) (fun _ q=>q) fun _ _ q=>q;rintro rfl;rcases O with rfl | O
  ·rw[U] at e;cases e
  ·rw[U] at O;cases O
 rcases S with hk | hk
 ·refine wpAny_storeName_local hk hn (fun h' bz hs=>?_) bx;obtain⟨oL,_,_,su,_⟩:=id hn;refine h _ ⟨I.ok,I.os,I.bare,⟨fun b o e n hb S=>?_,fun b o e n hb S=>?_,I.base.free,fun b o e S=>?_,I.base.tups,I.base.frzs,I.base.tbls⟩,⟨_,bz,fun j y v' J W e3=>?_⟩,fun y c e=>?_,I.free,I.freeC,fun p hp=>?_,F ⟨oL,su,I.free⟩ hs,by simpa using I.len⟩ ⟨_,hs,.inl rfl⟩
  ·exact(hs.2 b (Kj (Kt (k6 e) I.ok.above))).trans (I.base.keep b o e n hb S)
  ·obtain⟨sl,J⟩:=I.base.slot b o e n hb S;exact⟨sl,(hs.2 b (Kj (Kt (k6 e) I.ok.above))).trans J⟩
  ·obtain⟨o',J⟩:=I.base.there b o e S;exact⟨o',(hs.2 b (Kj (Kt (k6 e) I.ok.above))).trans J⟩
  ·by_cases Z:j=i
   ·subst Z;rw[hi] at J;cases J;rw[N8 Y] at W;cases W;exact⟨u,r,.inl ⟨hk,by simp⟩⟩
   ·rw[MB (KA Z)] at W;obtain⟨u',r',q⟩:=hl j y v' J W e3;refine⟨u',r',?_⟩;rcases q with⟨k,e⟩ | ⟨k,c,e,z⟩
    ·refine .inl ⟨k,?_⟩;have:y≠x:=fun e=>Z (Rr hN J (e ▸ hi));simp[this,e]
    ·exact .inr ⟨k,c,e,z.sameBut hs (cne y c e)⟩
  ·obtain⟨w',z⟩:=I.cell y c e;exact⟨w',z.sameBut hs (cne y c e)⟩
  ·obtain⟨e,n,ne,nf,d⟩:=I.pin p hp;exact⟨(hs.2 p.1 ne).trans e,n,ne,nf,d⟩
 ·have iG:X.fn x=true:=by
   rcases hf with z | z
   ·exact z
   ·rw[z] at hk;cases hk
  obtain⟨c,O⟩:=I.ok.has x (.inl hk);obtain⟨w',z⟩:=I.cell x c O;refine wpAny_storeName_cell I.ok.kind hk O z (fun h' m9 hs=>?_);obtain⟨oc,ma,iH⟩:=id z;refine h { s with heap:=h' } ⟨I.ok,I.os,I.bare,⟨fun b o e n hb S=>?_,fun b o e n hb S=>?_,I.base.free,fun b o e S=>?_,I.base.tups,I.base.frzs,I.base.tbls⟩,⟨m,hn.sameBut hs (KA (cne x c O)),fun j y v' J W e3=>?_⟩,fun y c' e=>?_,I.free,I.freeC,fun p hp=>?_,F ⟨oc,ma,I.freeC x c O⟩ hs,by simpa using I.len⟩ ⟨c,hs,.inr O⟩
  ·exact(hs.2 b (Kj (Kt (k6 e) (I.ok.cab x c iG O)))).trans (I.base.keep b o e n hb S)
  ·obtain⟨sl,J⟩:=I.base.slot b o e n hb S;exact⟨sl,(hs.2 b (Kj (Kt (k6 e) (I.ok.cab x c iG O)))).trans J⟩
  ·obtain⟨o',J⟩:=I.base.there b o e S;exact⟨o',(hs.2 b (Kj (Kt (k6 e) (I.ok.cab x c iG O)))).trans J⟩
  ·by_cases Z:j=i
   ·subst Z;rw[hi] at J;cases J;rw[N8 Y] at W;cases W;exact⟨u,r,.inr ⟨.inl hk,c,O,m9⟩⟩
   ·rw[MB (KA Z)] at W;obtain⟨u',r',q⟩:=hl j y v' J W e3;refine⟨u',r',?_⟩;rcases q with q | ⟨k,c',e,z'⟩
    ·exact .inl q
    ·refine .inr ⟨k,c',e,z'.sameBut hs ?_⟩;rintro rfl;exact Z (Rr hN J (I.ok.inj _ _ _ e O ▸ hi))
  ·by_cases md:c'=c
   ·subst md;exact⟨_,m9⟩
   ·obtain⟨w2,z2⟩:=I.cell y c' e;exact⟨w2,z2.sameBut hs md⟩
  ·obtain⟨e,n,ne,nf,d⟩:=I.pin p hp;refine⟨(hs.2 p.1 ?_).trans e,n,ne,nf,d⟩;intro q;rw[q,ma] at e;have q':oc=p.2:=k9 e;exact d w' (by rw[<- q'];exact iH)
theorem UU {M:Model}{A:Around}{E:Value->Shared->Prop}{i:Nat}{x:Str}{v:V}{u:Value}{Q:Unit->Shared->Prop}(I:Inv X pins σ H s)(F:X.N.Nodup)(hi:X.N[i]? = some x)(J:Loc X.env.scope x)(r:RelV v u)
  (h:∀s',Inv X pins (σ.set i (some v)) H s'->Q () s') (O:X.fn x=true∨X.env.scope.names.lookup x=some .local:=by first | exact .inl rfl | exact .inr rfl | assumption):wpAny M A (storeName X.env x u) Q E s:=
 Rt I F hi J r (fun s' I' _=>h s' I') O
theorem Inv.call' {s':Shared}{ch:List Addr}(I:Inv X pins σ H s)(J:s'.os=s.os)(u:Un (frs X.stack) ch H H' s.heap s'.heap)(hok:HOk X.prog X.w H' s'.heap)(hg:AllBare s'.gens)
  (F:∀b∈ch,(b∈X.ex∨X.s₀.heap.objs.size<=b)/\b≠X.env.locals/\(∀x c,X.env.cells.lookup x=some c->c≠b) /\ ∀p∈X.pn++pins,p.1≠b):Inv X pins σ H' s':=by
 obtain⟨h',g',d',t',o'⟩:=s';have e:o'=s.os:=J;subst e;exact I.call (g':=g') (t':=t') (d':=d') u hok hg F
end
abbrev XK:=Value->Option Addr->Hp->Prop
abbrev St:=List (Option V)
abbrev VK:=V->Hp->Prop
abbrev _root_.QA:=List (List Int)
abbrev _root_.QB:=List (Str×Int)
abbrev _root_.QC:=List (Addr×Obj)
abbrev _root_.QD:=List (Key×V)
abbrev _root_.QE:=Value->Shared->Prop
abbrev _root_.QF:=W.Frag
abbrev _root_.QG:=List Int
abbrev _root_.QH:=List V
abbrev _root_.QI:=Option V
abbrev _root_.QJ:=List Value
abbrev _root_.QK:=List Env
abbrev _root_.QL:=List (Int×Int)
abbrev _root_.QN:=Str->Option Value
abbrev _root_.QP:=List Str
abbrev _root_.QS:=Array Keyed
abbrev _root_.QT:=St->Hp->Prop
abbrev _root_.QV:=List Expr
abbrev _root_.QW:=Option Int
abbrev _root_.QX:=Int->Int
abbrev _root_.QY:=Array Value
abbrev TE:=St->Hp->VK->Prop
abbrev TT:=St->Hp->(Bool->Hp->Prop)->Prop
abbrev TA:=St->Hp->(List V->Hp->Prop)->Prop
structure Ends where
 nx:QT
 rt:VK
 bk:QT:=fun _ _=>False
 ct:QT:=fun _ _=>False
abbrev TS:=Ends->St->Hp->Prop
inductive EP (X:Cx)(pins:QC)(σ:St)(Q:VK)(u:Value)(s':Shared):Prop | mk (v:V) (H':Hp) (I:Inv X pins σ H' s') (r:RelV v u) (q:Q v H')
inductive TP (X:Cx)(pins:QC)(σ:St)(Q:Bool->Hp->Prop)(b:Bool)(s':Shared):Prop | mk (H':Hp) (I:Inv X pins σ H' s') (q:Q b H')
inductive AP (X:Cx)(pins:QC)(σ:St)(Q:List V->Hp->Prop)(us:QJ)(s':Shared):Prop | mk (vs:QH) (H':Hp) (I:Inv X pins σ H' s') (r:Vals vs us) (q:Q vs H')
def SP (X:Cx)(pins:QC)(D:Ends)(f:Flow)(s':Shared):Prop:=
 match f with
 | .next=>∃ aD H',Inv X pins aD H' s'/\D.nx aD H'
 | .brk=>∃ aD H',Inv X pins aD H' s'/\D.bk aD H'
 | .cont=>∃ aD H',Inv X pins aD H' s'/\D.ct aD H'
 | .ret u=>∃v aD H',Inv X pins aD H' s'/\RelV v u/\D.rt v H'
def PE (X:Cx)(e:Expr)(t:TE):Prop:=
 ∀(pins:QC)(s:Shared)(σ:St)(H:Hp)(Q:VK),Inv X pins σ H s->t σ H Q->wpAny (model X.prog X.w) X.A (eval e X.env) (EP X pins σ Q) X.xe s
def PT (X:Cx)(e:Expr)(t:TT):Prop:=
 ∀(pins:QC)(s:Shared)(σ:St)(H:Hp)(Q:Bool->Hp->Prop),Inv X pins σ H s->t σ H Q->wpAny (model X.prog X.w) X.A (isTrue e X.env (eval e X.env)) (TP X pins σ Q) X.xe s
def PW (X:Cx)(e:Expr)(t:TT):Prop:=
 ∀(dY:Sem Value)(pins:QC)(s:Shared)(σ:St)(H:Hp)(Q:Bool->Hp->Prop),Inv X pins σ H s->t σ H Q->wpAny (model X.prog X.w) X.A (isTrue e X.env dY) (TP X pins σ Q) X.xe s
theorem PW.pt {X:Cx}{e:Expr}{t:TT}(h:PW X e t):PT X e t:=h _
def PA (X:Cx)(es:QV)(t:TA):Prop:=
 ∀(pos:Pos)(pins:QC)(s:Shared)(σ:St)(H:Hp)(Q:List V->Hp->Prop),Inv X pins σ H s->t σ H Q->wpAny (model X.prog X.w) X.A (spliced (backTo pos (starEach es X.env))) (AP X pins σ Q) X.xe s
def PS (X:Cx)(st:Stmt)(t:TS):Prop:=
 ∀(pins:QC)(s:Shared)(σ:St)(H:Hp)(D:Ends),Inv X pins σ H s->t D σ H->wpAny (model X.prog X.w) X.A (exec st X.env) (SP X pins D) X.xe s
def PSs (X:Cx)(st:List Stmt)(t:TS):Prop:=
 ∀(pins:QC)(s:Shared)(σ:St)(H:Hp)(D:Ends),Inv X pins σ H s->t D σ H->wpAny (model X.prog X.w) X.A (execs st X.env) (SP X pins D) X.xe s
theorem YM {α:Type}{t:Sem α}{Q Q':α -> Shared->Prop}{M:Model}{A:Around}{E:QE}{s:Shared}(h:wpAny M A t Q E s)(F:∀a s,Q a s->Q' a s):wpAny M A t Q' E s:=KD h F fun _ _ x=>x
section
variable {X:Cx}
inductive ME(i:Nat)(σ:St)(H:Hp)(Q:VK):Prop|mk(v:_)(_:σ[i]? = some (some v))(_:Q v H)
def tC (v:V):TE:=fun _ H Q=>Q v H
theorem Ed {i:Nat}{x:Str}{pos:Pos}(S:X.N[i]? = some x)(U:Vis X.env.scope x)(hd:(x==("__debug__" : Str))=false:=by decide)(J:(x==("__classdict__" : Str))=false:=by decide):PE X (.Name x pos) (ME i):=by
 intro pins s σ H Q I h;obtain⟨v,e,h⟩:=h;obtain⟨m,V,W⟩:=I.loc;obtain⟨u,r,l⟩:=W i x v S e U;have fin:EP X pins σ Q u s:=⟨v,H,I,r,h⟩;rcases l with⟨hk,Y⟩ | ⟨hk,c,O,F⟩
 ·exact wpAny_Name (wpAny_loadName_local I.ok.kind hk V Y fin) hd
 ·rcases hk with hk | hk
  ·exact wpAny_Name (wpAny_loadName_cell I.ok.kind hk O F fin) hd
  ·exact wpAny_Name (wpAny_loadName_free I.ok.kind hk O F fin J) hd
theorem Ze {i j pos}:PE X (.Constant (.int i) j pos) (tC (.int i)):=fun _ _ _ H _ I h=>wpAny_Constant_int ⟨.int i,H,I.tok _,⟨_,rfl⟩,h⟩
theorem Wf {b j pos}:PE X (.Constant (.bool b) j pos) (tC (.bl b)):=fun _ _ _ H _ I h=>Constant_bool ⟨.bl b,H,I,rfl,h⟩
theorem Jx {j pos}:PE X (.Constant .none j pos) (tC .non):=fun _ _ _ H _ I h=>Constant_none ⟨.non,H,I,rfl,h⟩
theorem ZJ {x j pos}:PE X (.Constant (.str x) j pos) (tC (.str x)):=fun _ _ _ H _ I h=>Calls.Constant_str ⟨.str x,H,I.tok _,⟨_,rfl⟩,h⟩
def Gl (X:Cx)(x:Str):Prop:=X.env.kindOf x=some .globalImplicit
theorem DI {E:QE}{pins:QC}{s:Shared}{σ:St}{H:Hp}{x:Str}{u:Value}{pos:Pos}{Q:QE}(I:Inv X pins σ H s)(hg:Gl X x)(F:X.mg x=some u)(h:Q u s)
  (hd:(x==("__debug__" : Str))=false:=by decide):wpAny (model X.prog X.w) X.A (eval (.Name x pos) X.env) Q E s:=
 Na I.ok.kind hg (Calls.loadGlobal_global (by rw[I.ok.glob];exact I.mod.glob.keeps I.bk) F h) hd
theorem UJ {E:QE}{pins:QC}{s:Shared}{σ:St}{H:Hp}{x:Str}{u:Value}{pos:Pos}{Q:QE}(I:Inv X pins σ H s)(hg:Gl X x)(F:X.mg x=none)(J:bootBuiltins x=some u)(h:Q u s)
  (O:x ≠ "__name__" := by decide) (hd:(x==("__debug__" : Str))=false:=by decide):wpAny (model X.prog X.w) X.A (eval (.Name x pos) X.env) Q E s:=by
 obtain⟨S,h1,h2⟩:=I.mod.blt;exact Na I.ok.kind hg (Calls.loadGlobal_builtin (by rw[I.ok.glob];exact I.mod.glob.keeps I.bk) F (by rw[I.ok.blt];exact h1.keeps I.bk) ((h2 x O).trans J) h) hd
theorem W4 {x:Str}{v:V}{u:Value}{pos:Pos}(hg:Gl X x)(F:X.mg x=some u)(r:RelV v u)(hd:(x==("__debug__" : Str))=false:=by decide):PE X (.Name x pos) (tC v):=
 fun _ _ _ H _ I h=>DI I hg F ⟨v,H,I,r,h⟩ hd
theorem Uq {x:Str}{v:V}{u:Value}{pos:Pos}(hg:Gl X x)(F:X.mg x=none)(J:bootBuiltins x=some u)(r:RelV v u)(O:x ≠ "__name__" := by decide)(hd:(x==("__debug__" : Str))=false:=by decide):PE X (.Name x pos) (tC v):=
 fun _ _ _ H _ I h=>UJ I hg F J ⟨v,H,I,r,h⟩ O hd
variable {a b:Expr}{ta tb:TE}{pos:Pos}
def PC (X:Cx)(op:CmpOp)(a b:Expr)(t:TE):Prop:=
 ∀(pins:QC)(s:Shared)(σ:St)(H:Hp)(Q:VK),Inv X pins σ H s->t σ H Q ->
  wpAny (model X.prog X.w) X.A (eval a X.env) (fun v aC=>wpAny (model X.prog X.w) X.A (eval b X.env) (fun u iI=>wpAny (model X.prog X.w) X.A (compareOp op v u) (EP X pins σ Q) X.xe iI) X.xe aC) X.xe s
inductive isB (x:V)(H:Hp)(Q:Bool->Hp->Prop):Prop | mk (c:Bool) (e:x = .bl c) (q:Q c H)
def tB (t:TE):TT:=fun σ H Q=>t σ H fun x H1=>isB x H1 Q
theorem Cu {op:CmpOp}{t:TE}(h:PC X op a b t)(h1:behindInMarks op b=false:=by first | exact nobehind _ (by decide) (by decide) | rfl):PT X (.Compare a [op] [b] pos) (tB t):=by intro pins s σ H Q I hw;refine wpAny_isTrue_Compare1 (YM (h pins s σ H _ I hw) fun v O h1=>YM h1 fun u S h2=>YM h2 fun c U ⟨x,H1,I1,F,J⟩=>?_) h1;obtain⟨d,rfl,q⟩:=J;cases F;exact KW ⟨H1,I1,q⟩
theorem JC {e:Expr}{t:TE}(h:PE X e t)(J:∀F,isTrue e X.env F=(do let v <- F;standAt e.pos;holding [v] (truthy v)):=by intro _;rfl):PT X e (tB t):=by intro pins s σ H Q I hw;refine isTrue_plain (YM (h pins s σ H _ I hw) fun v U ⟨x,H1,I1,O,S⟩=>?_) (J _);obtain⟨d,rfl,q⟩:=S;cases O;exact KW ⟨H1,I1,q⟩
variable {tA fy:TT}{rest:QV}
def Ru (t u:TT):TT:=fun σ H Q=>t σ H fun c H1=>if c=true then u σ H1 Q else Q false H1
def tOr (t u:TT):TT:=fun σ H Q=>t σ H fun c H1=>if c=true then Q true H1 else u σ H1 Q
def Ee (t:TT):TT:=fun σ H Q=>t σ H fun c H1=>Q (!c) H1
theorem LR (ha:PT X a tA):PW X (.BoolOp .And [a] pos) tA:=by
 intro F pins s σ H Q I h;refine isTrue_and (YM (ha pins s σ H Q I h) fun c J e=>?_);cases c with
 | true=>exact isTrue_and_nil e
 | false=>exact e
theorem LS (ha:PT X a tA):PW X (.BoolOp .Or [a] pos) tA:=by
 intro F pins s σ H Q I h;refine isTrue_or (YM (ha pins s σ H Q I h) fun c J e=>?_);cases c with
 | false=>exact isTrue_or_nil e
 | true=>exact e
theorem UE (ha:PT X a tA)(hb:PW X (.BoolOp .And (b::rest) pos) fy):PW X (.BoolOp .And (a::b::rest) pos) (Ru tA fy):=by
 intro J pins s σ H Q I h;refine isTrue_and (YM (ha pins s σ H _ I h) fun c O ⟨H1,I1,F⟩=>?_);cases c with
 | true=>exact hb J pins O σ H1 Q I1 F
 | false=>exact⟨H1,I1,F⟩
theorem MX (ha:PT X a tA)(hb:PW X (.BoolOp .Or (b::rest) pos) fy):PW X (.BoolOp .Or (a::b::rest) pos) (tOr tA fy):=by
 intro J pins s σ H Q I h;refine isTrue_or (YM (ha pins s σ H _ I h) fun c O ⟨H1,I1,F⟩=>?_);cases c with
 | true=>exact⟨H1,I1,F⟩
 | false=>exact hb J pins O σ H1 Q I1 F
theorem J4 (ha:PT X a tA):PT X (.UnaryOp .Not a pos) (Ee tA):=by intro pins s σ H Q I h;exact isTrue_not (YM (ha pins s σ H (fun c H1=>Q (!c) H1) I h) fun c J ⟨H1,I1,F⟩=>⟨H1,I1,F⟩)
def Ef (ta tb:TE):TE:=fun σ H Q=>ta σ H fun x H1=>isB x H1 fun c H2=>if c=true then tb σ H2 Q else Q (.bl false) H2
def Eg (ta tb:TE):TE:=fun σ H Q=>ta σ H fun x H1=>isB x H1 fun c H2=>if c=true then Q (.bl true) H2 else tb σ H2 Q
def Eh (ta:TE):TE:=fun σ H Q=>ta σ H fun x H1=>isB x H1 fun c H2=>Q (.bl (!c)) H2
theorem Lf {op}{t:TE} (h:PE X a t):PE X (.BoolOp op [a] pos) t:=fun pins s σ H Q I hw=>BoolOp_one (h pins s σ H Q I hw)
theorem LU (ha:PE X a ta)(hb:PE X (.BoolOp .And (b::rest) pos) tb):PE X (.BoolOp .And (a::b::rest) pos) (Ef ta tb):=by
 intro pins s σ H Q I h;refine BoolOp_and (YM (ha pins s σ H _ I h) fun v J ⟨x,H1,I1,O,F⟩=>?_);obtain⟨c,rfl,F⟩:=F;cases O;refine KW ?_;cases c with
 | true=>exact hb pins J σ H1 Q I1 F
 | false=>exact⟨.bl false,H1,I1,rfl,F⟩
theorem Cv (ha:PE X a ta)(hb:PE X (.BoolOp .Or (b::rest) pos) tb):PE X (.BoolOp .Or (a::b::rest) pos) (Eg ta tb):=by
 intro pins s σ H Q I h;refine BoolOp_or (YM (ha pins s σ H _ I h) fun v J ⟨x,H1,I1,O,F⟩=>?_);obtain⟨c,rfl,F⟩:=F;cases O;refine KW ?_;cases c with
 | false=>exact hb pins J σ H1 Q I1 F
 | true=>exact⟨.bl true,H1,I1,rfl,F⟩
theorem Rv (ha:PE X a ta):PE X (.UnaryOp .Not a pos) (Eh ta):=by intro pins s σ H Q I h;refine UnaryOp_ (YM (ha pins s σ H _ I h) fun v O ⟨x,H1,I1,J,F⟩=>?_);obtain⟨c,rfl,F⟩:=F;cases J;exact not_of (KW ⟨.bl (!c),H1,I1,rfl,F⟩)
def tIf (t:TT)(ta tb:TE):TE:=fun σ H Q=>t σ H fun c H1=>if c=true then ta σ H1 Q else tb σ H1 Q
theorem Cw {c:Expr}(O:PT X c tA)(ha:PE X a ta)(hb:PE X b tb):PE X (.IfExp c a b pos) (tIf tA ta tb):=by
 intro pins s σ H Q I h;refine wpAny_IfExp (YM (O pins s σ H _ I h) fun d F ⟨H1,I1,J⟩=>?_);cases d with
 | true=>exact ha pins F σ H1 Q I1 J
 | false=>exact hb pins F σ H1 Q I1 J
end
def Zr (K:QF)(H:Hp)(a:Addr)(xs:QH):Prop:=
 Rd H a (.lst xs) ∨
  ∃(o:Obj)(its:QY)(n:Nat),K.lookup a=some o/\o.cls = .type "list" /\ o.dict=none/\o.data = .seq its n/\its.size<=sizeLine/\Vals xs its.toList
def Y9 (K:QF)(H:Hp)(a:Addr)(xs:QH):Prop:=
 Rd H a (.tup xs) ∨
  ∃(o:Obj)(its:QY)(n:Nat),K.lookup a=some o/\o.cls = .type "tuple" /\ o.data = .seq its n/\its.size<=sizeLine/\Vals xs its.toList
def Ei:Value->Option V
 | .none=>some .non
 | .bool b=>some (.bl b)
 | .int i _=>some (.int i)
 | .str x _=>some (.str x)
 | .bytes b _=>some (.byt b)
 | .float b _=>some (.flt b)
 | .ref a=>some (.ref a)
 | .type n=>some (.ty n)
 | _=>none
theorem RelV.abs {x:V}{u:Value}(r:RelV x u):Ei u=some x:=by
 cases x with
 | non=>cases r;rfl
 | bl _=>cases r;rfl
 | int _=>obtain⟨t,rfl⟩:=r;rfl
 | str _=>obtain⟨t,rfl⟩:=r;rfl
 | byt _=>obtain⟨t,rfl⟩:=r;rfl
 | flt _=>obtain⟨t,rfl⟩:=r;rfl
 | ref _=>cases r;rfl
 | ty _=>cases r;rfl
theorem RelV.inj {x y:V}{u:Value}(r:RelV x u)(q:RelV y u):x=y:=k9 (r.abs.symm.trans q.abs)
theorem Vals.inj:∀{xs ys:QH}{us:QJ},Vals xs us->Vals ys us->xs=ys
 | _,_,_,.nil,.nil=>rfl
 | _,_,_,.cons r t,.cons r' t'=>by rw[r.inj r',Vals.inj t t']
section
variable {X:Cx}{pins:QC}{σ:St}{H:Hp}{s:Shared}{a:Addr}{xs ys:QH}
theorem Zr.of {K:QF}(h:H a=some (.lst xs)):Zr K H a xs:=.inl (.inl h)
theorem Y9.of {K:QF}(h:H a=some (.tup xs)):Y9 K H a xs:=.inl (.inl h)
theorem Inv.list (I:Inv X pins σ H s)(h:Zr X.K H a xs):∃its:QJ,Vals xs its/\PlainL s.heap a its.toArray/\xs.length<=sizeLine:=by
 rcases h with h | ⟨o,its,n,hk,F,hd,hs,hz,r⟩
 ·obtain⟨z,its,n,r,e⟩:=h.ok I.hok;exact⟨its,r,⟨_,n,e,rfl,rfl,rfl⟩,z⟩
 ·refine⟨its.toList,r,⟨o,n,I.kIn a o hk,F,hd,by simpa using hs⟩,?_⟩;have e:=r.length;simp only[kZ] at e;lia
theorem Inv.tuple (I:Inv X pins σ H s)(h:Y9 X.K H a xs):∃its:QJ,Vals xs its/\IsTup s.heap a its.toArray/\xs.length<=sizeLine:=by
 rcases h with h | ⟨o,its,n,hk,F,hs,hz,r⟩
 ·obtain⟨z,its,r,p⟩:=h.ok I.hok;exact⟨its,r,p,z⟩
 ·refine⟨its.toList,r,⟨o,I.kIn a o hk,F,n,by simpa using hs⟩,?_⟩;have e:=r.length;simp only[kZ] at e;lia
theorem Inv.list_inj (I:Inv X pins σ H s)(h:Zr X.K H a xs)(h':Zr X.K H a ys):xs=ys:=by
 obtain⟨its,r,⟨o,n,e,_,_,d⟩,_⟩:=I.list h;obtain⟨its',J,⟨o',S,F,_,_,d'⟩,_⟩:=I.list h';rw[e] at F;cases F;rw[d] at d';injection d' with O _
 have:its=its':=by simpa using Kx Array.toList O
 subst this;exact r.inj J
theorem Inv.tuple_inj (I:Inv X pins σ H s)(h:Y9 X.K H a xs)(h':Y9 X.K H a ys):xs=ys:=by
 obtain⟨its,r,⟨o,e,_,n,d⟩,_⟩:=I.tuple h;obtain⟨its',J,⟨o',F,_,S,d'⟩,_⟩:=I.tuple h';rw[e] at F;cases F;rw[d] at d';injection d' with O _
 have:its=its':=by simpa using Kx Array.toList O
 subst this;exact r.inj J
end
abbrev Cx.wish (X:Cx)(E:QE):Cx:={ X with xe:=E }
abbrev Cx.nox (X:Cx):Cx:=X.wish fun _ _=>False
theorem Cx.Ok.wish {X:Cx}(ok:X.Ok)(E:QE):(X.wish E).Ok:=
 ⟨ok.mod,ok.kind,ok.glob,ok.blt,ok.above,ok.inj,ok.has,ok.cab,ok.hd,ok.frames,ok.stk,ok.exf,ok.bs,ok.bsz,ok.noex,ok.exfs,ok.funs,ok.frf⟩
theorem Cx.Ok.unwish {X:Cx}{E:QE}(ok:(X.wish E).Ok):X.Ok:=
 ⟨ok.mod,ok.kind,ok.glob,ok.blt,ok.above,ok.inj,ok.has,ok.cab,ok.hd,ok.frames,ok.stk,ok.exf,ok.bs,ok.bsz,ok.noex,ok.exfs,ok.funs,ok.frf⟩
section
variable {X:Cx}{pins:QC}{σ:St}{H:Hp}{s:Shared}{E:QE}
theorem Inv.wish (I:Inv X pins σ H s)(E:QE):Inv (X.wish E) pins σ H s:=⟨I.ok.wish E,I.os,I.bare,I.base,I.loc,I.cell,I.free,I.freeC,I.pin,I.hok,I.len⟩
theorem Inv.unwish (I:Inv (X.wish E) pins σ H s):Inv X pins σ H s:=⟨I.ok.unwish,I.os,I.bare,I.base,I.loc,I.cell,I.free,I.freeC,I.pin,I.hok,I.len⟩
theorem SP.unwish {D:Ends}{f:Flow}{s':Shared}(h:SP (X.wish E) pins D f s'):SP X pins D f s':=by
 cases f with
 | next=>obtain⟨F,H',I,q⟩:=h;exact⟨F,H',I.unwish,q⟩
 | brk=>obtain⟨F,H',I,q⟩:=h;exact⟨F,H',I.unwish,q⟩
 | cont=>obtain⟨F,H',I,q⟩:=h;exact⟨F,H',I.unwish,q⟩
 | ret u=>obtain⟨v,F,H',I,r,q⟩:=h;exact⟨v,F,H',I.unwish,r,q⟩
theorem PSs.nox {st:List Stmt}{t:TS}(h:PSs X.nox st t):PSs X st t:=fun pins s σ H D I hw=>
 KD (h pins s σ H D (I.wish _) hw) (fun _ _ q=>q.unwish) fun _ _ z=>False.elim z
end
section
variable {X:Cx}{st:Stmt}{rest:List Stmt}{t u:TS}{e:Expr}{te:TE}{pos:Pos}
def Rw:TS:=fun D σ H=>D.nx σ H
def Rx (t u:TS):TS:=fun D σ H=>t { D with nx:=u D } σ H
theorem ZF:PSs X [] Rw:=fun _ _ σ H _ I h=>Tb ⟨σ,H,I,h⟩
theorem Zc (h1:PS X st t)(h2:PSs X rest u):PSs X (st::rest) (Rx t u):=by
 intro pins s σ H D I h;refine wpAny_execs_cons (YM (h1 pins s σ H { D with nx:=u D } I h) fun f J q=>?_);cases f with
 | next=>
  obtain⟨F,H',I',q⟩:=q;exact h2 pins J F H' D I' q
 | ret v=>exact q
 | brk=>exact q
 | cont=>exact q
theorem Zf (h1:PS X st t):PSs X [st] t:=by
 intro pins s σ H D I h;refine wpAny_execs_cons (YM (h1 pins s σ H D I h) fun f F q=>?_);cases f with
 | next=>exact Tb q
 | ret v=>exact q
 | brk=>exact q
 | cont=>exact q
theorem Inv.quiet {pins:QC}{σ:St}{H:Hp}{s:Shared}(I:Inv X pins σ H s):interactive X.env=false:=by simp[interactive,I.ok.kind]
def Ej (te:TE):TS:=fun D σ H=>te σ H fun _ H1=>D.nx σ H1
theorem ZY (F:PE X e te)(hs:swapsWith e none pos.line X.env=pure false:=by rfl):PS X (.Expr e pos) (Ej te):=by intro pins s σ H D I h;exact wpAny_Expr_any (YM (F pins s σ H _ I h) fun v O ⟨x,H1,I1,S,J⟩=>⟨σ,H1,I1,J⟩) I.quiet hs
def Ry (te:TE):TS:=fun D σ H=>te σ H D.rt
theorem Zv (F:PE X e te):PS X (.Return (some e) pos) (Ry te):=by intro pins s σ H D I h;exact wpAny_Return_some (YM (F pins s σ H _ I h) fun v S ⟨x,H1,I1,J,O⟩=>⟨x,σ,H1,I1,J,O⟩)
def Dj (c:TT)(t u:TS):TS:=fun D σ H=>c σ H fun b H1=>if b=true then t D σ H1 else u D σ H1
theorem ZP {c:Expr}{a b:List Stmt}{tc:TT}(O:PT X c tc)(ha:PSs X a t)(hb:PSs X b u):PS X (.If c a b pos) (Dj tc t u):=by
 intro pins s σ H D I h;refine wpAny_If (YM (O pins s σ H _ I h) fun d F ⟨H1,I1,J⟩=>?_);cases d with
 | true=>exact ha pins F σ H1 D I1 J
 | false=>exact hb pins F σ H1 D I1 J
end
abbrev TG:=V->St->Hp->QT->Prop
abbrev TGs:=List V->St->Hp->QT->Prop
def PG (X:Cx)(aI:Expr)(t:TG):Prop:=
 ∀(pins:QC)(s:Shared)(σ:St)(H:Hp)(v:V)(u:Value)(Q:QT),Inv X pins σ H s->RelV v u->t v σ H Q ->
  wpAny (model X.prog X.w) X.A (assign aI X.env u) (fun _ s'=>∃ aD H',Inv X pins aD H' s'/\Q aD H') X.xe s
def PGs (X:Cx)(ts:QV)(t:TGs):Prop:=
 ∀(pins:QC)(s:Shared)(σ:St)(H:Hp)(vs:QH)(us:QJ)(Q:QT),Inv X pins σ H s->Vals vs us->t vs σ H Q ->
  wpAny (model X.prog X.w) X.A (assignInOrder ((assignEach ts X.env).map (·.2)) us) (fun _ s'=>∃ aD H',Inv X pins aD H' s'/\Q aD H') X.xe s
abbrev IV:=V->V->V->Hp->(Hp->Prop)->Prop
def IW (X:Cx)(t:IV):Prop:=
 ∀(pins:QC)(s:Shared)(σ:St)(H:Hp)(o i v:V)(ov iv u:Value)(Q:Hp->Prop),Inv X pins σ H s->RelV o ov->RelV i iv->RelV v u->t o i v H Q ->
  wpAny (model X.prog X.w) X.A (setItem ov iv u) (fun _ s'=>∃H',Inv X pins σ H' s'/\Q H') X.xe s
abbrev TIp:=V->V->Hp->VK->Prop
def PIp (X:Cx)(op:Operator)(t:TIp):Prop:=
 ∀(pins:QC)(s:Shared)(σ:St)(H:Hp)(x y:V)(v u:Value)(Q:VK),Inv X pins σ H s->RelV x v->RelV y u->t x y H Q ->
  wpAny (model X.prog X.w) X.A (inplaceOp op v u) (EP X pins σ Q) X.xe s
section
variable {X:Cx}{pos:Pos}
def Li (i:Nat):TG:=fun v σ H Q=>Q (σ.set i (some v)) H
theorem Cy {i:Nat}{x:Str}(F:X.N.Nodup)(hi:X.N[i]? = some x)(J:Loc X.env.scope x)(O:X.fn x=true∨X.env.scope.names.lookup x=some .local:=by first | exact .inl rfl | exact .inr rfl | assumption):PG X (.Name x pos) (Li i):=by intro pins s σ H v u Q I r h;exact wpAny_assign_Name (UU I F hi J r (fun s' I'=>⟨_,H,I',h⟩) O)
inductive Ek(vs:QH)(σ:St)(H:Hp)(Q:QT):Prop|mk(_:vs = [])(_:Q σ H)
inductive El(t:TG)(u:TGs)(vs:QH)(σ:St)(H:Hp)(Q:QT):Prop|mk(v r:_)(_:vs=v::r)(_:t v σ H fun aD H'=>u r aD H' Q)
theorem ZV:PGs X [] Ek:=by intro pins s σ H vs us Q I r h;obtain⟨e,h⟩:=h;subst e;cases r;exact assignInOrder_nil ⟨σ,H,I,h⟩
theorem Zo {e:Expr}{es:QV}{t:TG}{u:TGs}(h1:PG X e t)(h2:PGs X es u)
  (hs:(assignEach (e::es) X.env).map (·.2)=assign e X.env::(assignEach es X.env).map (·.2):=by rfl):PGs X (e::es) (El t u):=by
 intro pins s σ H vs us Q I r h;obtain⟨v,V,J,h⟩:=h;subst J;cases r with
 | cons r O=>
  rw[hs];refine Nb (YM (h1 pins s σ H _ _ _ I r h) fun _ S ⟨F,H1,I1,U⟩=>?_);exact h2 pins S F H1 _ _ Q I1 O U
inductive Rz(K:QF)(n:Nat)(t:TGs)(v:V)(σ:St)(H:Hp)(Q:QT):Prop|mk(a xs:_)(_:v = .ref a)(_:Y9 K H a xs)(_:xs.length=n)(_:t xs σ H Q)
theorem Em {es:QV}{k:Nat}{t:TGs}{n:Nat}(O:X.calm=true)(h:PGs X es t)
  (S:(assignEach es X.env).length=n:=by rfl) (F:(assignEach es X.env).findIdx? (·.1)=none:=by rfl):PG X (.Tuple es k pos) (Rz X.K n t):=by
 intro pins s σ H v u Q I r hw;obtain⟨a,xs,U,V,W,hw⟩:=hw;subst U;cases r;obtain⟨its,J,Y,hz⟩:=I.tuple V;refine assign_Tuple_tuple (I.ok.hd O) Y (by simp[S,<- W,J.length]) F fun h' Z=>?_;have I1:Inv X pins σ H { s with heap:=h' }:=I.kept (t':=s.toks) fun b o e=>Z b o (Kj (k6 e)) e;exact h pins _ σ H xs _ Q I1 (by simpa using J) hw
def IX (to ti:TE)(t:IV):TG:=fun v σ H Q=>to σ H fun o H1=>ti σ H1 fun i H2=>t o i v H2 fun H3=>Q σ H3
theorem YI {o i:Expr}{to ti:TE}{t:IV}(O:PE X o to)(hi:PE X i ti)(hs:IW X t)
  (ha:∀v,assign (.Subscript o i pos) X.env v=(do
   let F <- holding [v] (eval o X.env)
   let J <- holding [v,F] (eval i X.env)
   standAt pos
   holding [v,F,J] (setItem F J v)
   release [v,F,J] []):=by intro _;rfl):PG X (.Subscript o i pos) (IX to ti t):=by
 intro pins s σ H v u Q I r h;rw[ha];refine kg (KC (YM (O pins s σ H _ I h) fun F S ⟨x,H1,I1,U,V⟩=>?_));refine kg (KC (YM (hi pins S σ H1 _ I1 V) fun J W ⟨y,H2,I2,Y,Z⟩=>?_));refine kg (XD (kg (KC (YM (hs pins W σ H2 x y v F J u _ I2 U Y r Z) fun _ s3 ⟨H3,I3,q3⟩=>?_))));exact M4 ⟨σ,H3,I3,q3⟩
def Dk (te:TE)(g:TG):TS:=fun D σ H=>te σ H fun x H1=>g x σ H1 D.nx
theorem Yz {tg e:Expr}{te:TE}{g:TG}(F:PE X e te)(hg:PG X tg g)(hs:swapsWithSole [tg] e pos.line X.env=pure false:=by rfl)(hw:swappedStores [tg] e X.env=pure none:=by rfl)
  (h1:(assignEach [tg] X.env).map (·.2) = [assign tg X.env]:=by rfl):PS X (.Assign [tg] e pos) (Dk te g):=by
 intro pins s σ H D I h;refine wpAny_Assign_stores (YM (F pins s σ H _ I h) fun v J ⟨x,H1,I1,O,S⟩=>?_) hs hw;rw[h1];exact YM (hg pins J σ H1 x v _ I1 O S) fun _ U q=>q
theorem LV {i:Nat}{x:Str}{e:Expr}{te:TE}{aJ:Pos}(F:X.N.Nodup)(hi:X.N[i]? = some x)(J:Loc X.env.scope x)(O:PE X e te)(hs:swapsWith e (some (.Name x aJ)) pos.line X.env=pure false:=by rfl)(S:X.fn x=true∨X.env.scope.names.lookup x=some .local:=by first | exact .inl rfl | exact .inr rfl | assumption):
  PS X (.Assign [.Name x aJ] e pos) (Dk te (Li i)):=by
 intro pins s σ H D I h;refine wpAny_Assign_Name (YM (O pins s σ H _ I h) fun v W ⟨y,H1,I1,U,V⟩=>?_) hs;exact UU I1 F hi J U (fun Y I2=>⟨_,H1,I2,V⟩) S
inductive En(i j:Nat)(D:Ends)(σ:St)(vs:QH)(H1:Hp):Prop|mk(v w:_)(_:vs = [v,w])(_:D.nx ((σ.set i (some v)).set j (some w)) H1)
def Eo (i j:Nat)(ta:TA):TS:=fun D σ H=>ta σ H fun vs H1=>En i j D σ vs H1
theorem RA {i j:Nat}{x y:Str}{a b:Expr}{ta:TA}{px py pt:Pos}{kt k2 pt2} (hc:X.calm=true) (Y:X.N.Nodup) (hi:X.N[i]? = some x) (hj:X.N[j]? = some y) (S:i≠j)
  (Z:X.env.scope.names.lookup x=some .local) (hy:X.env.scope.names.lookup y=some .local) (ha:PA X [a,b] ta)
  (hw:swappedStores [.Tuple [.Name x px,.Name y py] kt pt] (.Tuple [a,b] k2 pt2) X.env=pure (some [x,y]))
  (hs:swapsWithSole [.Tuple [.Name x px,.Name y py] kt pt] (.Tuple [a,b] k2 pt2) pos.line X.env=pure false:=by rfl):
  PS X (.Assign [.Tuple [.Name x px,.Name y py] kt pt] (.Tuple [a,b] k2 pt2) pos) (Eo i j ta):=by
 intro pins s σ H D I h;rw[exec_Assign_arm];refine kg (XD ?_);rw[hs];refine kg (kG ?_);rw[kh (by decide)];refine kg (Tuple_ (YM (ha _ pins s σ H _ I h) fun us F ⟨vs,H1,I1,r1,U⟩=>?_));obtain⟨v,w,e1,U⟩:=U;subst e1;obtain⟨J,O,rfl,rv,V⟩:∃J O,us = [J,O]/\RelV v J/\RelV w O:=by
  cases r1 with
  | cons p q=>
   cases q with
   | cons p' q'=>
    cases q';exact⟨_,_,rfl,p,p'⟩
 refine qc ?_ sz2;have I2:Inv X pins σ H1 { F with heap:=F.heap.push { cls:=.type "tuple", data:=.seq [J,O].toArray } }:=I1.kept (t':=F.toks) fun b o e=>kz _ e;rw[hw];refine kg (kG ?_);show wpAny (model X.prog X.w) X.A (do rule "assign.swapped-stores"; let items <- unpackItems (.ref F.heap.objs.size) 2 none;assignInOrder [fun v=>bindName X.env y v,fun v=>bindName X.env x v] items.reverse;pure Flow.next) _ _ _;refine kg (XJ (kg (unpackItems_tuple (items:=#[J,O]) (I.ok.hd hc) (IsTup.new F.heap _) fun h' W=>?_)));have I3:=I2.kept (h':=h') (t':=F.toks) fun b o e=>W b o (Kj (k6 e)) e;show wpAny _ _ (assignInOrder [fun v=>bindName X.env y v,fun v=>bindName X.env x v] [O,J] >>= fun _=>pure Flow.next) _ _ _;refine kg (Nb (wpAny_bindName (UU I3 Y hj (.inl hy) V (fun s2 I4=>?_) (.inr hy))));refine Nb (wpAny_bindName (UU I4 Y hi (.inl Z) rv (fun s3 I5=>assignInOrder_nil (kG ?_)) (.inr Z)));rw[List.set_comm _ _ (KA S)] at I5;exact⟨_,H1,I5,U⟩
inductive Ep(i:Nat)(te:TE)(ti:TIp)(D:Ends)(σ:St)(H:Hp):Prop|mk(x:_)(_:σ[i]? = some (some x))(_:te σ H fun y H1=>ti x y H1 fun z H2=>D.nx (σ.set i (some z)) H2)
theorem RB {i:Nat}{x:Str}{e:Expr}{te:TE}{op:Operator}{ti:TIp}{aJ:Pos}(V:X.N.Nodup)(hi:X.N[i]? = some x)(S:Loc X.env.scope x)(W:PE X e te)(Y:PIp X op ti)(Z:X.fn x=true∨X.env.scope.names.lookup x=some .local:=by first | exact .inl rfl | exact .inr rfl | assumption):
  PS X (.AugAssign (.Name x aJ) op e pos) (Ep i te ti):=by
 intro pins s σ H D I h;obtain⟨v,e1,h⟩:=h;obtain⟨m,hn,hl⟩:=I.loc;have U:Vis X.env.scope x:=by rcases S with k | k;exact .inl k;exact .inr (.inl k)
 obtain⟨u,r,l⟩:=hl i x v hi e1 U;refine wpAny_AugAssign_Name ?_;have go:wpAny (model X.prog X.w) X.A (eval e X.env) (fun w J=>wpAny (model X.prog X.w) X.A (inplaceOp op u w) (fun r O=>wpAny (model X.prog X.w) X.A (storeName X.env x r) (fun _=>SP X pins D .next) X.xe O) X.xe J) X.xe s:=by refine YM (W pins s σ H _ I h) fun w s1 ⟨y,H1,I1,r1,q1⟩=>?_;refine YM (Y pins s1 σ H1 v y u w _ I1 r r1 q1) fun z s2 ⟨zv,H2,I2,r2,q2⟩=>?_;exact UU I2 V hi S r2 (fun s3 I3=>⟨_,H2,I3,q2⟩) Z
 rcases l with⟨hk,hm⟩ | ⟨hk,c,hc,F⟩
 ·exact wpAny_loadName_local I.ok.kind hk hn hm go
 ·rcases hk with hk | hk
  ·exact wpAny_loadName_cell I.ok.kind hk hc F go
  ·rcases S with k | k
   ·have:X.env.scope.names.lookup x=some .free:=hk;rw[k] at this;cases this
   ·have:X.env.scope.names.lookup x=some .free:=hk;rw[k] at this;cases this
inductive ipI(f:Int->Int->Int)(x y:V)(H:Hp)(Q:VK):Prop|mk(i j:_)(_:x = .int i)(_:y = .int j)(_:Q (.int (f i j)) H)
theorem Er:PIp X .Add (ipI fun i j=>i+j):=by intro pins s σ H x y v u Q I F J h;obtain⟨i,j,O,S,q⟩:=h;subst O;subst S;obtain⟨t,rfl⟩:=F;obtain⟨t',rfl⟩:=J;exact iadd_int ⟨.int _,H,I.tok _,⟨_,rfl⟩,q⟩
theorem Es:PIp X .Sub (ipI fun i j=>i-j):=by intro pins s σ H x y v u Q I F J h;obtain⟨i,j,O,S,q⟩:=h;subst O;subst S;obtain⟨t,rfl⟩:=F;obtain⟨t',rfl⟩:=J;exact isub_int ⟨.int _,H,I.tok _,⟨_,rfl⟩,q⟩
inductive RC (c:TT)(tb:TS)(D:Ends)(σ:St)(H:Hp):Prop | mk (W:Nat->St->Hp->Prop) (h:∃m,W m σ H) (t:∀m σ H,W m σ H ->
 c σ H fun b H1=>if b=true then ∃N:QT,(∀ aD H',N aD H' -> ∃m',m'<m/\W m' aD H')/\tb { D with nx:=N,ct:=N,bk:=D.nx } σ H1 else D.nx σ H1)
theorem Cz {c:Expr}{aG:List Stmt}{tc:TT}{tb:TS}(hp:PassesOwn (model X.prog X.w) X.A X.env X.xe)(hc:PT X c tc)(hb:PSs X aG tb):PS X (.While c aG [] pos) (RC tc tb):=by
 intro pins s σ H D I h;obtain⟨W,⟨m0,w0⟩,O⟩:=h;refine wpAny_While (codeAny_whileLoop (fun n s'=>∃ S H',Inv X pins S H' s'/\W n S H') ?_ m0 ⟨σ,H,I,w0⟩);rintro n s1 ⟨J,H1,I1,w1⟩;refine Xf hp (YM (hc pins s1 J H1 _ I1 (O n J H1 w1)) fun b s2 ⟨H2,I2,U⟩=>?_);cases b with
 | true=>
  obtain⟨N,hN,U⟩:=U;rw[kj rfl];refine Xf hp (YM (hb pins s2 J H2 _ I2 U) fun f s3 V=>?_);cases f with
  | next=>
   obtain⟨F,H3,I3,Y⟩:=V;obtain⟨Z,hm,w3⟩:=hN F H3 Y;exact⟨Z,hm,F,H3,I3,w3⟩
  | cont=>
   obtain⟨F,H3,I3,Y⟩:=V;obtain⟨Z,hm,w3⟩:=hN F H3 Y;exact⟨Z,hm,F,H3,I3,w3⟩
  | brk=>exact V
  | ret v=>exact V
 | false=>
  rw[kh kO];exact Tb ⟨J,H2,I2,U⟩
end
structure It where
 go:Nat->Hp->Prop
 yld:Nat->Hp->V->Hp->Prop
 stop:Nat->Hp->Prop
def Mz (X:Cx)(pins:QC)(H:Hp)(b:Addr):Prop:=
 H b=none/\b≠X.env.locals/\b∉X.fs/\(b∈X.ex∨X.s₀.heap.objs.size<=b)/\(∀x c,X.env.cells.lookup x=some c->c≠b) /\ ∀p∈X.pn++pins,p.1≠b
theorem Inv.fpOk {X:Cx}{pins:QC}{σ:St}{H H':Hp}{s:Shared}{b:Addr}(I:Inv X pins σ H s)(hb:s.heap.objs.size<=b)(F:H' b=none):Mz X pins H' b:=by
 refine⟨F,Xj (Kt I.lt hb),I.nofs hb,.inr (Kb I.sz hb),fun x c e z=>?_,fun p J z=>?_⟩
 ·obtain⟨v,q⟩:=I.cell x c e;exact absurd (Kt q.lt (by rw[z];exact hb)) (qy _)
 ·exact absurd (Kt (k6 (I.pin p J).1) (by rw[z];exact hb)) (qy _)
structure Turn (P:Program)(w:World)(K:QF)(tg:Expr)(J:It)(fp:List Addr)(it:Addr)(tn:Nat->Heap->Prop):Prop where
 mem:it∈fp
 obj:∀i h,tn i h -> ∀b∈fp,∃o,h.get? b=some o /\ ∀v,o.data ≠ .cell v
 keep:∀i h h',tn i h->(∀b∈fp,∀o,h.get? b=some o->h'.get? b=some o)->tn i h'
 item:∀(X:Cx),X.prog=P->X.w=w->X.K=K->X.calm=true -> ∀(i:Nat)(pins:QC)(s:Shared)(σ:St)(H:Hp)(E:QE),Inv X pins σ H s->(∀b∈fp,Mz X pins H b)->tn i s.heap->J.go i H ->
  wpAny (model P w) X.A (pyNext (.ref it)) (fun r s1=>∃u,r=some u /\
   wpAny (model P w) X.A (letOwnedTupleGo tg (.ref it) u) (fun _ s2=>∃x H',Inv X pins σ H' s2/\RelV x u/\J.yld i H x H'/\tn (i+1) s2.heap /\ ∀b∈fp,H' b=none) E s1) E s
 done:∀(X:Cx),X.prog=P->X.w=w->X.K=K->X.calm=true -> ∀(i:Nat)(pins:QC)(s:Shared)(σ:St)(H:Hp)(E:QE),Inv X pins σ H s->(∀b∈fp,Mz X pins H b)->tn i s.heap->J.stop i H ->
  wpAny (model P w) X.A (pyNext (.ref it)) (fun r s1=>r=none/\Inv X pins σ H s1) E s
 self:∀(A:Around)(i:Nat)(s:Shared)(Q:QE)(E:QE),tn i s.heap->Q (.ref it) s->wpAny (model P w) A (pyIter (.ref it)) Q E s
abbrev TI:=St->Hp->(It->Hp->Prop)->Prop
inductive PIE(X:Cx)(pins:QC)(σ:St)(tg:Expr)(R:It->Hp->Prop)(itv:Value)(s2:Shared):Prop|mk(it:Addr)(fp:List Addr)(tn:Nat->Heap->Prop)(J:It)(H':Hp)(_:itv = .ref it)(_:Inv X pins σ H' s2)(_:Turn X.prog X.w X.K tg J fp it tn)(_:tn 0 s2.heap)(_:∀b∈fp,Mz X pins H' b)(_:R J H')
def PI (X:Cx)(tg iter:Expr)(wi:TI):Prop:=
 ∀(pins:QC)(s:Shared)(σ:St)(H:Hp)(R:It->Hp->Prop),Inv X pins σ H s->wi σ H R ->
  wpAny (model X.prog X.w) X.A (eval iter X.env) (fun v s1=>wpAny (model X.prog X.w) X.A (pyIter v) (PIE X pins σ tg R) X.xe s1) X.xe s
theorem DJ {M:Model}{A:Around}{E:QE}{s:Shared}{tg:Expr}{it:Addr}{u:Value}{o:Obj}{n:String}{vs:QY}{Q:Unit->Shared->Prop}(I:s.heap.get? it=some o)(J:o.cls = .type n)(hd:o.data = .fields vs)
    (O:["enumerate", "zip", "dict_itemiterator", "dict_reverseitemiterator", "odict_iterator", "itertools.zip_longest", "itertools.pairwise"].contains n=false) (F:Q () s):wpAny M A (letOwnedTupleGo tg (.ref it) u) Q E s:=by
  unfold letOwnedTupleGo;cases tg<;>first
    | exact kG F
    | (cases u<;>first
        | exact kG F
        | (refine kg (wpAny_load I ?_)
           rw[J,hd];show wpAny M A (if (["enumerate", "zip", "dict_itemiterator", "dict_reverseitemiterator", "odict_iterator", "itertools.zip_longest", "itertools.pairwise"].contains n&&vs[0]? == some (rawInt _))=true then _ else _) Q E s;rw[kh (by intro h;rw[O,MD] at h;cases h)];exact kG F))
def Itl (K:QF)(a:Addr):It:=
 ⟨fun i H=>∃xs x,Zr K H a xs/\xs[i]? = some x,fun i H x H'=>H'=H /\ ∀xs,Zr K H a xs->xs[i]? = some x,fun i H=>∃xs,Zr K H a xs/\xs.length<=i⟩
def Itt (K:QF)(a:Addr):It:=
 ⟨fun i H=>∃xs x,Y9 K H a xs/\xs[i]? = some x,fun i H x H'=>H'=H /\ ∀xs,Y9 K H a xs->xs[i]? = some x,fun i H=>∃xs,Y9 K H a xs/\xs.length<=i⟩
def Itr (lo:Int)(n:Nat):It:=⟨fun i _=>i<n,fun i H x H'=>H'=H/\x = .int (lo+i),fun i _=>n<=i⟩
theorem Et {P:Program}{w:World}{K:QF}{tg:Expr}(a it:Addr):Turn P w K tg (Itl K a) [it] it (fun i h=>h.IsListIter it a i) where
 mem:=by simp
 obj:=fun i h st b hb=>by
  have e:b=it:=by simpa using hb
  subst e;obtain⟨o,e,c,d⟩:=st;exact⟨o,e,fun v z=>by rw[d] at z;cases z⟩
 keep:=fun i h h' st k=>st.at fun o e=>k it (by simp) o e
 item:=by intro X O hw S hc i pins s σ H E I F st hg;subst O hw S;obtain⟨xs,x,J,U⟩:=hg;obtain⟨its,V,p,hz⟩:=I.list J;obtain⟨u,hu,ru⟩:=V.get U;obtain⟨W,Y,f2,Z,f4,f5⟩:=F it (by simp);refine wpAny_pyNext_list_item st p.isList (x:=u) (by simpa using hu) fun h' st' sb=>?_;have I1:Inv X pins σ H { s with heap:=h' }:=I.turned (t':=s.toks) (fun b o hb e=>(sb.2 b hb).trans e) W Y Z f4 f5;obtain⟨o,e,c,d⟩:=id st';exact⟨u,rfl,DJ (s:={ s with heap:=h' }) e c d (by decide) ⟨x,H,I1,ru,⟨rfl,fun ys hy=>by rw[I.list_inj hy J];exact U⟩,st',fun b hb=>(F b hb).1⟩⟩
 done:=by intro X O hw S hc i pins s σ H E I F st hg;subst O hw S;obtain⟨xs,J,U⟩:=hg;obtain⟨its,V,p,hz⟩:=I.list J;obtain⟨W,Y,f2,Z,f4,f5⟩:=F it (by simp);have hl:=V.length;exact wpAny_pyNext_list_end (I.ok.hd hc) st p.isList (by simp;lia) fun h' eb=>⟨rfl,I.turned (t':=s.toks) (fun b o hb e=>eb b o hb e) W Y Z f4 f5⟩
 self:=fun _ _ _ _ _ st h=>wpAny_pyIter_listiter st h
theorem Eu {P:Program}{w:World}{K:QF}{tg:Expr}(a it:Addr):Turn P w K tg (Itt K a) [it] it (fun i h=>h.IsTupleIter it a i) where
 mem:=by simp
 obj:=fun i h st b hb=>by
  have e:b=it:=by simpa using hb
  subst e;obtain⟨o,e,c,d⟩:=st;exact⟨o,e,fun v z=>by rw[d] at z;cases z⟩
 keep:=fun i h h' st k=>st.at fun o e=>k it (by simp) o e
 item:=by intro X O hw S hc i pins s σ H E I F st hg;subst O hw S;obtain⟨xs,x,J,U⟩:=hg;obtain⟨its,V,p,hz⟩:=I.tuple J;obtain⟨u,hu,ru⟩:=V.get U;obtain⟨W,Y,f2,Z,f4,f5⟩:=F it (by simp);refine wpAny_pyNext_tuple_item st (show s.heap.IsTuple a its.toArray from p) (x:=u) (by simpa using hu) fun h' st' sb=>?_;have I1:Inv X pins σ H { s with heap:=h' }:=I.turned (t':=s.toks) (fun b o hb e=>(sb.2 b hb).trans e) W Y Z f4 f5;obtain⟨o,e,c,d⟩:=id st';exact⟨u,rfl,DJ (s:={ s with heap:=h' }) e c d (by decide) ⟨x,H,I1,ru,⟨rfl,fun ys hy=>by rw[I.tuple_inj hy J];exact U⟩,st',fun b hb=>(F b hb).1⟩⟩
 done:=by intro X O hw S hc i pins s σ H E I F st hg;subst O hw S;obtain⟨xs,J,U⟩:=hg;obtain⟨its,V,p,hz⟩:=I.tuple J;obtain⟨W,Y,f2,Z,f4,f5⟩:=F it (by simp);have hl:=V.length;exact wpAny_pyNext_tuple_end (I.ok.hd hc) st (show s.heap.IsTuple a its.toArray from p) (by simp;lia) fun h' eb=>⟨rfl,I.turned (t':=s.toks) (fun b o hb e=>eb b o hb e) W Y Z f4 f5⟩
 self:=fun _ _ _ _ _ st h=>wpAny_pyIter_tupleiter st h
theorem RD {P:Program}{w:World}{K:QF}{tg:Expr}(it:Addr)(lo:Int)(n:Nat):Turn P w K tg (Itr lo n) [it] it (fun i h=>IsRangeIter h it (lo+(i:Nat)*1) ((n:Int)-(i:Nat)) 1) where
 mem:=by simp
 obj:=fun i h st b hb=>by
  have e:b=it:=by simpa using hb
  subst e;exact⟨_,st,fun v z=>by have z':Data.fields _=Data.cell v:=z;cases z'⟩
 keep:=fun i h h' st k=>k it (by simp) _ st
 item:=by intro X J hw O S i pins s σ H E I F st hg;subst J hw O;obtain⟨U,V,f2,Y,Z,f5⟩:=F it (by simp);have W:=Walks.range (prog:=X.prog) (w:=X.w) (I.ok.hd S) it lo 1 n;refine W.item i s _ _ hg st fun v h' tk hv st' kk=>?_;obtain⟨t,rfl⟩:=hv;have I1:Inv X pins σ H { s with heap:=h',toks:=tk }:=I.turned (fun b o hb e=>kk b o (by simpa using hb) e) U V Y Z f5;refine⟨_,rfl,DJ (s:={ s with heap:=h',toks:=tk }) (n := "range_iterator") st' rfl rfl (by decide) ⟨.int (lo+i),H,I1,⟨t,?_⟩,⟨rfl,rfl⟩,st',fun b hb=>(F b hb).1⟩⟩;rw[Int.mul_one]
 done:=by intro X J hw O S i pins s σ H E I F st hg;subst J hw O;obtain⟨U,V,f2,Y,Z,f5⟩:=F it (by simp);exact wpAny_pyNext_range_end (I.ok.hd S) st (by have:n<=i:=hg;lia) fun h' eb=>⟨rfl,I.turned (t':=s.toks) (fun b o hb e=>eb b o hb e) U V Y Z f5⟩
 self:=fun _ _ _ _ _ st h=>wpAny_pyIter_rangeiter st h
section
variable {X:Cx}{tg:Expr}
inductive Ew(K:QF)(R:It->Hp->Prop)(x:V)(H1:Hp):Prop|mk(a:_)(_:x = .ref a)(_:∃xs,Zr K H1 a xs)(_:R (Itl K a) H1)
def RE (K:QF)(tl:TE):TI:=fun σ H R=>tl σ H fun x H1=>Ew K R x H1
inductive Ex(K:QF)(R:It->Hp->Prop)(x:V)(H1:Hp):Prop|mk(a:_)(_:x = .ref a)(_:∃xs,Y9 K H1 a xs)(_:R (Itt K a) H1)
def RF (K:QF)(tl:TE):TI:=fun σ H R=>tl σ H fun x H1=>Ex K R x H1
theorem Ey {l:Expr}{tl:TE}(J:PE X l tl):PI X tg l (RE X.K tl):=by
 intro pins s σ H R I h;refine YM (J pins s σ H _ I h) fun v F ⟨x,H1,I1,O,S⟩=>?_;obtain⟨a,e,⟨xs,U⟩,q⟩:=S;subst e;cases O;obtain⟨its,V,p,hz⟩:=I1.list U;refine NB p.isList ?_;refine⟨F.heap.objs.size,[F.heap.objs.size],_,_,H1,rfl,I1.kept (t':=F.toks) fun b o e=>kz _ e,Et a _,⟨_,Kf _ rfl,rfl,rfl⟩,fun b hb=>?_,q⟩;have e:b=F.heap.objs.size:=by simpa using hb
 subst e;exact I1.fpOk (km _) (I1.hok.fresh (km _))
theorem Ez {l:Expr}{tl:TE}(J:PE X l tl):PI X tg l (RF X.K tl):=by
 intro pins s σ H R I h;refine YM (J pins s σ H _ I h) fun v F ⟨x,H1,I1,O,S⟩=>?_;obtain⟨a,e,⟨xs,U⟩,q⟩:=S;subst e;cases O;obtain⟨its,V,p,hz⟩:=I1.tuple U;refine wpAny_pyIter_tuple (show F.heap.IsTuple a its.toArray from p) ?_;refine⟨F.heap.objs.size,[F.heap.objs.size],_,_,H1,rfl,I1.kept (t':=F.toks) fun b o e=>kz _ e,Eu a _,⟨_,Kf _ rfl,rfl,rfl⟩,fun b hb=>?_,q⟩;have e:b=F.heap.objs.size:=by simpa using hb
 subst e;exact I1.fpOk (km _) (I1.hok.fresh (km _))
theorem EA {pins:QC}{σ:St}{H:Hp}{s:Shared}{R:It->Hp->Prop}{E:QE}{lo hi:Int}{t u v:Tok}{tk:Nat}(I:Inv X pins σ H s)(h1 : -(2 ^ 62)<=lo)(h2:lo<2 ^ 62)(F : -(2 ^ 62)<=hi)(J:hi<2 ^ 62)
  (q:R (Itr lo (hi-lo).toNat) H):wpAny (model X.prog X.w) X.A (pyIter (.ref s.heap.objs.size)) (PIE X pins σ tg R) E { s with heap:=s.heap.push { cls:=.type "range", data:=.fields #[.int lo t,.int hi u,.int 1 v] },toks:=tk }:=by
 refine Nc (IsRange.new ..) (small_one h1 h2 F J) ?_;have I1:Inv X pins σ H { s with heap:=s.heap.push { cls:=.type "range", data:=.fields #[.int lo t,.int hi u,.int 1 v] },toks:=tk }:=I.kept fun b o e=>kz _ e;refine⟨(s.heap.push { cls:=.type "range", data:=.fields #[.int lo t,.int hi u,.int 1 v] }).objs.size,[(s.heap.push { cls:=.type "range", data:=.fields #[.int lo t,.int hi u,.int 1 v] }).objs.size],_,_,H,rfl,
  I1.kept (t':=tk) fun b o e=>kz _ e,RD _ lo (hi-lo).toNat,?_,fun b hb=>?_,q⟩
 ·have O:lo+((0:Nat):Int)*1=lo:=by simp
  have S:(((hi-lo).toNat:Nat):Int)-((0:Nat):Int)=Builtin.Range.rangeSize lo hi 1:=by rw[rangeSize_one];split<;>lia
  show IsRangeIter _ _ (lo+((0:Nat):Int)*1) ((((hi-lo).toNat:Nat):Int)-((0:Nat):Int)) 1;rw[O,S];exact Kf _ rfl
 ·have e:b=(s.heap.push { cls:=.type "range", data:=.fields #[.int lo t,.int hi u,.int 1 v] }).objs.size:=by simpa using hb
  subst e;exact I1.fpOk (km _) (I1.hok.fresh (km _))
inductive EB(R:It->Hp->Prop)(vs:QH)(H1:Hp):Prop|mk(j:Int)(_:vs = [.int j])(_:-(2 ^ 62)<=j)(_:j<2 ^ 62)(_:R (Itr 0 j.toNat) H1)
def EC (ta:TA):TI:=fun σ H R=>ta σ H fun vs H1=>EB R vs H1
theorem YA {a:Expr}{ta:TA}{p pos:Pos}(hg:Gl X "range")(J:X.mg "range" = none)(ha:PA X [a] ta)(hs:starEach [a] X.env = [(false,eval a X.env)]:=by rfl):PI X tg (.Call (.Name "range" p) [a] [] pos) (EC ta):=by
 intro pins s σ H R I h;refine Call_ (UJ I hg J boot_range (KS (YM (ha pos pins s σ H _ I h) fun us V ⟨vs,H1,I1,O,F⟩=>?_) hs rfl));obtain⟨j,e,F,S,q⟩:=F;subst e;cases O with
 | cons r U=>
  cases U;obtain⟨t,rfl⟩:=r;exact call_range_1 (EA I1 (by lia) (by lia) F S (by simpa using q))
inductive Dl (J:It)(g:TG)(tb:TS)(D:Ends)(σ:St)(H1:Hp):Prop | mk (W:Nat->Nat->St->Hp->Prop) (h:∃m,W 0 m σ H1) (t:∀i m σ H,W i m σ H ->
 (J.stop i H/\D.nx σ H)∨(J.go i H /\ ∃N:QT,(∀ aD H',N aD H' -> ∃m',m'<m/\W (i+1) m' aD H') /\ ∀x H',J.yld i H x H'->g x σ H' fun cC H2=>tb { D with nx:=N,ct:=N,bk:=D.nx } cC H2))
def ED (wi:TI)(g:TG)(tb:TS):TS:=fun D σ H=>wi σ H fun J H1=>Dl J g tb D σ H1
def DK (fp:List Addr)(h:Heap):QC:=fp.filterMap fun b=>(h.get? b).map fun o=>(b,o)
theorem CA {fp:List Addr}{h:Heap}{b:Addr}{o:Obj}(hb:b∈fp)(e:h.get? b=some o):(b,o)∈DK fp h:=KZ.mpr ⟨b,hb,by rw[e];rfl⟩
theorem EE {fp:List Addr}{h:Heap}{p:Addr×Obj}(F:p∈DK fp h):p.1∈fp/\h.get? p.1=some p.2:=by
 obtain⟨b,hb,e⟩:=KZ.mp F;cases q:h.get? b with
 | none=>rw[q] at e;cases e
 | some o=>
  rw[q] at e;have I:(b,o)=p:=k9 e;subst I;exact⟨hb,q⟩
theorem Inv.pinned {pins:QC}{σ:St}{H:Hp}{s:Shared}{fp:List Addr}(I:Inv X pins σ H s)(J:∀b∈fp,Mz X pins H b)(O:∀b∈fp,∃o,s.heap.get? b=some o /\ ∀v,o.data ≠ .cell v):Inv X (pins++DK fp s.heap) σ H s:=
 I.pins_of fun p S=>(Kg.mp S).elim (fun z=>I.pin p (KH _ z)) fun z=>by obtain⟨hb,e⟩:=EE z;obtain⟨U,V,W,_⟩:=J p.1 hb;obtain⟨o,F,d⟩:=O p.1 hb;rw[e] at F;cases F;exact⟨e,U,V,W,d⟩
theorem Inv.unpinned {pins pl:QC}{σ:St}{H:Hp}{s:Shared}(I:Inv X (pins++pl) σ H s):Inv X pins σ H s:=I.pins_of fun p F=>I.pin p (KH _ (K9 _ F))
theorem Yr {iter:Expr}{aG:List Stmt}{wi:TI}{g:TG}{tb:TS}{pos:Pos}(Z:PassesOwn (model X.prog X.w) X.A X.env X.xe)(hc:X.calm=true)(hi:PI X tg iter wi)(hg:PG X tg g)(hb:PSs X aG tb)
  (hs:∀x,foldedSetIterable iter X.env x=pure x:=by intro _;rfl):PS X (.For tg iter aG [] pos) (ED wi g tb):=by
 intro pins s σ H D I h;refine wpAny_For (YM (hi pins s σ H _ I h) fun v s1 h1=>YM h1 fun itv s2 h2=>?_) hs;obtain⟨it,fp,tn,J,H2,e,I2,T,cE,f2,W,⟨m0,w0⟩,am⟩:=h2;subst e;have O:∀{H':Hp},(∀b∈fp,H' b=none) -> ∀b∈fp,Mz X pins H' b:=fun hn b hb=>⟨hn b hb,(f2 b hb).2⟩;refine codeAny_forLoop_any (fun n s'=>∃i S H',Inv X pins S H' s'/\tn i s'.heap/\(∀b∈fp,H' b=none)/\W i n S H') ?_ m0 ⟨0,σ,H2,I2,cE,fun b hb=>(f2 b hb).1,w0⟩;rintro n s3 ⟨i,U,H3,I3,bB,cm,w3⟩;rcases am i n U H3 w3 with⟨stop,qn⟩ | ⟨go,N,hN,step⟩
 ·refine Xf Z (YM (T.done X rfl rfl rfl hc i pins s3 U H3 X.xe I3 (O cm) bB stop) fun r s4 ⟨hr,I4⟩=>?_);subst hr;exact Tb ⟨U,H3,I4,qn⟩
 ·refine Xf Z (YM (T.item X rfl rfl rfl hc i pins s3 U H3 X.xe I3 (O cm) bB go) fun r s4 ⟨u,hr,h4⟩=>?_);subst hr;refine Xf Z (YM h4 fun _ s5 ⟨x,H5,I5,r5,y5,Y,bK⟩=>?_);have sv:=I5.pinned (O bK) (T.obj _ _ Y);refine Xf Z (YM (hg _ s5 U H5 x u _ sv r5 (step x H5 y5)) fun _ s6 ⟨sw,H6,I6,q6⟩=>?_);refine Xf Z (YM (hb _ s6 sw H6 _ I6 q6) fun f s7 V=>?_);have again:∀{F:St}{H7:Hp},Inv X (pins++DK fp s5.heap) F H7 s7->N F H7 -> ∃m,m<n /\ ∃i S H',Inv X pins S H' s7/\tn i s7.heap/\(∀b∈fp,H' b=none)/\W i m S H':=fun {F H7} I7 n7=>by
   obtain⟨m',hm,w7⟩:=hN F H7 n7;refine⟨m',hm,i+1,F,H7,I7.unpinned,T.keep _ _ _ Y fun b hb o e=>(I7.pin (b,o) (KH _ (KH _ (CA hb e)))).1,fun b hb=>?_,w7⟩;obtain⟨o,e,d⟩:=T.obj _ _ Y b hb;exact(I7.pin (b,o) (KH _ (KH _ (CA hb e)))).2.1
  cases f with
  | next=>obtain⟨F,H7,I7,n7⟩:=V;exact again I7 n7
  | cont=>obtain⟨F,H7,I7,n7⟩:=V;exact again I7 n7
  | brk=>obtain⟨F,H7,I7,V⟩:=V;exact⟨F,H7,I7.unpinned,V⟩
  | ret v=>obtain⟨x7,F,H7,I7,r7,V⟩:=V;exact⟨x7,F,H7,I7.unpinned,r7,V⟩
end
theorem JA {K:QF}{a:Addr}{xs:QH}{g:TG}{tb:TS}{D:Ends}{σ:St}{H:Hp}(Pv:Nat->St->Hp->Prop)(h0:Pv 0 σ H)(J:∀i σ H,i<=xs.length->Pv i σ H->Zr K H a xs)
  (hs:∀i x σ H,xs[i]? = some x->Pv i σ H->g x σ H fun I H2=>tb { D with nx:=Pv (i+1),ct:=Pv (i+1),bk:=D.nx } I H2) (hd:∀ σ H,Pv xs.length σ H->D.nx σ H):
  Dl (Itl K a) g tb D σ H:=by
 refine⟨fun i m σ H=>m=xs.length-i/\i<=xs.length/\Pv i σ H,⟨xs.length,by simp,Kn _,h0⟩,?_⟩;rintro i m σ H ⟨rfl,hi,p⟩;have q:=J i σ H hi p;by_cases F:i<xs.length
 ·refine .inr ⟨⟨xs,xs[i],q,by simp[F]⟩,Pv (i+1),fun O H' S=>⟨xs.length-(i+1),by lia,rfl,F,S⟩,fun x H' y=>?_⟩;obtain⟨e,y⟩:=y;subst e;exact hs i x σ _ (y xs q) p
 ·have e:i=xs.length:=by lia
  subst e;exact .inl ⟨⟨xs,q,km _⟩,hd σ H p⟩
theorem Jl {lo:Int}{n:Nat}{g:TG}{tb:TS}{D:Ends}{σ:St}{H:Hp}(Pv:Nat->St->Hp->Prop)(h0:Pv 0 σ H)
  (hs:∀i σ H,i<n->Pv i σ H->g (.int (lo+i)) σ H fun I H2=>tb { D with nx:=Pv (i+1),ct:=Pv (i+1),bk:=D.nx } I H2) (hd:∀ σ H,Pv n σ H->D.nx σ H):
  Dl (Itr lo n) g tb D σ H:=by
 refine⟨fun i m σ H=>m=n-i/\i<=n/\Pv i σ H,⟨n,by simp,Kn _,h0⟩,?_⟩;rintro i m σ H ⟨rfl,hi,p⟩;by_cases F:i<n
 ·refine .inr ⟨F,Pv (i+1),fun J H' O=>⟨n-(i+1),by lia,rfl,F,O⟩,fun x H' y=>?_⟩;obtain⟨e,y⟩:=y;subst e y;exact hs i σ _ F p
 ·have e:i=n:=by lia
  subst e;exact .inl ⟨km _,hd σ H p⟩
theorem EF {c:TT}{tb:TS}{D:Ends}{σ:St}{H:Hp}(Pv:QT)(I:St->Hp->Nat)(h0:Pv σ H)
  (hs:∀ σ H,Pv σ H->c σ H fun b H1=>if b=true then tb { D with nx:=fun F H'=>Pv F H' /\ I F H' < I σ H,ct:=fun F H'=>Pv F H' /\ I F H' < I σ H,bk:=D.nx } σ H1 else D.nx σ H1)
  (mono:∀ σ H Q Q',(∀b H1,Q b H1->Q' b H1)->c σ H Q->c σ H Q'):RC c tb D σ H:=by
 refine⟨fun m σ H=>m = I σ H/\Pv σ H,⟨_,rfl,h0⟩,?_⟩;rintro m σ H ⟨rfl,p⟩;refine mono σ H _ _ (fun b H1 q=>?_) (hs σ H p);cases b with
 | true=>exact⟨_,fun F H' ⟨J,l⟩=>⟨_,l,rfl,J⟩,q⟩
 | false=>exact q
abbrev R2:=V->V->Hp->VK->Prop
def Uo (X:Cx)(f:Value->Value->Sem Value)(r:R2):Prop:=
 ∀(pins:QC)(s:Shared)(σ:St)(H:Hp)(x y:V)(v u:Value)(Q:VK),Inv X pins σ H s->RelV x v->RelV y u->r x y H Q ->
  wpAny (model X.prog X.w) X.A (f v u) (EP X pins σ Q) X.xe s
def UnR (X:Cx)(f:Value->Sem Value)(r:V->Hp->VK->Prop):Prop:=
 ∀(pins:QC)(s:Shared)(σ:St)(H:Hp)(x:V)(v:Value)(Q:VK),Inv X pins σ H s->RelV x v->r x H Q ->
  wpAny (model X.prog X.w) X.A (f v) (EP X pins σ Q) X.xe s
def YU (X:Cx)(f:Value)(r:List V->Hp->VK->Prop):Prop:=
 ∀(pins:QC)(s:Shared)(σ:St)(H:Hp)(xs:QH)(us:QJ)(Q:VK),Inv X pins σ H s->Vals xs us->r xs H Q ->
  wpAny (model X.prog X.w) X.A (call f us) (EP X pins σ Q) X.xe s
def EG (X:Cx)(r:V->Hp->(Bool->Hp->Prop)->Prop):Prop:=
 ∀(pins:QC)(s:Shared)(σ:St)(H:Hp)(x:V)(v:Value)(Q:Bool->Hp->Prop),Inv X pins σ H s->RelV x v->r x H Q ->
  wpAny (model X.prog X.w) X.A (truthy v) (TP X pins σ Q) X.xe s
def tOp (r:R2)(ta tb:TE):TE:=fun σ H Q=>ta σ H fun x H1=>tb σ H1 fun y H2=>r x y H2 Q
def tUn (r:V->Hp->VK->Prop)(ta:TE):TE:=fun σ H Q=>ta σ H fun x H1=>r x H1 Q
inductive rI(C:Int->Int->Prop)(g:Int->Int->V)(x y:V)(H:Hp)(Q:VK):Prop|mk(i j:_)(_:x = .int i)(_:y = .int j)(_:C i j)(_:Q (g i j) H)
inductive rI0(g:Int->Int->V)(x y:V)(H:Hp)(Q:VK):Prop|mk(i j:_)(_:x = .int i)(_:y = .int j)(_:Q (g i j) H)
inductive rU(g:Int->V)(x:V)(H:Hp)(Q:VK):Prop|mk(i:_)(_:x = .int i)(_:Q (g i) H)
section
variable {X:Cx}{a b c:Expr}{ta tb tc:TE}{pos:Pos}
theorem IY (ha:PE X a ta)(hb:PE X b tb){pins:QC}{s:Shared}{σ:St}{H:Hp}{R:V->V->Hp->Prop}(I:Inv X pins σ H s)
  (h:ta σ H fun x H1=>tb σ H1 fun y H2=>R x y H2) {Q:QE}{f:Value->Value->Sem Value}
  (S:∀v u O x y H2,Inv X pins σ H2 O->RelV x v->RelV y u->R x y H2->wpAny (model X.prog X.w) X.A (f v u) Q X.xe O):
  wpAny (model X.prog X.w) X.A (eval a X.env) (fun v F=>wpAny (model X.prog X.w) X.A (eval b X.env) (fun u J=>wpAny (model X.prog X.w) X.A (f v u) Q X.xe J) X.xe F) X.xe s:=by
 refine YM (ha pins s σ H _ I h) fun v U ⟨x,H1,I1,W,Y⟩=>?_;refine YM (hb pins U σ H1 _ I1 Y) fun u O ⟨y,H2,I2,Z,q2⟩=>?_;exact S v u O x y H2 I2 W Z q2
theorem Zk {op:Operator}{r:R2}(F:Uo X (binaryOp op) r)(ha:PE X a ta)(hb:PE X b tb):PE X (.BinOp a op b pos) (tOp r ta tb):=by intro pins s σ H Q I h;exact wpAny_BinOp (IY ha hb I h fun v u J x y H2 I2 O S q=>F pins J σ H2 x y v u Q I2 O S q)
theorem UY {op:UnaryOp}{r:V->Hp->VK->Prop}(F:UnR X (unaryOp op) r)(ha:PE X a ta):PE X (.UnaryOp op a pos) (tUn r ta):=by intro pins s σ H Q I h;exact UnaryOp_ (YM (ha pins s σ H _ I h) fun v J ⟨x,H1,I1,O,S⟩=>F pins J σ H1 x v Q I1 O S)
theorem opI {f:Value->Value->Sem Value}{C:Int->Int->Prop}{g:Int->Int->Int}
  (rule:∀(i j:Int)(t u:Tok)(s:Shared)(Q:QE)(E:QE),C i j->Q (.int (g i j) s.toks) { s with toks:=s.toks+1 } -> wpAny (model X.prog X.w) X.A (f (.int i t) (.int j u)) Q E s):
  Uo X f (rI C fun i j=>.int (g i j)):=by
 intro pins s σ H x y v u Q I F J h;obtain⟨i,j,rfl,rfl,O,q⟩:=h;obtain⟨t,rfl⟩:=F;obtain⟨t',rfl⟩:=J;exact rule i j t t' s _ _ O ⟨.int (g i j),H,I.tok _,⟨_,rfl⟩,q⟩
theorem CB {f:Value->Value->Sem Value}{g:Int->Int->Int}
  (rule:∀(i j:Int)(t u:Tok)(s:Shared)(Q:QE)(E:QE),Q (.int (g i j) s.toks) { s with toks:=s.toks+1 } -> wpAny (model X.prog X.w) X.A (f (.int i t) (.int j u)) Q E s):
  Uo X f (rI0 fun i j=>.int (g i j)):=by
 intro pins s σ H x y v u Q I F J h;obtain⟨i,j,rfl,rfl,q⟩:=h;obtain⟨t,rfl⟩:=F;obtain⟨t',rfl⟩:=J;exact rule i j t t' s _ _ ⟨.int (g i j),H,I.tok _,⟨_,rfl⟩,q⟩
theorem CC {f:Value->Value->Sem Value}{g:Int->Int->Bool}
  (rule:∀(i j:Int)(t u:Tok)(s:Shared)(Q:QE)(E:QE),Q (.bool (g i j)) s->wpAny (model X.prog X.w) X.A (f (.int i t) (.int j u)) Q E s):
  Uo X f (rI0 fun i j=>.bl (g i j)):=by
 intro pins s σ H x y v u Q I F J h;obtain⟨i,j,rfl,rfl,q⟩:=h;obtain⟨t,rfl⟩:=F;obtain⟨t',rfl⟩:=J;exact rule i j t t' s _ _ ⟨.bl (g i j),H,I,rfl,q⟩
def EH (i j:Int):Prop:=0<j/\j<1073741824
def IZ (i j:Int):Prop:=0<=j/\j<=1000000/\i.natAbs<2 ^ 64
def Pa (i j:Int):Prop:=(-(2 ^ 64)<i/\i<2 ^ 64)∨(-(2 ^ 64)<j/\j<2 ^ 64)
theorem Pa.ok {i j:Int}(h:Pa i j):IntMulOk i j:=by
 rcases h with⟨h1,h2⟩ | ⟨h1,h2⟩
 ·exact .of_left (intBits_le_64 h1 h2)
 ·exact .of_right (intBits_le_64 h1 h2)
theorem ZC:Uo X (binaryOp .Add) (rI0 fun i j=>.int (i+j)):=CB fun _ _ _ _ _ _ _ q=>add_int q
theorem Y0:Uo X (binaryOp .Sub) (rI0 fun i j=>.int (i-j)):=CB fun _ _ _ _ _ _ _ q=>sub_int q
theorem Wn:Uo X (binaryOp .Mult) (rI Pa fun i j=>.int (i*j)):=opI fun _ _ _ _ _ _ _ F q=>mul_int q F.ok
theorem DM:Uo X (binaryOp .FloorDiv) (rI EH fun i j=>.int (i / j)):=opI fun i j _ _ _ _ _ F q=>by have h1:(0:Int)<j:=F.1;have h2:j<1073741824:=F.2;exact floordiv_int (by lia) (by rw[Int.fdiv_eq_ediv_of_nonneg i (by lia)];exact q) (.inl (Mb (by lia)))
theorem Ug:Uo X (binaryOp .Mod) (rI (fun _ j=>0<j) fun i j=>.int (i % j)):=opI fun i j _ _ _ _ _ F q=>by have h1:(0:Int)<j:=F;exact mod_int' (by lia) (by rw[Int.fmod_eq_emod_of_nonneg i (by lia)];exact q)
theorem CD:Uo X (binaryOp .Pow) (rI IZ fun i j=>.int (i ^ j.toNat)):=opI fun _ _ _ _ _ _ _ F q=>pow_int_small F.1 F.2.1 F.2.2 q
theorem EJ:Uo X (binaryOp .BitAnd) (rI0 fun i j=>.int (Builtin.bitAnd i j)):=CB fun _ _ _ _ _ _ _ q=>and_int q
theorem EK:Uo X (binaryOp .BitXor) (rI0 fun i j=>.int (Builtin.bitXor i j)):=CB fun _ _ _ _ _ _ _ q=>xor_int q
theorem unI {f:Value->Sem Value}{g:QX}
  (rule:∀(i:Int)(t:Tok)(s:Shared)(Q:QE)(E:QE),Q (.int (g i) s.toks) { s with toks:=s.toks+1 } -> wpAny (model X.prog X.w) X.A (f (.int i t)) Q E s):
  UnR X f (rU fun i=>.int (g i)):=by
 intro pins s σ H x v Q I F h;obtain⟨i,rfl,q⟩:=h;obtain⟨t,rfl⟩:=F;exact rule i t s _ _ ⟨.int (g i),H,I.tok _,⟨_,rfl⟩,q⟩
theorem WO:UnR X (unaryOp .USub) (rU fun i=>.int (-i)):=unI fun _ _ _ _ _ q=>neg_int q
end
def RG:V->V->Bool
 | .non,.non=>true | .non,.int _=>true | .int _,.non=>true | .non,.bl _=>true | .bl _,.non=>true | .non,.str _=>true | .str _,.non=>true
 | .int _,.int _=>true | .bl _,.bl _=>true | .str _,.str _=>true | .byt _,.byt _=>true
 | .int _,.str _=>true | .str _,.int _=>true | .bl _,.str _=>true | .str _,.bl _=>true
 | _,_=>false
inductive rEq(x y:V)(H:Hp)(Q:VK):Prop|mk(_:RG x y=true)(_:Q (.bl (decide (x=y))) H)
inductive rNe(x y:V)(H:Hp)(Q:VK):Prop|mk(_:RG x y=true)(_:Q (.bl (!decide (x=y))) H)
theorem RH {i j:Int}:decide (V.int i=V.int j)=(i==j):=by rw[qJ];simp
theorem RI {i j:Bool}:decide (V.bl i=V.bl j)=(i==j):=by rw[qJ];simp
theorem RJ {i j:Str}:decide (V.str i=V.str j)=(i==j):=by rw[qJ];simp
theorem RK {i j:Array UInt8}:decide (V.byt i=V.byt j)=(i.toList==j.toList):=by rw[qJ];cases i;cases j;simp
section
variable {X:Cx}{a b c:Expr}{ta tb tc:TE}{pos:Pos}
theorem Yk {pins:QC}{σ:St}{H:Hp}{s:Shared}{Q:VK}{k k':Bool}(I:Inv X pins σ H s)(q:Q (.bl k) H)(e:k=k'):EP X pins σ Q (.bool k') s:=by subst e;exact⟨.bl k,H,I,rfl,q⟩
theorem Yp:Uo X (compareOp .Eq) rEq:=by
 intro pins s σ H x y v u Q I J F h;obtain⟨hs,q⟩:=h;cases x with
 | non=>
  cases J;cases y with
  | non=>cases F;exact PySem.EqNone.eq_none_none (Yk I q (by simp))
  | bl j=>cases F;exact PySem.EqNone.eq_none_bool (Yk I q (by simp))
  | int j=>obtain⟨t',rfl⟩:=F;exact PySem.EqNone.eq_none_int (Yk I q (by simp))
  | str j=>obtain⟨t',rfl⟩:=F;exact PySem.EqNone.eq_none_str (Yk I q (by simp))
  | _=>exact absurd (show false=true from hs) kO
 | bl i=>
  cases J;cases y with
  | non=>cases F;exact PySem.EqNone.eq_bool_none (Yk I q (by simp))
  | bl j=>cases F;exact eq_bool (Yk I q RI)
  | str j=>obtain⟨t',rfl⟩:=F;exact PySem.EqMixed.eq_bool_str (Yk I q (by simp))
  | _=>exact absurd (show false=true from hs) kO
 | int i=>
  obtain⟨t,rfl⟩:=J;cases y with
  | non=>cases F;exact PySem.EqNone.eq_int_none (Yk I q (by simp))
  | int j=>obtain⟨t',rfl⟩:=F;exact eq_int (Yk I q RH)
  | str j=>obtain⟨t',rfl⟩:=F;exact PySem.EqMixed.eq_int_str (Yk I q (by simp))
  | _=>exact absurd (show false=true from hs) kO
 | str i=>
  obtain⟨t,rfl⟩:=J;cases y with
  | non=>cases F;exact PySem.EqNone.eq_str_none (Yk I q (by simp))
  | bl j=>cases F;exact PySem.EqMixed.eq_str_bool (Yk I q (by simp))
  | int j=>obtain⟨t',rfl⟩:=F;exact PySem.EqMixed.eq_str_int (Yk I q (by simp))
  | str j=>obtain⟨t',rfl⟩:=F;exact eq_str (Yk I q RJ)
  | _=>exact absurd (show false=true from hs) kO
 | byt i=>
  obtain⟨t,rfl⟩:=J;cases y with
  | byt j=>obtain⟨t',rfl⟩:=F;exact W.eq_bytes (Yk I q RK)
  | _=>exact absurd (show false=true from hs) kO
 | _=>cases y<;>exact absurd (show false=true from hs) kO
theorem LB:Uo X (compareOp .NotEq) rNe:=by
 intro pins s σ H x y v u Q I J F h;obtain⟨hs,q⟩:=h;cases x with
 | non=>
  cases J;cases y with
  | non=>cases F;exact PySem.EqNone.ne_none_none (Yk I q (by simp))
  | bl j=>cases F;exact PySem.EqNone.ne_none_bool (Yk I q (by simp))
  | int j=>obtain⟨t',rfl⟩:=F;exact PySem.EqNone.ne_none_int (Yk I q (by simp))
  | str j=>obtain⟨t',rfl⟩:=F;exact PySem.EqNone.ne_none_str (Yk I q (by simp))
  | _=>exact absurd (show false=true from hs) kO
 | bl i=>
  cases J;cases y with
  | non=>cases F;exact PySem.EqNone.ne_bool_none (Yk I q (by simp))
  | bl j=>cases F;exact ne_bool (Yk I q (Kx not RI))
  | str j=>obtain⟨t',rfl⟩:=F;exact PySem.EqMixed.ne_bool_str (Yk I q (by simp))
  | _=>exact absurd (show false=true from hs) kO
 | int i=>
  obtain⟨t,rfl⟩:=J;cases y with
  | non=>cases F;exact PySem.EqNone.ne_int_none (Yk I q (by simp))
  | int j=>obtain⟨t',rfl⟩:=F;exact ne_int (Yk I q (Kx not RH))
  | str j=>obtain⟨t',rfl⟩:=F;exact PySem.EqMixed.ne_int_str (Yk I q (by simp))
  | _=>exact absurd (show false=true from hs) kO
 | str i=>
  obtain⟨t,rfl⟩:=J;cases y with
  | non=>cases F;exact PySem.EqNone.ne_str_none (Yk I q (by simp))
  | bl j=>cases F;exact PySem.EqMixed.ne_str_bool (Yk I q (by simp))
  | int j=>obtain⟨t',rfl⟩:=F;exact PySem.EqMixed.ne_str_int (Yk I q (by simp))
  | str j=>obtain⟨t',rfl⟩:=F;exact ne_str (Yk I q (Kx not RJ))
  | _=>exact absurd (show false=true from hs) kO
 | byt i=>
  obtain⟨t,rfl⟩:=J;cases y with
  | byt j=>obtain⟨t',rfl⟩:=F;exact W.ne_bytes (Yk I q (Kx not RK))
  | _=>exact absurd (show false=true from hs) kO
 | _=>cases y<;>exact absurd (show false=true from hs) kO
theorem W9:Uo X (compareOp .Lt) (rI0 fun i j=>.bl (decide (i<j))):=CC fun _ _ _ _ _ _ _ q=>lt_int q
theorem EL:Uo X (compareOp .LtE) (rI0 fun i j=>.bl (decide (i<=j))):=CC fun _ _ _ _ _ _ _ q=>le_int q
theorem Lk:Uo X (compareOp .Gt) (rI0 fun i j=>.bl (decide (j<i))):=CC fun _ _ _ _ _ _ _ q=>gt_int q
theorem Pb:Uo X (compareOp .GtE) (rI0 fun i j=>.bl (decide (j<=i))):=CC fun _ _ _ _ _ _ _ q=>ge_int q
inductive EM(x y:V)(H:Hp)(Q:VK):Prop|mk(_:y = .non)(_:Q (.bl (decide (x = .non))) H)
theorem Pc:Uo X (compareOp .Is) EM:=by
 intro pins s σ H x y v u Q I F J h;obtain⟨rfl,q⟩:=h;cases J;refine is_none_gen (Yk I q ?_);cases x<;>first
  | (cases F;rfl)
  | (obtain⟨t,rfl⟩:=F;rfl)
inductive EN(x y:V)(H:Hp)(Q:VK):Prop|mk(_:y = .non)(_:Q (.bl (!decide (x = .non))) H)
theorem Pd:Uo X (compareOp .IsNot) EN:=by
 intro pins s σ H x y v u Q I F J h;obtain⟨rfl,q⟩:=h;cases J;refine isnot_none_gen (Yk I q ?_);cases x<;>first
  | (cases F;rfl)
  | (obtain⟨t,rfl⟩:=F;rfl)
theorem Zt (b:Expr){op:CmpOp}(h:op ≠ .In:=by decide)(h2:op ≠ .NotIn:=by decide):behindInMarks op b=false:=by
 have F:(op==CmpOp.In)=false:=by cases op<;>first | rfl | exact absurd rfl h
 have I:(op==CmpOp.NotIn)=false:=by cases op<;>first | rfl | exact absurd rfl h2
 cases b<;>simp[behindInMarks,F,I]
theorem Yn {op:CmpOp}{r:R2}(F:Uo X (compareOp op) r)(ha:PE X a ta)(hb:PE X b tb)(J:behindInMarks op b=false):PE X (.Compare a [op] [b] pos) (tOp r ta tb):=by intro pins s σ H Q I h;exact wpAny_Compare1 (IY ha hb I h fun v u O x y H2 I2 S U q=>F pins O σ H2 x y v u Q I2 S U q) J
def RL (t:TE):TT:=fun σ H Q=>t σ H fun x H'=>isB x H' Q
theorem Zu {op:CmpOp}{r:R2}(F:Uo X (compareOp op) r)(ha:PE X a ta)(hb:PE X b tb)(J:behindInMarks op b=false):PT X (.Compare a [op] [b] pos) (RL (tOp r ta tb)):=by
 intro pins s σ H Q I h;refine wpAny_isTrue_Compare1 (YM (ha pins s σ H _ I h) fun v O ⟨x,H1,I1,S,U⟩=>YM (hb pins O σ H1 _ I1 U) fun u V ⟨y,H2,I2,W,Y⟩=>
  YM (F pins V σ H2 x y v u _ I2 S W Y) fun c s3 ⟨z,H3,I3,Z,k,e,q3⟩=>?_) J
 subst e;cases Z;exact KW ⟨H3,I3,q3⟩
def RM (r r':R2)(ta tb tc:TE):TE:=fun σ H Q=>ta σ H fun x H1=>tb σ H1 fun y H2=>r x y H2 fun z H3=>isB z H3 fun k H3=>if k=true then tc σ H3 fun w' H4=>r' y w' H4 Q else Q (.bl false) H3
theorem RN {op bC:CmpOp}{r r':R2}(S:Uo X (compareOp op) r)(F:Uo X (compareOp bC) r')(ha:PE X a ta)(hb:PE X b tb)(U:PE X c tc)
  (V:lastMarks [op,bC] [b,c]=false:=by with_unfolding_all rfl):PE X (.Compare a [op,bC] [b,c] pos) (RM r r' ta tb tc):=by
 intro pins s σ H Q I h;refine Compare_chain (YM (ha pins s σ H _ I h) fun v W ⟨x,H1,I1,Y,Z⟩=>chain_link (YM (hb pins W σ H1 _ I1 Z) fun u s2 ⟨y,H2,I2,J,q2⟩=>
  YM (S pins s2 σ H2 x y v u _ I2 Y J q2) fun d s3 ⟨z,H3,I3,r3,k,e,O⟩=>?_)) V
 subst e;cases r3;refine KW ?_;cases k with
 | false=>exact ite_ff ⟨.bl false,H3,I3,rfl,O⟩
 | true=>exact ite_tt (chain_last (YM (U pins s3 σ H3 _ I3 O) fun w' s4 ⟨z',H4,I4,r4,q4⟩=>F pins s4 σ H4 y z' u w' Q I4 J r4 q4))
theorem EO {op bC:CmpOp}{r r':R2}(S:Uo X (compareOp op) r)(F:Uo X (compareOp bC) r')(ha:PE X a ta)(hb:PE X b tb)(U:PE X c tc)
  (V:lastMarks [op,bC] [b,c]=false:=by with_unfolding_all rfl):PT X (.Compare a [op,bC] [b,c] pos) (RL (RM r r' ta tb tc)):=by
 intro pins s σ H Q I h;refine isTrue_chain (YM (ha pins s σ H _ I h) fun v W ⟨x,H1,I1,Y,Z⟩=>test_link (YM (hb pins W σ H1 _ I1 Z) fun u s2 ⟨y,H2,I2,J,q2⟩=>
  YM (S pins s2 σ H2 x y v u _ I2 Y J q2) fun d s3 ⟨z,H3,I3,r3,k,e,O⟩=>?_)) V
 subst e;cases r3;refine KW ?_;cases k with
 | false=>
  obtain⟨k',e',q'⟩:=O;cases e';exact ite_ff ⟨H3,I3,q'⟩
 | true=>
  refine ite_tt (test_last (YM (U pins s3 σ H3 _ I3 O) fun w' s4 ⟨z',H4,I4,r4,q4⟩=>YM (F pins s4 σ H4 y z' u w' _ I4 J r4 q4) fun d' s5 ⟨z2,H5,I5,r5,k2,e2,q5⟩=>?_));subst e2;cases r5;exact KW ⟨H5,I5,q5⟩
def ER (K:QF)(x:V)(H:Hp)(k:Bool):Prop:=
 match x with
 | .non=>k=false
 | .bl b=>k=b
 | .int i=>k=(i != 0)
 | .str y=>y.length<=sizeLine/\k=((y.length:Int) != 0)
 | .byt y=>y.size<=sizeLine/\k=((y.size:Int) != 0)
 | .ref p=>(∃xs,Zr K H p xs/\k = !xs.isEmpty)∨(∃xs,Y9 K H p xs/\k = !xs.isEmpty) ∨ ∃kvs,H p=some (.dK kvs)/\k = !kvs.isEmpty
 | _=>False
theorem ES {κ:Type}{kvs:List (κ × V)}{vs:List (κ × Value)}(r:KV kvs vs):(!vs.isEmpty) = !kvs.isEmpty:=by cases r<;>rfl
theorem RO {xs:QH}{its:QJ}(r:Vals xs its):(!its.toArray.isEmpty) = !xs.isEmpty:=by cases r<;>simp
theorem DN:(sizeLine:Nat)<2 ^ 63:=by rw[kY];decide
inductive CF(K:QF)(x:V)(H:Hp)(Q:Bool->Hp->Prop):Prop|mk(k:_)(_:ER K x H k)(_:Q k H)
theorem EU:EG X (CF X.K):=by
 intro pins s σ H x v Q I O h;obtain⟨k,e,q⟩:=h;have Z:=DN;have hs:sizeLine=16777216:=kY;cases x with
 | non=>
  cases O;have F:k=false:=e;subst F;exact truthy_none ⟨H,I,q⟩
 | bl b=>
  cases O;have F:k=b:=e;subst F;exact KW ⟨H,I,q⟩
 | int i=>
  obtain⟨t,rfl⟩:=O;have F:k=(i != 0):=e;subst F;exact PySem.P.truthy_int ⟨H,I,q⟩
 | str y=>
  obtain⟨t,rfl⟩:=O;obtain⟨V,F⟩:y.length<=sizeLine/\k=((y.length:Int) != 0):=e;subst F;exact PySem.P.truthy_str (by lia) ⟨H,I.tok _,q⟩
 | byt y=>
  obtain⟨t,rfl⟩:=O;obtain⟨V,F⟩:y.size<=sizeLine/\k=((y.size:Int) != 0):=e;subst F;exact W.truthy_bytes (by lia) ⟨H,I.tok _,q⟩
 | ref p=>
  cases O;have F:(∃xs,Zr X.K H p xs/\k = !xs.isEmpty)∨(∃xs,Y9 X.K H p xs/\k = !xs.isEmpty) ∨ ∃kvs,H p=some (.dK kvs)/\k = !kvs.isEmpty:=e;rcases F with⟨xs,S,F⟩ | ⟨xs,S,F⟩ | ⟨kvs,S,F⟩
  ·subst F;obtain⟨its,r,U,hz⟩:=I.list S;have J:=r.length;exact wpAny_truthy_list U.isList (by simp only[kr];lia) ⟨H,I.tok _,by rw[RO r];exact q⟩
  ·subst F;obtain⟨its,r,U,hz⟩:=I.tuple S;have J:=r.length;exact truthy_tuple U (by simp only[kr];lia) ⟨H,I.tok _,by rw[RO r];exact q⟩
  ·subst F;obtain⟨hz,Y,vs,r,m⟩:kvs.length<=sizeLine/\(p==sysModules)=false /\ ∃vs,KV kvs vs/\s.heap.DictOf (Z9 X.prog X.w) p vs:=I.hok p _ S;have J:kvs.length=vs.length:=qp r;exact wpAny_truthy_dict Y m (by lia) ⟨H,I.tok _,by rw[ES r];exact q⟩
 | _=>exact(show False from e).elim
theorem RP (ha:PE X a ta)(J:∀F,isTrue a X.env F=(do let v <- F;standAt a.pos;holding [v] (truthy v))):
  PT X a (fun σ H Q=>ta σ H fun x H'=>CF X.K x H' Q):=by
 intro pins s σ H Q I h;exact isTrue_plain (YM (ha pins s σ H _ I h) fun v O ⟨x,H1,I1,S,U⟩=>EU pins O σ H1 x v Q I1 S U) (J _)
theorem vals1 {x:V}{us:QJ}(r:Vals [x] us):∃u,us = [u]/\RelV x u:=by
 cases r with
 | cons F I=>cases I;exact⟨_,rfl,F⟩
theorem vals2 {x y:V}{us:QJ}(r:Vals [x,y] us):∃u F,us = [u,F]/\RelV x u/\RelV y F:=by
 cases r with
 | cons I J=>
  cases J with
  | cons O S=>cases S;exact⟨_,_,rfl,I,O⟩
inductive EV(xs:QH)(H:Hp)(Q:VK):Prop|mk(i:_)(_:xs = [.int i])(_:Q (.int (if i<0 then -i else i)) H)
theorem CG:YU X (.builtin "abs") EV:=by intro pins s σ H xs us Q I r h;obtain⟨i,rfl,q⟩:=h;obtain⟨u,rfl,t,rfl⟩:=vals1 r;exact call_abs_int fun u tk=>⟨.int (if i<0 then -i else i),H,I.tok _,⟨_,rfl⟩,q⟩
inductive EW(xs:QH)(H:Hp)(Q:VK):Prop|mk(i j:_)(_:xs = [.int i,.int j])(_:Q (.int (if j>i then j else i)) H)
theorem WK (J:X.calm=true):YU X (.builtin "max") EW:=by
 intro pins s σ H xs us Q I r h;obtain⟨i,j,rfl,q⟩:=h;obtain⟨u,O,rfl,⟨t,rfl⟩,⟨t',rfl⟩⟩:=vals2 r;refine max_two_ints (I.ok.hd J) fun h' tk k=>⟨_,H,I.kept k,?_,q⟩;by_cases F:j>i
 ·rw[kj F,kj F];exact⟨_,rfl⟩
 ·rw[kh F,kh F];exact⟨_,rfl⟩
inductive EX(xs:QH)(H:Hp)(Q:VK):Prop|mk(i j:_)(_:xs = [.int i,.int j])(_:Q (.int (if j<i then j else i)) H)
theorem CH (J:X.calm=true):YU X (.builtin "min") EX:=by
 intro pins s σ H xs us Q I r h;obtain⟨i,j,rfl,q⟩:=h;obtain⟨u,O,rfl,⟨t,rfl⟩,⟨t',rfl⟩⟩:=vals2 r;refine min_two_ints (I.ok.hd J) fun h' tk k=>⟨_,H,I.kept k,?_,q⟩;by_cases F:j<i
 ·rw[kj F,kj F];exact⟨_,rfl⟩
 ·rw[kh F,kh F];exact⟨_,rfl⟩
theorem U1:YU X (.type "int") (fun xs H Q=>(∃i,xs = [.int i]/\Q (.int i) H) ∨ ∃k,xs = [.bl k]/\Q (.int (if k then 1 else 0)) H):=by
 intro pins s σ H xs us Q I r h;rcases h with⟨i,rfl,q⟩ | ⟨k,rfl,q⟩
 ·obtain⟨u,rfl,t,rfl⟩:=vals1 r;exact call_int_int ⟨.int i,H,I,⟨_,rfl⟩,q⟩
 ·obtain⟨u,rfl,F⟩:=vals1 r;cases F;exact call_int_bool ⟨.int (if k then 1 else 0),H,I.tok _,⟨_,rfl⟩,q⟩
end
structure Pe (h:Heap)(x dx C:Addr)(mA:QN):Prop where
 obj:h.get? x=some (W.instObj C dx)
 ns:h.Ns1 dx mA
 ne:dx≠x
theorem EY {h:Heap}{dx:Addr}{mA:QN}(n:h.Ns1 dx mA):∃od,h.get? dx=some od /\ ∀name,W.lookIn name od=some (mA name):=by
 obtain⟨o,es,ep,I,hd,hk,_,J⟩:=n;refine⟨o,I,fun name=>?_⟩;have e:=J name;unfold nsFind findBy at e;rw[<- Array.find?_toList] at e;unfold W.lookIn;rw[hd];dsimp only;split
 ·rename_i y q
  rw[q] at e;exact Kx some e
 ·rename_i q
  rw[q] at e;have a:es.toList.any (·.refKey)=false:=by rw[List.any_eq_false];intro y O;obtain⟨z,t,F⟩:=hk y (Array.mem_toList_iff.mp O);simp[DictEntry.refKey,F]
  have S:¬es.toList.any (·.refKey)=true:=by rw[a];exact kO
  rw[kh S];exact Kx some e
theorem Pe.look {h:Heap}{x dx C:Addr}{mA:QN}(I:Pe h x dx C mA):∃od,W.InstAt h x (W.instObj C dx) C (some od) /\ ∀name,W.lookIn name od=some (mA name):=
 let ⟨od,ho,hl⟩:=EY I.ns
 ⟨od,⟨I.obj,rfl,rfl,ho⟩,hl⟩
theorem My.some_of {v:V}{o:Option Value}(r:My (some v) o):∃u,o=some u/\RelV v u:=by
 cases o with
 | none=>exact(show False from r).elim
 | some u=>exact⟨u,rfl,r⟩
section
variable {P:Program}{w:World}{H H':Hp}{h h':Heap}{a C dx:Addr}{fs sk:List (Str×V)}
theorem EZ (hok:HOk P w H h)(e:H a=some (.ins C dx fs)):∃mA,Pe h a dx C mA/\(∀f,My (fs.lookup f) (mA f))/\PySem.Within mA (fs.map (·.1))/\fs.length<=1000/\H dx=some (.own a):=by obtain⟨d,z,ne,ob,mA,n,r,q⟩:=(show Yy P w H h a (.ins C dx fs) from hok a _ e);exact⟨mA,⟨ob,n,ne⟩,r,q,z,d⟩
end
structure Cls (K:QF)(C:Addr):Prop where
 pg:W.plainGet K C Str.empty=true
 hd:W.hasDictIn K C=true
 po:W.plainOver K C=true
 sa:W.findIn K (.ref C) "__setattr__" = some (some (.builtin "object.__setattr__"))
theorem Cls.get {K:QF}{C:Addr}(c:Cls K C)(f:Str):W.plainGet K C f=true:=c.pg
section
variable {X:Cx}{pins:QC}{σ:St}{H:Hp}{s:Shared}{A:Around}{E:QE}{Q:QE}{c:Value}{b:Bool}
inductive Mi (K:QF)(H:Hp):V->Value->Prop where
 | non:Mi K H .non (.type "NoneType")
 | bl (x:Bool):Mi K H (.bl x) (.type "bool")
 | int (i:Int):Mi K H (.int i) (.type "int")
 | str (x:Str):Mi K H (.str x) (.type "str")
 | flt (x:UInt64):Mi K H (.flt x) (.type "float")
 | lst {a:Addr}{xs:QH} (e:H a=some (.lst xs)):Mi K H (.ref a) (.type "list")
 | frz {a:Addr}{o:Obj}{xs:QH} (e:H a=some (.frz o (.lst xs))):Mi K H (.ref a) (.type "list")
 | tup {a:Addr}{xs:QH} (e:H a=some (.tup xs)):Mi K H (.ref a) (.type "tuple")
 | dK {a:Addr}{kvs:QD} (e:H a=some (.dK kvs)):Mi K H (.ref a) (.type "dict")
 | dT {a:Addr}{kvs:List (List Key×V)} (e:H a=some (.dT kvs)):Mi K H (.ref a) (.type "dict")
 | ins {a C dx:Addr}{fs:List (Str×V)} (e:H a=some (.ins C dx fs)) (cl:Cls K C) (ha:W.findIn K (.ref C) "__class__" = some (some (.builtin "object.__class__")))
   (hn:W.specialIn K (.builtin "object.__class__") "__get__" = some (some (.builtin "getset_descriptor.__get__"))) (htk:W.takesIn K (.builtin "object.__class__")=some true)
   (hm:W.mroIn K C (.type "object")=some true):Mi K H (.ref a) (.ref C)
theorem E1 {x:V}{u t:Value}(I:Inv X pins σ H s)(F:RelV x u)(ty:Mi X.K H x t)(e:W.kitOne X.K t c=some b)(h:∀tk,Q (.bool b) { s with toks:=tk }):
  wpAny (model X.prog X.w) A (call (.builtin "isinstance") [u,c]) Q E s:=by
 cases ty with
 | non=>cases (show u=Value.none from F);exact qg W.kitx_none I.kIn True.intro e (fun z=>nomatch z) h
 | bl y=>cases (show u=Value.bool y from F);exact qg W.kitx_bool I.kIn True.intro e (fun z=>nomatch z) h
 | int i=>obtain⟨t,q⟩:=(show ∃t,u=Value.int i t from F);cases q;exact qg W.kitx_int I.kIn True.intro e (fun z=>nomatch z) h
 | str y=>obtain⟨t,q⟩:=(show ∃t,u=Value.str y t from F);cases q;exact qg W.kitx_str I.kIn True.intro e (fun z=>nomatch z) h
 | flt y=>obtain⟨t,q⟩:=(show ∃t,u=Value.float y t from F);cases q;exact qg W.kitx_float I.kIn True.intro e (fun z=>nomatch z) h
 | @lst a xs ea=>
  cases (show u=Value.ref a from F);obtain⟨_,_,n,_,h1⟩:=(show Yy X.prog X.w H s.heap a (.lst xs) from I.hok a _ ea);exact qg W.kitx_list I.kIn ⟨_,h1,rfl⟩ e (fun z=>nomatch z) h
 | @frz a ob xs ea=>
  cases (show u=Value.ref a from F);obtain⟨_,_,_,n,_,h1⟩:=(show Yy X.prog X.w H s.heap a (.frz ob (.lst xs)) from I.hok a _ ea);exact qg W.kitx_list I.kIn ⟨_,h1,rfl⟩ e (fun z=>nomatch z) h
 | @tup a xs ea=>
  cases (show u=Value.ref a from F);obtain⟨_,_,_,p⟩:=(show Yy X.prog X.w H s.heap a (.tup xs) from I.hok a _ ea);obtain⟨o,h1,h2,_⟩:=p;exact qg W.kitx_tuple I.kIn ⟨o,h1,h2⟩ e (fun z=>nomatch z) h
 | @dK a kvs ea=>
  cases (show u=Value.ref a from F);obtain⟨_,_,vs,_,p⟩:=(show Yy X.prog X.w H s.heap a (.dK kvs) from I.hok a _ ea);obtain⟨o,es,ep,h1,h2,_⟩:=p;exact qg W.kitx_dict I.kIn ⟨o,h1,h2.1⟩ e (fun z=>nomatch z) h
 | @dT a kvs ea=>
  cases (show u=Value.ref a from F);obtain⟨_,_,xs,_,o,es,ep,h1,h2,_⟩:=(show Yy X.prog X.w H s.heap a (.dT kvs) from I.hok a _ ea);exact qg W.kitx_dict I.kIn ⟨o,h1,h2.1⟩ e (fun z=>nomatch z) h
 | @ins a C dx fs ea cl ha hn htk hm=>
  cases (show u=Value.ref a from F);obtain⟨mA,O,_⟩:=EZ I.hok ea;obtain⟨od,J,_⟩:=O.look;exact qg (W.kitx_own (cl.get _) cl.hd ha hn htk hm) I.kIn J e (fun z=>nomatch z) h
end
structure Gz (k:Nat)(A:Around):Prop where
 hd:A.handled=none
 dp:A.depth+3*k+5<recursionLimit
 un:A.units+16*k+200<cLine
theorem Gz.mono {j k:Nat}{A:Around}(r:Gz k A)(h:j<=k):Gz j A:=⟨r.hd,by have:=r.dp;lia,by have:=r.un;lia⟩
theorem Gz.deeper {k:Nat}{A:Around}(r:Gz (k+1) A)(env:Env):Gz k (A.deeper env):=
 ⟨r.hd,by have:=r.dp;show A.depth+1+3*k+5<_;lia,by have:=r.un;show A.units+3+16*k+200<_;lia⟩
theorem Gz.depth {k:Nat}{A:Around}(r:Gz k A):A.depth<recursionLimit:=by have:=r.dp;lia
theorem Gz.units {k:Nat}{A:Around}(r:Gz k A):A.units+64<cLine:=by have:=r.un;lia
def LC:TA:=fun _ H Q=>Q [] H
def U6 (ta:TE)(tr:TA):TA:=fun σ H Q=>ta σ H fun x H1=>tr σ H1 fun xs H2=>Q (x::xs) H2
section
variable {X:Cx}{e:Expr}{es:QV}{te:TE}{t:TA}{pos:Pos}
theorem Zb:PA X [] LC:=fun _ _ _ _ H Q I h=>NC ⟨[],H,I,.nil,h⟩
theorem Za (ha:PE X e te)(F:PA X es t)(hs:starEach (e::es) X.env=(false,eval e X.env)::starEach es X.env:=by rfl):PA X (e::es) (U6 te t):=by intro pos pins s σ H Q I h;rw[hs];show wpAny _ _ (spliced ((false,eval e X.env)::backTo pos (starEach es X.env))) _ _ s;refine Nd (YM (ha pins s σ H _ I h) fun u J ⟨x,H1,I1,O,S⟩=>?_);exact YM (F pos pins J σ H1 _ I1 S) fun us W ⟨xs,H2,I2,U,V⟩=>⟨x::xs,H2,I2,.cons O U,V⟩
inductive E3 (Q:VK)(xs:QH)(H1:Hp):Prop | mk (h:xs.length<=sizeLine) (q:∀p,H1 p=none->Q (.ref p) (upd H1 p (.tup xs)))
def E4 (t:TA):TE:=fun σ H Q=>t σ H fun xs H1=>E3 Q xs H1
inductive E5 (Q:VK)(xs:QH)(H1:Hp):Prop | mk (h:xs.length<=sizeLine) (q:∀p,H1 p=none->Q (.ref p) (upd H1 p (.lst xs)))
def Dm (t:TA):TE:=fun σ H Q=>t σ H fun xs H1=>E5 Q xs H1
theorem ZN {x1} (h:PA X es t):PE X (.Tuple es x1 pos) (E4 t):=by intro pins s σ H Q I J;refine wpAny_Tuple_spliced (YM (h pos pins s σ H _ I J) fun us F ⟨xs,H1,I1,r,z,q⟩=>⟨by rw[<- r.length];exact z,?_⟩);have O:H1 F.heap.objs.size=none:=I1.hok.fresh (km _);refine⟨.ref F.heap.objs.size,upd H1 F.heap.objs.size (.tup xs),I1.laid (t':=F.toks) (fun b u e=>kz _ e) (km _) ?_,rfl,q _ O⟩;exact⟨z,us,r,⟨_,Kf _ rfl,rfl,_,rfl⟩⟩
theorem Zx (h:PA X es t):PE X (.List es pos) (Dm t):=by intro pins s σ H Q I J;refine wpAny_List_spliced (YM (h pos pins s σ H _ I J) fun us F ⟨xs,H1,I1,r,z,q⟩=>⟨by rw[<- r.length];exact z,?_⟩);have O:H1 F.heap.objs.size=none:=I1.hok.fresh (km _);refine⟨.ref F.heap.objs.size,upd H1 F.heap.objs.size (.lst xs),I1.laid (t':=F.toks) (fun b u e=>kz _ e) (km _) ?_,rfl,q _ O⟩;exact⟨z,us,0,r,Kf _ rfl⟩
end
abbrev Sp:=List V->Hp->VK->XK->Prop
abbrev CXT:=List Env->Hp->Shared->XK->Value->Shared->Prop
structure Dn (P:Program)(w:World)(K:QF)(mg:QN)(base:Heap)(A:Around)(outer:QK)(s:Shared)(H:Hp):Prop where
 frames:A.frames=some outer
 mod:Mod K mg base
 bs:∀b o,base.get? b=some o->s.heap.get? b=some o/\H b=none
 bsz:base.objs.size<=s.heap.objs.size
 funs:s.heap.FunFrames base outer
 frf:∀b∈frs outer,H b=none
 hok:HOk P w H s.heap
 bare:AllBare s.gens
def CE (outer:QK)(P:Program)(w:World)(H:Hp)(s:Shared)(Q:VK)(u:Value)(s':Shared):Prop:=
 ∃v H',s'.os=s.os/\AllBare s'.gens/\Un (frs outer) [] H H' s.heap s'.heap/\HOk P w H' s'.heap/\RelV v u/\Q v H'
def CR (CX:CXT)(outer:QK)(P:Program)(w:World)(H:Hp)(s:Shared)(Q:VK)(E:XK)(r:Result)(s':Shared):Prop:=
 match r with
 | .ok (.ret u)=>CE outer P w H s Q u s'
 | .ok _=>False
 | .error e=>CX outer H s E e s'
structure Yc (P:Program)(w:World)(K:QF)(mg:QN)(base:Heap)(CX:CXT)(k:Nat)(f:Addr)(fd:FuncData)(ps:QP)(sp:Sp):Prop where
 len:∀vs H Q E,sp vs H Q E->vs.length=ps.length
 run:∀(A:Around)(outer:QK)(s:Shared)(H:Hp)(args:Args)(us:QJ)(vs:QH)(Q:VK)(E:XK),Gz k A->Dn P w K mg base A outer s H->BindsTo s fd args (ps.zip us)->Vals vs us->sp vs H Q E ->
  codeAny (model P w) A (.call (.ref f) args) (CR CX outer P w H s Q E) s
section
variable {X:Cx}{pins:QC}{σ:St}{H:Hp}{s s':Shared}
theorem Inv.env0 (I:Inv X pins σ H s):Dn X.prog X.w X.K X.mg X.base X.A X.stack s H:=
 ⟨I.ok.frames,I.ok.mod,I.bs,Kb I.ok.bsz I.sz,I.stack,I.stkFree,I.hok,I.bare⟩
theorem Inv.after {Q:VK}{u:Value}(I:Inv X pins σ H s)(h:CE X.stack X.prog X.w H s Q u s'):EP X pins σ Q u s':=by obtain⟨v,H',os,bare,un,hok,r,q⟩:=h;obtain⟨J,g,d,t,F⟩:=s';obtain rfl:F=s.os:=os;exact⟨v,H',I.call (h':=J) (g':=g) (d':=d) (t':=t) (ch:=[]) un hok bare (fun b z=>absurd z (by simp)),r,q⟩
end
def CI (sp:Sp)(bW:QH)(E:XK)(t:TA):TE:=fun σ H Q=>t σ H fun vs H1=>sp (vs++bW) H1 Q E
def Binds (K:QF)(fd:FuncData)(ps:QP)(ds:QJ):Prop:=
 ∀(s:Shared)(us:QJ),K.In s.heap->(us++ds).length=ps.length->BindsTo s fd ⟨us,[]⟩ (ps.zip (us++ds))
theorem Binds.all {K:QF}{fd:FuncData}{ps:QP}(h:∀us:QJ,us.length=ps.length->bindArgs fd ⟨us,[]⟩=pure (ps.zip us)):Binds K fd ps []:=fun s us _ F=>by rw[KY] at F ⊢;exact .of_eq (h us F)
def Passes (CX:CXT)(X:Cx)(E:XK):Prop:=∀(pins:QC)(σ:St)(H:Hp)(s:Shared)(e:Value)(s':Shared),Inv X pins σ H s->CX X.stack H s E e s'->X.xe e s'
section
variable {X:Cx}{CX:CXT}{k:Nat}{f C:Addr}{fd:FuncData}{ps:QP}{sp:Sp}{bW:QH}{ds:QJ}{E:XK}{x m:Str}{p pos apos:Pos}{e o:Expr}{es:QV}{ta:TE}{t:TA}
theorem E6 {pins:QC}{σ:St}{H:Hp}{s:Shared}{Q:VK}{us:QJ}{vs:QH}(F:Yc X.prog X.w X.K X.mg X.base CX k f fd ps sp)(S:Gz k X.A)(hb:Binds X.K fd ps ds)(hd:Vals bW ds)(U:Passes CX X E)
  (I:Inv X pins σ H s) (r:Vals vs us) (h:sp (vs++bW) H Q E):wpAny (model X.prog X.w) X.A (call (.ref f) us) (EP X pins σ Q) X.xe s:=by
 have O:Vals (vs++bW) (us++ds):=r.append hd;have V:(us++ds).length=ps.length:=by rw[<- O.length];exact F.len _ _ _ _ h
 refine wpAny_call (T7 (F.run X.A X.stack s H ⟨us,[]⟩ (us++ds) (vs++bW) Q E S I.env0 (hb s us I.kIn V) O h) fun r s' J=>?_);cases r with
 | error e=>exact U pins σ H s e s' I J
 | ok fl=>
  cases fl with
  | ret u=>exact I.after J
  | next=>exact False.elim J
  | brk=>exact False.elim J
  | cont=>exact False.elim J
theorem RQ (F:Yc X.prog X.w X.K X.mg X.base CX k f fd ps sp)(S:Gz k X.A)(hg:Gl X x)(U:X.mg x=some (.ref f))(hk:W.keepIn X.K (.ref f)=true)(hb:Binds X.K fd ps ds)(hd:Vals bW ds)(V:Passes CX X E)
  (ha:PA X (e::es) t) (J:(x==("__debug__" : Str))=false:=by decide) (Y:starEach (e::es) X.env=(false,eval e X.env)::starEach es X.env:=by rfl) (O:(backTo pos (starEach es X.env)).any (·.1)=false:=by rfl):
  PE X (.Call (.Name x p) (e::es) [] pos) (CI sp bW E t):=by
 intro pins s σ H Q I h;refine Xv (DI I hg U ?_ J);refine M9 (h₀:=X.base) I.ok.mod.kin hk (YM (ha pos pins s σ H _ I h) fun us Z ⟨vs,H1,I1,r,q⟩=>⟨I1.kIn,?_⟩) Y O;exact E6 F S hb hd V I1 r q
end
structure Zw (N P:QP)(sc:Scope):Prop where
 kind:sc.kind = .function:=by rfl
 co:sc.isCoroutine=false:=by rfl
 gen:sc.isGenerator=false:=by rfl
 nd:N.Nodup:=by decide +kernel
 pre:N.take P.length=P:=by rfl
 par:∀x∈P,sc.names.lookup x=some .local∨sc.names.lookup x=some .cell:=by decide +kernel
 nofree:∀y∈sc.names,y.2 ≠ .free:=by decide +kernel
theorem RS {kindOf:Str->Option NameKind}{x:Str}:∀{binds:List (Str×Value)}{m:QN},(∀v,(x,v)∉binds)->bindL kindOf binds m x=m x
 | [],_,_=>rfl
 | (n,v)::r,m,h=>by
  unfold bindL;rw[RS fun w hw=>h w (kX _ hw)];split
  ·have:x≠n:=by rintro rfl;exact h v kS
   simp[this]
  ·rfl
theorem RT {kindOf:Str->Option NameKind}{x:Str}:∀{binds:List (Str×Value)}{m:QN},(∀v,(x,v)∉binds)->bindC kindOf binds m x=m x
 | [],_,_=>rfl
 | (n,v)::r,m,h=>by
  unfold bindC;rw[RT fun w hw=>h w (kX _ hw)];split
  ·rfl
  ·have:x≠n:=by rintro rfl;exact h v kS
   simp[this]
theorem RU {kindOf:Str->Option NameKind}{x:Str}{v:Value}:∀{P:QP}{vs:QJ}{i:Nat}{m:QN},P.Nodup->P[i]? = some x->vs[i]? = some v->kindOf x=some .local ->
  bindL kindOf (P.zip vs) m x=some v
 | [],_,_,_,_,h,_,_=>by simp at h
 | _::_,[],_,_,_,_,h,_=>by simp at h
 | p::P,w::vs,0,m,nd,h1,h2,hk=>by
  simp at h1 h2;subst h1;subst h2;show bindL kindOf ((p,w)::P.zip vs) m p=_;unfold bindL;rw[RS fun v F=>(KL.mp nd).1 (TU F).1,kj hk];simp
 | p::P,w::vs,i+1,m,nd,h1,h2,hk=>by show bindL kindOf ((p,w)::P.zip vs) m x=_;unfold bindL;exact RU (i:=i) (KL.mp nd).2 (by simpa using h1) (by simpa using h2) hk
theorem RV {kindOf:Str->Option NameKind}{x:Str}{v:Value}:∀{P:QP}{vs:QJ}{i:Nat}{m:QN},P.Nodup->P[i]? = some x->vs[i]? = some v->kindOf x≠some .local ->
  bindC kindOf (P.zip vs) m x=some v
 | [],_,_,_,_,h,_,_=>by simp at h
 | _::_,[],_,_,_,_,h,_=>by simp at h
 | p::P,w::vs,0,m,nd,h1,h2,hk=>by
  simp at h1 h2;subst h1;subst h2;show bindC kindOf ((p,w)::P.zip vs) m p=_;unfold bindC;rw[RT fun v F=>(KL.mp nd).1 (TU F).1,kh hk];simp
 | p::P,w::vs,i+1,m,nd,h1,h2,hk=>by show bindC kindOf ((p,w)::P.zip vs) m x=_;unfold bindC;exact RV (i:=i) (KL.mp nd).2 (by simpa using h1) (by simpa using h2) hk
def start (N:QP)(vs:QH):St:=vs.map some++List.replicate (N.length-vs.length) none
def WH (CX:CXT)(P:Program)(w:World)(K:QF)(mg:QN)(base:Heap)(N:QP)(qual:Str)(scope:Scope)(f:Addr)(cd:Value)(A:Around)(outer:QK)(s:Shared)(H:Hp)(E:XK):Cx where
 prog:=P
 w:=w
 K:=K
 mg:=mg
 base:=base
 A:=A.deeper (envOfC qual scope s.heap.objs.size f cd)
 N:=N
 s₀:=s
 H₀:=H
 env:=envOfC qual scope s.heap.objs.size f cd
 outer:=outer
 stack:=envOfC qual scope s.heap.objs.size f cd::outer
 ex:=[]
 calm:=true
 fn:=fun _=>true
 pn:=[]
 xe:=fun e s'=>wpAny (model P w) (A.deeper (envOfC qual scope s.heap.objs.size f cd)) (leaving (envOfC qual scope s.heap.objs.size f cd) e) (fun _ dZ=>CX outer H s E e dZ) (fun e' dZ=>CX outer H s E e' dZ) s'
theorem RW {sc:Scope}{n:Nat}{x:Str}(h:sc.names.lookup x=some .cell):∃c,(cellsFrom n sc.names []).lookup x=some c:=by have q:=To sc.names n [] (.inl h);exact Xo.mp q
theorem RX {CX:CXT}{P:Program}{w:World}{K:QF}{mg:QN}{base:Heap}{N ps:QP}{qual:Str}{scope:Scope}{f:Addr}{cd:Value}{A:Around}{outer:QK}{s s1:Shared}{H:Hp}{E:XK}{us:QJ}{vs:QH}
  (S:Zw N ps scope) (hd:A.handled=none) (F:Dn P w K mg base A outer s H) (Z:vs.length=ps.length) (r:Vals vs us)
  (x:InCallC s s.heap.objs.size (bindL (envOfC qual scope s.heap.objs.size f cd).kindOf (ps.zip us) fun _=>none) (cellsFrom (s.heap.objs.size+1) scope.names []) (bindC (envOfC qual scope s.heap.objs.size f cd).kindOf (ps.zip us) fun _=>none) s1):
  Inv (WH CX P w K mg base N qual scope f cd A outer s H E) [] (start N vs) H s1:=by
 have W:ps.length<=N.length:=by have:=Kx List.length S.pre;rw[kK] at this;lia
 obtain⟨h1,tk,rfl,hk⟩:=x.done;have I:∀b:Addr,b∉(WH CX P w K mg base N qual scope f cd A outer s H E).ex:=fun b z=>absurd (show b∈([]:List Addr) from z) (by simp);refine⟨⟨F.mod,S.kind,rfl,rfl,km _,fun y z c h1 h2=>?_,fun y J=>?_,fun y c _ h=>?_,fun _=>hd,Around.frames_deeper F.frames,.inr ⟨rfl,rfl⟩,fun b z=>absurd z (I b),F.bs,F.bsz,fun b _ _=>I b,fun b z=>absurd z (I b),F.funs,F.frf⟩,
  rfl,F.bare,Un.kept hk,⟨_,x.toInCall.ns,fun i y v h1 h2 h3=>?_⟩,fun y c h=>⟨_,x.cell y c h⟩,F.hok.fresh (km _),fun y c h=>?_,fun p O=>absurd (show p∈([]:QC) from O) (by simp),F.hok.kept hk,?_⟩
 ·exact name_of_addr x.apart (qI h1) (qI h2)
 ·have J:scope.names.lookup y=some .cell∨scope.names.lookup y=some .free:=J;rcases J with J | J
  ·exact RW J
  ·exact absurd rfl (S.nofree _ (qI J))
 ·exact Kv (x.above y c (qI h))
 ·have hi:i<vs.length:=by
   unfold start at h2;by_cases hi:i<vs.length
   ·exact hi
   ·rw[Kq (by simpa using hi)] at h2;rw[Xq] at h2;split at h2<;>cases h2
  have ha:vs[i]? = some v:=by
   unfold start at h2;rw[KG (by simpa using hi),kE] at h2;cases e:vs[i]? with
   | none=>rw[e] at h2;cases h2
   | some a=>rw[e] at h2;cases h2;rfl
  obtain⟨u,V,Y⟩:=r.get ha;have O:ps[i]? = some y:=by rw[<- S.pre,List.getElem?_take_of_lt (by lia)];exact h1
  have U:ps.Nodup:=by rw[<- S.pre];exact S.nd.sublist (NF _ _)
  refine⟨u,Y,?_⟩;rcases S.par y (kT O) with k | k
  ·exact .inl ⟨k,RU U O V k⟩
  ·obtain⟨c,e⟩:=RW (n:=s.heap.objs.size+1) k;refine .inr ⟨.inl k,c,e,?_⟩;have q:=x.cell y c e;rw[RV U O V (by show scope.names.lookup y≠_;rw[k];decide)] at q;exact q
 ·exact F.hok.fresh (Kv (x.above y c (qI h)))
 ·unfold start;show _=N.length;rw[ki,ke,Kz];lia
theorem RY {CX:CXT}{P:Program}{w:World}{K:QF}{mg:QN}{base:Heap}{k:Nat}{f:Addr}{name qual:Str}{ao:Arguments}{aG:List Stmt}{scope:Scope}{dV kV doc pm aB ct oc:Value}{an od:Option Addr}
  {osl:Array (Option Value)}{N ps:QP}{sp:Sp} (lk:K.lookup f=some ⟨oc,od,.func (W.fnOf name qual ao aG scope dV kV doc pm an aB ct),osl⟩) (fz:W.codeIn K aB qual=true) (S:Zw N ps scope)
  (len:∀vs H Q E,sp vs H Q E->vs.length=ps.length)
  (O:∀(A:Around)(outer:QK)(s:Shared)(H:Hp)(vs:QH)(Q:VK)(E:XK),Gz k (A.deeper (envOfC qual scope s.heap.objs.size f aB))->sp vs H Q E ->
   ∃t,PSs (WH CX P w K mg base N qual scope f aB A outer s H E) aG t/\t { nx:=fun _ H'=>Q .non H',rt:=Q } (start N vs) H):
  Yc P w K mg base CX (k+1) f (W.fnOf name qual ao aG scope dV kV doc pm an aB ct) ps sp:=by
 refine⟨len,fun A outer s H args us vs Q E hr Y hb r Z=>?_⟩;have hl:=len _ _ _ _ Z;have KX:K.In s.heap:=Y.mod.kin.keeps fun b o e=>(Y.bs b o e).1;have iJ:s.heap.NoLimit:=Y.mod.nolimit.keeps fun b o e=>(Y.bs b o e).1;have U:∀y∈ps.zip us,scope.names.lookup y.1=some .local∨(scope.names.lookup y.1=some .cell/\((cellsFrom (s.heap.objs.size+1) scope.names []).lookup y.1).isSome=true):=fun⟨n,v⟩ hy=>by
  rcases S.par n (TU hy).1 with q | q
  ·exact .inl q
  ·exact .inr ⟨q,To _ _ _ (.inl q)⟩
 refine codeAny_call_function hr.depth (KX _ _ lk) rfl S.co S.gen rfl (La KX fz) (hb _ _ _ _ ?_);refine Nf S.kind U fun env he s1 x=>?_;subst he;refine⟨iJ.keeps x.toInCall.keep,codeAny_func ?_⟩;obtain⟨t,ht,hq⟩:=O A outer s H vs Q E (hr.deeper _) Z;have I:Inv (WH CX P w K mg base N qual scope f aB A outer s H E) [] (start N vs) H s1:=RX S hr.hd Y hl r x;refine KD (ht [] s1 (start N vs) H _ I hq) (fun fl s' hs=>?_) fun e s' hs=>hs;have fin:∀{F:St}{H':Hp}{v:V}{u:Value},Inv (WH CX P w K mg base N qual scope f aB A outer s H E) [] F H' s'->RelV v u->Q v H'->CE outer P w H s Q u s':=
  fun {F H' v u} J rv q=>⟨v,H',J.os,J.bare,J.base,J.hok,rv,q⟩
 cases fl with
 | ret u=>
  obtain⟨v,F,H',J,rv,q⟩:=hs;exact fin J rv q
 | next=>
  obtain⟨F,H',J,q⟩:=hs;exact fin (v:=V.non) (u:=Value.none) J rfl q
 | brk=>
  obtain⟨_,_,_,q⟩:=hs;exact False.elim q
 | cont=>
  obtain⟨_,_,_,q⟩:=hs;exact False.elim q
section
variable {X:Cx}{x:Str}{p pos:Pos}{e:Expr}{es:QV}{t:TA}{id T:String}{r:List V->Hp->VK->Prop}
def tCB (r:List V->Hp->VK->Prop)(t:TA):TE:=fun σ H Q=>t σ H fun vs H1=>r vs H1 Q
theorem Zs (O:YU X (.builtin id) r)(hg:Gl X x)(S:X.mg x=none)(U:bootBuiltins x=some (.builtin id))(ha:PA X (e::es) t)(V:x ≠ "__name__" := by decide)(F:(x==("__debug__" : Str))=false:=by decide)
  (W:starEach (e::es) X.env=(false,eval e X.env)::starEach es X.env:=by rfl) (J:(backTo pos (starEach es X.env)).any (·.1)=false:=by rfl):PE X (.Call (.Name x p) (e::es) [] pos) (tCB r t):=by
 intro pins s σ H Q I h;refine Xv (UJ I hg S U ?_ V F);exact PyProof.Rows.callWith_builtin1 (YM (ha pos pins s σ H _ I h) fun us Y ⟨vs,H1,I1,Z,q1⟩=>O pins Y σ H1 vs us Q I1 Z q1) W J
theorem ZZ (O:YU X (.type T) r)(hg:Gl X x)(S:X.mg x=none)(U:bootBuiltins x=some (.type T))(ha:PA X (e::es) t)(V:x ≠ "__name__" := by decide)(F:(x==("__debug__" : Str))=false:=by decide)
  (W:starEach (e::es) X.env=(false,eval e X.env)::starEach es X.env:=by rfl) (J:(backTo pos (starEach es X.env)).any (·.1)=false:=by rfl):PE X (.Call (.Name x p) (e::es) [] pos) (tCB r t):=by
 intro pins s σ H Q I h;refine Xv (UJ I hg S U ?_ V F);exact KS (YM (ha pos pins s σ H _ I h) fun us Y ⟨vs,H1,I1,Z,q1⟩=>O pins Y σ H1 vs us Q I1 Z q1) W J
end
end L2
namespace HT
open PySem PyProof.Rows
section
open PySem.SeqAt
open PySem.AutoSeq1 (wpAny_loadPart')
open PySem.MeetsSeq PySem.MeetsSeq2 PySem.MeetsSeq3
end
section
variable {prog:Program}{w:World}{A:Around}{E:QE}{s:Shared}
theorem E7 {t b:Addr}{vs ws:QJ}{Q:QE}(ht:IsTup s.heap t vs.toArray)(hb:IsTup s.heap b ws.toArray)(V:vs ≠ [])
  (h1:ws = []->Q (.ref t) s) (h2:ws ≠ []->Q (.ref s.heap.objs.size) { s with heap:=s.heap.push { cls:=.type "tuple", data:=.seq (vs++ws).toArray } })
  (hsz:vs.length+ws.length<=sizeLine):wpAny (model prog w) A (binaryOp .Add (.ref t) (.ref b)) Q E s:=by
 obtain⟨⟨cls,dd,data,sl⟩,U,W,n,hd⟩:=id ht;obtain⟨⟨Y,I,data2,J⟩,F,O,Z,S⟩:=id hb;simp only at W hd O S;subst W hd O S;have e:vs.toArray++ws.toArray=(vs++ws).toArray:=by simp
 by_cases hw:ws = []
 ·exact concat_meets ⟨_,U,rfl⟩ ⟨_,F,rfl⟩ NS M5 Tp Th (XZ _ _)
   (tuple_addW1 t b vs.toArray ws.toArray n Z dd I sl J (by simpa using V) (by simp[hw])) ⟨U,F,h1 hw⟩
 ·refine concat_meets ⟨_,U,rfl⟩ ⟨_,F,rfl⟩ NS M5 Tp Th (XZ _ _)
   (tuple_addW2 t b vs.toArray ws.toArray n Z dd I sl J (by simpa using V) (by simpa using hw) (by rw[kr,kr];exact hsz)) ⟨U,F,?_⟩
  rw[e];exact h2 hw
def JH (n d:Nat):Option Int->Nat
 | none=>d
 | some v=>if v<0 then(v+(n:Int)).toNat else min v.toNat n
theorem CJ (n d:Nat):JH n d none=d:=rfl
theorem Dp (n d k:Nat):JH n d (some (k:Int))=min k n:=by show (if (k:Int)<0 then((k:Int)+(n:Int)).toNat else min (k:Int).toNat n)=min k n;rw[kh (by lia),kM]
theorem E8 (n d:Nat)(hd:d<=n)(o:QW):JH n d o<=n:=by
 cases o with
 | none=>exact hd
 | some v=>
  show (if v<0 then(v+(n:Int)).toNat else min v.toNat n)<=n;by_cases F:v<0
  ·rw[kj F];lia
  ·rw[kh F];exact Nat.min_le_right _ _
theorem RZ (v:Int)(n d:Nat):(if v<0 then max (v+(n:Int)) 0 else min v (n:Int))=((JH n d (some v):Nat):Int):=by
 show (if v<0 then max (v+(n:Int)) 0 else min v (n:Int))=(((if v<0 then(v+(n:Int)).toNat else min v.toNat n):Nat):Int);by_cases F:v<0
 ·simp only[kj F];lia
 ·simp only[kh F];lia
theorem E9 (lo hi:QW)(n:Nat):Builtin.Slice.sliceAdjust lo hi 1 (n:Int)=(((JH n 0 lo:Nat):Int),((JH n n hi:Nat):Int)):=by
 have h1:¬((1:Int)<0):=by lia
 unfold Builtin.Slice.sliceAdjust;simp only[h1,XM];refine Prod.ext ?_ ?_
 ·cases lo with
  | none=>rfl
  | some v=>exact RZ v n 0
 ·cases hi with
  | none=>rfl
  | some v=>exact RZ v n n
theorem Ha (i j:Nat):Builtin.Slice.slicePlaces (i:Int) (j:Int) 1=j-i:=by
 unfold Builtin.Slice.slicePlaces;have h1:(1:Int)>0:=by lia
 simp only[h1,TF,Int.ediv_one];split<;>lia
theorem R0 {v:Value}{o:QW}{Q:Option Int->Shared->Prop}(p:IsPart v o)(h:Q o s):wpAny (model prog w) A (Builtin.Slice.slicePartIndex v) Q E s:=by
 cases p with
 | none=>exact slicePart_none h
 | int i t=>exact slicePart_int h
theorem UM {sl:Addr}{vl vu:Value}{lo hi:QW}{n:Nat}{Q:Int×Int×Nat->Shared->Prop}(hs:s.heap.IsSliceOf sl vl vu .none)(J:IsPart vl lo)(O:IsPart vu hi)
  (h:Q (((JH n 0 lo:Nat):Int),1,JH n n hi-JH n 0 lo) s):wpAny (model prog w) A (Builtin.Slice.sliceApplied (.ref sl) (pure (n:Int))) Q E s:=by
 obtain⟨os,F,S,I⟩:=id hs;unfold Builtin.Slice.sliceApplied Builtin.Slice.sliceFields;refine kg (kg (qt F I (x:=vl) rfl (kg (qt F I (x:=vu) rfl (kg (qt F I (x:=.none) rfl (kG ?_)))))));refine kg (slicePart_none ?_);show wpAny _ _ (if ((1:Int)==0)=true then _ else _) _ _ s;rw[kh (by decide)];refine kg (R0 J (kg (R0 O (kg (kG ?_)))));show wpAny _ _ (match Builtin.Slice.sliceAdjust lo hi 1 (n:Int) with | (lo,hi)=>pure (lo,(1:Int),Builtin.Slice.slicePlaces lo hi 1)) _ _ s;rw[E9 lo hi n];show wpAny _ _ (pure (((JH n 0 lo:Nat):Int),(1:Int),Builtin.Slice.slicePlaces ((JH n 0 lo:Nat):Int) ((JH n n hi:Nat):Int) 1)) _ _ s;rw[Ha];exact kG h
theorem Hb (xs:QY)(i k:Nat):((List.range k).filterMap fun(m:Nat)=>xs[((i:Int)+(m:Int)*1).toNat]?).toArray=((xs.toList.drop i).take k).toArray:=by
 have e:(fun(m:Nat)=>xs[((i:Int)+(m:Int)*1).toNat]?)=fun m=>xs[i+m]?:=by
  funext m;have:((i:Int)+(m:Int)*1).toNat=i+m:=by lia
  rw[this]
 rw[e];have:=pick_run xs i k;rw[List.filterMap_map] at this;have F:((fun x=>xs[x]?) ∘ fun x=>i+x)=fun m=>xs[i+m]?:=rfl;rw[F] at this;rw[this]
theorem He {t sl:Addr}{items:QY}{vl vu:Value}{lo hi:QW}{Q:QE}(I:IsTup s.heap t items)(hs:s.heap.IsSliceOf sl vl vu .none)(V:IsPart vl lo)(W:IsPart vu hi)
  (hw:¬(JH items.size 0 lo=0/\JH items.size items.size hi=items.size))
  (h:Q (.ref s.heap.objs.size) { s with heap:=s.heap.push { cls:=.type "tuple", data:=.seq ((items.toList.drop (JH items.size 0 lo)).take (JH items.size items.size hi-JH items.size 0 lo)).toArray } })
  (hsz:items.size<=sizeLine):wpAny (model prog w) A (getItem (.ref t) (.ref sl)) Q E s:=by
 have F:sizeOk (.seq ((items.toList.drop (JH items.size 0 lo)).take (JH items.size items.size hi-JH items.size 0 lo)).toArray):=by show ((items.toList.drop (JH items.size 0 lo)).take (JH items.size items.size hi-JH items.size 0 lo)).toArray.size<=sizeLine;rw[kr,kK,Kr,kZ];lia
 have Z:JH items.size items.size hi<=items.size:=E8 _ _ (km _) hi;obtain⟨os,J,O,Y⟩:=id hs;have S:s.TypeIs (.ref sl) "slice" := ⟨os,J,O⟩;unfold getItem
 try with_reducible refine KC ?_
 first | refine kg (kG ?_) | skip
 refine kg (NG I.typeIs (by decide) ?_);refine kg (qE (name:=Str.ofString "__getitem__") I.typeIs qe
  (qA qe I.typeIs entry_tuple_getitem ?_ (args_tuple_getitem _ _)))
 show wpAny _ _ (Builtin.Tuple.tupleItemsOf (.ref t) >>= _) _ _ s;refine kg (tupleItemsOf_ I ?_);refine kg (qS S ?_);rw[kj (by decide)];refine kg (UM hs V W ?_);have U:¬((((JH items.size 0 lo:Nat):Int)==0&&(1:Int)==1&&(JH items.size items.size hi-JH items.size 0 lo)==items.size)=true):=by intro q;rw[Kc,Kc] at q;have q1:((JH items.size 0 lo:Nat):Int)=0:=eq_of_beq q.1.1;have q2:JH items.size items.size hi-JH items.size 0 lo=items.size:=eq_of_beq q.2;exact hw ⟨by lia,by lia⟩
 show wpAny _ _ (if (((JH items.size 0 lo:Nat):Int)==0&&(1:Int)==1&&(JH items.size items.size hi-JH items.size 0 lo)==items.size)=true then _ else _) _ _ s;rw[kh U,Hb]
 first
  | exact kg (m:=Builtin.Tuple.tupleExact _) (qc (kG ⟨_,rfl,kG h⟩) F)
  | exact kg (m:=Builtin.Tuple.tupleExact _) (qc (kg (kG (kG ⟨_,rfl,kG h⟩))) F)
  | exact kg (kg (m:=Builtin.Tuple.tupleExact _) (qc (kG (kG ⟨_,rfl,kG h⟩)) F))
  | exact kg (kg (m:=Builtin.Tuple.tupleExact _) (qc (kG ⟨_,rfl,kG h⟩) F))
end
end HT
namespace L2
open PySem PySem.Spec PyProof.Rows
abbrev TO:=St->Hp->(Option Int->Hp->Prop)->Prop
def PO (X:Cx)(e:Option Expr)(t:TO):Prop:=
 ∀(pins:QC)(s:Shared)(σ:St)(H:Hp)(Q:Option Int->Hp->Prop),Inv X pins σ H s->t σ H Q ->
  wpAny (model X.prog X.w) X.A (evalPart e X.env) (fun u s'=>∃o H',Inv X pins σ H' s'/\IsPart u o/\Q o H') X.xe s
def Dq:TO:=fun _ H Q=>Q none H
inductive Hf(Q:Option Int->Hp->Prop)(x:V)(H1:Hp):Prop|mk(i:_)(_:x = .int i)(_:Q (some i) H1)
def Hg (t:TE):TO:=fun σ H Q=>t σ H fun x H1=>Hf Q x H1
section
variable {X:Cx}{e:Expr}{te:TE}{lo hi:Option Expr}{tl th:TO}{pos p2:Pos}
theorem Yt:PO X none Dq:=by intro pins s σ H Q I h;rw[NK];exact kG ⟨none,H,I,.none,h⟩
theorem ZQ (h:PE X e te):PO X (some e) (Hg te):=by intro pins s σ H Q I hw;rw[evalPart_some];refine YM (h pins s σ H _ I hw) fun u O ⟨x,H1,I1,F,J⟩=>?_;obtain⟨i,rfl,q⟩:=J;obtain⟨t,rfl⟩:=F;exact⟨some i,H1,I1,.int i t,q⟩
def SlR (X:Cx)(r:V->Option Int->Option Int->Hp->VK->Prop):Prop:=
 ∀(pins:QC)(s:Shared)(σ:St)(H:Hp)(x:V)(v vl vu:Value)(lo hi:QW)(sl:Addr)(Q:VK),Inv X pins σ H s->RelV x v->s.heap.IsSliceOf sl vl vu .none->IsPart vl lo->IsPart vu hi->r x lo hi H Q ->
  ∃T id,typeLookup (.type T) "__getitem__" = pure (some (.builtin id))/\s.TypeIs v T/\wpAny (model X.prog X.w) X.A (getItem v (.ref sl)) (EP X pins σ Q) X.xe s
def tSl (r:V->Option Int->Option Int->Hp->VK->Prop)(te:TE)(tl th:TO):TE:=fun σ H Q=>te σ H fun x H1=>tl σ H1 fun l H2=>th σ H2 fun u H3=>r x l u H3 Q
theorem ZW {r:V->Option Int->Option Int->Hp->VK->Prop}(S:SlR X r)(U:PE X e te)(W:PO X lo tl)(Y:PO X hi th):PE X (.Subscript e (.Slice lo hi none p2) pos) (tSl r te tl th):=by intro pins s σ H Q I h;refine Subscript_ (YM (U pins s σ H _ I h) fun v Z ⟨x,H1,I1,r1,q1⟩=>?_);refine wpAny_Slice (YM (W pins Z σ H1 _ I1 q1) fun J s2 ⟨l,H2,I2,pl,q2⟩=>YM (Y pins s2 σ H2 _ I2 q2) fun O F ⟨u,H3,I3,pu,q3⟩=>?_);rw[NK];refine kG ?_;have I4:Inv X pins σ H3 { F with heap:=F.heap.push { cls:=.type "slice", data:=.fields #[J,O,.none] } }:=I3.kept (t':=F.toks) fun b ob q=>kz _ q;obtain⟨T,id,hT,ht,hg⟩:=S pins { F with heap:=F.heap.push { cls:=.type "slice", data:=.fields #[J,O,.none] } } σ H3 x v J O l u F.heap.objs.size Q I4 r1 (Ng ..) pl pu q3;show wpAny (model X.prog X.w) X.A (subscriptTail e (.Slice lo hi none p2) v (.ref F.heap.objs.size)) (EP X pins σ Q) X.xe { F with heap:=F.heap.push { cls:=.type "slice", data:=.fields #[J,O,.none] } };exact tail_any (ops:=[.ref F.heap.objs.size,v]) ht hT hg (by with_unfolding_all rfl)
def J5 (xs:QH)(lo hi:QW):QH:=(xs.drop (HT.JH xs.length 0 lo)).take (HT.JH xs.length xs.length hi-HT.JH xs.length 0 lo)
theorem Uu (xs:QH)(lo hi:QW):(J5 xs lo hi).length<=xs.length:=by unfold J5;rw[kK,Kr];lia
inductive Hh(K:QF)(x:V)(lo hi:QW)(H:Hp)(Q:VK):Prop|mk(a xs:_)(_:x = .ref a)(_:Y9 K H a xs)(_:¬(HT.JH xs.length 0 lo=0/\HT.JH xs.length xs.length hi=xs.length))(_:∀p,H p=none->Q (.ref p) (upd H p (.tup (J5 xs lo hi))))
theorem Hi:SlR X (Hh X.K):=by
 intro pins s σ H x v W Y lo hi sl Q I O hs S U h;obtain⟨a,xs,rfl,V,hw,q⟩:=h;cases O;obtain⟨its,r,J,hz⟩:=I.tuple V;have F:its.toArray.size=xs.length:=by rw[kr];exact r.length.symm
 refine⟨"tuple", _,qe.lookup,J.typeIs,?_⟩;refine HT.He J hs S U (by rw[F];exact hw) ?_ (by rw[F];exact hz);rw[F];refine⟨.ref s.heap.objs.size,_,I.laid (t':=s.toks) (o:=.tup (J5 xs lo hi)) (fun b ob q=>kz _ q) (km _) ?_,rfl,q _ (I.hok.fresh (km _))⟩;exact⟨Kb (Uu xs lo hi) hz,_,(r.drop (HT.JH xs.length 0 lo)).take (HT.JH xs.length xs.length hi-HT.JH xs.length 0 lo),IsTup.new _ _⟩
end
def ixN (n:Nat)(i:Int):Option Nat:=if 0<=i then(if i<n then some i.toNat else none) else if -(n:Int)<=i then some (i+n).toNat else none
def atI {α:Type}(xs:List α)(i:Int):Option α:=(ixN xs.length i).bind fun j=>xs[j]?
theorem R1 {n:Nat}{i:Int}{j:Nat}(h:ixN n i=some j):seqIndex? i n=some j/\j<n /\ -(n:Int)<=i/\i<n:=by
 unfold ixN at h;by_cases h0:0<=i
 ·rw[kj h0] at h;by_cases h1:i<n
  ·rw[kj h1] at h;have e:i.toNat=j:=k9 h;exact⟨by rw[MF h0 h1,e],by lia,by lia,h1⟩
  ·rw[kh h1] at h;cases h
 ·rw[kh h0] at h;by_cases h1 : -(n:Int)<=i
  ·rw[kj h1] at h;have e:(i+n).toNat=j:=k9 h;exact⟨by rw[seqIndex_neg (by lia) h1,e],by lia,h1,by lia⟩
  ·rw[kh h1] at h;cases h
theorem R3 {α:Type}{xs:List α}{i:Int}{v:α}(h:atI xs i=some v):∃j,seqIndex? i xs.length=some j/\xs[j]? = some v/\j<xs.length /\ -(xs.length:Int)<=i/\i<xs.length:=by
 unfold atI at h;cases e:ixN xs.length i with
 | none=>rw[e] at h;cases h
 | some j=>
  rw[e] at h;obtain⟨h1,h2,F,I⟩:=R1 e;exact⟨j,h1,h,h2,F,I⟩
theorem Zn {α:Type}{xs:List α}{j:Nat}{v:α}(h:xs[j]? = some v):atI xs (j:Int)=some v:=by
 have F:j<xs.length:=(kC.mp h).1;have e:ixN xs.length (j:Int)=some j:=by unfold ixN;rw[kj (by lia),kj (by lia)];simp
 unfold atI;rw[e];exact h
theorem UO {α:Type}(xs:List α)(v:α):atI (xs ++ [v]) (-1)=some v:=by
 have F:(xs ++ [v]).length=xs.length+1:=by simp
 have e:ixN (xs ++ [v]).length (-1)=some xs.length:=by unfold ixN;rw[F,kh (by decide),kj (by lia)];congr 1;lia
 unfold atI;rw[e];show (xs ++ [v])[xs.length]? = some v;simp
def Hj (b:Expr):Prop:=∀o i,subscripted b false o i=operate [o,i] (getItem o i)
def IxR (X:Cx)(r:R2):Prop:=
 ∀(aS bY:Expr)(pins:QC)(s:Shared)(σ:St)(H:Hp)(x y:V)(v u:Value)(Q:VK),Inv X pins σ H s->RelV x v->RelV y u->r x y H Q ->
  subscripted bY false v u=operate [v,u] (getItem v u)->wpAny (model X.prog X.w) X.A (subscriptTail aS bY v u) (EP X pins σ Q) X.xe s
def MtR (X:Cx)(id:String)(r:V->List V->Hp->VK->Prop):Prop:=
 ∀(pins:QC)(s:Shared)(σ:St)(H:Hp)(x:V)(xs:QH)(v:Value)(us:QJ)(Q:VK),Inv X pins σ H s->RelV x v->Vals xs us->r x xs H Q ->
  wpAny (model X.prog X.w) X.A (call (.builtin id) (v::us)) (EP X pins σ Q) X.xe s
section
variable {X:Cx}{a b:Expr}{ta tb:TE}{pos:Pos}
theorem Zy {r:R2}(F:IxR X r)(ha:PE X a ta)(hb:PE X b tb)(hs:Hj b):PE X (.Subscript a b pos) (tOp r ta tb):=by intro pins s σ H Q I h;exact Subscript_ (IY ha hb I h fun v u J x y H2 I2 O S q=>F a b pins J σ H2 x y v u Q I2 O S q (hs _ _))
inductive Pf(K:QF)(x y:V)(H:Hp)(Q:VK):Prop|mk(p xs i v:_)(_:x = .ref p)(_:y = .int i)(_:Zr K H p xs)(_:atI xs i=some v)(_:Q v H)
inductive R4(K:QF)(x y:V)(H:Hp)(Q:VK):Prop|mk(p xs i v:_)(_:x = .ref p)(_:y = .int i)(_:Y9 K H p xs)(_:atI xs i=some v)(_:Q v H)
theorem Hk:IxR X (Pf X.K):=by
 intro aS F pins s σ H x y v u Q I V W h hs;obtain⟨p,xs,i,z,rfl,rfl,Y,Z,q⟩:=h;cases V;obtain⟨t,rfl⟩:=W;obtain⟨its,r,J,hz⟩:=I.list Y;obtain⟨j,h1,h2,h3,h4,h5⟩:=R3 Z;obtain⟨w,U,O⟩:=r.get h2;have hl:=r.length;have hn:=DN;have fin:EP X pins σ Q w s:=⟨z,H,I,O,q⟩;by_cases h0:0<=i
 ·have S:i.toNat=j:=by
   rw[MF h0 h5] at h1;exact k9 h1
  exact item_listR J.isList h0 (by lia) (by rw[S];simpa using U) fin hs
 ·have S:(i+(its.toArray.size:Int)).toNat=j:=by
   rw[seqIndex_neg (by lia) h4] at h1;rw[kr,<- hl];exact k9 h1
  exact subscriptTail_builtinR (x:=w) J.isList.typeIs slot_list_getitem.lookup
   (wpAny_getItem_list_neg (Q:=fun r s'=>r=w/\EP X pins σ Q r s') J.isList (by lia) (by rw[kr]<;>lia) (by lia) (by rw[S];simpa using U) ⟨rfl,fin⟩) hs
theorem Hl:IxR X (R4 X.K):=by
 intro aS F pins s σ H x y v u Q I S U h hs;obtain⟨p,xs,i,z,rfl,rfl,V,W,q⟩:=h;cases S;obtain⟨t,rfl⟩:=U;obtain⟨its,r,O,hz⟩:=I.tuple V;obtain⟨j,h1,h2,h3,h4,h5⟩:=R3 W;obtain⟨w,Y,J⟩:=r.get h2;have Z:=r.length;have hn:=DN;have fin:EP X pins σ Q w s:=⟨z,H,I,J,q⟩;exact subscriptTail_builtinR (x:=w) O.typeIs slot_tuple_getitem.lookup
  (getItem_tuple (j:=j) (Q:=fun r s'=>r=w/\EP X pins σ Q r s') O (by lia) (by lia) (by rw[kr,<- Z];exact h1) (by simpa using Y) ⟨rfl,fin⟩) hs
theorem Hm (its:QJ)(n j:Nat)(u:Value):Obj.mapSeq (·.setIfInBounds j u) { cls:=.type "list", data:=.seq its.toArray n } = { cls:=.type "list", data:=.seq (its.set j u).toArray n }:=by simp[Obj.mapSeq]
theorem Inv.lst {pins:QC}{σ:St}{H:Hp}{s:Shared}{p:Addr}{xs:QH}(I:Inv X pins σ H s)(h:H p=some (.lst xs)):
  ∃(its:QJ)(n:Nat),Vals xs its/\s.heap.get? p=some { cls:=.type "list", data:=.seq its.toArray n } /\ xs.length<=sizeLine:=by
 obtain⟨z,its,n,r,e⟩:=I.hok p _ h;exact⟨its,n,r,e,z⟩
theorem Inv.lstUpd {pins:QC}{σ:St}{H:Hp}{s:Shared}{p:Addr}{xs ys:QH}{its its':QJ}{n n':Nat}{f:Obj->Obj}(I:Inv X pins σ H s)(h:H p=some (.lst xs))
  (J:s.heap.get? p=some { cls:=.type "list", data:=.seq its.toArray n }) (F:f { cls:=.type "list", data:=.seq its.toArray n } = { cls:=.type "list", data:=.seq its'.toArray n' }) (r:Vals ys its') (hz:ys.length<=sizeLine) (t:Nat):
  Inv X pins σ (upd H p (.lst ys)) { s with heap:=s.heap.update p f,toks:=t }:=by
 have e:(s.heap.update p f).get? p=some { cls:=.type "list", data:=.seq its'.toArray n' }:=by rw[qN f J (by rw[F]<;>rfl),F]
 refine I.write (x:=p) (e:=p) (by rw[h];trivial) (.inl rfl) (fun b u hb q=>(Xw _ _ (KA hb)).trans q) ⟨_,e⟩ ?_;exact⟨hz,its',n',r,e⟩
inductive Hn(o i v:V)(H:Hp)(Q:Hp->Prop):Prop|mk(p xs k j:_)(_:o = .ref p)(_:i = .int k)(_:H p=some (.lst xs))(_:ixN xs.length k=some j)(_:Q (upd H p (.lst (xs.set j v))))
theorem set_list:IW X Hn:=by
 intro pins s σ H o i v ov iv u Q I V Y Z h;obtain⟨p,xs,k,j,rfl,rfl,O,hj,q⟩:=h;cases V;obtain⟨t,rfl⟩:=Y;obtain⟨its,n,r,F,hz⟩:=I.lst O;obtain⟨h1,h2,S,U⟩:=R1 hj;have J:=r.length;have hn:=DN;have I':Inv X pins σ (upd H p (.lst (xs.set j v))) { s with heap:=s.heap.update p (Obj.mapSeq (·.setIfInBounds j u)) }:=
  I.lstUpd O F (Hm its n j u) (r.set Z j) (by rw[KQ];exact hz) s.toks
 by_cases h0:0<=k
 ·have hk:k.toNat=j:=by
   rw[MF h0 U] at h1;exact k9 h1
  exact W.ki_setAt F h0 (by lia) (by rw[kr,<- J];exact U) (by rw[hk];exact⟨_,I',q⟩)
 ·have hk:(k+(its.toArray.size:Int)).toNat=j:=by
   rw[seqIndex_neg (by lia) S] at h1;rw[kr,<- J];exact k9 h1
  exact W.ki_setBack F (by lia) (by rw[kr,<- J];exact S) (by lia) (by rw[hk];exact⟨_,I',q⟩)
theorem Ho (lo hi:QW)(n:Nat):(sliceBounds lo hi none n).1=((HT.JH n 0 lo:Nat):Int)/\(sliceBounds lo hi none n).2.1=((HT.JH n n hi:Nat):Int)/\(sliceBounds lo hi none n).2.2=1:=by
 refine⟨?_,?_,rfl⟩
 ·cases lo with
  | none=>simp[sliceBounds,HT.JH]
  | some i=>
   simp only[sliceBounds,HT.JH,NT,show (1:Int)>0 by decide,TF];by_cases h:i<0
   ·simp only[h,TF]<;>lia
   ·simp only[h,XM]<;>lia
 ·cases hi with
  | none=>simp[sliceBounds,HT.JH]
  | some i=>
   simp only[sliceBounds,HT.JH,NT,show (1:Int)>0 by decide,TF];by_cases h:i<0
   ·simp only[h,TF]<;>lia
   ·simp only[h,XM]<;>lia
theorem Hq (its:QJ)(lo hi:QW):slicePick its.toArray lo hi none=((its.drop (HT.JH its.length 0 lo)).take (HT.JH its.length its.length hi-HT.JH its.length 0 lo)).toArray:=by obtain⟨h1,h2,F⟩:=Ho lo hi its.toArray.size;unfold slicePick;rw[h1,h2,F];simp only[sliceRange_one,pick_run,kr]<;>rfl
inductive R5(K:QF)(x:V)(lo hi:QW)(H:Hp)(Q:VK):Prop|mk(a xs:_)(_:x = .ref a)(_:Zr K H a xs)(_:∀p,H p=none->Q (.ref p) (upd H p (.lst (J5 xs lo hi))))
theorem Hr:SlR X (R5 X.K):=by intro pins s σ H x v W Y lo hi sl Q I O hs S U h;obtain⟨a,xs,rfl,V,q⟩:=h;cases O;obtain⟨its,r,J,hz⟩:=I.list V;have F:=r.length;refine⟨"list", _,slot_list_getitem.lookup,J.isList.typeIs,?_⟩;refine wpAny_getItem_list_slice J.isList hs S U .none (by simp) ?_ (by rw[kr]<;>lia);rw[Hq,<- F];refine⟨.ref s.heap.objs.size,_,I.laid (t':=s.toks) (o:=.lst (J5 xs lo hi)) (fun b ob q=>kz _ q) (km _) ?_,rfl,q _ (I.hok.fresh (km _))⟩;exact⟨Kb (Uu xs lo hi) hz,_,0,(r.drop (HT.JH xs.length 0 lo)).take (HT.JH xs.length xs.length hi-HT.JH xs.length 0 lo),Kf _ rfl⟩
def Ge:V->Bool
 | .non=>true
 | .bl _=>true
 | .int _=>true
 | .str _=>true
 | _=>false
def eqV:V->V->Bool
 | .non,.non=>true
 | .bl a,.bl b=>a==b
 | .bl a,.int b=>(if a then 1 else 0)==b
 | .int a,.bl b=>a==(if b then 1 else 0)
 | .int a,.int b=>a==b
 | .str a,.str b=>a==b
 | _,_=>false
theorem R6 {A:Around}{s:Shared}{y x:V}{u v:Value}(I:RelV y u)(F:RelV x v)(O:Ge y=true)(J:Ge x=true):SeqAt.EqAt A s u v (eqV y x):=by
 cases y with
 | non=>
  cases I;cases x with
  | non=>cases F;exact TV _
  | bl b=>cases F;exact SeqAt.EqAt.none_bool b
  | int b=>obtain⟨t,rfl⟩:=F;exact SeqAt.EqAt.none_int b t
  | str b=>obtain⟨t,rfl⟩:=F;exact SeqAt.EqAt.none_str b t
  | _=>exact absurd (show false=true from J) kO
 | bl a=>
  cases I;cases x with
  | non=>cases F;exact SeqAt.EqAt.bool_none a
  | bl b=>cases F;exact SeqAt.EqAt.bool_bool a b
  | int b=>obtain⟨t,rfl⟩:=F;exact SeqAt.EqAt.bool_int a b t
  | str b=>obtain⟨t,rfl⟩:=F;exact SeqAt.EqAt.bool_str a b t
  | _=>exact absurd (show false=true from J) kO
 | int a=>
  obtain⟨t',rfl⟩:=I;cases x with
  | non=>cases F;exact SeqAt.EqAt.int_none a t'
  | bl b=>cases F;exact SeqAt.EqAt.int_bool a t' b
  | int b=>obtain⟨t,rfl⟩:=F;exact Nh a t' b t
  | str b=>obtain⟨t,rfl⟩:=F;exact SeqAt.EqAt.int_str a t' b t
  | _=>exact absurd (show false=true from J) kO
 | str a=>
  obtain⟨t',rfl⟩:=I;cases x with
  | non=>cases F;exact SeqAt.EqAt.str_none a t'
  | bl b=>cases F;exact SeqAt.EqAt.str_bool a t' b
  | int b=>obtain⟨t,rfl⟩:=F;exact SeqAt.EqAt.str_int a t' b t
  | str b=>obtain⟨t,rfl⟩:=F;exact SeqAt.EqAt.str_str a t' b t
  | _=>exact absurd (show false=true from J) kO
 | _=>exact absurd (show false=true from O) kO
def eqU (x:V)(u:Value):Bool:=match u with
 | .none=>eqV .non x
 | .bool b=>eqV (.bl b) x
 | .int i _=>eqV (.int i) x
 | .str z _=>eqV (.str z) x
 | _=>false
theorem Pg {x y:V}{u:Value}(r:RelV y u)(f:Ge y=true):eqU x u=eqV y x:=by
 cases y with
 | non=>cases r;rfl
 | bl b=>cases r;rfl
 | int i=>obtain⟨t,rfl⟩:=r;rfl
 | str z=>obtain⟨t,rfl⟩:=r;rfl
 | _=>exact absurd (show false=true from f) kO
theorem DO {x:V}:∀{xs:QH}{us:QJ},Vals xs us->xs.all Ge=true->us.any (eqU x)=xs.any fun y=>eqV y x
 | _,_,.nil,_=>rfl
 | y::xs,u::us,.cons r t,f=>by rw[TH,Kc] at f;rw[X0,X0,Pg r f.1,DO t f.2]
theorem UR {A:Around}{s:Shared}{x:V}{v:Value}(I:RelV x v)(J:Ge x=true):∀{xs:QH}{us:QJ},Vals xs us->xs.all Ge=true -> ∀u∈us,SeqAt.EqAt A s u v (eqU x u)
 | _,_,.nil,_=>fun u F=>by cases F
 | y::xs,u::us,.cons r t,f=>fun O F=>by
  rw[TH,Kc] at f;rcases kQ.mp F with rfl | F
  ·rw[Pg r f.1];exact R6 r I f.1 J
  ·exact UR I J t f.2 O F
def inV (x:V)(xs:QH):Bool:=xs.any fun y=>eqV y x
inductive rIn(K:QF)(neg:Bool)(x y:V)(H:Hp)(Q:VK):Prop|mk(p xs:_)(_:y = .ref p)(_:Zr K H p xs∨Y9 K H p xs)(_:Ge x=true)(_:xs.all Ge=true)(_:Q (.bl (if neg then !inV x xs else inV x xs)) H)
theorem Hs:Uo X (compareOp .In) (rIn X.K false):=by
 intro pins s σ H x y v u Q I O U h;obtain⟨p,xs,rfl,F,S,fs,q⟩:=h;cases U;rcases F with F | F
 ·obtain⟨its,r,J,hz⟩:=I.list F;refine SeqAt.in_listAt (eqU x) J.isList (fun w hw=>UR O S r fs w (by simpa using hw)) ⟨.bl _,H,I,rfl,?_⟩;rw[show its.toArray.any (eqU x)=its.any (eqU x) by simp,DO r fs];exact q
 ·obtain⟨its,r,J,hz⟩:=I.tuple F;refine SeqAt.in_tupleAt (eqU x) J (fun w hw=>UR O S r fs w (by simpa using hw)) ⟨.bl _,H,I,rfl,?_⟩;rw[show its.toArray.any (eqU x)=its.any (eqU x) by simp,DO r fs];exact q
theorem Ht:Uo X (compareOp .NotIn) (rIn X.K true):=by
 intro pins s σ H x y v u Q I O U h;obtain⟨p,xs,rfl,F,S,fs,q⟩:=h;cases U;rcases F with F | F
 ·obtain⟨its,r,J,hz⟩:=I.list F;refine SeqAt.notIn_listAt (eqU x) J.isList (fun w hw=>UR O S r fs w (by simpa using hw)) ⟨.bl _,H,I,rfl,?_⟩;rw[show its.toArray.any (eqU x)=its.any (eqU x) by simp,DO r fs];exact q
 ·obtain⟨its,r,J,hz⟩:=I.tuple F;refine SeqAt.notIn_tupleAt (eqU x) J (fun w hw=>UR O S r fs w (by simpa using hw)) ⟨.bl _,H,I,rfl,?_⟩;rw[show its.toArray.any (eqU x)=its.any (eqU x) by simp,DO r fs];exact q
inductive R7(K:QF)(xs:QH)(H:Hp)(Q:VK):Prop|mk(p ys:_)(_:xs = [.ref p])(_:Zr K H p ys∨Y9 K H p ys)(_:Q (.int ys.length) H)
theorem Hu:YU X (.builtin "len") (R7 X.K):=by
 intro pins s σ H xs us Q I r h;obtain⟨p,ys,rfl,J,q⟩:=h;obtain⟨u,rfl,U⟩:=vals1 r;cases U;have V:=DN;rcases J with J | J
 ·obtain⟨its,O,S,hz⟩:=I.list J;have F:=O.length;exact Calls.call_len_list S.isList (by simp only[kr]<;>lia) ⟨.int ys.length,H,I.tok _,⟨s.toks+1,by rw[kr,F]⟩,q⟩
 ·obtain⟨its,O,S,hz⟩:=I.tuple J;have F:=O.length;exact len_tuple S (by simp only[kr]<;>lia) ⟨.int ys.length,H,I.tok _,⟨s.toks+1,by rw[kr,F]⟩,q⟩
inductive R8(K:QF)(xs:QH)(H:Hp)(Q:VK):Prop|mk(p ys:_)(_:xs = [.ref p])(_:Zr K H p ys∨Y9 K H p ys)(_:∀l,H l=none->Q (.ref l) (upd H l (.lst ys)))
theorem Hv:YU X (.type "list") (R8 X.K):=by
 intro pins s σ H xs us Q I r h;obtain⟨p,ys,rfl,O,q⟩:=h;obtain⟨u,rfl,Y⟩:=vals1 r;cases Y;have fin:∀(its:QJ),Vals ys its->ys.length<=sizeLine -> ∀(h':Heap)(F:Nat),(∀b o',s.heap.get? b=some o'->h'.get? b=some o') ->
   h'.get? s.heap.objs.size=some { cls:=.type "list", dict:=none,data:=.seq its.toArray F,slots:=#[] } -> EP X pins σ Q (.ref s.heap.objs.size) { s with heap:=h' }:=fun its J hz h' F kp e=>
  ⟨.ref s.heap.objs.size,_,I.laid (t':=s.toks) kp (km _) (show Yy X.prog X.w _ h' _ (.lst ys) from⟨hz,its,F,J,e⟩),rfl,q _ (I.hok.fresh (km _))⟩
 rcases O with O | O
 ·obtain⟨its,J,U,hz⟩:=I.list O;have S:=J.length;obtain⟨o,V,W,n,hd⟩:=U.isList;exact call_list_seq p (.inl rfl) V W hd (fun h' F kp e=>fin its J hz h' F kp e) (by simp only[kr]<;>lia)
 ·obtain⟨its,J,U,hz⟩:=I.tuple O;have S:=J.length;obtain⟨o,V,W,n,hd⟩:=U;exact call_list_seq p (.inr rfl) V W hd (fun h' F kp e=>fin its J hz h' F kp e) (by simp only[kr]<;>lia)
inductive Hw(K:QF)(xs:QH)(H:Hp)(Q:VK):Prop|mk(p ys:_)(_:xs = [.ref p])(_:(Zr K H p ys /\ ∀l,H l=none->Q (.ref l) (upd H l (.tup ys)))∨(Y9 K H p ys/\Q (.ref p) H))
theorem Hx:YU X (.type "tuple") (Hw X.K):=by
 intro pins s σ H xs us Q I r h;obtain⟨p,ys,rfl,h⟩:=h;obtain⟨u,rfl,U⟩:=vals1 r;cases U;rcases h with⟨F,q⟩ | ⟨F,q⟩
 ·obtain⟨its,J,O,hz⟩:=I.list F;have S:=J.length;refine call_tuple_list O.isList (fun h' kp=>?_) (by simp only[kr]<;>lia);have I1:Inv X pins σ H { s with heap:=h' }:=I.kept (t':=s.toks) kp;have I2:Inv X pins σ (upd H h'.objs.size (.tup ys)) { s with heap:=h'.push { cls:=.type "tuple", data:=.seq its.toArray } }:=
   I1.laid (t':=s.toks) (fun b o e=>kz _ e) (km _) (show Yy X.prog X.w _ _ _ (.tup ys) from⟨hz,its,J,IsTup.new _ _⟩)
  exact⟨.ref h'.objs.size,_,I2,rfl,q _ (I1.hok.fresh (km _))⟩
 ·obtain⟨its,J,O,hz⟩:=I.tuple F;exact call_tuple_same O ⟨.ref p,H,I,rfl,q⟩
def tyV (K:QF)(T:String)(x:V)(H:Hp):Prop:=match x with
 | .str _=>T = "str"
 | .int _=>T = "int"
 | .ref p=>(T = "list" /\ ∃xs,Zr K H p xs)∨(T = "tuple" /\ ∃o,K.lookup p=some o/\o.cls = .type "tuple" /\ o.dict=none) ∨
   (T = "dict" /\ ((∃kvs,H p=some (.dK kvs)) ∨ ∃kvs,H p=some (.dT kvs)))∨(T = "set" /\ ∃S n,H p=some (.set S n))
 | _=>False
theorem Hy {pins:QC}{σ:St}{H:Hp}{s:Shared}{T:String}{x:V}{v:Value}(I:Inv X pins σ H s)(r:RelV x v)(ty:tyV X.K T x H):
  s.TypeIs v T /\ ∀a,v = .ref a -> ∃ob,s.heap.get? a=some ob/\ob.dict=none:=by
 cases x with
 | str z=>
  obtain⟨t,rfl⟩:=r;cases (show T = "str" from ty);exact⟨typeIs_str s z t,fun _ e=>nomatch e⟩
 | int i=>
  obtain⟨t,rfl⟩:=r;cases (show T = "int" from ty);exact⟨typeIs_int s i t,fun _ e=>nomatch e⟩
 | ref p=>
  cases r;rcases ty with⟨rfl,xs,O⟩ | ⟨rfl,o,hk,U,hd⟩ | ⟨rfl,hk⟩ | ⟨rfl,S,n,hk⟩
  ·obtain⟨its,_,J,_⟩:=I.list O;refine⟨J.isList.typeIs,fun a e=>?_⟩;cases e;obtain⟨o,n,e,c,hd,_⟩:=J;exact⟨o,e,hd⟩
  ·refine⟨⟨o,I.kIn p o hk,U⟩,fun a e=>?_⟩;cases e;exact⟨o,I.kIn _ o hk,hd⟩
  ·have z:∃o,s.heap.get? p=some o/\o.ExactDict:=by
    rcases hk with⟨kvs,hk⟩ | ⟨kvs,hk⟩
    ·obtain⟨_,_,_,_,o,_,_,e,ex,_⟩:=I.hok p _ hk;exact⟨o,e,ex⟩
    ·obtain⟨_,_,_,_,o,_,_,e,ex,_⟩:=I.hok p _ hk;exact⟨o,e,ex⟩
   obtain⟨o,e,ex⟩:=z;refine⟨⟨o,e,ex.1⟩,fun a F=>?_⟩;cases F;exact⟨o,e,ex.2.1⟩
  ·obtain⟨o,_,_,_,e,ex,_⟩:=I.hok p _ hk;refine⟨⟨o,e,ex.1⟩,fun a F=>?_⟩;cases F;exact⟨o,e,ex.2.1⟩
 | _=>exact False.elim ty
inductive Hz (K:QF)(T:String)(r:V->List V->Hp->VK->Prop)(t:TA)(σ:St)(Q:VK)(x:V)(H1:Hp):Prop | mk (h:tyV K T x H1) (q:t σ H1 fun xs H2=>r x xs H2 Q)
def tBM (K:QF)(T:String)(r:V->List V->Hp->VK->Prop)(to:TE)(t:TA):TE:=fun σ H Q=>to σ H fun x H1=>Hz K T r t σ Q x H1
variable {o e:Expr}{es:QV}{to:TE}{t:TA}{name:Str}{apos cpos:Pos}{T id:String}{r:V->List V->Hp->VK->Prop}
theorem Yw (pa:PlainAttrs T)(slot:Slot T name id)(U:typeOf (.builtin id)=pure (.type "method_descriptor"))(Y:MtR X id r)(Z:PE X o to)(ha:PA X (e::es) t)
  (J:attributeBase o name X.env (eval o X.env)=eval o X.env:=by rfl)
  (S:((backTo cpos (starEach (e::es) X.env)).all (fun x=>!x.1)&&(backToKw cpos (keywordEach [] X.env)).all (fun x=>x.1.isSome)
   && decide ((e::es).length+([]:List Keyword).length+(if ([]:List Keyword).isEmpty then 0 else 1)<30))=true:=by rfl)
  (O:(apos.endLine==cpos.line)=true:=by rfl) (hs:starEach (e::es) X.env=(false,eval e X.env)::starEach es X.env:=by rfl) (F:(backTo cpos (starEach es X.env)).any (·.1)=false:=by rfl):
  PE X (.Call (.Attribute o name apos) (e::es) [] cpos) (tBM X.K T r to t):=by
 intro pins s σ H Q I h;refine wpAny_Call_method_late J S O rfl (YM (Z pins s σ H _ I h) fun v s1 ⟨x,H1,I1,V,ty,q1⟩=>?_);obtain⟨h1,h2⟩:=Hy I1 V ty;refine⟨T,id,pa,slot,U,h1,h2,?_⟩;have W:=ha cpos pins s1 σ H1 _ I1 q1;rw[hs] at W ⊢;refine Calls.callWith_builtin (by show (false||(backTo cpos (starEach es X.env)).any (·.1))=false;rw[F]<;>rfl) (TK ?_);exact YM W fun us s2 ⟨vs,H2,I2,r2,q2⟩=>Y pins s2 σ H2 x vs v us Q I2 V r2 q2
end
def MtM (X:Cx)(id:String)(r:V->List V->Hp->VK->Prop):Prop:=
 ∀(pins:QC)(s:Shared)(σ:St)(H:Hp)(x:V)(xs:QH)(v:Value)(us:QJ)(Q:VK),Inv X pins σ H s->RelV x v->Vals xs us->r x xs H Q ->
  wpAny (model X.prog X.w) X.A (call (.builtin id) (v::us)) (EP X pins σ Q) X.xe s
theorem Vals.one:∀{x:V}{us:QJ},Vals [x] us -> ∃u,us = [u]/\RelV x u
 | _,_,.cons r .nil=>⟨_,rfl,r⟩
theorem Vals.two:∀{x y:V}{us:QJ},Vals [x,y] us -> ∃u v,us = [u,v]/\RelV x u/\RelV y v
 | _,_,_,.cons r (.cons q .nil)=>⟨_,_,rfl,r,q⟩
theorem Vals.eraseIdx:∀{xs:QH}{us:QJ}(i:Nat),Vals xs us->Vals (xs.eraseIdx i) (us.eraseIdx i)
 | _,_,_,.nil=>.nil
 | _,_,0,.cons _ t=>t
 | _,_,i+1,.cons r t=>.cons r (Vals.eraseIdx i t)
theorem Vals.rep {xs:QH}{us:QJ}(h:Vals xs us):∀k:Nat,Vals (List.replicate k xs).flatten (List.replicate k us).flatten
 | 0=>.nil
 | k+1=>by rw[Xp,Xp,Xk,Xk];exact Vals.append h (Vals.rep h k)
theorem R9 {α:Type}:∀(l:List α)(i:Nat),(l.eraseIdx i).length<=l.length
 | [],_=>km _
 | _::_,0=>XN _
 | _::r,i+1=>Nat.succ_le_succ (R9 r i)
theorem foldl_rep (its:QJ):∀(k:Nat)(F:QJ),
  List.foldl (fun I J=>I++J) F.toArray (List.replicate k its.toArray)=(F++(List.replicate k its).flatten).toArray
 | 0,F=>by simp
 | k+1,F=>by
  have e:F.toArray++its.toArray=(F++its).toArray:=by simp
  have O:(F++its)++(List.replicate k its).flatten=F++(List.replicate (k+1) its).flatten:=by rw[Xp,Xk,Kl]
  rw[<- O,<- foldl_rep its k (F++its),<- e,Xp,List.foldl_cons]
section
variable {X:Cx}{pins:QC}{σ:St}{H:Hp}{s:Shared}{l b:Addr}{xs ys zs:QH}
theorem Inv.lset {its its':QJ}{n:Nat}{f:Array Value->Array Value}{t':Nat}(I:Inv X pins σ H s)(F:H l=some (.lst xs))
  (e:s.heap.get? l=some { cls:=.type "list", data:=.seq its.toArray n }) (J:f its.toArray=its'.toArray) (O:Vals ys its') (hz:ys.length<=sizeLine):
  Inv X pins σ (upd H l (.lst ys)) { s with heap:=s.heap.update l (Obj.mapSeq f),toks:=t' }:=by
 have q:=PySem.IsL.update e f;rw[J] at q;refine I.write (x:=l) (e:=l) (by rw[F];exact trivial) (.inl rfl) (fun U u hb S=>(Xw s.heap (Obj.mapSeq f) (KA hb)).trans S) ⟨_,q⟩ ?_;exact⟨hz,its',_,O,q⟩
theorem Inv.lnew {its:QJ}{t':Nat}(I:Inv X pins σ H s)(F:Vals ys its)(hz:ys.length<=sizeLine):
  Inv X pins σ (upd H s.heap.objs.size (.lst ys)) { s with heap:=s.heap.push { cls:=.type "list", data:=.seq its.toArray },toks:=t' }:=
 I.laid (fun _ _ q=>kz _ q) (km _) ⟨hz,its,0,F,Kf _ rfl⟩
theorem Inv.fresh (I:Inv X pins σ H s):H s.heap.objs.size=none:=I.hok.fresh (km _)
theorem Inv.lstM (I:Inv X pins σ H s)(F:H l=some (.lst xs)):xs.length<=sizeLine /\ ∃(its:QJ)(n:Nat),Vals xs its/\xs.length=its.length/\s.heap.get? l=some { cls:=.type "list", data:=.seq its.toArray n }:=by obtain⟨z,its,n,r,e⟩:=I.hok l _ F;exact⟨z,its,n,r,r.length,e⟩
theorem Ph {n:Nat}(h:n<=sizeLine):Builtin.List.listTooLong n=false:=by unfold Builtin.List.listTooLong;exact Kh (by lia)
end
section
variable {X:Cx}
inductive HA(x:V)(vs:QH)(H:Hp)(Q:VK):Prop|mk(l xs y:_)(_:x = .ref l)(_:vs = [y])(_:H l=some (.lst xs))(_:xs.length<sizeLine)(_:Q .non (upd H l (.lst (xs ++ [y]))))
theorem ZL:MtM X "list.append" HA:=by intro pins s σ H x vs v us Q I O S h;obtain⟨l,xs,y,rfl,rfl,J,hz,q⟩:=h;cases O;obtain⟨u,rfl,U⟩:=S.one;obtain⟨z,its,n,r,V,e⟩:=I.lstM J;refine Tx F.slot_list_append ⟨_,e,rfl⟩ F.entry_list_append (F.args_list_append_2 _ _) (PySem.list_append l its.toArray n u (by rw[kr];lia)) ⟨e,?_⟩;refine⟨.non,_,I.lset (its':=its ++ [u]) J e (by simp) (r.append (.cons U .nil)) ?_,rfl,q⟩;rw[ki,Ke];lia
inductive HB(x:V)(vs:QH)(H:Hp)(Q:VK):Prop|mk(l xs i k y:_)(_:x = .ref l)(_:vs = [.int i])(_:H l=some (.lst xs))(_:-(2 ^ 63)<=i)(_:i<2 ^ 63)(_:seqIndex? i xs.length=some k)(_:xs[k]? = some y)(_:Q y (upd H l (.lst (xs.eraseIdx k))))
theorem Pj:MtM X "list.pop" HB:=by
 intro pins s σ H x vs v us Q I S U h;obtain⟨l,xs,i,k,y,rfl,rfl,O,h1,h2,hk,V,q⟩:=h;cases S;obtain⟨u,rfl,W⟩:=U.one;obtain⟨t,rfl⟩:=W;obtain⟨z,its,n,r,Y,e⟩:=I.lstM O;obtain⟨w,hw,J⟩:=r.get V;refine Tx F.slot_list_pop ⟨_,e,rfl⟩ F.entry_list_pop (F.args_list_pop_2 _ _)
  (MeetsSeq.list_pop_at l its.toArray n i t k w (fitsIndex_both h1 h2) (by rw[kr,<- Y];exact hk) (by rw[<- qu];exact hw) (by rw[kr];lia)) ⟨e,?_⟩
 refine⟨y,_,I.lset (its':=its.eraseIdx k) O e ?_ (r.eraseIdx k) ?_,J,q⟩
 ·show its.toArray.eraseIdxIfInBounds k=(its.eraseIdx k).toArray;rw[List.eraseIdxIfInBounds_toArray]
 ·have:=R9 xs k;lia
inductive Pk(x y:V)(H:Hp)(Q:VK):Prop|mk(l b xs zs:_)(_:x = .ref l)(_:y = .ref b)(_:H l=some (.lst xs))(_:H b=some (.lst zs))(_:xs.length+zs.length<=sizeLine)(_:∀p,H p=none->Q (.ref p) (upd H p (.lst (xs++zs))))
theorem YX:Uo X (binaryOp .Add) Pk:=by
 intro pins s σ H x y v u Q I J O h;obtain⟨l,b,xs,zs,rfl,rfl,S,U,hz,q⟩:=h;cases J;cases O;obtain⟨z,its,n,r,Z,e⟩:=I.lstM S;obtain⟨z2,F,n2,V,W,Y⟩:=I.lstM U;refine PySem.P.add_list e Y ?_ (by rw[kr,kr];lia);have ea:its.toArray++F.toArray=(its++F).toArray:=by simp
 rw[ea];exact⟨.ref _,_,I.lnew (t':=s.toks) (r.append V) (by rw[ki];lia),rfl,q _ I.fresh⟩
inductive Pl(x y:V)(H:Hp)(Q:VK):Prop|mk(l k xs:_)(_:x = .ref l)(_:y = .int k)(_:H l=some (.lst xs))(_:-(2 ^ 63)<=k)(_:k<2 ^ 63)(_:xs.length*k.toNat<=sizeLine)(_:∀p,H p=none->Q (.ref p) (upd H p (.lst (List.replicate k.toNat xs).flatten)))
theorem len_rep {α:Type}(xs:List α)(k:Nat):(List.replicate k xs).flatten.length=k*xs.length:=by
 induction k with
 | zero=>simp
 | succ k ih=>rw[Xp,Xk,ki,ih,Nat.succ_mul,Nat.add_comm]
theorem LW:Uo X (binaryOp .Mult) Pl:=by
 intro pins s σ H x y v u Q I rx ry h;obtain⟨l,k,xs,rfl,rfl,hH,h1,h2,hz,q⟩:=h;cases rx;obtain⟨t,rfl⟩:=ry;obtain⟨z,its,n,r,hl,e⟩:=I.lstM hH;have O:its.toArray.size*k.toNat<=sizeLine:=by rw[kr,<- hl];exact hz
 have S:¬its.toArray.size*k.toNat>(2 ^ 63-1) / 8:=by
  have:(sizeLine:Nat)<=(2 ^ 63-1) / 8:=by decide
  lia
 have V:¬(!Builtin.List.listFitsIndex k)=true:=by rw[fitsIndex_both h1 h2];exact kO
 have J:¬Builtin.List.listTooLong (its.toArray.size*k.toNat)=true:=by rw[Ph O];exact kO
 have W:List.foldl (fun Y Z=>Y++Z) #[] (List.replicate (if its.toArray.isEmpty=true then 0 else k.toNat) its.toArray)=(List.replicate k.toNat its).flatten.toArray:=by
  have f0:∀m:Nat,List.foldl (fun Y Z=>Y++Z) #[] (List.replicate m its.toArray)=(List.replicate m its).flatten.toArray:=fun m=>by have:=foldl_rep its m [];rw[Xz] at this;exact this
  rw[f0];cases its with
  | nil=>simp
  | cons a r'=>rw[kh (by simp)]
 refine wpAny_binaryOp_repeat_ref (T := "list") (U := "int") (by decide) ⟨_,e,rfl⟩ (fun s'=>typeIs_int s' k t) noFill_list_mul F.fills_int_mul F.slot_int_rmul repeat_list F.slot_int_index.lookup
  (Tx F.slot_int_rmul (typeIs_int s k t) F.entry_int_rmul (F.args_int_rmul_2 _ _) (int___rmul___int_list k t l its.toArray n)
   ⟨e,rfl,⟨_,e,rfl⟩,Tx F.slot_list_mul ⟨_,e,rfl⟩ F.entry_list_mul (F.args_list_mul_2 _ _) (AutoListH.list___mul___list_int_3 l its.toArray n k t V S J) ⟨e,?_⟩⟩)
 rw[W];exact⟨.ref _,_,I.lnew (t':=s.toks) (r.rep k.toNat) (by rw[len_rep,Nat.mul_comm];exact hz),rfl,q _ I.fresh⟩
end
section
variable {prog:Program}{w:World}{A:Around}{E:QE}{s:Shared}
theorem HC (its F:QJ)(a c:Nat):its.toArray.extract 0 a++F.toArray++its.toArray.extract c its.toArray.size=(its.take a++F++its.drop c).toArray:=by
  apply Array.toList_inj.mp
  first
    | (simp
       exact kL (by simp))
    | simp[kL]
    | simp
theorem Sa {a c n:Nat}(F:a<=c)(I:c<=n):sliceBounds (some (a:Int)) (some (c:Int)) none n=((a:Int),(c:Int),1):=by
 simp only[sliceBounds,NT];have h1:¬((a:Int)<0):=by lia
 have h2:¬((c:Int)<0):=by lia
 simp only[h1,h2,XM,show (1:Int)>0 by decide,TF];congr 1
 ·lia
 ·congr 1;lia
set_option maxRecDepth 100000 in
theorem HD {l b sl:Addr}{items new:QY}{n n2:Nat}{vl vu:Value}{a c:Nat}{Q:Unit->Shared->Prop}
    (e:s.heap.get? l=some { cls:=.type "list", data:=.seq items n }) (e2:s.heap.get? b=some { cls:=.type "list", data:=.seq new n2 }) (V:l≠b)
    (hs:s.heap.IsSliceOf sl vl vu .none) (pl:IsPart vl (some (a:Int))) (pu:IsPart vu (some (c:Int))) (Y:a<=c) (hc:c<=items.size)
    (hsz:items.size+new.size<=sizeLine) (h:Q () { s with heap:=s.heap.update l (Obj.mapSeq fun xs=>xs.extract 0 a++new++xs.extract c xs.size) }):
    wpAny (model prog w) A (setItem (.ref l) (.ref sl) (.ref b)) Q E s:=by
  have Z:s.heap.IsList l items:=NU e;have hb:s.heap.IsList b new:=NU e2;obtain⟨os,I,sx,J⟩:=id hs;have S:s.TypeIs (.ref sl) "slice" := ⟨os,I,sx⟩;have O:¬((rawPart none==rawInt 0)=true):=kO;have F:Builtin.List.listSameRef (.ref l) (.ref b)=false:=by unfold Builtin.List.listSameRef;exact qH.mpr V
  have U:(max (a:Int) (c:Int)).toNat=c:=by lia
  have gB:((fun xs:QY=>xs.extract 0 a++new++xs.extract c xs.size) items).size<=sizeLine+1:=by simp only[Array.size_append,Array.size_extract];lia
  unfold setItem
  try with_reducible refine KC ?_
  first | refine kg (kG ?_) | skip
  refine kg (NG Z.typeIs (by decide) ?_);refine kg (qE (name:=Str.ofString "__setitem__") Z.typeIs slot_list_setitem
    (qA slot_list_setitem Z.typeIs entry_list_setitem ?_ (args_list_setitem _ _ _)))
  show wpAny _ _ (Builtin.List.listSubscript? (.ref sl) >>= _) _ _ s;refine kg ?_;unfold Builtin.List.listSubscript?;refine kg (Mr S slice_no_index ?_);simp only[Le,TF];refine kG ?_;show wpAny _ _ (typeOf (.ref sl) >>= _) _ _ s;refine kg (qS S ?_)
  first
    | rw[kh (by decide)]
    | refine Tc (by decide) ?_
  rw[listSliceParts_eq];refine kg (kg (qt I J (x:=.none) rfl (kg (XO .none ?_))));rw[kh O];refine kg (qt I J (x:=vl) rfl (kg (XO pl ?_)));refine kg (qt I J (x:=vu) rfl (kg (XO pu (kG ?_))))
  first
    | simp only[F,qO,XM]
    | refine Tc F ?_
    | (dsimp only
       rw[kh (by rw[F];exact kO)])
  refine kg (m:=Builtin.List.listAllItems (.ref b) "must assign iterable to extended slice") ?_;unfold Builtin.List.listAllItems;refine kg (qS hb.typeIs ?_)
  first
    | refine W.KFB.if_so (by decide) ?_
    | rw[kj (by decide)]
    | simp only[beq_self_eq_true,Bool.true_or,TF]
  unfold Builtin.List.listItems;refine kg (Tq e2 rfl (kG ?_));refine kg (kg (Tq e rfl (kG ?_)));refine kg (TL ((sliceIndices_raw (some (a:Int)) (some (c:Int)) none items.size (by simp)).trans (Kx (pure:Int×Int×Int->Sem (Int×Int×Int)) (Sa Y hc))) ?_);show wpAny _ _ (if ((1:Int)==1)=true then _ else _) _ _ s;rw[kj (by decide)];refine kg (XJ ?_)
  first
    | simp only[Ph hsz,qO,XM]
    | refine Tc (Ph hsz) ?_
  first | refine kg (kG ?_) | skip
  show wpAny _ _ (updateSeq l (fun xs=>xs.extract 0 ((a:Int)).toNat++new++xs.extract (max (a:Int) (c:Int)).toNat xs.size) >>= _) _ _ s;rw[U,kM];refine kg (wpAny_updateSeq (hz:=Kb (Xa _ _) hsz) (_hz':=gB) e rfl ?_);refine kg (wpAny_letGo ?_)
  first
    | exact kg (kG (kG ⟨.none,rfl,kG h⟩))
    | exact kG ⟨.none,rfl,kG h⟩
end
section
variable {X:Cx}
theorem HE {pins:QC}{s:Shared}{σ:St}{H:Hp}{l b sl:Addr}{xs ys:QH}{a c:Int}{vl vu:Value}{Q:Unit->Shared->Prop}(I:Inv X pins σ H s)
  (V:H l=some (.lst xs)) (W:H b=some (.lst ys)) (J:l≠b) (hs:s.heap.IsSliceOf sl vl vu .none) (Y:RelV (.int a) vl) (Z:RelV (.int c) vu) (h0:0<=a) (O:a<=c) (hc:c<=xs.length)
  (hz:xs.length+ys.length<=sizeLine) (h:∀s',Inv X pins σ (upd H l (.lst (xs.take a.toNat++ys++xs.drop c.toNat))) s'->Q () s'):
  wpAny (model X.prog X.w) X.A (setItem (.ref l) (.ref sl) (.ref b)) Q X.xe s:=by
 obtain⟨ta,rfl⟩:=Y;obtain⟨tc,rfl⟩:=Z;obtain⟨z,its,n,r,hl,e⟩:=I.lstM V;obtain⟨z2,F,n2,r2,aa,e2⟩:=I.lstM W;obtain⟨S,rfl⟩:=kF h0;obtain⟨U,rfl⟩:=kF (LH h0 O);simp only[kM] at h;refine HD (a:=S) (c:=U) e e2 J hs (.int _ _) (.int _ _) (by lia) (by rw[kr];lia) (by rw[kr,kr];lia) (h _ ?_);refine I.lset (its':=its.take S++F++its.drop U) (t':=s.toks) V e ?_ (Vals.append (Vals.append (r.take _) r2) (r.drop _)) ?_
 ·exact HC its F S U
 ·rw[ki,ki,kK,Kr];lia
end
end L2
namespace Att
open PySem PySem.W PySem.Calls PyProof.Rows
theorem HF {P:Params}{h:Heap}:∀(ns:QG)(vs:QJ),WellAll P h vs (ns.map WData.int)->IntsAre vs ns:=by
 intro ns
 induction ns with
 | nil=>
  intro vs w;rw[Me] at w;cases w;exact .nil
 | cons n ns ih=>
  intro vs w;rw[Ko] at w;cases w with
  | cons a b=>
   cases a;exact .cons _ _ (ih _ b)
theorem HH {l:OpenLaw}{n:Nat}(Y:l.most=some n){P:Params}{h:Heap}{args:List WData}{cF:QJ}
  (F:l.row.toRowW.claim.pre args=true) (U:WellAll P h cF args):
  ∃a vs ns,cF = [Value.ref a]/\args = [WData.list (ns.map WData.int)]/\h.get? a=some { cls:=.type "list", data:=.seq vs.toArray } /\ IntsAre vs ns/\ns.length<=n:=by
 have V:WShape.hasAll [] args [.list .int]=true:=(pre_splitW F).1;have W:l.pre.holds [] { args:=args } = true:=(pre_splitW F).2;obtain⟨d,r,rfl,h1,h2⟩:=hasAllW_cons V;obtain rfl:=hasAllW_nil h2;obtain⟨xs,rfl,Z⟩:=hasW_list h1;obtain⟨ns,rfl⟩:=items_int Z;have I:ns.length<=n:=by
  unfold OpenLaw.pre at W;have O:(WTm.not (.lt (.lit (.int (n:Int))) (.len (.arg 0)))).holds [] { args:=[.list (ns.map .int)] } = true:=by have O:=(holds_andW W).1;rw[Y] at O;exact O
  have S:=condW_of O (w_not (w_lt w_lit (w_len_list (w_arg rfl))));rw[ke] at S;refine NV fun q=>?_;have q':(n:Int)<((ns.length:Nat):Int):=by lia
  first
   | (rw[kH q'] at S;exact absurd S (by decide))
   | (simp at S;lia)
 cases U with
 | cons w1 w2=>
  cases w2;cases w1 with
  | list ho J=>exact⟨_,_,ns,rfl,rfl,ho,HF ns _ J,I⟩
theorem HI (l:OpenLaw)(args:List WData):l.row.toRowW.claim.post args (.bool true) args=true:=
 postW_of (r:=l.row.toRowW) (X:=(true==true))
  (show WShape.has [] (.bool true) .bool=true by first | rfl | decide | simp[WShape.has,WShape.arms,WShape.armsAll])
  (show (WTm.eq .res (.lit (.bool true))).value [] { args:=args,res:=some (.bool true),after:=args } = some (.bool (true==true)) from w_eq_bool (w_res rfl) w_lit) rfl
theorem HJ {l:OpenLaw}{n:Nat}{q:Program}{aN:QP}{XP:QN->Heap->Prop}{YP:World->Heap->Prop}{d:DefRec}
  (hn:l.most=some n) (V:d.params.defaults = [])
  (call:∀(w:World)(s₀ F:Shared)(mg W:QN)(J:Addr)(o:Obj)(pm cd doc:Value)(a:Addr)(vs:QJ)(ns:QG),
   Ground q aN [] XP w s₀ mg W F.heap->YP w F.heap ->
   F.heap.get? J=some o->o.data = .func (docDef d.name d.params d.body d.scope pm cd doc)->F.heap.CodeRec cd d.name->mg d.name=some (.ref J) ->
   F.heap.get? a=some { cls:=.type "list", data:=.seq vs.toArray } -> IntsAre vs ns->ns.length<=n->F.gens = #[] ->
   codeAny (model l.prog w) callerA (.call (.ref J) ⟨[.ref a],[]⟩) (fun r s'=>r = .ok (.ret (.bool true))/\OldK F.heap s'.heap/\s'.os=F.os/\AllBare s'.gens) F):
  WalkO q aN XP YP l.row.toRowW d [] (fun f vs=>PySem.call f vs):=by
 intro w s₀ F mg W G Y J o pm cd doc dV kV ho hd Z hD hmg hg args cF as O sy zc tD iK;obtain rfl:dV = .none:=Dflts.none hD V;obtain rfl:kV = .none:=Dflts.noKw hD;obtain⟨a,vs,ns,rfl,rfl,S,I,U⟩:=HH hn O tD;refine enter_call (T7 (call w s₀ F mg W J o pm cd doc a vs ns G Y ho (fd_plain hd) Z hmg S I U hg) fun r s' hq=>?_);obtain⟨rfl,h2,h3,h4⟩:=hq;exact⟨.inl ⟨.bool true,.bool true,[],rfl,fun _=>rfl,.bool true,HI l _,fun _=>⟨List.Pairwise.nil,fun _ hm=>(nomatch hm)⟩⟩,h2,h3,h4⟩
end Att
namespace L2
open PySem PySem.Spec PyProof.Rows
variable {x qual:Str}{A B:Prop}
theorem U3:∀{vs:QJ}{ns:QG},IntsAre vs ns->Vals (ns.map V.int) vs
 | _,_,.nil=>.nil
 | _,_,.cons n t h=>.cons ⟨t,rfl⟩ (U3 h)
def Pm (H:Hp):Prop:=∀b,H b=none ∨ ∃o xs,H b=some (.frz o (.lst xs))
theorem HK {P:Program}{w:World}{K:QF}{mg mb:QN}{CX:CXT}{k:Nat}{fa a:Addr}{fd:FuncData}{sp:Sp}{aC:Shared}{vs:QJ}{ns:QG}
  (KX:K.In aC.heap) (U:aC.heap.Ns mainGlobals mg) (hb:aC.heap.Ns builtinsNs mb) (tE:∀x:Str,x ≠ "__name__" -> mb x=bootBuiltins x) (W:aC.heap.NoLimit) (hg:aC.gens = #[])
  (ha:aC.heap.get? a=some { cls:=.type "list", data:=.seq vs.toArray }) (hi:IntsAre vs ns) (hl:ns.length<=sizeLine) (hr:Gz k callerA)
  (F:∀base:Heap,K.In base->base.Ns mainGlobals mg->Yc P w K mg base CX k fa fd [x] sp) (S:∀(s:Shared)(u:Value),BindsTo s fd ⟨[u],[]⟩ [(x,u)])
  (cn:∀H:Hp,Pm H->Zr K H a (ns.map V.int)->sp [.ref a] H (fun v _=>v = .bl true) fun _ _ _=>False)
  (iL:∀H e s',CX [] H aC (fun _ _ _=>False) e s'->False):
  codeAny (model P w) callerA (.call (.ref fa) ⟨[.ref a],[]⟩) (fun r s'=>r = .ok (.ret (.bool true))/\OldK aC.heap s'.heap/\s'.os=aC.os/\AllBare s'.gens) aC:=by
 have rv:=U3 hi;have Y:=hi.length;have O:∀H:Hp,Pm H->Zr K H a (ns.map V.int)->HOk P w H aC.heap->(∀b,H b≠none->b=a)->(H a≠none->K.lookup a=none) ->
   codeAny (model P w) callerA (.call (.ref fa) ⟨[.ref a],[]⟩) (fun r s'=>r = .ok (.ret (.bool true))/\OldK aC.heap s'.heap/\s'.os=aC.os/\AllBare s'.gens) aC:=by
  intro H hO hS hok hA hK;have I:∀{b:Addr}{o:Obj},aC.heap.get? b=some o->H b=none->(Ld aC.heap H).get? b=some o:=fun e n=>Ea e n;have tF:∀{b:Addr}{o:Obj}{es:Array DictEntry}{ep:Nat},aC.heap.get? b=some o->o.data = .dict es ep->H b=none:=fun {b o es ep} e d=>by
   cases q:H b with
   | none=>rfl
   | some u=>
    have e':b=a:=hA b (by rw[q];simp);subst e';rw[ha] at e;cases e;have d':Data.seq vs.toArray _=Data.dict es ep:=d;cases d'
  have J:∀{b:Addr}{m:QN},aC.heap.Ns b m->(Ld aC.heap H).Ns b m:=fun {b m} ⟨o,es,ep,e,d,r⟩=>⟨o,es,ep,I e (tF e d),d,r⟩;have Z:K.In (Ld aC.heap H):=fun b o e=>I (KX b o e) (by
   cases q:H b with
   | none=>rfl
   | some u=>
    have e':b=a:=hA b (by rw[q];simp);subst e';rw[hK (by rw[q];simp)] at e;cases e)
  have hM:Mod K mg (Ld aC.heap H):=⟨Z,J U,⟨mb,J hb,tE⟩,let ⟨mc,h1,h2⟩:=W;⟨mc,J h1,h2⟩⟩;have e0:Dn P w K mg (Ld aC.heap H) callerA [] aC H:=⟨rfl,hM,fun b o e=>Eb e,Mf (A9 _ _),trivial,fun b hb=>absurd (show b∈([]:List Addr) from hb) (by simp),hok,.of_eq hg⟩;refine T7 ((F _ Z (J U)).run callerA [] aC H ⟨[.ref a],[]⟩ [.ref a] [.ref a] _ _ hr e0 (S aC (.ref a)) (.cons rfl .nil) (cn H hO hS)) fun r s' h=>?_;cases r with
  | error e=>exact(iL H e s' h).elim
  | ok fl=>
   cases fl with
   | next=>exact False.elim h
   | brk=>exact False.elim h
   | cont=>exact False.elim h
   | ret u=>
    obtain⟨v,H',os,bare,un,cG,r',q⟩:=h;have q':v = .bl true:=q;subst q';obtain rfl:u=Value.bool true:=r';refine⟨rfl,OldK.of_keep fun b o e=>?_,os,bare⟩;cases q:H b with
    | none=>exact un.keep b o e q (by intro z;exact absurd (show b∈([]:List Addr) from z) (by simp)) (by simp)
    | some u=>
     rcases hO b with z | ⟨ob,xs,z⟩
     ·rw[q] at z;cases z
     ·have z2:=un.frzs b ob _ z;obtain⟨e1,_⟩:=hok b _ z;obtain⟨e2,_⟩:=cG b _ z2;rw[e] at e1;cases e1;exact e2
 cases hk:K.lookup a with
 | some o=>
  have e:=KX a o hk;rw[ha] at e;cases e;refine O (fun _=>none) (fun _=>.inl rfl) (.inr ⟨_,vs.toArray,_,hk,rfl,rfl,rfl,by rw[kr,Y];exact hl,by simpa using rv⟩) (fun b u z=>by have z':(none:Option HO)=some u:=z;cases z') (fun b z=>absurd rfl z) fun z=>absurd rfl z
 | none=>
  refine O (fun b=>if b=a then some (.frz { cls:=.type "list", data:=.seq vs.toArray } (.lst (ns.map V.int))) else none) (fun b=>?_) (.inl (.inr ⟨{ cls:=.type "list", data:=.seq vs.toArray },kj rfl⟩)) (fun b u z=>?_) (fun b z=>?_) fun _=>hk
  ·by_cases hb:b=a
   ·exact .inr ⟨_,_,kj hb⟩
   ·exact .inl (kh hb)
  ·by_cases hb:b=a
   ·have z':=(kj hb).symm.trans z;cases z';subst hb;exact⟨ha,by rw[ke];exact hl,vs,_,rv,ha⟩
   ·have z':=(kh hb).symm.trans z;cases z'
  ·by_cases hb:b=a
   ·exact hb
   ·exact absurd (kh hb) z
theorem HL {l:W.OpenLaw}{n k:Nat}{q:Program}{aN:QP}{XP:QN->Heap->Prop}{YP:World->Heap->Prop}{d:DefRec}{K:Params->W.Frag}{CX:World->CXT}{sp:World->Sp}
  (hn:l.most=some n) (Z:n<=sizeLine) (tG:d.params.defaults = []) (hr:Gz k callerA)
  (hY:∀(w:World)(h:Heap),YP w h->(K w.params).In h)
  (F:∀(w:World)(mg:QN)(U:Addr)(h:Heap),(K w.params).In h->h.Ns mainGlobals mg->mg d.name=some (.ref U) ->
   ∃fd:FuncData,(∀(s:Shared)(u:Value),BindsTo s fd ⟨[u],[]⟩ [(x,u)]) /\
    ∀base:Heap,(K w.params).In base->base.Ns mainGlobals mg->Yc l.prog w (K w.params) mg base (CX w) k U fd [x] (sp w))
  (cn:∀(w:World)(H:Hp)(a:Addr)(ns:QG),ns.length<=n->Pm H->Zr (K w.params) H a (ns.map V.int)->sp w [.ref a] H (fun v _=>v = .bl true) fun _ _ _=>False)
  (iL:∀(w:World)(H:Hp)(s:Shared)(e:Value)(s':Shared),CX w [] H s (fun _ _ _=>False) e s'->False):
  W.WalkO q aN XP YP l.row.toRowW d [] (fun f vs=>PySem.call f vs):=by
 refine Att.HJ hn tG fun w s₀ O mg mb U o pm cd doc a vs ns G Y ho hd fz hmg S J I hg=>?_;have KX:=hY w _ Y;obtain⟨fd,hb,hF⟩:=F w mg U _ KX G.T.g hmg;exact HK KX G.T.g G.T.b G.T.builtins G.T.nolimit hg S J (Kb I Z) hr hF hb (fun H hO hS=>cn w H a ns I hO hS) fun H e s'=>iL w H O e s'
def Uw (s:Stmt):Arguments:=match s with
 | .FunctionDef _ a _ _ _ _ _ _ _ _=>a
 | _=>{ posonlyargs:=[],args:=[],vararg:=none,kwonlyargs:=[],kw_defaults:=[],kwarg:=none,defaults:=[] }
def Jt (s:Stmt):List Stmt:=match s with
 | .FunctionDef _ _ b _ _ _ _ _ _ _=>b
 | _=>[]
def Zj (s:Stmt):Scope:=match s with
 | .FunctionDef _ _ _ _ _ _ sc _ _ _=>sc
 | _=>{ kind:=.function,names:=[],isGenerator:=false,isCoroutine:=false }
abbrev JZ:CXT:=fun _ _ _ _ _ _=>False
abbrev E0:XK:=fun _ _ _=>False
theorem HM {X:Cx}:Passes JZ X E0:=fun _ _ _ _ _ _ _ h=>h.elim
structure JD (K:QF)(x qual:Str)(st:Stmt)(f:Addr)(fd:FuncData):Prop where
 ex:∃(oc:Value)(od:Option Addr)(kV doc pm:Value)(an:Option Addr)(aB ct:Value)(osl:Array (Option Value)),
  fd=W.fnOf x qual (Uw st) (Jt st) (Zj st) .none kV doc pm an aB ct/\K.lookup f=some ⟨oc,od,.func fd,osl⟩/\W.codeIn K aB qual=true
 kp:W.keepIn K (.ref f)=true
section
variable {P:Program}{w:World}{K:QF}{mg:QN}{base:Heap}
theorem JD.ok {st:Stmt}{f:Addr}{fd:FuncData}{N ps:QP}{k:Nat}{sp:Sp}(F:JD K x qual st f fd)(S:Zw N ps (Zj st))(len:∀vs H Q E,sp vs H Q E->vs.length=ps.length)
  (J:∀(I:Value)(A:Around)(outer:QK)(s:Shared)(H:Hp)(vs:QH)(Q:VK)(E:XK),Gz k (A.deeper (envOfC qual (Zj st) s.heap.objs.size f I))->sp vs H Q E ->
   ∃t,PSs (WH JZ P w K mg base N qual (Zj st) f I A outer s H E).nox (Jt st) t/\t { nx:=fun _ H'=>Q .non H',rt:=Q } (start N vs) H):Yc P w K mg base JZ (k+1) f fd ps sp:=by
 obtain⟨oc,od,kV,doc,pm,an,I,ct,osl,rfl,V,O⟩:=F.ex;refine RY V O S len fun A outer s H vs Q E W U=>?_;obtain⟨t,h,q⟩:=J I A outer s H vs Q E W U;exact⟨t,h.nox,q⟩
theorem JD.binds {st:Stmt}{f:Addr}{fd:FuncData}{ps:QP}(F:JD K x qual st f fd)
  (h:∀(kV doc pm:Value)(an:Option Addr)(I ct:Value)(us:QJ),us.length=ps.length->bindArgs (W.fnOf x qual (Uw st) (Jt st) (Zj st) .none kV doc pm an I ct) ⟨us,[]⟩=pure (ps.zip us)):Binds K fd ps []:=by
 obtain⟨oc,od,kV,doc,pm,an,I,ct,osl,rfl,O,J⟩:=F.ex;exact .all (h kV doc pm an I ct)
theorem HN {st:Stmt}{f:Addr}{oc:Value}{od an:Option Addr}{osl:Array (Option Value)}{kV doc pm aB ct:Value}(l:K.lookup f=some ⟨oc,od,.func (W.fnOf x qual (Uw st) (Jt st) (Zj st) .none kV doc pm an aB ct),osl⟩)
  (c:W.codeIn K aB qual=true) (k:W.keepIn K (.ref f)=true):JD K x qual st f (W.fnOf x qual (Uw st) (Jt st) (Zj st) .none kV doc pm an aB ct):=⟨⟨oc,od,kV,doc,pm,an,aB,ct,osl,rfl,l,c⟩,k⟩
end
theorem Gg {A:Around}{k:Nat}(F:Gz k A):A.units+1<cLine:=Ni (Nat.add_le_add_left (by decide:1<=64) _) F.units
theorem ZD {n:Nat}(h:n<=1000):n<sizeLine:=Ni h (by decide)
section
variable {X:Cx}
theorem pv (i:Nat){pos:Pos}(I:X.N[i]? = some x:=by rfl)(J:Vis X.env.scope x:=by first | exact Or.inl rfl | exact Or.inr (.inl rfl) | exact Or.inr (Or.inr rfl))(hd:(x==("__debug__" : Str))=false:=by decide)
  (F:(x==("__classdict__" : Str))=false:=by decide):PE X (.Name x pos) (ME i):=Ed I J hd F
end
theorem YD (h:B):if false=true then A else B:=by rw[kh kO];exact h
theorem JU (h:A):if true=true then A else B:=by rw[kj rfl];exact h
theorem Z7 {c:Prop}[Decidable c](h1:c->A)(h2:¬c->B):if c then A else B:=by
 by_cases h:c
 ·rw[kj h];exact h1 h
 ·rw[kh h];exact h2 h
theorem Sb {c:Prop}[Decidable c](F:c)(h:B):if (!decide c)=true then A else B:=by rw[kH F];exact YD h
def Zh (H H':Hp):Prop:=∀b o,H b=some o->H' b=some o
theorem Zh.refl (H:Hp):Zh H H:=fun _ _ h=>h
theorem Zh.trans {H H1 H2:Hp}(a:Zh H H1)(b:Zh H1 H2):Zh H H2:=fun c o h=>b c o (a c o h)
theorem Zh.free {H H':Hp}(e:Zh H H'){l:Addr}(h:H' l=Option.none):H l=Option.none:=by
 cases q:H l with
 | none=>rfl
 | some o=>
  rw[e l o q] at h;cases h
theorem Zh.seq {K:QF}{H H':Hp}{a:Addr}{xs:QH}(e:Zh H H')(h:Zr K H a xs):Zr K H' a xs:=by
 rcases h with(h | ⟨o,h⟩) | h
 ·exact .inl (.inl (e _ _ h))
 ·exact .inl (.inr ⟨o,e _ _ h⟩)
 ·exact .inr h
end L2
set_option maxHeartbeats 4000000
namespace L2
open PySem PySem.Spec PyProof.Rows
section
variable {prog:Program}{w:World}{A:Around}{R:Result->Shared->Prop}{s:Shared}
theorem HP {aL aI iter:Expr}{aR:QV}{scope:Scope}{pos:Pos}{it aY:Value}{env:Env}(I:Nat->Shared->Prop)
  (am:∀n s,I n s->wpAny (model prog w) A (pyNext it) (fun r F=>match r with
   | none=>R (.ok .next) F
   | some v=>wpAny (model prog w) A (letOwnedTupleGo aI it v) (fun _ J=>wpAny (model prog w) A (assign aI env v) (fun _ S=>
     wpAny (model prog w) A (forIn aR true fun c r=>if r=true then do let ok <- isTrue c env (eval c env);pure (ForInStep.yield ok) else pure (ForInStep.yield r)) (fun ok O=>
      if ok=true then wpAny (model prog w) A (eval aL env) (fun x U=>
       wpAny (model prog w) A (call (.builtin "list.append") [aY,x]) (fun _ V=>∃m,m<n/\I m V) (fun _ _=>False) U) (fun _ _=>False) O
      else ∃m,m<n/\I m O) (fun _ _=>False) S) (fun _ _=>False) J) (fun _ _=>False) F) (fun _ _=>False) s)
  (n:Nat) (h:I n s):codeAny (model prog w) A (.compLoop (.ListComp aL [⟨aI,iter,aR,0⟩] scope pos) 0 it aY env) R s:=by
 refine codeAny_loop rfl I (fun n s hI=>?_) n h;show wpAny _ A ((compTurn (.ListComp aL [⟨aI,iter,aR,0⟩] scope pos) 0 it aY env).onRaise (fun x=>do noteFrame x env;theTreesLotGoes x)) _ _ s;refine wpAny_noted ?_;rw[compTurn_list];refine kg (XD (kg (KD (am n s hI) (fun r F W=>?_) fun _ _ h'=>h'.elim)));cases r with
 | none=>exact kG W
 | some v=>
  refine kg (KD W (fun _ J Z=>?_) fun _ _ h'=>h'.elim);refine kg (KD Z (fun _ S iM=>kg (KD iM (fun ok O Y=>?_) fun _ _ h'=>h'.elim)) fun _ _ h'=>h'.elim);cases ok with
  | false=>exact kG ⟨rfl,Y⟩
  | true=>
   exact kg (kg (KD Y (fun x U iN=>kg (KD iN (fun _ V iO=>kG (kG ⟨rfl,iO⟩)) fun _ _ h'=>h'.elim)) fun _ _ h'=>h'.elim))
end
theorem Pn (env:Env)(f:Str×NameKind->List (Str×Addr)->Sem (ForInStep (List (Str×Addr))))
  (W:∀n k r,f (n,k) r=if (k==NameKind.free)=true then(do let a <- cellOf env n;pure (ForInStep.yield ((n,a)::r))) else pure (ForInStep.yield r)):
  ∀(ns:List (Str×NameKind))(F:List (Str×Addr)),(∀y∈ns,y.2 = .free -> ∃c,env.cells.lookup y.1=some c)->(∀x c,F.lookup x=some c->env.cells.lookup x=some c) ->
   ∃cl,forIn ns F f=pure cl/\(∀x c,cl.lookup x=some c->env.cells.lookup x=some c)/\(∀y∈ns,y.2 = .free -> ∃c,cl.lookup y.1=some c)/\(∀x c,F.lookup x=some c -> ∃S,cl.lookup x=some S)
 | [],F,_,ha=>⟨F,by rw[List.forIn_nil],ha,fun _ h=>(nomatch h),fun x c h=>⟨c,h⟩⟩
 | (n,k)::r,F,hn,ha=>by
  rw[List.forIn_cons,W];by_cases hk:k = .free
  ·subst hk;obtain⟨c,hc⟩:=hn (n,.free) kS rfl;have U:env.cells.lookup n=some c:=hc;have e1:cellOf env n=pure c:=by unfold cellOf;rw[U]
   obtain⟨cl,h1,h2,Y,V⟩:=Pn env f W r ((n,c)::F) (fun y I=>hn y (kX _ I)) (fun x S O=>by
    rw[qh] at O;cases e:x==n with
    | true=>
     rw[e] at O;have:x=n:=by simpa using e
     subst this;rw[<- k9 O];exact U
    | false=>rw[e] at O;exact ha x S O)
   refine⟨cl,?_,h2,fun y I J=>?_,fun x S O=>?_⟩
   ·rw[kj (by rfl),e1];exact h1
   ·rcases kQ.mp I with e | I
    ·subst e;exact V n c (by simp)
    ·exact Y y I J
   ·cases e:x==n with
    | true=>exact V x c (by rw[qh,e])
    | false=>exact V x S (by rw[qh,e];exact O)
  ·have Z:(k==NameKind.free)=false:=by simpa using hk
   obtain⟨cl,h1,h2,Y,V⟩:=Pn env f W r F (fun y I=>hn y (kX _ I)) ha;refine⟨cl,?_,h2,fun y I J=>?_,V⟩
   ·rw[Z,kh kO];exact h1
   ·rcases kQ.mp I with e | I
    ·subst e;exact absurd J hk
    ·exact Y y I J
theorem Po {scope:Scope}{env:Env}(h:∀y∈scope.names,y.2 = .free -> ∃c,env.cells.lookup y.1=some c):
  ∃cl,closureFor scope env=pure cl/\(∀x c,cl.lookup x=some c->env.cells.lookup x=some c)/\(∀y∈scope.names,y.2 = .free -> ∃c,cl.lookup y.1=some c):=by
 obtain⟨cl,h1,h2,F,_⟩:=Pn env (fun x r=>match x with
  | (n,k)=>if (k==NameKind.free)=true then(do let a <- cellOf env n;pure (ForInStep.yield ((n,a)::r))) else pure (ForInStep.yield r)) (fun _ _ _=>rfl) scope.names [] h (fun x c q=>by simp at q)
 refine⟨cl,?_,h2,F⟩;unfold closureFor;refine Eq.trans ?_ h1;have e:∀(m:Sem (List (Str×Addr))),(m >>= fun r=>(pure r >>= fun r=>pure r))=m:=fun m=>by simp only[pure_bind,bind_pure]
 exact e _
def MH (n:Nat)(fi:List Nat)(σ:St):St:=List.replicate n none++fi.map fun i=>σ.getD i none
def DP:TT:=fun _ H Q=>Q true H
def PTs (X:Cx)(aR:QV)(t:TT):Prop:=
 ∀(pins:QC)(s:Shared)(σ:St)(H:Hp)(Q:Bool->Hp->Prop),Inv X pins σ H s->t σ H Q ->
  wpAny (model X.prog X.w) X.A (forIn aR true fun c r=>if r=true then do let ok <- isTrue c X.env (eval c X.env);pure (ForInStep.yield ok) else pure (ForInStep.yield r)) (TP X pins σ Q) X.xe s
theorem YB {X:Cx}:PTs X [] DP:=fun pins s σ H Q I h=>wpAny_tests_nil ⟨H,I,h⟩
theorem Dr {X:Cx}{c:Expr}{t:TT}(h:PT X c t):PTs X [c] t:=fun pins s σ H Q I q=>wpAny_tests_one (h pins s σ H Q I q)
structure LX (N:QP)(osc scope:Scope)(Ls Fs:QP)(fi:List Nat):Prop where
 kind:scope.kind = .function
 cells:∀y∈scope.names,y.2 ≠ .cell
 names:∀y∈scope.names,y.2 = .local->scope.names.lookup y.1=some .local
 fre:∀x∈Fs,scope.names.lookup x=some .free
 all:∀y∈scope.names,y.2 = .free->osc.names.lookup y.1=some .cell∨osc.names.lookup y.1=some .free
 ix:fi.map (fun i=>N[i]?)=Fs.map some
def blk (X:Cx)(scope:Scope)(N:QP)(cl:List (Str×Addr))(C:Addr)(s3:Shared)(H3:Hp)(ex:List Addr):Cx:=
 { X with N:=N,s₀:=s3,H₀:=H3,env:=compEnvC scope cl C X.env,outer:=X.stack,stack:=X.stack,ex:=ex,fn:=fun _=>false,pn:=[],xe:=fun _ _=>False }
theorem Sd {env:Env}:∀{names:List (Str×NameKind)}{x:Str},(∀y∈names,y.2 ≠ .cell) ->
    ((names.map fun(n,k)=>if (k==NameKind.free&&env.scope.kind == .function&&env.kindOf n==some .cell) then(n,NameKind.cell) else(n,k)).lookup x=some .cell ∨
     (names.map fun(n,k)=>if (k==NameKind.free&&env.scope.kind == .function&&env.kindOf n==some .cell) then(n,NameKind.cell) else(n,k)).lookup x=some .free) -> ∃y∈names,y.1=x/\y.2 = .free
  | [],_,_,h=>by simp at h
  | (n,k)::r,x,hc,h=>by
    have I:=@Sd env r x (fun y F=>hc y (kX _ F));cases hx:x==n with
    | true=>
      have e:x=n:=by simpa using hx
      subst e;by_cases hb:(k==NameKind.free&&env.scope.kind == .function&&env.kindOf x==some .cell)=true
      · have:k = .free:=by
          simp only[Kc,Nj] at hb;exact hb.1.1
        exact⟨(x,k),kS,rfl,this⟩
      · simp only[Ko,kh hb,qh,hx] at h
        rcases h with h | h
        · exact absurd (k9 h) (hc (x,k) kS)
        · exact⟨(x,k),kS,rfl,k9 h⟩
    | false=>
      have h':((r.map fun(n,k)=>if (k==NameKind.free&&env.scope.kind == .function&&env.kindOf n==some .cell) then(n,NameKind.cell) else(n,k)).lookup x=some .cell ∨
        (r.map fun(n,k)=>if (k==NameKind.free&&env.scope.kind == .function&&env.kindOf n==some .cell) then(n,NameKind.cell) else(n,k)).lookup x=some .free):=by
        by_cases hb:(k==NameKind.free&&env.scope.kind == .function&&env.kindOf n==some .cell)=true
        · simpa only[Ko,kj hb,qh,hx] using h
        · simpa only[Ko,kh hb,qh,hx] using h
      obtain⟨y,F,z⟩:=I h';exact⟨y,kX _ F,z⟩
theorem Se {env:Env}{x:Str}:∀{names:List (Str×NameKind)},names.lookup x=some .free ->
    ((names.map fun(n,k)=>if (k==NameKind.free&&env.scope.kind == .function&&env.kindOf n==some .cell) then(n,NameKind.cell) else(n,k)).lookup x=some .cell ∨
     (names.map fun(n,k)=>if (k==NameKind.free&&env.scope.kind == .function&&env.kindOf n==some .cell) then(n,NameKind.cell) else(n,k)).lookup x=some .free)
  | [],h=>by simp at h
  | (n,k)::r,h=>by
    cases hx:x==n with
    | true=>
      have e:x=n:=by simpa using hx
      subst e;rw[qh,hx] at h;have hk:k = .free:=k9 h;subst hk;by_cases hb:(NameKind.free==NameKind.free&&env.scope.kind == .function&&env.kindOf x==some .cell)=true
      · left;simp only[Ko,kj hb,qh,hx]
      · right;simp only[Ko,kh hb,qh,hx]
    | false=>
      rw[qh,hx] at h;have F:=@Se env x r h;by_cases hb:(k==NameKind.free&&env.scope.kind == .function&&env.kindOf n==some .cell)=true
      · simpa only[Ko,kj hb,qh,hx] using F
      · simpa only[Ko,kh hb,qh,hx] using F
theorem aLt {h:Heap}{b:Addr}{o:Obj}(e:h.get? b=some o):@LT.lt Nat _ b h.objs.size:=k6 e
def LcW (J:It)(σ:St)(g:TG)(tc:TT)(te:TE)(H:Hp)(Q:VK):Prop:=
 ∃W:Nat->Nat->List V->Hp->Prop,(∃m,W 0 m [] H) /\ ∀i m ys H,W i m ys H ->
  (J.stop i H/\ys.length<=sizeLine /\ ∀D,H D=none->Q (.ref D) (upd H D (.lst ys))) ∨
  (J.go i H/\ys.length<=sizeLine /\ ∃N:List V->Hp->Prop,(∀da H',N da H' -> ∃m',m'<m/\W (i+1) m' da H') /\ ∀x H',J.yld i H x H'->g x σ H' fun cC H2=>
   tc cC H2 fun b H3=>if b=true then te cC H3 fun y H4=>N (ys ++ [y]) H4 else N ys H3)
def tLc (n:Nat)(fi:List Nat)(wi:TI)(g:TG)(tc:TT)(te:TE):TE:=fun σ H Q=>wi σ H fun J H1=>LcW J (MH n fi σ) g tc te H1 Q
section
variable {X:Cx}{pins:QC}{σ:St}{tg aL iter:Expr}{aR:QV}{scope:Scope}{pos:Pos}{Ls Fs:QP}{fi:List Nat}{g:TG}{tc:TT}{te:TE}
structure CK (X:Cx)(tg:Expr)(J:It)(fp:List Addr)(it:Addr)(tn:Nat->Heap->Prop):Prop where
 obj:∀i h,tn i h -> ∀b∈fp,∃o,h.get? b=some o /\ ∀v,o.data ≠ .cell v
 keep:∀i h h',tn i h->(∀b∈fp,∀o,h.get? b=some o->h'.get? b=some o)->tn i h'
 item:∀(i:Nat)(pins:QC)(s:Shared)(σ:St)(H:Hp)(E:QE),Inv X pins σ H s->(∀b∈fp,Mz X pins H b)->tn i s.heap->J.go i H ->
  wpAny (model X.prog X.w) X.A (pyNext (.ref it)) (fun r s1=>∃u,r=some u /\
   wpAny (model X.prog X.w) X.A (letOwnedTupleGo tg (.ref it) u) (fun _ s2=>∃x H',Inv X pins σ H' s2/\RelV x u/\J.yld i H x H'/\tn (i+1) s2.heap /\ ∀b∈fp,H' b=none) E s1) E s
 done:∀(i:Nat)(pins:QC)(s:Shared)(σ:St)(H:Hp)(E:QE),Inv X pins σ H s->(∀b∈fp,Mz X pins H b)->tn i s.heap->J.stop i H ->
  wpAny (model X.prog X.w) X.A (pyNext (.ref it)) (fun r s1=>r=none/\Inv X pins σ H s1) E s
 self:∀(A:Around)(i:Nat)(s:Shared)(Q:QE)(E:QE),tn i s.heap->Q (.ref it) s->wpAny (model X.prog X.w) A (pyIter (.ref it)) Q E s
theorem Turn.at {X:Cx}{tg:Expr}{J:It}{fp:List Addr}{it:Addr}{tn:Nat->Heap->Prop}(T:Turn X.prog X.w X.K tg J fp it tn)(F:X.calm=true):CK X tg J fp it tn:=⟨T.obj,T.keep,T.item X rfl rfl rfl F,T.done X rfl rfl rfl F,T.self⟩
theorem Pp {H2:Hp}{s2:Shared}{it:Addr}{fp:List Addr}{tn:Nat->Heap->Prop}{J:It}{cl:List (Str×Addr)}{Q:VK}{E:QE}{RR:Value->Addr->Result->Shared->Prop}
  (S:LX X.N X.env.scope scope Ls Fs fi)
  (hb:∀C s3 H3 ex,PG (blk X scope (Ls++Fs) cl C s3 H3 ex) tg g/\PTs (blk X scope (Ls++Fs) cl C s3 H3 ex) aR tc/\PE (blk X scope (Ls++Fs) cl C s3 H3 ex) aL te)
  (O:∀x c,cl.lookup x=some c->X.env.cells.lookup x=some c) (db:∀y∈scope.names,y.2 = .free -> ∃c,cl.lookup y.1=some c)
  (I2:Inv X pins σ H2 s2) (TX:∀C s3 H3 ex,CK (blk X scope (Ls++Fs) cl C s3 H3 ex) tg J fp it tn) (cE:tn 0 s2.heap) (f2:∀b∈fp,Mz X pins H2 b)
  (hW:∃W:Nat->Nat->List V->Hp->Prop,(∃m,W 0 m [] H2) /\ ∀i m ys H,W i m ys H ->
   (J.stop i H/\ys.length<=sizeLine /\ ∀D,H D=none->Q (.ref D) (upd H D (.lst ys))) ∨
   (J.go i H/\ys.length<=sizeLine /\ ∃N:List V->Hp->Prop,(∀da H',N da H' -> ∃m',m'<m/\W (i+1) m' da H') /\ ∀x H',J.yld i H x H'->g x (MH Ls.length fi σ) H' fun cC H2=>
    tc cC H2 fun b H3=>if b=true then te cC H3 fun y H4=>N (ys ++ [y]) H4 else N ys H3))
  (fin:∀D C H' s' m,Inv X pins σ H' s'->Q (.ref D) H'->s'.heap.Ns C m->Mz X pins H' C->RR (.ref D) C (.ok .next) s'):
  wpAny (model X.prog X.w) X.A (newList []) (fun aY iP=>wpAny (model X.prog X.w) X.A (newFunctionEnv scope X.env.globals cl [] X.env.qual none .none (some X.env)) (fun de iR=>
   codeAny (model X.prog X.w) X.A (.compStart (.ListComp aL [⟨tg,iter,aR,0⟩] scope pos) 0 (.ref it) aY { de with scope:=relabel scope X.env }) (RR aY de.locals) iR) E iP) E s2:=by
 refine qc (wpAny_newFunctionEnv S.cells (by intro y hy;simp at hy) (fun bL Y Z=>?_) S.kind);dsimp only at Y Z ⊢;generalize iS:s2.heap.push { cls:=.type "list", dict:=none,data:=.seq ([]:QJ).toArray } = h3 at Y Z ⊢;generalize hC:h3.objs.size=C at Y Z ⊢;generalize hD:s2.heap.objs.size=D;have ze:C=D+1:=by rw[<- hC,<- iS,Nk,hD]
 have aq:∀b o,s2.heap.get? b=some o->h3.get? b=some o:=fun b o e=>by rw[<- iS];exact kz _ e
 have cH:∀b o,h3.get? b=some o->bL.get? b=some o:=fun b o e=>Z.extBut b o (Kj (by have:=aLt e;lia)) (kz _ e);have tH:h3.get? D=some { cls:=.type "list", data:=.seq ([]:QJ).toArray }:=by rw[<- iS,<- hD];exact Kf _ rfl
 obtain⟨W,⟨m0,w0⟩,am⟩:=hW;have T:=TX C { s2 with heap:=h3 } H2 (D::fp);have I3:Inv X pins σ H2 { s2 with heap:=h3 }:=I2.kept (t':=s2.toks) aq;have gC:H2 D=none:=by rw[<- hD];exact I2.fresh
 have tI:H2 C=none:=I2.hok.fresh (by lia);have DL:D≠X.env.locals:=Xj (by have:@LT.lt Nat _ X.env.locals s2.heap.objs.size:=I2.lt;lia);have CL:C≠X.env.locals:=Xj (by have:@LT.lt Nat _ X.env.locals s2.heap.objs.size:=I2.lt;lia);have ar:∀x c,X.env.cells.lookup x=some c -> @LT.lt Nat _ c D:=fun x c e=>by obtain⟨v,q⟩:=I2.cell x c e;have:@LT.lt Nat _ c s2.heap.objs.size:=q.lt;lia
 have cI:∀b∈fp,@LT.lt Nat _ b D:=fun b hb=>by obtain⟨o,e,_⟩:=T.obj _ _ cE b hb;have:=aLt e;lia
 have F:∀b∈D::fp,b≠C/\(∀x c,X.env.cells.lookup x=some c->c≠b):=fun b hb=>by
  rcases kQ.mp hb with e | hb
  ·subst e;exact⟨Kj (by lia),fun x c e=>Kj (ar x c e)⟩
  ·exact⟨Kj (by have:=cI b hb;lia),(f2 b hb).2.2.2.2.1⟩
 have b8:(blk X scope (Ls++Fs) cl C { s2 with heap:=h3 } H2 (D::fp)).Ok:=by
  refine⟨I2.ok.mod,S.kind,I2.ok.glob,I2.ok.blt,?_,fun x y c e1 e2=>I2.ok.inj x y c (O x c e1) (O y c e2),fun x hx=>?_,fun x c hx=>absurd hx kO,I2.ok.hd,I2.ok.frames,.inl rfl,
   fun b hb=>⟨(F b hb).1,fun x c e=>(F b hb).2 x c (O x c e)⟩,I3.bs,Kb I2.ok.bsz I3.sz,fun b o e hb=>?_,fun b hb=>?_,I3.stack,I3.stkFree⟩
  ·show h3.objs.size<=C;lia
  ·obtain⟨y,hy,e1,e2⟩:=Sd S.cells hx;obtain⟨c,q⟩:=db y hy e2;exact⟨c,e1 ▸ q⟩
  ·rcases kQ.mp hb with z | hb
   ·exact absurd z (Kj (by have:=aLt (I2.bk b o e);lia))
   ·rcases(f2 b hb).2.2.2.1 with z | z
    ·exact I2.ok.noex b o e z
    ·have h1:@LT.lt Nat _ b X.base.objs.size:=aLt e;have h2:@LE.le Nat _ X.base.objs.size X.s₀.heap.objs.size:=I2.ok.bsz;have h3:@LE.le Nat _ X.s₀.heap.objs.size b:=z;lia
  ·intro hz;have gB:=I2.stkSub b hz;rcases kQ.mp hb with e | hb
   ·subst e;rcases kQ.mp gB with z | z
    ·exact DL z
    ·exact I2.nofs (by lia) z
   ·rcases kQ.mp gB with z | z
    ·exact(f2 b hb).2.1 z
    ·exact(f2 b hb).2.2.1 z
 obtain⟨m2,zf,aa⟩:=id I2.loc;have me:∀(i:Nat)(x:Str)(v:V),(Ls++Fs)[i]? = some x->(MH Ls.length fi σ)[i]? = some (some v) -> ∃u c,RelV v u/\((relabel scope X.env).names.lookup x=some .cell∨(relabel scope X.env).names.lookup x=some .free) /\
   cl.lookup x=some c/\X.env.cells.lookup x=some c/\s2.heap.IsCell c (some u):=by
  intro i x v e1 e2;unfold MH at e2;by_cases hi:i<Ls.length
  ·rw[KG (by simpa using hi),Xq,kj hi] at e2;cases e2
  ·have iT:Ls.length<=i:=NV hi;rw[Kq iT] at e1;rw[Kq (by simpa using iT),Kz,kE] at e2;cases e3:fi[i-Ls.length]? with
   | none=>rw[e3] at e2;cases e2
   | some j=>
    rw[e3] at e2;have e4:σ.getD j none=some v:=k9 e2;have e5:X.N[j]? = some x:=by have q:=Kx (fun l=>l[i-Ls.length]?) S.ix;simp only[kE,e3,e1,qC] at q;exact k9 q
    have e6:σ[j]? = some (some v):=by
     rw[k7] at e4;cases e7:σ[j]? with
     | none=>rw[e7] at e4;cases e4
     | some z=>rw[e7] at e4;exact Kx some e4
    have fx:=S.fre x (kT e1);have al:=S.all (x,.free) (qI fx) rfl;have tJ:Vis X.env.scope x:=by
     rcases al with z | z
     ·exact .inr (.inl z)
     ·exact .inr (.inr z)
    obtain⟨u,ru,lk⟩:=aa j x v e5 e6 tJ;rcases lk with⟨k,_⟩ | ⟨k,c,ec,df⟩
    ·have k':X.env.scope.names.lookup x=some .local:=k;rcases al with z | z
     ·rw[show X.env.scope.names.lookup x=some .cell from z] at k';cases k'
     ·rw[show X.env.scope.names.lookup x=some .free from z] at k';cases k'
    ·obtain⟨c',mf⟩:=db (x,.free) (qI fx) rfl;have:c'=c:=k9 ((O x c' mf).symm.trans ec);subst this;exact⟨u,c',ru,Se fx,mf,ec,df⟩
 have au:(MH Ls.length fi σ).length=(Ls++Fs).length:=by unfold MH;have q:=Kx List.length S.ix;simp only[ke] at q;rw[ki,Kz,ke,ki,q]
 have re:∀{ps:QC}{aD:St}{H':Hp}{s':Shared},Inv (blk X scope (Ls++Fs) cl C { s2 with heap:=h3 } H2 (D::fp)) ps aD H' s'->Inv (blk X scope (Ls++Fs) cl C { s2 with heap:=h3 } H2 (D::fp)) ps (MH Ls.length fi σ) H' s':=by intro ps aD H' s' J';refine⟨J'.ok,J'.os,J'.bare,J'.base,?_,J'.cell,J'.free,J'.freeC,J'.pin,J'.hok,au⟩;obtain⟨m,hn,_⟩:=J'.loc;refine⟨m,hn,fun i x v e1 e2 _=>?_⟩;obtain⟨u,c,ru,kk,ec,iU,o,ho,hd⟩:=me i x v e1 e2;obtain⟨sl,q⟩:=J'.base.any (aq c o ho) (I2.freeC x c iU) fun z=>(F c z).2 x c iU rfl;exact⟨u,ru,.inr ⟨kk,c,ec,_,q,hd⟩⟩
 have I4:Inv (blk X scope (Ls++Fs) cl C { s2 with heap:=h3 } H2 (D::fp)) [(D,{ cls:=.type "list", data:=.seq ([]:QJ).toArray })] (MH Ls.length fi σ) H2 { s2 with heap:=bL,toks:=s2.toks+([]:List (Str×Value)).length }:=by
  refine⟨b8,rfl,I2.bare,Un.kept cH,⟨_,Y,fun i x v e1 e2 _=>?_⟩,fun x c e=>?_,tI,fun x c e=>I2.freeC x c (O x c e),fun p hp=>?_,I2.hok.kept fun b o e=>cH b o (aq b o e),au⟩
  ·obtain⟨u,c,ru,kk,ec,iU,o,ho,hd⟩:=me i x v e1 e2;exact⟨u,ru,.inr ⟨kk,c,ec,o,cH c o (aq c o ho),hd⟩⟩
  ·obtain⟨v,o,ho,hd⟩:=I2.cell x c (O x c e);exact⟨v,o,cH c o (aq c o ho),hd⟩
  ·have aZ:p=(D,{ cls:=.type "list", data:=.seq ([]:QJ).toArray }):=by
    have:p∈([]:QC) ++ [(D,{ cls:=.type "list", data:=.seq ([]:QJ).toArray })]:=hp;simpa using this
   subst aZ;refine⟨cH D _ tH,gC,Kj (show @LT.lt Nat _ D C by lia),fun z=>?_,fun v z=>by cases z⟩;rcases kQ.mp (I2.stkSub D z) with z | z
   ·exact DL z
   ·exact I2.nofs (by lia) z
 obtain⟨hg,ht,he⟩:=hb C { s2 with heap:=h3 } H2 (D::fp);have back:∀{ps:QC}{aD:St}{H':Hp}{s':Shared}{ys:QH}{its:QJ}{n:Nat},Inv (blk X scope (Ls++Fs) cl C { s2 with heap:=h3 } H2 (D::fp)) ps aD H' s'->s'.heap.get? D=some { cls:=.type "list", data:=.seq its.toArray n } ->
   H' D=none->Vals ys its->ys.length<=sizeLine->Inv X pins σ (upd H' D (.lst ys)) s'/\Mz X pins (upd H' D (.lst ys)) C:=by
  intro ps aD H' s' ys its n J' tK mh rv hz;have dh:∀b o,s2.heap.get? b=some o->b≠D:=fun b o e=>Kj (by have:=aLt e;lia);have gE:∀b,b∉fp->b≠D->b∉D::fp:=fun b h1 h2 z=>(kQ.mp z).elim h2 h1;have U:Un (frs X.stack) fp H2 (upd H' D (.lst ys)) s2.heap s'.heap:=by
   refine⟨fun b o e n hb hx=>J'.base.keep b o (aq b o e) n hb (gE b hx (dh b o e)),fun b o e n hb hx=>J'.base.slot b o (aq b o e) n hb (gE b hx (dh b o e)),fun b o e n hx=>?_,fun b o e hx=>J'.base.there b o (aq b o e) (gE b hx (dh b o e)),fun b xs e=>?_,fun b o u e=>?_,fun b ps e=>?_⟩
   ·rw[Zi (dh b o e)];exact J'.base.free b o (aq b o e) n (gE b hx (dh b o e))
   ·rw[Zi (Zg e gC)];exact J'.base.tups b xs e
   ·rw[Zi (Zg e gC)];exact J'.base.frzs b o u e
   ·obtain⟨more,q⟩:=J'.base.tbls b ps e;exact⟨more,by rw[Zi (Zg e gC)];exact q⟩
  have cG:HOk X.prog X.w (upd H' D (.lst ys)) s'.heap:=fun b u q=>by
   by_cases gF:b=D
   ·subst gF;rw[Zd] at q;cases q;exact⟨hz,its,n,rv,tK⟩
   ·rw[Zi gF] at q;exact(J'.hok b u q).stay (fun c v _ r=>r) (fun c r=>by rw[Zi (Zg r mh)];exact r) fun c xs r=>by rw[Zi (Zg r mh)];exact r
  refine⟨I2.call' J'.os U cG J'.bare fun b hb=>⟨(f2 b hb).2.2.2.1,(f2 b hb).2.1,(f2 b hb).2.2.2.2.1,(f2 b hb).2.2.2.2.2⟩,?_⟩;refine⟨by rw[Zi (Xj (by lia))];exact J'.free,CL,I2.nofs (by lia),.inr (by have:=I2.sz;lia),fun x c e=>Kj (by have:=ar x c e;lia),fun p hp=>?_⟩;have:=aLt (I2.pin p hp).1;exact Kj (by lia)
 have dk:codeAny (model X.prog X.w) X.A (.compLoop (.ListComp aL [⟨tg,iter,aR,0⟩] scope pos) 0 (.ref it) (.ref D) (compEnvC scope cl C X.env)) (RR (.ref D) C) { s2 with heap:=bL,toks:=s2.toks+([]:List (Str×Value)).length }:=by
  refine HP (fun n s'=>∃(i:Nat)(ys:QH)(H':Hp)(its:QJ)(k:Nat),Inv (blk X scope (Ls++Fs) cl C { s2 with heap:=h3 } H2 (D::fp)) [(D,{ cls:=.type "list", data:=.seq its.toArray k })] (MH Ls.length fi σ) H' s' /\
   Vals ys its/\tn i s'.heap/\(∀b∈fp,H' b=none)/\W i n ys H') ?_ m0 ⟨0,[],H2,[],0,I4,.nil,T.keep _ _ _ cE fun b _ o e=>cH b o (aq b o e),fun b hb=>(f2 b hb).1,w0⟩
  rintro n s5 ⟨i,ys,H5,its,k,I5,rv,mi,bK,w5⟩;have cJ:∀{H':Hp}{its':QJ}{k':Nat},(∀b∈fp,H' b=none) -> ∀b∈fp,Mz (blk X scope (Ls++Fs) cl C { s2 with heap:=h3 } H2 (D::fp)) [(D,{ cls:=.type "list", data:=.seq its'.toArray k' })] H' b:=fun hn b hb=>by refine⟨hn b hb,(F b (kX _ hb)).1,fun z=>b8.exfs b (kX _ hb) z,.inl (kX _ hb),fun x c e=>(F b (kX _ hb)).2 x c (O x c e),fun p hp=>?_⟩;have aZ:p=_:=kR.mp hp;rw[aZ];have:=cI b hb;show D≠b;exact Xj this
  have tM:=I5.pin (D,{ cls:=.type "list", data:=.seq its.toArray k }) (kR.mpr rfl);rcases am i n ys H5 w5 with⟨stop,hz,qn⟩ | ⟨go,hz,N,hN,step⟩
  ·refine KD (T.done i _ s5 _ H5 _ I5 (cJ bK) mi stop) (fun r s6 ⟨hr,I6⟩=>?_) fun _ _ h=>h;subst hr;have cK:=I6.pin (D,{ cls:=.type "list", data:=.seq its.toArray k }) (kR.mpr rfl);obtain⟨b1,b2⟩:=back I6 cK.1 cK.2.1 rv hz;obtain⟨m,hn,_⟩:=I6.loc;exact fin D C _ s6 m b1 (qn D cK.2.1) hn b2
  ·refine KD (T.item i _ s5 _ H5 _ I5 (cJ bK) mi go) (fun r s6 ⟨u,hr,h6⟩=>?_) fun _ _ h=>h;subst hr;refine KD h6 (fun _ s7 ⟨x,H7,I7,r7,y7,iV,tN⟩=>?_) fun _ _ h=>h;have tO:=I7.pinned (cJ tN) (T.obj _ _ iV);refine KD (hg _ s7 _ H7 x u _ tO r7 (step x H7 y7)) (fun _ s8 ⟨mj,H8,I8,q8⟩=>?_) fun _ _ h=>h;refine KD (ht _ s8 mj H8 _ I8 q8) (fun ok s9 ⟨H9,I9,q9⟩=>?_) fun _ _ h=>h;have av:∀{aD:St}{H':Hp}{s':Shared},Inv (blk X scope (Ls++Fs) cl C { s2 with heap:=h3 } H2 (D::fp)) ([(D,{ cls:=.type "list", data:=.seq its.toArray k })]++DK fp s7.heap) aD H' s'->tn (i+1) s'.heap /\ ∀b∈fp,H' b=none:=by
    intro aD H' s' J';refine⟨T.keep _ _ _ iV fun b hb o e=>(J'.pin (b,o) (KH _ (KH _ (CA hb e)))).1,fun b hb=>?_⟩;obtain⟨o,e,d⟩:=T.obj _ _ iV b hb;exact(J'.pin (b,o) (KH _ (KH _ (CA hb e)))).2.1
   cases ok with
   | false=>
    rw[kh kO] at q9 ⊢;obtain⟨m',hm,w'⟩:=hN _ _ q9;exact⟨m',hm,i+1,ys,H9,its,k,re I9.unpinned,rv,(av I9).1,(av I9).2,w'⟩
   | true=>
    rw[kj rfl] at q9 ⊢;refine KD (he _ s9 mj H9 _ I9 q9) (fun v du ⟨y,gG,ml,tP,tQ⟩=>?_) fun _ _ h=>h;obtain⟨m',hm,w'⟩:=hN _ _ tQ;obtain⟨tR,iW⟩:=av ml;have mn:Inv (blk X scope (Ls++Fs) cl C { s2 with heap:=h3 } H2 (D::fp)) [(D,{ cls:=.type "list", data:=.seq its.toArray k })] (MH Ls.length fi σ) gG du:=re ml.unpinned;have I:=mn.pin (D,{ cls:=.type "list", data:=.seq its.toArray k }) (kR.mpr rfl);refine wpAny_list_append_plain ⟨k,I.1⟩ (fun h' aZ sb=>?_) (by rw[kr,<- rv.length];exact hz);obtain⟨k',mo⟩:=aZ;have e1:its.toArray.push v=(its ++ [v]).toArray:=by simp
    rw[e1] at mo;have tS:Inv (blk X scope (Ls++Fs) cl C { s2 with heap:=h3 } H2 (D::fp)) [] (MH Ls.length fi σ) gG { du with heap:=h',toks:=du.toks }:=
     (mn.pins_of (pins':=[]) fun p hp=>(nomatch hp)).turned (it:=D) (fun b o hb e=>(sb.2 b hb).trans e) I.2.1 I.2.2.1 (.inl kS) (fun x c e=>(F D kS).2 x c (O x c e)) fun p hp=>(nomatch hp)
    have tT:Inv (blk X scope (Ls++Fs) cl C { s2 with heap:=h3 } H2 (D::fp)) [(D,{ cls:=.type "list", data:=.seq (its ++ [v]).toArray k' })] (MH Ls.length fi σ) gG { du with heap:=h',toks:=du.toks }:=tS.pins_of fun p hp=>by have aZ:p=_:=kR.mp hp;subst aZ;exact⟨mo,I.2.1,I.2.2.1,I.2.2.2.1,fun v z=>by cases z⟩
    refine⟨m',hm,i+1,ys ++ [y],gG,its ++ [v],k',tT,rv.append (.cons tP .nil),?_,iW,w'⟩;exact T.keep _ _ _ tR fun b hb o e=>(sb.2 b (Kj (cI b hb))).trans e
 exact codeAny_compStart_list dk (T.self _ 0 _ _ _ (T.keep _ _ _ cE fun b _ o e=>cH b o (aq b o e)) dk)
theorem WI {wi:TI}(S:LX X.N X.env.scope scope Ls Fs fi)(hc:X.calm=true)(hi:PI X tg iter wi)
  (hb:∀cl C F H3 ex,PG (blk X scope (Ls++Fs) cl C F H3 ex) tg g/\PTs (blk X scope (Ls++Fs) cl C F H3 ex) aR tc/\PE (blk X scope (Ls++Fs) cl C F H3 ex) aL te)
  (hs:∀x,foldedSetIterable iter X.env x=pure x:=by intro _;rfl):PE X (.ListComp aL [⟨tg,iter,aR,0⟩] scope pos) (tLc Ls.length fi wi g tc te):=by
 intro pins s σ H Q I h;rw[eval_ListComp];obtain⟨cl,V,O,U⟩:=Po (scope:=scope) (env:=X.env) fun y hy hf=>I.ok.has y.1 (S.all y hy hf);refine X9 (use:=none) rfl hs V S.kind S.names (KD (hi pins s σ H _ I h) (fun v s1 h1=>KD h1 (fun itv s2 h2=>?_) fun _ _ e=>e) fun _ _ e=>e);obtain⟨it,fp,tn,J,H2,e,I2,T,W,f2,hW⟩:=h2;subst e;refine Pp (RR:=fun Y C=>compPost (model X.prog X.w) X.A X.xe none (EP X pins σ Q) Y C) S (hb cl) O U I2 (fun C F H3 ex=>Turn.at (X:=blk X scope (Ls++Fs) cl C F H3 ex) T hc) W f2 hW fun D C H' s' m I' q hn f=>?_;obtain⟨f0,f1,f2,f3,f4,f5⟩:=f;exact⟨m,hn,fun h' Z=>⟨.ref D,H',I'.turned (it:=C) (t':=s'.toks) (fun b o hb e=>(Z.2 b hb).trans e) f0 f1 f3 f4 f5,rfl,q⟩⟩
theorem L0 {wi:TI}{i:Nat}{x:Str}{aJ dw:Pos}(hN:X.N.Nodup)(V:X.N[i]? = some x)(hx:Loc X.env.scope x)(S:LX X.N X.env.scope scope Ls Fs fi)(hc:X.calm=true)(hi:PI X tg iter wi)
  (hb:∀cl C F H3 ex,PG (blk X scope (Ls++Fs) cl C F H3 ex) tg g/\PTs (blk X scope (Ls++Fs) cl C F H3 ex) aR tc/\PE (blk X scope (Ls++Fs) cl C F H3 ex) aL te)
  (W:swapsWith (.ListComp aL [⟨tg,iter,aR,0⟩] scope pos) (some (.Name x aJ)) dw.line X.env=pure true:=by rfl)
  (hs:∀x,foldedSetIterable iter X.env x=pure x:=by intro _;rfl) (Y:X.fn x=true∨X.env.scope.names.lookup x=some .local:=by first | exact .inl rfl | exact .inr rfl | assumption):
  PS X (.Assign [.Name x aJ] (.ListComp aL [⟨tg,iter,aR,0⟩] scope pos) dw) (Dk (tLc Ls.length fi wi g tc te) (Li i)):=by
 intro pins s σ H D' I h;rw[exec_Assign_Name_used _ _ _ _ W];obtain⟨cl,Z,O,U⟩:=Po (scope:=scope) (env:=X.env) fun y hy Y=>I.ok.has y.1 (S.all y hy Y);refine kg (XD (kg ?_));show wpAny _ X.A (do let _ <- comprehension (.ListComp aL [⟨tg,iter,aR,0⟩] scope pos) scope X.env _ (newList []) false (eval iter X.env) (some (assign (.Name x aJ) X.env))) _ _ s;refine kg (KD (X9 (use:=some (assign (.Name x aJ) X.env)) (Q:=fun _ s'=>SP X pins D' .next s') rfl hs Z S.kind S.names
  (KD (hi pins s σ H _ I h) (fun v s1 h1=>KD h1 (fun itv s2 h2=>?_) fun _ _ e=>e) fun _ _ e=>e)) (fun _ s' hq=>kG (kG hq)) fun _ _ e=>e)
 obtain⟨it,fp,tn,J,H2,e,I2,T,cE,f2,hW⟩:=h2;subst e;refine Pp (RR:=fun aY C=>compPost (model X.prog X.w) X.A X.xe (some (assign (.Name x aJ) X.env)) (fun _ s'=>SP X pins D' .next s') aY C) (Q:=fun x H1=>Li i x σ H1 D'.nx) S (hb cl) O U I2 (fun C F H3 ex=>Turn.at (X:=blk X scope (Ls++Fs) cl C F H3 ex) T hc) cE f2 hW fun D C H' s' m I' q hn f=>?_;obtain⟨f0,f1,f2,f3,f4,f5⟩:=f;show wpAny _ X.A (assign (.Name x aJ) X.env (.ref D)) _ _ _;refine wpAny_assign_Name (Rt I' hN V hx (v:=.ref D) rfl (fun dZ tU tV=>?_) Y);obtain⟨a,sb,ha⟩:=tV;have tW:C≠a:=by
  rcases ha with z | z
  ·rw[z];exact f1
  ·exact(f4 x a z).symm
 exact⟨m,hn.sameBut sb tW,fun h' tX=>⟨_,H',tU.turned (it:=C) (t':=dZ.toks) (fun b o hb e=>(tX.2 b hb).trans e) f0 f1 f3 f4 f5,q⟩⟩
end
end L2
namespace L2
open PySem PySem.Spec PyProof.Rows PyProof.V
variable {K:QF}{es:QV}{pos:Pos}{a p b:Addr}{x N f:Int}{σ:St}{H H':Hp}{xs:QH}{n j i t':Nat}{T:QG}{ls:QB}{m:QX}{rs ts:QA}{y:V}
def Ite (K:QF)(a:Addr):It:=
 ⟨fun i H=>∃xs x,Zr K H a xs/\xs[i]? = some x,fun i H v H'=>∃p x,v = .ref p/\H p=none/\H'=upd H p (.tup [.int i,x]) /\ ∀xs,Zr K H a xs->xs[i]? = some x,fun i H=>∃xs,Zr K H a xs/\xs.length<=i⟩
theorem HQ {P:Program}{w:World}{k:Nat}(a e it:Addr)(mq:e≠it):
  Turn P w K (.Tuple es k pos) (Ite K a) [e,it] e (fun i h=>(∃F,IsEnum h e it i F)/\h.IsListIter it a i) where
 mem:=by simp
 obj:=fun i h st b hb=>by
  obtain⟨⟨F,S⟩,o,Y,c,d⟩:=st;rcases kQ.mp hb with z | z
  ·subst z;exact⟨_,S,fun v z=>by have Z:Data.fields _=Data.cell v:=z;cases Z⟩
  ·have Z:b=it:=by simpa using z
   subst Z;exact⟨o,Y,fun v z=>by rw[d] at z;cases z⟩
 keep:=fun i h h' st k=>by obtain⟨⟨F,S⟩,hi⟩:=st;exact⟨⟨F,k e (by simp) _ S⟩,hi.at fun o x=>k it (by simp) o x⟩
 item:=by
  intro X hP hw hK J i pins s σ H E I hf st hg;subst hP hw hK;obtain⟨xs,x,hq,hx⟩:=hg;obtain⟨its,rv,p,hz⟩:=I.list hq;obtain⟨u,hu,ru⟩:=rv.get hx;obtain⟨⟨F,S⟩,hi⟩:=st;obtain⟨e0,e1,e2,e3,e4,e5⟩:=hf e (by simp);obtain⟨f0,f1,f2,f3,f4,f5⟩:=hf it (by simp);refine wpAny_pyNext_enum_item S hi p.isList (x:=u) (by simpa using hu) mq fun h' Y tY ht hsz kk=>⟨_,rfl,?_⟩;refine wpAny_letOwnedTupleGo_enum (s:={ s with heap:=h',toks:=s.toks+1 }) Y fun V iY U=>?_;have Tn:@LT.lt Nat _ e s.heap.objs.size:=aLt S;have O:∀b o,b≠e->b≠it->s.heap.get? b=some o->V.get? b=some o:=fun b o h1 h2 q=>(U.2 b h1).trans (kk b o h1 h2 q);have W:∀b u,H b=some u->b≠e/\b≠it:=fun b u q=>⟨fun z=>by (rw[z,e0] at q;cases q),fun z=>by (rw[z,f0] at q;cases q)⟩;have fr:H s.heap.objs.size=none:=I.hok.fresh (km _);have hT:V.get? s.heap.objs.size=some { cls:=.type "tuple", data:=.seq #[.int i s.toks,u] }:=(U.2 _ (Xj Tn)).trans ht;have nT:∀b o,s.heap.get? b=some o->b≠s.heap.objs.size:=fun b o q=>Kj (aLt q);have b8:HOk X.prog X.w (upd H s.heap.objs.size (.tup [.int i,x])) V:=fun b o q=>by
   by_cases hb:b=s.heap.objs.size
   ·subst hb;rw[Zd] at q;cases q;exact⟨show 2<=sizeLine by decide,[.int i s.toks,u],.cons ⟨_,rfl⟩ (.cons ru .nil),⟨_,hT,rfl,_,rfl⟩⟩
   ·rw[Zi hb] at q;refine(I.hok b o q).stay (fun c v J r=>?_) (fun c r=>by rw[Zi (Zg r fr)];exact r) fun c xs r=>by rw[Zi (Zg r fr)];exact r
    rcases J with z | z
    ·subst z;exact O c v (W c o q).1 (W c o q).2 r
    ·exact O c v (W c _ z).1 (W c _ z).2 r
  have I1:Inv X pins σ (upd H s.heap.objs.size (.tup [.int i,x])) { s with heap:=V,gens:=s.gens,drawn:=s.drawn,toks:=s.toks+1 }:=by
   refine I.step (ch:=[e,it]) (fun b hb=>?_) (fun b o _ _ J q _=>O b o (fun z=>J (by simp[z])) (fun z=>J (by simp[z])) q) (fun b o _ _ J q _=>⟨o.slots,O b o (fun z=>J (by simp[z])) (fun z=>J (by simp[z])) q⟩)
    (fun b o _ q n=>by rw[Zi (nT b o q)];exact n) (fun b o J q=>⟨o,O b o (fun z=>J (by simp[z])) (fun z=>J (by simp[z])) q⟩) (fun b xs q=>by rw[Zi (Zg q fr)];exact q) (fun b o u q=>by rw[Zi (Zg q fr)];exact q)
    (fun b ps q=>⟨#[],by rw[Zi (Zg q fr),q];simp⟩) (fun m hm=>?_) b8 I.bare
   ·rcases kQ.mp hb with z | z
    ·subst z;exact⟨e3,e1,e4,e5⟩
    ·have Z:b=it:=by simpa using z
     subst Z;exact⟨f3,f1,f4,f5⟩
   ·obtain⟨o,es,ep,Y,r⟩:=hm;exact⟨o,es,ep,O _ o (KA e1) (KA f1) Y,r⟩
  refine⟨.ref s.heap.objs.size,_,I1,rfl,⟨s.heap.objs.size,x,rfl,fr,rfl,fun ys hy=>by rw[I.list_inj hy hq];exact hx⟩,⟨⟨_,by simpa using iY⟩,tY.at fun o q=>(U.2 it (KA mq)).trans q⟩,fun b hb=>?_⟩;have iZ:∃o,s.heap.get? b=some o:=by
   rcases kQ.mp hb with z | z
   ·subst z;exact⟨_,S⟩
   ·have Z:b=it:=by simpa using z
    subst Z;obtain⟨o,Y,_⟩:=hi;exact⟨o,Y⟩
  obtain⟨o,iZ⟩:=iZ;rw[Zi (nT b o iZ)];exact(hf b hb).1
 done:=by intro X hP hw hK J i pins s σ H E I hf st hg;subst hP hw hK;obtain⟨xs,hq,hx⟩:=hg;obtain⟨its,rv,p,hz⟩:=I.list hq;obtain⟨⟨F,S⟩,hi⟩:=st;obtain⟨f0,f1,f2,f3,f4,f5⟩:=hf it (by simp);have hl:=rv.length;exact wpAny_pyNext_enum_end (I.ok.hd J) S hi p.isList (by simp;lia) fun h' eb=>⟨rfl,I.turned (t':=s.toks) (fun b o hb e=>eb b o hb e) f0 f1 f3 f4 f5⟩
 self:=fun _ _ _ _ _ st h=>by obtain⟨⟨F,S⟩,_⟩:=st;exact wpAny_pyIter_enum S h
section
variable {X:Cx}
inductive HR(K:QF)(R:It->Hp->Prop)(vs:QH)(H1:Hp):Prop|mk(a:_)(_:vs = [.ref a])(_:∃xs,Zr K H1 a xs)(_:R (Ite K a) H1)
def Sf (K:QF)(ta:TA):TI:=fun σ H R=>ta σ H fun vs H1=>HR K R vs H1
theorem HS {a:Expr}{ta:TA}{p aT:Pos}{k:Nat}(hg:Gl X "enumerate")(S:X.mg "enumerate" = none)(ha:PA X [a] ta)(hs:starEach [a] X.env = [(false,eval a X.env)]:=by rfl):
  PI X (.Tuple es k aT) (.Call (.Name "enumerate" p) [a] [] pos) (Sf X.K ta):=by
 intro pins s σ H R I h;refine Call_ (UJ I hg S boot_enumerate (KS (YM (ha pos pins s σ H _ I h) fun us F ⟨vs,H1,I1,U,V⟩=>?_) hs rfl));obtain⟨l,e,⟨xs,W⟩,q⟩:=V;subst e;cases U with
 | cons r Y=>
  cases Y;cases r;obtain⟨its,rv,Z,hz⟩:=I1.list W;refine call_enumerate_list Z.isList fun h' O hi hsz kk=>?_;have I2:Inv X pins σ H1 { F with heap:=h' }:=I1.kept (t':=F.toks) kk;refine wpAny_pyIter_enum (s:={ F with heap:=h' }) O ?_;refine⟨_,[F.heap.objs.size+1,F.heap.objs.size],_,_,H1,rfl,I2,HQ l _ _ (Nat.succ_ne_self _),⟨⟨_,O⟩,hi⟩,fun b hb=>?_,q⟩;have J:F.heap.objs.size<=b:=by
   rcases kQ.mp hb with z | z
   ·subst z;exact XN _
   ·have z':b=F.heap.objs.size:=by simpa using z
    subst z';exact km _
  exact I1.fpOk J (I1.hok.fresh J)
inductive Sg(K:QF)(xs:QH)(H:Hp)(Q:VK):Prop|mk(x T t b:_)(_:xs = [x,.ty T])(_:Mi K H x t)(_:W.kitOne K t (.type T)=some b)(_:Q (.bl b) H)
theorem HU:YU X (.builtin "isinstance") (Sg X.K):=by intro pins s σ H xs us Q I r h;obtain⟨x,T,t,b,rfl,ty,e,q⟩:=h;obtain⟨u,v,rfl,F,J⟩:=r.two;cases J;exact E1 I F ty e fun tk=>⟨.bl b,H,I.tok _,rfl,q⟩
theorem range_all (bs:List Bool):(List.range bs.length).all (fun i=>bs.getD i false)=bs.all id:=by
 rw[qJ,Ks,Ks];constructor
 ·intro h b hb;obtain⟨i,hi,rfl⟩:=MG.mp hb;have:=h i (Ku.mpr hi);simpa [hi] using this
 ·intro h i hi;have F:i<bs.length:=Ku.mp hi;have:=h bs[i] (Tz F);simpa [F] using this
inductive Sh(K:QF)(xs:QH)(H:Hp)(Q:VK):Prop|mk(p:Addr)(bs:List Bool)(_:xs = [.ref p])(_:Zr K H p (bs.map V.bl))(_:Q (.bl (bs.all id)) H)
theorem HV (Y:X.calm=true):YU X (.builtin "all") (Sh X.K):=by
 intro pins s σ H xs us Q I r h;obtain⟨p,bs,rfl,Z,q⟩:=h;obtain⟨u,rfl,ru⟩:=r.one;cases ru;obtain⟨its,W,O,hz⟩:=I.list Z;have F:bs.length=its.length:=by simpa using W.length
 have hh:X.A.in1.handled=none:=I.ok.hd Y;have hp:p<s.heap.objs.size:=by obtain⟨o,S,_⟩:=O.isList;exact k6 S
 refine call_all_walk (NB O.isList ?_);refine⟨s.heap.objs.size,_,_,_,_,_,fun i=>bs.getD i false,rfl,Walks.list hh s.heap.objs.size p (Kj hp) its.toArray,⟨⟨_,Kf _ rfl,rfl,rfl⟩,?_⟩,fun i v s2 Q2 E2 hv U=>?_,fun h' tk kk=>?_⟩
 ·obtain⟨o,S,r⟩:=O.isList;exact⟨o,kz _ S,r⟩
 ·have J:its[i]? = some v:=by simpa using hv
  have hi:i<bs.length:=by rw[F];exact(kC.mp J).1
  obtain⟨w,hw,V⟩:=W.get (i:=i) (x:=.bl bs[i]) (by simp[hi]);rw[J] at hw;cases hw;cases V;refine KW ?_;have e:bs.getD i false=bs[i]:=by simp[hi]
  rw[<- e];exact U
 ·have hk:∀b o,s.heap.get? b=some o->h'.get? b=some o:=fun b o e=>kk b o (fun z=>by
   have z':b=s.heap.objs.size:=by simpa using z
   exact qy _ (z' ▸ k6 e)) (kz _ e)
  refine⟨.bl (bs.all id),H,I.kept (t':=tk) hk,?_,q⟩;have e:its.toArray.size=bs.length:=by rw[kr,F]
  rw[e,range_all];rfl
theorem GB:∀{ns:QG}{vs:QJ},Vals (ns.map V.int) vs->IntsAre vs ns
 | [],_,r=>by cases r;exact .nil
 | n::ns,_,r=>by
  cases r with
  | cons r F=>
   obtain⟨t,rfl⟩:=r;exact .cons n t (GB F)
inductive Si(K:QF)(xs:QH)(H:Hp)(Q:VK):Prop|mk(p:Addr)(ns:QG)(_:xs = [.ref p])(_:Zr K H p (ns.map V.int))(_:ns.length<64)(_:∀(l:Addr)(ns':QG),H l=none->ns'.Perm ns->ns'.Pairwise (· <= ·)->Q (.ref l) (upd H l (.lst (ns'.map V.int))))
theorem HW:YU X (.builtin "sorted") (Si X.K):=by
 intro pins s σ H xs us Q I r h;obtain⟨p,ns,rfl,S,U,q⟩:=h;obtain⟨u,rfl,W⟩:=r.one;cases W;obtain⟨its,J,Y,hz⟩:=I.list S;have O:ns.length=its.length:=by simpa using J.length
 refine sorted_ints Y.isList (GB J) (by lia) fun out F a1 a2 Z=>?_;obtain⟨e,he⟩:=sortedAll_at s.heap its out;have fr:H (s.heap.objs.size+1)=none:=I.hok.fresh (XN _);have bv:F.length=ns.length:=a2.length_eq;refine⟨.ref (s.heap.objs.size+1),_,I.laid (a:=s.heap.objs.size+1) (o:=.lst (F.map V.int)) (t':=s.toks) (fun b o q=>sortedAll_old q) (XN _) ⟨?_,out.toList,e,U3 a1,?_⟩,rfl,q _ _ fr a2 Z⟩
 ·rw[ke];have:(ns.map V.int).length<=sizeLine:=hz;rw[ke] at this;lia
 ·simpa [seqObj] using he
inductive Sj(K:QF)(x:V)(vs:QH)(H:Hp)(Q:VK):Prop|mk(l:Addr)(xs:QH)(y:V)(_:x = .ref l)(_:vs = [y])(_:Zr K H l xs)(_:Ge y=true)(_:xs.all Ge=true)(_:Q (.int (xs.countP fun z=>eqV z y)) H)
theorem Sk {x:V}:∀{xs:QH}{us:QJ},Vals xs us->xs.all Ge=true->us.countP (eqU x)=xs.countP fun y=>eqV y x
 | _,_,.nil,_=>rfl
 | _,_,.cons r rr,h=>by rw[TH,Kc] at h;rw[XT,XT,Sk rr h.2,Pg r h.1]
theorem HX:MtM X "list.count" (Sj X.K):=by intro pins s σ H x vs v us Q I U V h;obtain⟨l,xs,y,rfl,rfl,W,Y,J,q⟩:=h;cases U;obtain⟨u,rfl,Z⟩:=V.one;obtain⟨its,r,pl,hz⟩:=I.list W;obtain⟨⟨c,dd,dt,sl⟩,O,S,n,hd⟩:=pl.isList;simp only at S hd;subst S hd;refine Tx F.slot_list_count ⟨_,O,rfl⟩ F.entry_list_count (F.args_list_count_2 _ _) (SeqAt.list_countAt l its.toArray n dd sl u (eqU y)) ⟨O,fun w hw=>UR Z Y r J w (by simpa using hw),?_⟩;refine⟨.int _,H,I.tok _,⟨_,rfl⟩,?_⟩;rw[show its.toArray.toList=its by simp,Sk r J];exact q
end
inductive Eqv (K:QF)(H:Hp):Nat->V->V->Prop
 | flat {n:Nat}{x:V}:Ge x=true->Eqv K H n x x
 | same {n:Nat}{a:Addr}:Eqv K H n (.ref a) (.ref a)
 | lst {n:Nat}{a b:Addr}{xs ys:QH}:Zr K H a xs->Zr K H b ys->xs.length=ys.length->(∀(i:Nat)(x y:V),xs[i]? = some x->ys[i]? = some y->Eqv K H n x y)->Eqv K H (n+1) (.ref a) (.ref b)
 | tup {n:Nat}{a b:Addr}{xs ys:QH}:Y9 K H a xs->Y9 K H b ys->xs.length=ys.length->(∀(i:Nat)(x y:V),xs[i]? = some x->ys[i]? = some y->Eqv K H n x y)->Eqv K H (n+1) (.ref a) (.ref b)
theorem all_true (n:Nat):((List.range n).all fun _=>true)=true:=by rw[Ks];intro _ _;rfl
theorem HY {x:V}(h:Ge x=true):eqV x x=true:=by cases x<;>simp_all [eqV,Ge]
theorem Eqv.at {X:Cx}{pins:QC}{σ:St}{H:Hp}{s:Shared}(I:Inv X pins σ H s):∀{n:Nat}{x y:V}{u v:Value}{A:Around},Eqv X.K H n x y->RelV x u->RelV y v->A.units+n<cLine->SeqAt.EqAt A s u v true:=by
 intro n x y u v A h
 induction h generalizing u v A with
 | flat f=>
  intro J O _;have:=R6 (A:=A) (s:=s) J O f f;rw[HY f] at this;exact this
 | same=>
  intro J O _;cases J;cases O;exact TV _
 | @lst n a b xs ys ha hb hl _ ih=>
  intro J O hu;cases J;cases O;by_cases e:a=b
  ·subst e;exact TV _
  ·obtain⟨its,S,Z,_⟩:=I.list ha;obtain⟨F,U,p2,_⟩:=I.list hb;have l1:=S.length;have l2:=U.length;refine SeqAt.EqAt.of_refs e ?_;have q:=SeqAt.RcAt.lists (A:=A) (e:=fun _=>true) Z.isList p2.isList (by simp only[kr];lia) (by lia) fun j h1 h2=>by
    simp only[kr] at h1 h2;obtain⟨u1,W,s1⟩:=S.get (i:=j) (x:=xs[j]'(by lia)) (by simp);obtain⟨u2,Y,s2⟩:=U.get (i:=j) (x:=ys[j]'(by lia)) (by simp);have z1:its.toArray[j]=u1:=by
     have:its[j]? = some its[j]:=by simp[h1]
     rw[this] at W;simpa using k9 W
    have z2:F.toArray[j]=u2:=by
     have:F[j]? = some F[j]:=by simp[h2]
     rw[this] at Y;simpa using k9 Y
    rw[z1,z2];exact ih j _ _ (by simp) (by simp) s1 s2 (by show A.units+1+n<cLine;lia)
   rw[all_true] at q;exact q
 | @tup n a b xs ys ha hb hl _ ih=>
  intro J O hu;cases J;cases O;by_cases e:a=b
  ·subst e;exact TV _
  ·obtain⟨its,S,Z,_⟩:=I.tuple ha;obtain⟨F,U,p2,_⟩:=I.tuple hb;have l1:=S.length;have l2:=U.length;refine SeqAt.EqAt.of_refs e ?_;have q:=SeqAt.RcAt.tuples (A:=A) (s:=s) (l:=a) (b:=b) (items:=its.toArray) (items2:=F.toArray) (e:=fun _=>true) Z p2 (by lia) fun j h1 h2=>by
    simp only[kr] at h1 h2;obtain⟨u1,W,s1⟩:=S.get (i:=j) (x:=xs[j]'(by lia)) (by simp);obtain⟨u2,Y,s2⟩:=U.get (i:=j) (x:=ys[j]'(by lia)) (by simp);have z1:its.toArray[j]=u1:=by
     have:its[j]? = some its[j]:=by simp[h1]
     rw[this] at W;simpa using k9 W
    have z2:F.toArray[j]=u2:=by
     have:F[j]? = some F[j]:=by simp[h2]
     rw[this] at Y;simpa using k9 Y
    rw[z1,z2];exact ih j _ _ (by simp) (by simp) s1 s2 (by show A.units+1+n<cLine;lia)
   have e3:(its.toArray.size==F.toArray.size)=true:=by rw[Nj];simp only[kr];lia
   rw[e3,all_true] at q;exact q
section
variable {X:Cx}
inductive CM(K:QF)(b:Bool)(x y:V)(H:Hp)(Q:VK):Prop|mk(p q:Addr)(xs ys:QH)(_:x = .ref p)(_:y = .ref q)(_:Zr K H p xs)(_:Zr K H q ys)(_:xs.length=ys.length)(_:∀(i:Nat)(x y:V),xs[i]? = some x->ys[i]? = some y->Eqv K H 60 x y)(_:Q (.bl b) H)
theorem Sl {pins:QC}{s:Shared}{ys:QH}{its aU:QJ}{A:Around}(I:Inv X pins σ H s)(F:Vals xs its)(J:Vals ys aU)(hl:xs.length=ys.length)(h:∀(i:Nat)(x y:V),xs[i]? = some x->ys[i]? = some y->Eqv X.K H 60 x y)(hu:A.units+62<cLine):
  ∀j (h1:j<its.toArray.size) (h2:j<aU.toArray.size),SeqAt.EqAt A.in1 s its.toArray[j] aU.toArray[j] ((fun _=>true) j):=fun j h1 h2=>by
 have l1:=F.length;have l2:=J.length;simp only[kr] at h1 h2;obtain⟨U,O,W⟩:=F.get (i:=j) (x:=xs[j]'(by lia)) (by simp);obtain⟨Y,S,Z⟩:=J.get (i:=j) (x:=ys[j]'(by lia)) (by simp);have z1:its.toArray[j]=U:=by
  have:its[j]? = some its[j]:=by simp[h1]
  rw[this] at O;simpa using k9 O
 have z2:aU.toArray[j]=Y:=by
  have:aU[j]? = some aU[j]:=by simp[h2]
  rw[this] at S;simpa using k9 S
 rw[z1,z2];exact Eqv.at I (h j _ _ (by simp) (by simp)) W Z (by show A.units+1+60<cLine;lia)
theorem HZ (hu:X.A.units+64<cLine):Uo X (compareOp .Eq) (CM X.K true):=by intro pins s σ H x y v u Q I S U h;obtain⟨p,q,xs,ys,rfl,rfl,V,W,Y,Z,hQ⟩:=h;cases S;cases U;obtain⟨its,F,p1,_⟩:=I.list V;obtain⟨J,O,p2,_⟩:=I.list W;have l1:=F.length;have l2:=O.length;refine Ms (e:=fun _=>true) p1.isList p2.isList (by simp only[kr];lia) (by lia) (Sl I F O Y Z (by lia)) ⟨.bl true,H,I,?_,hQ⟩;show Value.bool _=Value.bool true;simp
theorem Va (hu:X.A.units+64<cLine):Uo X (compareOp .NotEq) (CM X.K false):=by intro pins s σ H x y v u Q I S U h;obtain⟨p,q,xs,ys,rfl,rfl,V,W,Y,Z,hQ⟩:=h;cases S;cases U;obtain⟨its,F,p1,_⟩:=I.list V;obtain⟨J,O,p2,_⟩:=I.list W;have l1:=F.length;have l2:=O.length;refine Nl (e:=fun _=>true) p1.isList p2.isList (by simp only[kr];lia) (by lia) (Sl I F O Y Z (by lia)) X.prog X.w _ _ ⟨.bl false,H,I,?_,hQ⟩;show Value.bool _=Value.bool false;simp
theorem Zl (h:X.K=K:=by rfl):IxR X (Pf K):=h ▸ Hk
theorem Ys (h:X.K=K:=by rfl):IxR X (R4 K):=h ▸ Hl
theorem Yf (h:X.K=K:=by rfl):SlR X (R5 K):=h ▸ Hr
theorem CN (h:X.K=K:=by rfl):MtM X "list.count" (Sj K):=h ▸ HX
theorem Sm (h:X.K=K)(F:X.A.units+64<cLine):Uo X (compareOp .Eq) (CM K true):=h ▸ HZ F
theorem Pq (h:X.K=K)(F:X.A.units+64<cLine):Uo X (compareOp .NotEq) (CM K false):=h ▸ Va F
theorem Yq (h:X.K=K:=by rfl):YU X (.builtin "len") (R7 K):=h ▸ Hu
theorem Jf (h:X.K=K:=by rfl):YU X (.builtin "isinstance") (Sg K):=h ▸ HU
theorem U4 (h:X.K=K)(F:X.calm=true):YU X (.builtin "all") (Sh K):=h ▸ HV F
theorem Sn (h:X.K=K:=by rfl):YU X (.builtin "sorted") (Si K):=h ▸ HW
theorem YY (h:X.K=K:=by rfl):YU X (.type "list") (R8 K):=h ▸ Hv
theorem Z8 {k:Nat}{t:TGs}(hk:X.K=K)(I:X.calm=true)(h:PGs X es t)(J:(assignEach es X.env).length=n:=by rfl)(F:(assignEach es X.env).findIdx? (·.1)=none:=by rfl):PG X (.Tuple es k pos) (Rz K n t):=hk ▸ Em I h J F
theorem Yd {T:String}{name:Str}{r:V->List V->Hp->VK->Prop}{o e:Expr}{to:TE}{t:TA}{apos:Pos}(hk:X.K=K)(h:PE X (.Call (.Attribute o name apos) (e::es) [] pos) (tBM X.K T r to t)):PE X (.Call (.Attribute o name apos) (e::es) [] pos) (tBM K T r to t):=hk ▸ h
theorem ZU {l tg:Expr}{tl:TE}(hk:X.K=K)(F:PE X l tl):PI X tg l (RE K tl):=hk ▸ Ey F
theorem Ws {a:Expr}{ta:TA}{p aT:Pos}{k:Nat}(hk:X.K=K)(hg:Gl X "enumerate")(F:X.mg "enumerate" = none)(ha:PA X [a] ta)(hs:starEach [a] X.env = [(false,eval a X.env)]:=by rfl):
  PI X (.Tuple es k aT) (.Call (.Name "enumerate" p) [a] [] pos) (Sf K ta):=hk ▸ HS hg F ha hs
end
section
variable {g:TG}{tc:TT}{te:TE}{σ:St}{H:Hp}{Q:VK}{K:QF}{a:Addr}{xs:QH}
theorem Ds {J:It}(U:n<=sizeLine)(Pv:Nat->List V->Hp->Prop)(h0:Pv 0 [] H)(I:∀i ys H,Pv i ys H->ys.length<=i)(go:∀i ys H,i<n->Pv i ys H->J.go i H)(stop:∀ys H,Pv n ys H->J.stop n H)
  (hs:∀i ys H,i<n->Pv i ys H -> ∀x H',J.yld i H x H'->g x σ H' fun O H2=>tc O H2 fun b H3=>if b=true then te O H3 fun y H4=>Pv (i+1) (ys ++ [y]) H4 else Pv (i+1) ys H3)
  (hd:∀ys H,Pv n ys H -> ∀D,H D=none->Q (.ref D) (upd H D (.lst ys))):LcW J σ g tc te H Q:=by
 unfold LcW;refine⟨fun i m ys H=>m=n-i/\i<=n/\Pv i ys H,⟨n,by simp,Kn _,h0⟩,?_⟩;rintro i m ys H ⟨rfl,hi,p⟩;have W:=I i ys H p;by_cases F:i<n
 ·exact .inr ⟨go i ys H F p,by lia,Pv (i+1),fun S H' h2=>⟨n-(i+1),by lia,rfl,F,h2⟩,fun x H' y=>hs i ys H F p x H' y⟩
 ·have e:i=n:=by lia
  subst e;exact .inl ⟨stop ys H p,by lia,hd ys H p⟩
theorem YZ (O:xs.length<=sizeLine)(Pv:Nat->List V->Hp->Prop)(h0:Pv 0 [] H)(F:∀i ys H,Pv i ys H->ys.length<=i)(J:∀i ys H,Pv i ys H->Zr K H a xs)
  (hs:∀i x ys H,xs[i]? = some x->Pv i ys H->g x σ H fun I H2=>tc I H2 fun b H3=>if b=true then te I H3 fun y H4=>Pv (i+1) (ys ++ [y]) H4 else Pv (i+1) ys H3)
  (hd:∀ys H,Pv xs.length ys H -> ∀D,H D=none->Q (.ref D) (upd H D (.lst ys))):LcW (Itl K a) σ g tc te H Q:=
 Ds O Pv h0 F (fun i ys H hi p=>⟨xs,xs[i],J i ys H p,by simp[hi]⟩) (fun ys H p=>⟨xs,J _ ys H p,km _⟩) (fun i ys H hi p x H' y=>by obtain⟨e,y⟩:=y;subst e;exact hs i x ys _ (y xs (J i ys _ p)) p) hd
theorem CO {lo:Int}(J:n<=sizeLine)(Pv:Nat->List V->Hp->Prop)(h0:Pv 0 [] H)(F:∀i ys H,Pv i ys H->ys.length<=i)
  (hs:∀i ys H,i<n->Pv i ys H->g (.int (lo+i)) σ H fun I H2=>tc I H2 fun b H3=>if b=true then te I H3 fun y H4=>Pv (i+1) (ys ++ [y]) H4 else Pv (i+1) ys H3)
  (hd:∀ys H,Pv n ys H -> ∀D,H D=none->Q (.ref D) (upd H D (.lst ys))):LcW (Itr lo n) σ g tc te H Q:=
 Ds J Pv h0 F (fun i ys H hi p=>hi) (fun ys H p=>km _) (fun i ys H hi p x H' y=>by obtain⟨e,y⟩:=y;subst e y;exact hs i ys _ hi p) hd
theorem So (O:xs.length<=sizeLine)(Pv:Nat->List V->Hp->Prop)(h0:Pv 0 [] H)(F:∀i ys H,Pv i ys H->ys.length<=i)(J:∀i ys H,Pv i ys H->Zr K H a xs)
  (hs:∀i x p ys H,xs[i]? = some x->Pv i ys H->H p=none->g (.ref p) σ (upd H p (.tup [.int i,x])) fun I H2=>tc I H2 fun b H3=>if b=true then te I H3 fun y H4=>Pv (i+1) (ys ++ [y]) H4 else Pv (i+1) ys H3)
  (hd:∀ys H,Pv xs.length ys H -> ∀D,H D=none->Q (.ref D) (upd H D (.lst ys))):LcW (Ite K a) σ g tc te H Q:=
 Ds O Pv h0 F (fun i ys H hi p=>⟨xs,xs[i],J i ys H p,by simp[hi]⟩) (fun ys H p=>⟨xs,J _ ys H p,km _⟩) (fun i ys H hi p x H' y=>by obtain⟨q,z,S,U,W,y⟩:=y;subst S W;exact hs i z q ys _ (y xs (J i ys _ p)) p U) hd
end
def Pr (N:QP)(osc scope:Scope)(Fs:QP)(fi:List Nat):Bool:=
 (scope.kind == .function)&&scope.names.all (fun y=>y.2 != .cell)&&scope.names.all (fun y=>y.2 != .local||scope.names.lookup y.1==some .local)&&Fs.all (fun x=>scope.names.lookup x==some .free) &&
  scope.names.all (fun y=>y.2 != .free||osc.names.lookup y.1==some .cell||osc.names.lookup y.1==some .free)&&(fi.map (fun i=>N[i]?)==Fs.map some)
theorem LX.of {N:QP}{osc scope:Scope}{Ls Fs:QP}{fi:List Nat}(h:Pr N osc scope Fs fi=true):LX N osc scope Ls Fs fi:=by
 simp only[Pr,Kc,Ks,XA,XQ,Nj] at h;obtain⟨⟨⟨⟨⟨h1,h2⟩,I⟩,J⟩,O⟩,S⟩:=h;refine⟨h1,h2,fun y F U=>(I y F).elim (fun z=>absurd U z) id,J,fun y F V=>?_,S⟩;rcases O y F with(z | z) | z
 ·exact absurd V z
 ·exact .inl z
 ·exact .inr z
def Jk (P:Program)(w:World)(K:QF)(mg:QN)(base:Heap)(k:Nat)(x:Str)(ps:QP)(sp:Sp):Prop:=
 ∃(f:Addr)(fd:FuncData),Yc P w K mg base JZ k f fd ps sp/\mg x=some (.ref f)/\W.keepIn K (.ref f)=true/\Binds K fd ps []
theorem Zp {X:Cx}{k:Nat}{x:Str}{ps:QP}{sp:Sp}{p:Pos}{e:Expr}{t:TA}(h:Jk X.prog X.w X.K X.mg X.base j x ps sp)(J:Gz k X.A)(ha:PA X (e::es) t)(O:j<=k:=by decide)(hg:Gl X x:=by rfl)(F:(x==("__debug__" : Str))=false:=by decide)
  (S:starEach (e::es) X.env=(false,eval e X.env)::starEach es X.env:=by rfl) (I:(backTo pos (starEach es X.env)).any (·.1)=false:=by rfl):PE X (.Call (.Name x p) (e::es) [] pos) (CI sp [] E0 t):=by
 obtain⟨f,fd,G,U,hk,hb⟩:=h;exact RQ G (J.mono O) hg U hk hb .nil HM ha F S I
def Y5 (b:Addr)(H H':Hp):Prop:=∀c o,H c=some o->c≠b->H' c=some o
theorem Y5.refl (b:Addr)(H:Hp):Y5 b H H:=fun _ _ h _=>h
theorem Y5.trans {H1 H2:Hp}(x:Y5 b H H1)(y:Y5 b H1 H2):Y5 b H H2:=fun c o h n=>y c o (x c o h n) n
theorem Zh.frm (x:Zh H H'):Y5 b H H':=fun c o h _=>x c o h
theorem Zh.laid {o:HO}(h:H p=none):Zh H (upd H p o):=fun c u e=>by rw[Zi (Zg e h)];exact e
theorem Zh.step {o:HO}(s:Zh H H')(h:H' p=none):Zh H (upd H' p o):=s.trans (.laid h)
theorem Y5.upd {b:Addr}{H:Hp}{o:HO}:Y5 b H (upd H b o):=fun c u e n=>by rw[Zi n];exact e
theorem Y5.new {b p:Addr}{H H':Hp}{o:HO}(s:Y5 b H H')(h:H' p=none):Y5 b H (L2.upd H' p o):=s.trans (Zh.laid h).frm
theorem Zh.put {o:HO}(s:Zh H H')(h:H p=none):Zh H (upd H' p o):=fun c u e=>by rw[Zi (Zg e h)];exact s c u e
def Bag (H:Hp)(b:Addr):Prop:=∃g r:Int,0<=g/\H b=some (.lst [.int g,.int r])
theorem Y5.free (f:Y5 b H H')(hb:Bag H' b)(h:H' p=none):H p=none:=by
 cases q:H p with
 | none=>rfl
 | some o=>
  by_cases e:p=b
  ·subst e;obtain⟨g,r,_,z⟩:=hb;rw[h] at z;cases z
  ·rw[f p o q e] at h;cases h
def ZI (H:Hp)(xs:QH)(ls:QB):Prop:=Paired (fun x (p:Str×Int)=>∃t,x=V.ref t/\H t=some (.tup [.str p.1,.int p.2])) xs ls
theorem ZI.mono {H H':Hp}(h:∀t p,H t=some (.tup p)->H' t=some (.tup p)):∀{xs:QH}{ls:QB},ZI H xs ls->ZI H' xs ls
 | _,_,.nil=>.nil
 | _,_,.cons ⟨t,e,q⟩ r=>.cons ⟨t,e,h t _ q⟩ (ZI.mono h r)
theorem ZI.same {H H':Hp}(s:Zh H H'){xs:QH}{ls:QB}(h:ZI H xs ls):ZI H' xs ls:=h.mono fun t p e=>s t _ e
theorem ZI.frm (s:Y5 b H H')(hb:Bag H b)(h:ZI H xs ls):ZI H' xs ls:=h.mono fun t p e=>s t _ e (fun z=>by obtain⟨g,r,_,q⟩:=hb;rw[z,q] at e;cases e)
theorem ZI.len (h:ZI H xs ls):xs.length=ls.length:=qp h
theorem ZI.get {H:Hp}:∀{xs:QH}{ls:QB}{i:Nat}{x:V},ZI H xs ls->xs[i]? = some x -> ∃p t,ls[i]? = some p/\x = .ref t/\H t=some (.tup [.str p.1,.int p.2])
 | _,_,_,_,.nil,e=>by simp at e
 | _,_,0,_,.cons ⟨t,e1,q⟩ _,e=>by simp at e;subst e;exact⟨_,t,rfl,e1,q⟩
 | _,_,i+1,x,.cons _ r,e=>by obtain⟨p,t,h1,h2⟩:=ZI.get (i:=i) (x:=x) r (by simpa using e);exact⟨p,t,by simpa using h1,h2⟩
theorem ZI.snoc {H:Hp}{xs:QH}{ls:QB}{t:Addr}{x:Str}{k:Int}(h:ZI H xs ls)(e:H t=some (.tup [.str x,.int k])):ZI H (xs ++ [.ref t]) (ls ++ [(x,k)]):=Ti h ⟨t,rfl,e⟩
theorem ZI.append {H:Hp}:∀{xs ys:QH}{ls ms:QB},ZI H xs ls->ZI H ys ms->ZI H (xs++ys) (ls++ms)
 | _,_,_,_,.nil,s=>s
 | _,_,_,_,.cons r t,s=>.cons r (ZI.append t s)
inductive Wk:List (Str×Int)->Int->Prop
 | nil:Wk [] 0
 | born {ls:QB}{n k:Int}:Wk ls n->0<=k->k<=n->Wk (ls ++ [((("born" : Str),k):Str×Int)]) (n+2)
 | cross {ls:QB}{n k:Int}:Wk ls n->0<=k->k+1<n->Wk (ls ++ [((("cross" : Str),k):Str×Int)]) n
 | fin {ls:QB}{n k:Int}:Wk ls n->0<=k->k+1<n->Wk (ls ++ [((("end" : Str),k):Str×Int)]) (n-2)
def Kd (x:Str):Prop:=x = "born" ∨ x = "cross" ∨ x = "end"
theorem Wk.kd {n:Int}(h:Wk ls n):∀p∈ls,Kd p.1:=by
 induction h with
 | nil=>intro p F;cases F
 | born _ _ _ ih=>intro p F;rcases Kg.mp F with z | z;exact ih p z;rw[kR.mp z];exact .inl rfl
 | cross _ _ _ ih=>intro p F;rcases Kg.mp F with z | z;exact ih p z;rw[kR.mp z];exact .inr (.inl rfl)
 | fin _ _ _ ih=>intro p F;rcases Kg.mp F with z | z;exact ih p z;rw[kR.mp z];exact .inr (.inr rfl)
def Drw (H:Hp)(l:Addr)(ls:QB):Prop:=∃xs,H l=some (.lst xs)/\ZI H xs ls/\Wk ls 0/\ls.length<=60
def Ev (t:TT)(σ:St)(H:Hp)(β:Bool):Prop:=∀Q:Bool->Hp->Prop,Q β H->t σ H Q
theorem CP {t u:TT}{β γ:Bool}(h1:Ev t σ H β)(h2:β = true->Ev u σ H γ):Ev (Ru t u) σ H (β && γ):=fun Q q=>h1 _ (by
 cases β with
 | true=>rw[kj rfl];exact h2 rfl _ q
 | false=>rw[kh kO];exact q)
theorem Vb {t u:TT}{β γ:Bool}(h1:Ev t σ H β)(h2:β = false->Ev u σ H γ):Ev (tOr t u) σ H (β || γ):=fun Q q=>h1 _ (by
 cases β with
 | true=>rw[kj rfl];exact q
 | false=>rw[kh kO];exact h2 rfl _ q)
theorem Vc {t:TT}{β:Bool}{T U:Hp->Prop}(h:Ev t σ H β)(h1:β = true->T H)(h2:β = false->U H):t σ H fun b H1=>if b=true then T H1 else U H1:=h _ (by
 cases β with
 | true=>rw[kj rfl];exact h1 rfl
 | false=>rw[kh kO];exact h2 rfl)
theorem Pt {tc:TT}{t u:TS}{D:Ends}{β:Bool}(h:Ev tc σ H β)(h1:β = true->t D σ H)(h2:β = false->u D σ H):Dj tc t u D σ H:=Vc h h1 h2
theorem lcT {A B:Hp->Prop}(h:A H):DP σ H fun b H3=>if b=true then A H3 else B H3:=by
 show if true=true then A H else B H
 exact JU h
theorem Gd {H1 H2:Hp}{l t:Addr}(x:Str)(k:Int)(f0:Y5 b H H1)(U:Bag H1 b)(hl:H1 l=some (.lst xs))(hL:ZI H1 xs ls)(J:l≠b)(V:H l=none)(W:Y5 b H1 H2)(F:Bag H2 b)(S:H2 t=none):
  (upd H2 t (.tup [.str x,.int k])) l=some (.lst xs)/\Bag (upd (upd H2 t (.tup [.str x,.int k])) l (.lst (xs ++ [.ref t]))) b/\Y5 b H (upd (upd H2 t (.tup [.str x,.int k])) l (.lst (xs ++ [.ref t]))) /\
   (upd (upd H2 t (.tup [.str x,.int k])) l (.lst (xs ++ [.ref t]))) l=some (.lst (xs ++ [.ref t]))/\ZI (upd (upd H2 t (.tup [.str x,.int k])) l (.lst (xs ++ [.ref t]))) (xs ++ [.ref t]) (ls ++ [(x,k)]):=by
 have I:H2 l=some (.lst xs):=W l _ hl J;have O:l≠t:=Zg I S;have Y:b≠t:=by obtain⟨g,r,_,e⟩:=F;exact Zg e S
 refine⟨by rw[Zi O];exact I,?_,fun c o e n=>?_,Zd,?_⟩
 ·obtain⟨g,r,h0,e⟩:=F;exact⟨g,r,h0,by rw[Zi (KA J),Zi Y];exact e⟩
 ·have Z:=W c o (f0 c o e n) n;rw[Zi (Zg e V),Zi (Zg Z S)];exact Z
 ·refine ZI.snoc ?_ (by rw[Zi (KA O)];exact Zd);refine(hL.frm W U).mono fun t' p e=>?_;rw[Zi (LQ e I (by intro z;cases z)),Zi (Zg e S)];exact e
theorem Wk.nil0:Wk [] (2*((0:Nat):Int)):=Wk.nil
theorem CQ {ls:QB}:∀(n:Nat),Wk ls (2*(n:Int)) -> ∀m,m<=n->Wk (ls++List.replicate m ((("end" : Str),0):Str×Int)) (2*((n-m:Nat):Int))
 | n,h,0,_=>by simpa using h
 | n,h,m+1,hm=>by
  have F:=CQ n h m (by lia);rw[Xl,<- Kl];have e:(2*((n-(m+1):Nat):Int))=2*((n-m:Nat):Int)-2:=by lia
  rw[e];exact Wk.fin F (by decide) (by lia)
theorem Sq:∀(n:Nat),Wk ((List.range n).map fun(k:Nat)=>((("born" : Str),2*(k:Int)):Str×Int)) (2*(n:Int))
 | 0=>by simpa using Wk.nil
 | n+1=>by
  rw[KN,kP];have e:(2*((n+1:Nat):Int))=2*(n:Int)+2:=by lia
  rw[e];exact Wk.born (Sq n) (by lia) (by lia)
theorem lcG {v:V}{A B:QT}(h:A (σ.set i (some v)) H):Li i v σ H fun F H2=>DP F H2 fun b H3=>if b=true then A F H3 else B F H3:=by
 show if true=true then A (σ.set i (some v)) H else B (σ.set i (some v)) H
 exact JU h
def isK (ls:QB)(pr:Str->Bool)(i:Nat):Bool:=((ls[i]?).map fun q=>pr q.1)==some true
def Ym (ls:QB)(pr:Str->Bool)(n:Nat):QG:=(List.range n).filterMap fun i=>if isK ls pr i=true then some (i:Int) else none
theorem GO (ls:QB)(pr:Str->Bool)(n:Nat):Ym ls pr (n+1)=Ym ls pr n++(if isK ls pr n=true then[(n:Int)] else[]):=by unfold Ym;rw[KN,Mw];by_cases h:isK ls pr n=true<;>simp[h]
theorem Sr {pr:Str->Bool}{q:Str×Int}(h:ls[n]? = some q)(F:pr q.1=true):(Ym ls pr n).map V.int ++ [V.int n]=(Ym ls pr (n+1)).map V.int:=by
 have:isK ls pr n=true:=by unfold isK;rw[h];simp[F]
 rw[GO,this];simp
theorem Ss {pr:Str->Bool}{q:Str×Int}(h:ls[n]? = some q)(F:pr q.1=false):(Ym ls pr n).map V.int=(Ym ls pr (n+1)).map V.int:=by
 have:isK ls pr n=false:=by unfold isK;rw[h];simp[F]
 rw[GO,this];simp
theorem WE (ls:QB)(pr:Str->Bool)(n:Nat):(Ym ls pr n).length<=n:=by unfold Ym;exact Kb (NL _ _) (by simp)
theorem CS:∀{a b:QG},a.Perm b->a.Pairwise (· <= ·)->b.Pairwise (· <= ·)->a=b
 | [],b,p,_,_=>(List.nil_perm.mp p).symm
 | x::a,[],p,_,_=>absurd p.length_eq (by simp)
 | x::a,y::b,p,ha,hb=>by
  have F:x∈y::b:=p.mem_iff.mp kS;have I:y∈x::a:=p.mem_iff.mpr kS;have h1:y<=x:=by
   rcases kQ.mp F with e | h
   ·lia
   ·exact(qd.mp hb).1 x h
  have h2:x<=y:=by
   rcases kQ.mp I with e | h
   ·lia
   ·exact(qd.mp ha).1 y h
  have e:x=y:=by lia
  subst e;rw[CS (List.perm_cons x |>.mp p) (qd.mp ha).2 (qd.mp hb).2]
def Dt (x:Str):Int:=if x = "born" then 2 else if x = "end" then -2 else 0
def MV (ls:QB):Int:=(ls.map fun p=>Dt p.1).sum
theorem Pu (ls:QB)(p:Str×Int):MV (ls ++ [p])=MV ls+Dt p.1:=by unfold MV;simp
theorem Pw {t:Nat}(h:t<=xs.length):J5 xs none (some (t:Int))=xs.take t:=by
 have F:HT.JH xs.length 0 none=0:=by unfold HT.JH;rfl
 have I:HT.JH xs.length xs.length (some (t:Int))=t:=by
  have h0:¬((t:Int)<0):=by lia
  unfold HT.JH;simp[h0];lia
 unfold J5;rw[F,I];simp
theorem Su (ns:QG):(ns.map V.int).all Ge=true:=by rw[Ks];intro x F;obtain⟨n,_,rfl⟩:=Kw.mp F;rfl
section
variable {X:Cx}
theorem Sv {v:Value}{a:Int}(h:IsPart v (some a)):RelV (.int a) v:=by
 cases h with
 | int _ t=>exact⟨t,rfl⟩
inductive Vd(v:V)(σ:St)(Q:QT)(x:V)(lo hi:QW)(H3:Hp):Prop|mk(l b:Addr)(xs ys:QH)(a c:Int)(_:x = .ref l)(_:v = .ref b)(_:lo=some a)(_:hi=some c)(_:H3 l=some (.lst xs))(_:H3 b=some (.lst ys))(_:l≠b)(_:0<=a)(_:a<=c)(_:c<=xs.length)(_:xs.length+ys.length<=sizeLine)(_:Q σ (upd H3 l (.lst (xs.take a.toNat++ys++xs.drop c.toNat))))
def Ve (to:TE)(tl th:TO):TG:=fun v σ H Q=>to σ H fun x H1=>tl σ H1 fun lo H2=>th σ H2 fun hi H3=>Vd v σ Q x lo hi H3
theorem Vf {o:Expr}{lo hi:Option Expr}{to:TE}{tl th:TO}{p2:Pos}(U:PE X o to)(V:PO X lo tl)(W:PO X hi th):PG X (.Subscript o (.Slice lo hi none p2) pos) (Ve to tl th):=by
 intro pins s σ H v u Q I r h;show wpAny _ _ (do
   let F <- holding [u] (eval o X.env)
   let iv <- holding [u,F] (eval (.Slice lo hi none p2) X.env)
   standAt pos
   holding [u,F,iv] (setItem F iv u)
   release [iv,u,F] []) _ _ s
 refine kg (KC (YM (U pins s σ H _ I h) fun F Y ⟨x,H1,I1,Z,q1⟩=>?_));refine kg (KC (wpAny_Slice (YM (V pins Y σ H1 _ I1 q1) fun vl s2 ⟨l',H2,I2,pl,q2⟩=>YM (W pins s2 σ H2 _ I2 q2) fun vu J ⟨u',H3,I3,pu,q3⟩=>?_)));rw[NK];refine kG ?_;have I4:Inv X pins σ H3 { J with heap:=J.heap.push { cls:=.type "slice", data:=.fields #[vl,vu,.none] } }:=I3.kept (t':=J.toks) fun b ob q=>kz _ q;obtain⟨l,b,xs,ys,a,c,rfl,rfl,rfl,rfl,hx,hy,O,h0,S,hc,hz,q⟩:=q3;cases Z;cases r;refine kg (XD (kg (KC (HE I4 hx hy O (Ng ..) (Sv pl) (Sv pu) h0 S hc hz fun s5 I5=>?_))));exact M4 ⟨σ,_,I5,q⟩
inductive Vg(x:V)(vs:QH)(H:Hp)(Q:VK):Prop|mk(l:Addr)(xs:QH)(i:Int)(y:V)(_:x = .ref l)(_:vs = [.int i,y])(_:H l=some (.lst xs))(_:0<=i)(_:i<=xs.length)(_:xs.length<sizeLine)(_:xs.length<2 ^ 62)(_:Q .non (upd H l (.lst (xs.take i.toNat++y::xs.drop i.toNat))))
theorem Sw:MtM X "list.insert" Vg:=by
 intro pins s σ H x vs v us Q I S U h;obtain⟨l,xs,i,y,rfl,rfl,O,h0,h1,hz,hb,q⟩:=h;cases S;obtain⟨Z,u,rfl,V,W⟩:=U.two;obtain⟨t,rfl⟩:=V;obtain⟨z,its,n,r,hl,e⟩:=I.lstM O;have J:¬(!Builtin.List.listFitsIndex i)=true:=by unfold Builtin.List.listFitsIndex;simp;lia
 refine Tx F.slot_list_insert ⟨_,e,rfl⟩ F.entry_list_insert (F.args_list_insert_3 _ _ _) (AutoSeq1.list_insert_list_int_val_1 l its.toArray n i t u J (by rw[kr];lia)) ⟨e,?_⟩;refine⟨.non,_,I.lset (its':=its.take i.toNat++u::its.drop i.toNat) O e ?_ (Vals.append (r.take _) (.cons W (r.drop _))) ?_,rfl,q⟩
 ·have hi:¬i<0:=by lia
  have Y:min i.toNat its.toArray.size=i.toNat:=by rw[kr];lia
  simp only[kh hi,Y];simp;rw[kL (by simp)]
 ·rw[ki,Kk,kK,Kr];lia
end
theorem Sx (a c:Nat)(O:a<=c):∀(its:QJ)(i:Nat),((its.zipIdx i).filterMap fun(p:Value×Nat)=>if (a<=p.2/\p.2<c) then none else some p.1)=its.take (a-i)++its.drop (c-i)
 | [],i=>by simp
 | x::r,i=>by
  have S:=Sx a c O r (i+1);rw[List.zipIdx_cons,qf];by_cases h1:i<a
  ·have I:a-i=(a-(i+1))+1:=by lia
   have J:c-i=(c-(i+1))+1:=by lia
   rw[kh (show ¬(a<=(x,i).2/\(x,i).2<c) by show ¬(a<=i/\i<c);lia)];simp only[S];rw[I,J];simp
  ·by_cases h2:i<c
   ·have I:a-i=0:=by lia
    have F:a-(i+1)=0:=by lia
    have J:c-i=(c-(i+1))+1:=by lia
    rw[kj (show (a<=(x,i).2/\(x,i).2<c) by show (a<=i/\i<c);lia)];simp only[S];rw[I,F,J];simp
   ·have I:a-i=0:=by lia
    have F:a-(i+1)=0:=by lia
    have J:c-i=0:=by lia
    have U:c-(i+1)=0:=by lia
    rw[kh (show ¬(a<=(x,i).2/\(x,i).2<c) by show ¬(a<=i/\i<c);lia)];simp only[S];rw[I,F,J,U];simp
section
variable {prog:Program}{w:World}{A:Around}{E:QE}{s:Shared}
theorem Vh {l sl:Addr}{its:QJ}{vl vu:Value}{a c:Nat}{Q:Unit->Shared->Prop}
  (e:s.heap.get? l=some { cls:=.type "list", data:=.seq its.toArray n }) (hs:s.heap.IsSliceOf sl vl vu .none) (pl:IsPart vl (some (a:Int))) (pu:IsPart vu (some (c:Int))) (S:a<=c) (hc:c<=its.length)
  (hsz:its.length<=sizeLine) (h:∀f:Array Value->Array Value,f its.toArray=(its.take a++its.drop c).toArray->Q () { s with heap:=s.heap.update l (Obj.mapSeq f) }):
  wpAny (model prog w) A (delItem (.ref l) (.ref sl)) Q E s:=by
 have W:s.heap.IsList l its.toArray:=NU e;obtain⟨os,I,V,J⟩:=id hs;have U:s.TypeIs (.ref sl) "slice" := ⟨os,I,V⟩;have O:¬((rawPart none==rawInt 0)=true):=kO;refine wpAny_delItem_slot W.typeIs (by decide) F.slot_list_delitem (qA F.slot_list_delitem W.typeIs F.entry_list_delitem ?_ (F.args_list_delitem_2 _ _));show wpAny _ _ (Builtin.List.listSubscript? (.ref sl) >>= _) _ _ s;refine kg ?_;unfold Builtin.List.listSubscript?;refine kg (Mr U slice_no_index ?_);simp only[Le,TF];refine kG ?_;show wpAny _ _ (typeOf (.ref sl) >>= _) _ _ s;refine kg (qS U ?_)
 first
  | rw[kh (by decide)]
  | refine Tc (by decide) ?_
 rw[listSliceParts_eq];refine kg (kg (qt I J (x:=.none) rfl (kg (XO .none ?_))));rw[kh O];refine kg (qt I J (x:=vl) rfl (kg (XO pl ?_)));refine kg (qt I J (x:=vu) rfl (kg (XO pu (kG ?_))));unfold Builtin.List.listItems;refine kg (kg (Tq e rfl (kG ?_)));refine kg (TL ((sliceIndices_raw (some (a:Int)) (some (c:Int)) none its.toArray.size (by simp)).trans (Kx (pure:Int×Int×Int->Sem (Int×Int×Int)) (Sa S (by rw[kr];exact hc)))) ?_);refine kg (XJ ?_);have key:∀(F:Array Value->Array Value),F its.toArray=(its.take a++its.drop c).toArray -> ∀(g:Sem Fin),(∀s',Q () s'->wpAny (model prog w) A.in1 g (fun fin s'=>∃v,fin = .done (.ret v)/\Q () s') E s') ->
   wpAny (model prog w) A.in1 (Builtin.List.listUpdate (.ref l) F >>= fun _=>g) (fun fin s'=>∃v,fin = .done (.ret v)/\Q () s') E s:=fun F Y g hg=>by
  show wpAny (model prog w) A.in1 (updateSeq l F >>= fun _=>g) _ E s;refine kg (wpAny_updateSeq (hz:=by rw[kr];exact hsz) (_hz':=?_) e rfl (hg _ (h F Y)));rw[Y,kr,ki,kK,Kr];lia
 refine key _ ?_ _ ?_
 ·refine Kx List.toArray ((Kx (fun f=>List.filterMap f its.zipIdx) (funext fun p=>?_)).trans (Sx a c S its 0));obtain⟨x,k⟩:=p;show (if (if (1:Int)>0 then decide ((a:Int)<=(k:Int))&&decide ((k:Int)<(c:Int))&&(((k:Int)-(a:Int)) % 1==0) else _)=true then none else some x)=if (a<=k/\k<c) then none else some x
  rw[kj (show (1:Int)>0 by decide)];have Z:((k:Int)-(a:Int)) % 1=0:=Int.emod_one _;by_cases h1:a<=k/\k<c
  ·rw[kj h1,kj (by rw[Z];simp;lia)]
  ·rw[kh h1,kh (by rw[Z];simp;lia)]
 ·intro s' hq;exact kg (wpAny_letGo (kG ⟨.none,rfl,hq⟩))
end
section
variable {X:Cx}
inductive Vi(D:Ends)(σ:St)(x:V)(lo hi:QW)(H3:Hp):Prop|mk(l:Addr)(xs:QH)(a c:Int)(_:x = .ref l)(_:lo=some a)(_:hi=some c)(_:H3 l=some (.lst xs))(_:0<=a)(_:a<=c)(_:c<=xs.length)(_:D.nx σ (upd H3 l (.lst (xs.take a.toNat++xs.drop c.toNat))))
def Vj (to:TE)(tl th:TO):TS:=fun D σ H=>to σ H fun x H1=>tl σ H1 fun lo H2=>th σ H2 fun hi H3=>Vi D σ x lo hi H3
theorem Vk {o:Expr}{lo hi:Option Expr}{to:TE}{tl th:TO}{p2 p3:Pos}(W:PE X o to)(Y:PO X lo tl)(Z:PO X hi th):PS X (.Delete [.Subscript o (.Slice lo hi none p2) p3] pos) (Vj to tl th):=by intro pins s σ H D I h;refine wpAny_Delete (wpAny_deleteEach_cons ?_);rw[arm_delete_Subscript];refine kg (YM (W pins s σ H _ I h) fun ov s1 ⟨x,H1,I1,r1,q1⟩=>?_);refine kg (KC (wpAny_Slice (YM (Y pins s1 σ H1 _ I1 q1) fun vl s2 ⟨l',H2,I2,pl,q2⟩=>YM (Z pins s2 σ H2 _ I2 q2) fun vu F ⟨u',H3,I3,pu,q3⟩=>?_)));rw[NK];refine kG ?_;have I4:Inv X pins σ H3 { F with heap:=F.heap.push { cls:=.type "slice", data:=.fields #[vl,vu,.none] } }:=I3.kept (t':=F.toks) fun b ob q=>kz _ q;obtain⟨l,xs,a,c,rfl,rfl,rfl,O,h0,J,hc,q⟩:=q3;cases r1;obtain⟨z,its,n,r,S,e⟩:=I4.lstM O;obtain⟨U,rfl⟩:=kF h0;obtain⟨V,rfl⟩:=kF (LH h0 J);simp only[kM] at q;refine kg (XD (kg (KC (Vh (a:=U) (c:=V) e (Ng ..) pl pu (by lia) (by lia) (by lia) fun f hf=>?_))));refine M4 (wpAny_deleteEach_nil ?_);refine⟨σ,_,I4.lset (its':=its.take U++its.drop V) (t':=F.toks) O e hf (Vals.append (r.take _) (r.drop _)) ?_,q⟩;rw[ki,kK,Kr];lia
end
theorem L5 {g:TG}{tb:TS}{D:Ends}(Pv:Nat->St->Hp->Prop)(h0:Pv 0 σ H)(J:∀i σ H,i<=xs.length->Pv i σ H->Zr K H a xs)
  (hs:∀i x p σ H,xs[i]? = some x->Pv i σ H->H p=none->g (.ref p) σ (upd H p (.tup [.int i,x])) fun I H2=>tb { D with nx:=Pv (i+1),ct:=Pv (i+1),bk:=D.nx } I H2) (hd:∀ σ H,Pv xs.length σ H->D.nx σ H):
  Dl (Ite K a) g tb D σ H:=by
 refine⟨fun i m σ H=>m=xs.length-i/\i<=xs.length/\Pv i σ H,⟨xs.length,by simp,Kn _,h0⟩,?_⟩;rintro i m σ H ⟨rfl,hi,p⟩;have q:=J i σ H hi p;by_cases F:i<xs.length
 ·refine .inr ⟨⟨xs,xs[i],q,by simp[F]⟩,Pv (i+1),fun O H' S=>⟨xs.length-(i+1),by lia,rfl,F,S⟩,fun x H' y=>?_⟩;obtain⟨r,z,U,V,W,y⟩:=y;subst U W;exact hs i z r σ _ (y xs q) p V
 ·have e:i=xs.length:=by lia
  subst e;exact .inl ⟨⟨xs,q,km _⟩,hd σ H p⟩
def Um (r:QG)(k:Nat):QG:=(r.set k (r.getD (k+1) 0)).set (k+1) (r.getD k 0)
def stp (s:QG×Int)(p:Str×Int):QG×Int:=
 if p.1 = "born" then(s.1.take p.2.toNat ++ [s.2,s.2+1]++s.1.drop p.2.toNat,s.2+2) else if p.1 = "cross" then(Um s.1 p.2.toNat,s.2) else(s.1.take p.2.toNat++s.1.drop (p.2.toNat+2),s.2)
def rb (ls:QB):QG×Int:=ls.foldl stp ([],0)
theorem YJ (ls:QB)(p:Str×Int):rb (ls ++ [p])=stp (rb ls) p:=by unfold rb;rw[List.foldl_append];rfl
theorem Gb {s:QG×Int}{k:Int}:stp s ("born", k)=(s.1.take k.toNat ++ [s.2,s.2+1]++s.1.drop k.toNat,s.2+2):=kj rfl
theorem nb1:¬(("cross" : Str) = "born"):=by decide +kernel
theorem nb2:¬(("end" : Str) = "born"):=by decide +kernel
theorem nb3:¬(("end" : Str) = "cross"):=by decide +kernel
theorem Wc {s:QG×Int}{k:Int}:stp s ("cross", k)=(Um s.1 k.toNat,s.2):=(kh nb1).trans (kj rfl)
theorem Ur {s:QG×Int}{k:Int}:stp s ("end", k)=(s.1.take k.toNat++s.1.drop (k.toNat+2),s.2):=(kh nb2).trans (kh nb3)
theorem LD {n:Int}(h:Wk ls n):((rb ls).1.length:Int)=n:=by
 induction h with
 | nil=>rfl
 | born h h0 h1 ih=>
  rw[YJ,Gb];simp only[ki,kK,Kr,Kk,Xg];lia
 | cross h h0 h1 ih=>
  rw[YJ,Wc];simp only[Um,KQ];exact ih
 | fin h h0 h1 ih=>
  rw[YJ,Ur];simp only[ki,kK,Kr];lia
theorem U0 {α:Type}{a b:List α}{x y:α}(h:a ++ [x]=b ++ [y]):a=b/\x=y:=by have h1:=List.append_inj' h rfl;exact⟨h1.1,by simpa using h1.2⟩
theorem Vl {l:QB}{p:Str×Int}{m:Int}(h:Wk (l ++ [p]) m):∃n,Wk l n/\((p.1 = "born" /\ 0<=p.2/\p.2<=n)∨(p.1 = "cross" /\ 0<=p.2/\p.2+1<n)∨(p.1 = "end" /\ 0<=p.2/\p.2+1<n)):=by
 generalize F:l ++ [p]=q at h;cases h with
 | nil=>exact absurd F (by simp)
 | born h h0 h1=>obtain⟨rfl,rfl⟩:=U0 F;exact⟨_,h,.inl ⟨rfl,h0,h1⟩⟩
 | cross h h0 h1=>obtain⟨rfl,rfl⟩:=U0 F;exact⟨_,h,.inr (.inl ⟨rfl,h0,h1⟩)⟩
 | fin h h0 h1=>obtain⟨rfl,rfl⟩:=U0 F;exact⟨_,h,.inr (.inr ⟨rfl,h0,h1⟩)⟩
theorem GD {n:Int}(h:Wk ls n):∀i,∃m,Wk (ls.take i) m:=by
 induction h with
 | nil=>intro i;exact⟨0,by simpa using Wk.nil⟩
 | @born l n k h h0 h1 ih=>
  intro i;by_cases hi:i<=l.length
  ·rw[qU hi];exact ih i
  ·rw[kL (by rw[ki,Ke];lia)];exact⟨_,Wk.born h h0 h1⟩
 | @cross l n k h h0 h1 ih=>
  intro i;by_cases hi:i<=l.length
  ·rw[qU hi];exact ih i
  ·rw[kL (by rw[ki,Ke];lia)];exact⟨_,Wk.cross h h0 h1⟩
 | @fin l n k h h0 h1 ih=>
  intro i;by_cases hi:i<=l.length
  ·rw[qU hi];exact ih i
  ·rw[kL (by rw[ki,Ke];lia)];exact⟨_,Wk.fin h h0 h1⟩
theorem Du {n:Int}(h:Wk ls n){p:Str×Int}(I:ls[i]? = some p):
  ls.take (i+1)=ls.take i ++ [p]/\((p.1 = "born" /\ 0<=p.2/\p.2<=((rb (ls.take i)).1.length:Int))∨(p.1 = "cross" /\ 0<=p.2/\p.2+1<((rb (ls.take i)).1.length:Int))∨(p.1 = "end" /\ 0<=p.2/\p.2+1<((rb (ls.take i)).1.length:Int))):=by
 have e:ls.take (i+1)=ls.take i ++ [p]:=by rw[Ki,I];rfl
 refine⟨e,?_⟩;obtain⟨m,F⟩:=GD h (i+1);rw[e] at F;obtain⟨O,J,c⟩:=Vl F;rw[LD J];exact c
def YR (H:Hp)(xs:QH)(rs:QA):Prop:=Paired (fun x (r:QG)=>∃t,x=V.ref t/\H t=some (.lst (r.map V.int))) xs rs
theorem YR.mono (h:∀t o,V.ref t∈xs->H t=some o->H' t=some o)(r:YR H xs rs):YR H' xs rs:=by
 unfold YR at *
 induction r with
 | nil=>exact .nil
 | cons a t ih=>
  obtain⟨q,e,F⟩:=a;subst e;exact .cons ⟨q,rfl,h q _ kS F⟩ (ih fun t o I=>h t o (kX _ I))
def rowsOf (ls:QB)(i:Nat):QA:=(List.range i).map fun j=>(rb (ls.take j)).1
theorem Px (ls:QB)(i:Nat):rowsOf ls (i+1)=rowsOf ls i ++ [(rb (ls.take i)).1]:=by unfold rowsOf;rw[KN,kP];rfl
theorem YR.mem (r:YR H xs rs){t:Addr}(h:V.ref t∈xs):∃q:QG,H t=some (.lst (q.map V.int)):=by
 unfold YR at r
 induction r with
 | nil=>cases h
 | cons a _ ih=>
  obtain⟨q,e,F⟩:=a;rcases kQ.mp h with z | z
  ·rw[e] at z;have:t=q:=V.ref.inj z;subst this;exact⟨_,F⟩
  ·exact ih z
theorem YR.last {r:QG}:∀{xs:QH} , YR H xs (rs ++ [r]) -> ∃ys t,xs=ys ++ [V.ref t]/\H t=some (.lst (r.map V.int)):=by
 induction rs with
 | nil=>
  intro xs h;cases h with
  | cons a b=>
   cases b;obtain⟨t,e,q⟩:=a;exact⟨[],t,by rw[e];rfl,q⟩
 | cons q rs ih=>
  intro xs h;cases h with
  | @cons x _ l _ a b=>
   obtain⟨ys,t,e,q⟩:=ih b;exact⟨x::ys,t,by rw[e];rfl,q⟩
theorem YR.snoc {H:Hp}{xs:QH}{rs:QA}{t:Addr}{r:QG}(h:YR H xs rs)(e:H t=some (.lst (r.map V.int))):YR H (xs ++ [.ref t]) (rs ++ [r]):=Ti h ⟨t,rfl,e⟩
theorem YR.len (h:YR H xs rs):xs.length=rs.length:=qp h
theorem GP {G:Hp}{R w:Addr}{ys:QH}(S:H R=none)(sm:Zh H H')(J:YR H' ys (rowsOf ls (i+1)))(O:∀t,V.ref t∈ys->H t=none/\t≠R)(nd:ys.Nodup)(hw:H' w=none)(F:w≠R)
  (k:∀c o,H' c=some o->c≠R->G c=some o) (U:G w=some (.lst ((rb (ls.take (i+1))).1.map V.int))):
  Zh H G/\YR G (ys ++ [.ref w]) (rowsOf ls (i+2))/\(∀t,V.ref t∈ys ++ [V.ref w]->H t=none/\t≠R)/\(ys ++ [V.ref w]).Nodup:=by
 refine⟨fun c o e=>k c o (sm c o e) (Zg e S),?_,fun t I=>?_,?_⟩
 ·rw[Px];exact YR.snoc (J.mono fun t o I e=>k t o e (O t I).2) U
 ·rcases Kg.mp I with z | z
  ·exact O t z
  ·have:t=w:=V.ref.inj (kR.mp z);subst this;exact⟨sm.free hw,F⟩
 ·rw[qB];refine⟨nd,by simp,fun a ha b hb=>?_⟩;rw[kR.mp hb];intro z;subst z;obtain⟨q,e⟩:=J.mem ha;rw[hw] at e;cases e
theorem L6 {n:Int}(h:Wk ls n):n<=2*(ls.length:Int):=by
 induction h with
 | nil=>decide
 | born _ _ _ ih=>rw[ki,Ke];lia
 | cross _ _ _ ih=>rw[ki,Ke];lia
 | fin _ _ _ ih=>rw[ki,Ke];lia
theorem Jh (h:j<n):ixN n (j:Int)=some j:=by unfold ixN;rw[kj (by lia),kj (by lia)];simp
theorem Sy (r:QG)(k:Nat):((r.map V.int).set k (V.int (r.getD (k+1) 0))).set (k+1) (V.int (r.getD k 0))=(Um r k).map V.int:=by unfold Um;rw[qZ,qZ]
theorem map_getD (r:QG){k:Nat}(h:k<r.length):(r.map V.int)[k]? = some (V.int (r.getD k 0)):=by rw[kE];simp[h]
inductive Dv(vs:QH)(H:Hp)(Q:VK)(_E:XK):Prop|mk(l:Addr)(xs:QH)(ls:QB)(_:vs = [.ref l])(_:H l=some (.lst xs))(_:ZI H xs ls)(_:ls.length<=60)(_:Wk ls 0)(_:∀(p:Addr)(H':Hp)(ys:QH),H p=none->Zh H H'->H' p=some (.lst ys)->YR H' ys (rowsOf ls (ls.length+1))->(∀t,V.ref t∈ys->H t=none/\t≠p)->ys.Nodup->Q (.ref p) H')
theorem Vm {α:Type}(r:List α)(k:Nat)(x y:α)(h:k<=r.length):(r.take k++y::r.drop k).take k++x::(r.take k++y::r.drop k).drop k=r.take k ++ [x,y]++r.drop k:=by
 have F:(r.take k).length=k:=by rw[kK];lia
 have I:(r.take k++y::r.drop k).take k=r.take k:=by have:=List.take_left' (l₂:=y::r.drop k) F;exact this
 have J:(r.take k++y::r.drop k).drop k=y::r.drop k:=List.drop_left' F;rw[I,J];simp
theorem Vn {α:Type}(r:List α)(k:Nat):(r.eraseIdx k).eraseIdx k=r.take k++r.drop (k+2):=by
 induction r generalizing k with
 | nil=>simp
 | cons x r ih=>
  cases k with
  | zero=>cases r<;>simp
  | succ k=>
   rw[NW,NW,ih];simp
theorem Sz (h:j<n):seqIndex? (j:Int) n=some j:=by
 unfold seqIndex?;have h0:¬((j:Int)<0):=by lia
 simp[h0,h]
section
variable {κ:Type}[DecidableEq κ]
def JW (kvs:List (κ × V))(k:κ):QI:=(kvs.find? fun kv=>decide (kv.1=k)).map (·.2)
def putK (kvs:List (κ × V))(k:κ)(v:V):List (κ × V):=
 if (kvs.any fun kv=>decide (kv.1=k))=true then kvs.map (fun kv=>if kv.1=k then(kv.1,v) else kv) else kvs ++ [(k,v)]
theorem Y8 {p:κ × V}{r:List (κ × V)}{k:κ}(e:p.1=k):JW (p::r) k=some p.2:=by simp[JW,XB,e]
theorem Y6 {p:κ × V}{r:List (κ × V)}{k:κ}(e:¬p.1=k):JW (p::r) k=JW r k:=by simp[JW,XB,e]
theorem CT (k:κ):∀kvs:List (κ × V),(kvs.any fun F=>decide (F.1=k))=(JW kvs k).isSome
 | []=>rfl
 | p::r=>by
  rw[X0];by_cases e:p.1=k
  ·simp only[Y8 e,kH e,Bool.true_or,Option.isSome_some]
  ·rw[Y6 e,Kh e,Bool.false_or];exact CT k r
theorem SA (k j:κ)(y:V):∀kvs:List (κ × V),JW (kvs.map fun F=>if F.1=k then(F.1,y) else F) j=(JW kvs j).map fun x=>if j=k then y else x
 | []=>rfl
 | p::r=>by
  have I:=SA k j y r;rw[Ko];by_cases h:p.1=k
  ·rw[kj h];by_cases e:p.1=j
   ·rw[Y8 (p:=(p.1,y)) e,Y8 e,qC,kj (e.symm.trans h)]
   ·rw[Y6 (p:=(p.1,y)) e,Y6 e,I]
  ·rw[kh h];by_cases e:p.1=j
   ·rw[Y8 (p:=p) e,Y8 e,qC,kh (fun z=>h (e.trans z))]
   ·rw[Y6 (p:=p) e,Y6 e,I]
theorem SD (k j:κ)(y:V):∀kvs:List (κ × V),JW kvs k=none->JW (kvs ++ [(k,y)]) j=if j=k then some y else JW kvs j
 | [],_=>by
  by_cases e:k=j
  ·rw[kj e.symm];exact Y8 (p:=(k,y)) e
  ·rw[kh (fun z=>e z.symm)];exact Y6 (p:=(k,y)) e
 | p::r,hn=>by
  rw[NX];have hk:¬p.1=k:=fun z=>by rw[Y8 z] at hn;cases hn
  rw[Y6 hk] at hn;have F:=SD k j y r hn;by_cases e:p.1=j
  ·rw[Y8 e,Y8 e,kh (fun z=>hk (e.trans z))]
  ·rw[Y6 e,Y6 e,F]
theorem Py (kvs:List (κ × V))(k j:κ)(y:V):JW (putK kvs k y) j=if j=k then some y else JW kvs j:=by
 unfold putK;by_cases a:(kvs.any fun F=>decide (F.1=k))=true
 ·rw[kj a,SA];rw[CT] at a;by_cases e:j=k
  ·obtain⟨x,I⟩:=Xo.mp a;rw[kj e,e,I,qC,kj rfl]
  ·rw[kh e];cases JW kvs j with
   | none=>rfl
   | some x=>rw[qC,kh e]
 ·rw[kh a];refine SD k j y kvs ?_;rw[CT] at a;cases q:JW kvs k with
  | none=>rfl
  | some x=>rw[q] at a;exact(a rfl).elim
theorem Ga (kvs:List (κ × V))(k:κ)(v:V):(putK kvs k v).length<=kvs.length+1:=by
 unfold putK;split
 ·rw[ke];lia
 ·rw[ki,Kk,Xg];lia
theorem My.isSome_eq {o:QI}{u:Option Value}(r:My o u):o.isSome=u.isSome:=by
 cases o with
 | none=>cases u with
  | none=>rfl
  | some _=>exact(show False from r).elim
 | some _=>cases u with
  | none=>exact(show False from r).elim
  | some _=>rfl
theorem My.getD {o:QI}{u:Option Value}{d:V}{d':Value}(r:My o u)(F:RelV d d'):RelV (o.getD d) (u.getD d'):=by
 cases o with
 | none=>cases u with
  | none=>exact F
  | some _=>exact(show False from r).elim
 | some _=>cases u with
  | none=>exact(show False from r).elim
  | some _=>exact r
theorem KV.val {kvs:List (κ × V)}{vs:List (κ × Value)}(r:KV kvs vs)(k:κ):My (JW kvs k) (valueAt vs k):=by
 unfold KV at r
 induction r with
 | nil=>exact True.intro
 | @cons p q ps F h t J=>
  obtain⟨h1,h2⟩:=h;by_cases e:p.1=k
  ·have I:q.1=k:=h1.symm.trans e;have b:valueAt (q::F) k=some q.2:=by simp[valueAt,XB,I]
   rw[Y8 e,b];exact h2
  ·have I:¬q.1=k:=fun z=>e (h1.trans z);have b:valueAt (q::F) k=valueAt F k:=by simp[valueAt,XB,I]
   rw[Y6 e,b];exact J
theorem KV.any {kvs:List (κ × V)}{vs:List (κ × Value)}(r:KV kvs vs)(k:κ):(kvs.any fun F=>decide (F.1=k))=vs.any fun F=>decide (F.1=k):=by
 unfold KV at r
 induction r with
 | nil=>rfl
 | cons h t ih=>rw[X0,X0,ih,h.1]
theorem KV.repl {kvs:List (κ × V)}{vs:List (κ × Value)}(r:KV kvs vs)(k:κ){u:Value}(I:RelV y u):
  KV (kvs.map fun F=>if F.1=k then(F.1,y) else F) (vs.map fun F=>if F.1=k then(F.1,u) else F):=by
 unfold KV at r ⊢
 induction r with
 | nil=>exact .nil
 | @cons p q ps qs h t ih=>
  rw[Ko,Ko];refine .cons ?_ ih;obtain⟨h1,h2⟩:=h;by_cases e:p.1=k
  ·rw[kj e,kj (h1.symm.trans e)];exact⟨h1,I⟩
  ·rw[kh e,kh (fun z=>e (h1.trans z))];exact⟨h1,h2⟩
theorem KV.put {kvs:List (κ × V)}{vs:List (κ × Value)}(r:KV kvs vs)(k:κ){u:Value}(F:RelV y u):KV (putK kvs k y) (stored vs k u):=by
 unfold putK stored;rw[r.any k];by_cases e:(vs.any fun I=>decide (I.1=k))=true
 ·rw[kj e,kj e];exact r.repl k F
 ·rw[kh e,kh e];exact Ti r ⟨rfl,F⟩
theorem KV.length {kvs:List (κ × V)}{vs:List (κ × Value)}(r:KV kvs vs):kvs.length=vs.length:=qp r
end
theorem Dw {P:Program}{w:World}{k:Key}{u:Value}(r:RelV (kV k) u):(Z9 P w).is k u=true:=by
 cases k with
 | inl i=>obtain⟨t,e⟩:=(show ∃t,u=Value.int i t from r);subst e;exact A7 P w i t
 | inr x=>obtain⟨t,e⟩:=(show ∃t,u=Value.str x t from r);subst e;exact A8 P w x t
theorem SE {P:Program}{w:World}:∀{ks:List Key}{us:QJ},Vals (ks.map kV) us->ItemsAre (Z9 P w) ks us
 | [],_,r=>by rw[Me] at r;cases r;exact .nil
 | k::ks,_,r=>by
  rw[Ko] at r;cases r with
  | cons h t=>exact .cons (Dw h) (SE t)
abbrev KT (H:Hp):List (List Key×V)->List (List Key×Addr×Value)->Prop:=Paired fun p q=>p.1=q.1/\H q.2.1=some (.tup (p.1.map kV))/\RelV p.2 q.2.2
theorem KT.val {kvs:List (List Key×V)}{xs:List (List Key×Addr×Value)}(r:KT H kvs xs)(k:List Key):My (JW kvs k) ((atKey xs k).map (·.2)):=by
 induction r with
 | nil=>exact True.intro
 | @cons p q ps F h t J=>
  obtain⟨h1,_,h2⟩:=h;by_cases e:p.1=k
  ·have I:q.1=k:=h1.symm.trans e;have b:atKey (q::F) k=some q.2:=by simp[atKey,XB,I]
   rw[Y8 e,b];exact h2
  ·have I:¬q.1=k:=fun z=>e (h1.trans z);have b:atKey (q::F) k=atKey F k:=by simp[atKey,XB,I]
   rw[Y6 e,b];exact J
theorem KT.repl {kvs:List (List Key×V)}{xs:List (List Key×Addr×Value)}(r:KT H kvs xs)(k:List Key){u:Value}(I:RelV y u):
  KT H (kvs.map fun F=>if F.1=k then(F.1,y) else F) (xs.map (putAt k u)):=by
 induction r with
 | nil=>exact .nil
 | @cons p q ps qs h t ih=>
  rw[Ko,Ko];refine .cons ?_ ih;obtain⟨h1,h2,J⟩:=h;unfold putAt;by_cases e:p.1=k
  ·rw[kj e,kj (h1.symm.trans e)];exact⟨h1,h2,I⟩
  ·rw[kh e,kh (fun z=>e (h1.trans z))];exact⟨h1,h2,J⟩
theorem KT.put {kvs:List (List Key×V)}{xs:List (List Key×Addr×Value)}(r:KT H kvs xs)(k:List Key){u:Value}(hb:H b=some (.tup (k.map kV)))(F:RelV y u):
  KT H (putK kvs k y) (storedH xs k b u):=by
 have e:(kvs.any fun I=>decide (I.1=k))=(atKey xs k).isSome:=by rw[CT,(r.val k).isSome_eq,Option.isSome_map]
 unfold putK storedH;rw[e];by_cases q:(atKey xs k).isSome=true
 ·rw[kj q,kj q];exact r.repl k F
 ·rw[kh q,kh q];exact Ti r ⟨rfl,hb,F⟩
theorem KT.keeps {kvs:List (List Key×V)}{xs:List (List Key×Addr×Value)}(r:KT H kvs xs)(F:∀b ys,H b=some (.tup ys)->H' b=some (.tup ys)):KT H' kvs xs:=
 Paired.mapP r fun _ _ z=>⟨z.1,F _ _ z.2.1,z.2.2⟩
section
variable {P:Program}{w:World}{H:Hp}{h:Heap}{a:Addr}
theorem SF {u:HO}(ok:HOk P w H h)(e:Rd H a u):Yy P w H h a u:=e.ok ok
theorem Dx {kvs:QD}(ok:HOk P w H h)(e:Rd H a (.dK kvs)):kvs.length<=sizeLine/\(a==sysModules)=false /\ ∃vs,KV kvs vs/\h.DictOf (Z9 P w) a vs:=
 show Yy P w H h a (.dK kvs) from SF ok e
theorem Pz {kvs:QD}(ok:HOk P w H h)(e:H a=some (.dK kvs)):kvs.length<=sizeLine/\(a==sysModules)=false /\ ∃vs,KV kvs vs/\h.DictOf (Z9 P w) a vs:=Dx ok (.inl e)
theorem DQ {ks:List Key}(ok:HOk P w H h)(e:H a=some (.tup (ks.map kV))):(tupleKind (Z9 P w)).is h ks a:=by obtain⟨_,its,r,o,h1,h2,n,F⟩:=(show Yy P w H h a (.tup (ks.map kV)) from ok a _ e);exact⟨o,its.toArray,n,h1,h2,F,by simpa using SE r⟩
theorem Dy {kvs:List (List Key×V)}(ok:HOk P w H h)(e:Rd H a (.dT kvs)):kvs.length<=sizeLine/\(a==sysModules)=false /\
  ∃xs,KT H kvs xs/\h.DictOfH (tupleKind (Z9 P w)) a xs:=by
 obtain⟨z,y,xs,r,o,es,ep,h1,h2,I,J,O⟩:=(show Yy P w H h a (.dT kvs) from SF ok e);refine⟨z,y,xs,r,o,es,ep,h1,h2,I,J,fun x F=>?_,O⟩;have all:∀{l:List (List Key×V)}{m:List (List Key×Addr×Value)},KT H l m -> ∀x∈m,(tupleKind (Z9 P w)).is h x.1 x.2.1:=by
  intro l m q
  induction q with
  | nil=>intro x F;exact nomatch F
  | @cons p q ps qs hq t ih=>
   intro x F;rcases kQ.mp F with e | F
   ·subst e;exact DQ ok (by rw[<- hq.1];exact hq.2.1)
   ·exact ih x F
 exact all r x F
theorem Vo {kvs:List (List Key×V)}(ok:HOk P w H h)(e:H a=some (.dT kvs)):kvs.length<=sizeLine/\(a==sysModules)=false /\
  ∃xs,KT H kvs xs/\h.DictOfH (tupleKind (Z9 P w)) a xs:=Dy ok (.inl e)
end
def Mc (H:Hp)(a:Addr)(y:V)(r:QI):Prop:=
 (∃kvs k,Rd H a (.dK kvs)/\y=kV k/\r=JW kvs k) ∨ ∃kvs k b,Rd H a (.dT kvs)/\y = .ref b/\H b=some (.tup (k.map kV))/\r=JW kvs k
def LF (H:Hp)(a:Addr)(y v:V)(H':Hp):Prop:=
 (∃kvs k,H a=some (.dK kvs)/\y=kV k/\kvs.length<sizeLine/\H'=upd H a (.dK (putK kvs k v))) ∨
 ∃kvs k b,H a=some (.dT kvs)/\y = .ref b/\H b=some (.tup (k.map kV))/\kvs.length<sizeLine/\H'=upd H a (.dT (putK kvs k v))
theorem Mc.k {H:Hp}{a:Addr}{kvs:QD}{k:Key}(e:H a=some (.dK kvs)):Mc H a (kV k) (JW kvs k):=.inl ⟨kvs,k,.inl e,rfl,rfl⟩
theorem LF.k {H:Hp}{a:Addr}{kvs:QD}{k:Key}{v:V}(e:H a=some (.dK kvs))(F:kvs.length<sizeLine):LF H a (kV k) v (upd H a (.dK (putK kvs k v))):=.inl ⟨kvs,k,e,rfl,F,rfl⟩
section
variable {X:Cx}{pins:QC}{σ:St}{H:Hp}{s:Shared}{a:Addr}{y v:V}{u r:Value}{o:QI}{A:Around}{E:QE}
theorem Inv.big (I:Inv X pins σ H s):sysModules<s.heap.objs.size:=by have h:mainGlobals<s.heap.objs.size:=(I.mod.glob.keeps I.bk).lt;exact Nat.lt_trans (by decide) h
theorem Vp {Q:QE}(W:A.units+1<cLine)(I:Inv X pins σ H s)(g:Mc H a y (some v))(V:RelV y u)(h:∀O s',Inv X pins σ H s'->RelV v O->Q O s'):
  wpAny (model X.prog X.w) A (getItem (.ref a) u) Q E s:=by
 rcases g with⟨kvs,k,e,S,l⟩ | ⟨kvs,k,b,e,S,eb,l⟩
 ·subst S;obtain⟨z,hd,vs,F,dd⟩:=Dx I.hok e;obtain⟨O,hw,J⟩:=My.some_of (v:=v) (o:=valueAt vs k) (by rw[l];exact F.val k);exact wpAny_getItem_of (Dw V) dd.mapOf hw (h O _ (I.tok _) J)
 ·subst S;cases (show u=Value.ref b from V);obtain⟨z,hd,xs,F,dd⟩:=Dy I.hok e;obtain⟨O,hw,J⟩:=My.some_of (v:=v) (o:=(atKey xs k).map (·.2)) (by rw[l];exact F.val k);obtain⟨p,Y,U⟩:=k8.mp hw;refine wpAny_getItem_heap (Td W) (DQ I.hok eb) dd Y ?_;rw[U];exact h O _ (I.tok _) J
theorem Vq {Q:QE}(S:A.units+1<cLine)(I:Inv X pins σ H s)(g:Mc H a y o)(O:RelV y u)(h:∀s',Inv X pins σ H s'->Q (.bool o.isSome) s'):
  wpAny (model X.prog X.w) A (compareOp .In u (.ref a)) Q E s:=by
 rcases g with⟨kvs,k,e,J,l⟩ | ⟨kvs,k,b,e,J,eb,l⟩
 ·subst J;obtain⟨z,hd,vs,F,dd⟩:=Dx I.hok e;refine wpAny_in_of (Dw O) hd dd.mapOf ?_;rw[<- (F.val k).isSome_eq,<- l];exact h _ (I.tok _)
 ·subst J;cases (show u=Value.ref b from O);obtain⟨z,hd,xs,F,dd⟩:=Dy I.hok e;refine wpAny_in_heap (Td S) (DQ I.hok eb) hd dd ?_;have q:=(F.val k).isSome_eq;rw[Option.isSome_map] at q;rw[<- q,<- l];exact h _ (I.tok _)
theorem PB {h':Heap}{ob:HO}(I:Inv X pins σ H s)(F:Mut (H a))(hs:Heap.SameBut a s.heap h')(J:∃q,h'.get? a=some q)(new:Yy X.prog X.w (upd H a ob) h' a ob):
  Inv X pins σ (upd H a ob) { s with heap:=h',toks:=t' }:=
 I.write (x:=a) (e:=a) F (.inl rfl) (fun b q hb z=>(hs.2 b hb).trans z) J new
theorem PD {P:Program}{w:World}{h':Heap}{kvs:QD}{vs:List (Key×Value)}(z:kvs.length<=sizeLine)(hd:(a==sysModules)=false)(F:KV kvs vs)(dd:h'.DictOf (Z9 P w) a vs):
  Yy P w H' h' a (.dK kvs):=⟨z,hd,vs,F,dd⟩
theorem Vr {Q:Unit->Shared->Prop}(hu:A.units+1<cLine)(I:Inv X pins σ H s)(g:LF H a y v H')(W:RelV y u)(Y:RelV v r)(h:∀s',Inv X pins σ H' s'->Q () s'):
  wpAny (model X.prog X.w) A (setItem (.ref a) u r) Q E s:=by
 rcases g with⟨kvs,k,e,S,l,U⟩ | ⟨kvs,k,b,e,S,eb,l,U⟩
 ·subst S U;obtain⟨z,hd,vs,F,dd⟩:=Pz I.hok e;have hz:vs.length<=sizeLine:=by rw[<- F.length];exact z
  have V:(putK kvs k v).length<=sizeLine:=by have:=Ga kvs k v;lia
  refine wpAny_setItem_pairs (hsz:=hz) (Dw W) dd fun h' J hs=>h _ ?_;have he:∃q,h'.get? a=some q:=let ⟨q,_,_,O,_⟩:=J;⟨q,O⟩
  exact PB I (by rw[e];exact True.intro) hs he (PD V hd (F.put k Y) J)
 ·subst S U;cases (show u=Value.ref b from W);obtain⟨z,hd,xs,F,dd⟩:=Vo I.hok e;have hz:xs.length<=sizeLine:=by rw[<- qp F];exact z
  have V:(putK kvs k v).length<=sizeLine:=by have:=Ga kvs k v;lia
  refine wpAny_setItem_heap (hsz:=hz) (Td hu) (DQ I.hok eb) dd fun h' J hs=>h _ ?_;obtain⟨q,es,ep,O,h2,h3,h4,_,h5⟩:=J;refine PB I (by rw[e];exact True.intro) hs ⟨q,O⟩ ⟨V,hd,_,(F.put k eb Y).keeps fun c ys Z=>?_,q,es,ep,O,h2,h3,h4,h5⟩;rw[Zi (LQ Z e (fun z=>nomatch z))];exact Z
end
theorem Vs {X:Cx}{pins:QC}{s:Shared}{o:QI}(I:Inv X pins σ H s)(g:Mc H a y o):s.TypeIs (.ref a) "dict" := by
 rcases g with⟨kvs,k,e,_,_⟩ | ⟨kvs,k,b,e,_,_,_⟩
 ·obtain⟨_,_,vs,_,dd⟩:=Dx I.hok e;exact dd.typeIs
 ·obtain⟨_,_,xs,_,dd⟩:=Dy I.hok e;exact dd.typeIs
inductive Vt(Q:VK)(y x:V)(H2:Hp):Prop|mk(a o:_)(_:x = .ref a)(_:Mc H2 a y o)(_:Q (.bl o.isSome) H2)
def DR (ty td:TE):TE:=fun σ H Q=>ty σ H fun y H1=>td σ H1 fun x H2=>Vt Q y x H2
section
variable {X:Cx}{o i e aS:Expr}{pos aJ aT:Pos}{td ty tv:TE}
theorem CU (F:X.A.units+1<cLine)(hi:PE X i ty)(J:PE X o td):PC X .In i o (DR ty td):=by intro pins s σ H Q I h;refine YM (hi pins s σ H _ I h) fun Z O ⟨y,H1,I1,S,U⟩=>YM (J pins O σ H1 _ I1 U) fun u s2 ⟨x,H2,I2,V,a,W,ex,g,Y⟩=>?_;subst ex;obtain rfl:u=Value.ref a:=V;exact Vq F I2 g S fun s3 I3=>⟨.bl W.isSome,H2,I3,rfl,Y⟩
end
theorem SG {P:Program}{w:World}(h:Heap)(hb:sysModules<h.objs.size):Yy P w H (h.push { cls:=.type "dict", data:=.dict #[] }) h.objs.size (.dK []):=
 ⟨Kn _,qH.mpr (KA (Kj hb)),[],.nil,Heap.DictOf.new h⟩
def Vu:TE:=fun _ H Q=>∀p,H p=none->Q (.ref p) (upd H p (.dK []))
section
variable {X:Cx}{pos:Pos}
theorem Vv:PE X (.Dict [] [] pos) Vu:=fun pins s σ H Q I h=>
 wpAny_Dict_empty ⟨.ref s.heap.objs.size,_,I.laid (a:=s.heap.objs.size) (o:=.dK []) (t':=s.toks) (fun _ _ q=>kz _ q) (km _) (SG s.heap I.big),rfl,h _ (I.hok.fresh (km _))⟩
end
theorem Yy.there {P:Program}{w:World}{h:Heap}{o:HO}(x:Yy P w H h a o):∃ob,h.get? a=some ob:=by
 cases o with
 | lst xs=>obtain⟨_,_,_,_,e⟩:=x;exact⟨_,e⟩
 | tup xs=>obtain⟨_,_,_,_,e,_⟩:=x;exact⟨_,e⟩
 | dK kvs=>obtain⟨_,_,_,_,o,_,_,e,_⟩:=x;exact⟨_,e⟩
 | dT kvs=>obtain⟨_,_,_,_,o,_,_,e,_⟩:=x;exact⟨_,e⟩
 | set S n=>obtain⟨o,_,_,_,e,_⟩:=x;exact⟨_,e⟩
 | ins C dx fs=>obtain⟨_,_,_,e,_⟩:=x;exact⟨_,e⟩
 | own y=>obtain⟨_,e⟩:=x;exact⟨_,e⟩
 | xd fs=>obtain⟨_,⟨_,_,_,e,_⟩,_⟩:=x;exact⟨_,e⟩
 | rng lo hi=>obtain⟨_,_,_,e⟩:=x;exact⟨_,e⟩
 | frz ob u=>obtain⟨e,_⟩:=x;exact⟨_,e⟩
 | tbl ps=>exact⟨_,x⟩
 | met f y=>exact⟨_,x⟩
 | ext φ=>obtain⟨_,⟨_,e⟩,_⟩:=x;exact⟨_,e⟩
theorem SH {h:Heap}{m m':QN}(x:h.Ns a m)(y:h.Ns a m'):m=m':=by obtain⟨o,es,ep,O,hd,_,S⟩:=x;obtain⟨o',U,V,F,I,_,J⟩:=y;rw[O] at F;cases F;rw[hd] at I;cases I;exact funext fun n=>(S n).symm.trans (J n)
section
variable {X:Cx}{pins:QC}{σ:St}{H:Hp}{s:Shared}
theorem Inv.laidN {h':Heap}{D:Addr}{o:HO}{m:QN}(I:Inv X pins σ H s)(F:Fr X.base X.env.locals s.heap m)(F':Fr X.base X.env.locals h' m)
  (N':News X.base X.env.locals h' (W5 X.base s.heap X.env.locals)) (V:s.heap.get? D=none) (J:H D=none) (new:Yy X.prog X.w (upd H D o) h' D o):Inv X pins σ (upd H D o) { s with heap:=h',toks:=t' }:=by
 have kp:∀b u,b≠X.env.locals->s.heap.get? b=some u->h'.get? b=some u:=fun b u hb e=>by
  cases q:X.base.get? b with
  | some v=>
   have W:=F'.keep b v q;have U:=F.keep b v q;rw[e] at U;cases U;exact W
  | none=>exact(N' (b,u) (Us hb q e)).1
 have O:∀b u,H b=some u->b≠X.env.locals:=fun b u e z=>by rw[z,I.free] at e;cases e
 refine I.step (g':=s.gens) (d':=s.drawn) (ch:=[]) (fun _ z=>nomatch z) (fun b ob hb _ _ e _=>kp b ob hb e) (fun b ob hb _ _ e _=>⟨ob.slots,kp b ob hb e⟩) (fun b ob _ e n=>?_) (fun b ob _ e=>?_) (fun b xs e=>?_) (fun b ob u e=>?_) (fun b ps e=>⟨#[],?_⟩) (fun m' Y=>?_) (fun b u e=>?_) I.bare
 ·rw[Zi (fun z=>by subst z;rw[V] at e;cases e)];exact n
 ·by_cases hb:b=X.env.locals
  ·subst hb;obtain⟨S,_,_,z,_⟩:=F'.ns;exact⟨S,z⟩
  ·exact⟨ob,kp b ob hb e⟩
 ·rw[Zi (Zg e J)];exact e
 ·rw[Zi (Zg e J)];exact e
 ·rw[Zi (Zg e J),e];simp
 ·rw[SH Y F.ns];exact F'.ns
 ·by_cases hb:b=D
  ·subst hb;rw[Zd] at e;cases e;exact new
  ·rw[Zi hb] at e;refine(I.hok b u e).stay (fun c v Z q=>kp c v ?_ q) (fun c q=>by rw[Zi (Zg q J)];exact q) fun c xs q=>by rw[Zi (Zg q J)];exact q
   rcases Z with z | z
   ·subst z;exact O _ u e
   ·exact O c _ z
end
section
variable {X:Cx}
inductive Vw(xs:QH)(H:Hp)(Q:VK):Prop|mk(p:Addr)(kvs:QD)(ns:QG)(_:xs = [.ref p])(_:H p=some (.dK kvs))(_:kvs.map (·.1)=ns.map Sum.inl)(_:ns.length<64)(_:∀(l:Addr)(ns':QG),H l=none->ns'.Perm ns->ns'.Pairwise (· <= ·)->Q (.ref l) (upd H l (.lst (ns'.map V.int))))
theorem Vx (hc:X.calm=true):YU X (.builtin "sorted") Vw:=by
 intro pins s σ H xs us Q I r h;obtain⟨p,kvs,ns,rfl,hp,hk,mt,q⟩:=h;obtain⟨u,rfl,ru⟩:=r.one;cases ru;obtain⟨z,tZ,vs,J,ob,es,ep,hd⟩:=Pz I.hok hp;obtain⟨m,fr⟩:=I.fr;have lv:kvs.length=vs.length:=qp J;have ln:kvs.length=ns.length:=by simpa using Kx List.length hk
 refine W.kdu_sorted (W.kdl_dict (knd:=Z9 X.prog X.w) (kvs:=vs) (ep:=ep) tZ) (I.ok.hd hc) fr (news:=W5 X.base s.heap X.env.locals) IU ⟨ob,es,hd⟩ (by lia) fun D h' tk F dy S lt' aA hP=>?_;have ia:IntsAre F ns:=by
  have key:∀(F:QJ)(ns:QG),F.length=ns.length->(∀(j:Nat)(v:Value)(n:Int),F[j]? = some v->ns[j]? = some n -> ∃t,v = .int n t)->IntsAre F ns:=by
   intro F
   induction F with
   | nil=>intro ns hl _;cases ns with
    | nil=>exact .nil
    | cons _ _=>cases hl
   | cons w F ih=>
    intro ns hl h;cases ns with
    | nil=>cases hl
    | cons n ns=>
     obtain⟨t,rfl⟩:=h 0 w n rfl rfl;exact .cons n t (ih ns (by simpa using hl) fun j v n' e1 U=>h (j+1) v n' (by simpa using e1) (by simpa using U))
  refine key F ns (by lia) fun j v n e1 U=>?_;obtain⟨k,x,e3,e4⟩:=hP j v e1;have e5:(kvs.map (·.1))[j]? = some k:=by
   have hj:j<kvs.length:=by have:=(kC.mp e3).1;lia
   have key:∀(kvs:QD)(vs:List (Key×Value)),KV kvs vs -> ∀j:Nat,(kvs.map (·.1))[j]? = (vs.map (·.1))[j]?:=by
    intro kvs vs J;unfold KV at J
    induction J with
    | nil=>intro j;rfl
    | cons a _ ih=>
     intro j;cases j with
     | zero=>simp[a.1]
     | succ j=>simpa using ih j
   rw[key kvs vs J j,kE,e3];rfl
  rw[hk,kE,U] at e5;cases e5;rcases YF (k:=Sum.inl n) (v:=v) e4 with⟨i,t,z1,z2⟩ | ⟨x',t,z1,z2⟩
  ·cases z1;exact⟨t,z2⟩
  ·cases z1
 refine W.ksk_lsort (vs:=F) (its:=F.toArray) (n:=0) dy S (news':=fun o=>(D,o)::W5 X.base s.heap X.env.locals) (fun o=>.head fun q hq=>Kj (lt' q hq)) rfl ia mt fun dz Y c b9 Z O i4 bv perm pw _=>?_;have hD:s.heap.get? D=none:=by
  have nb:X.base.get? D=none:=(S (D,W.listOf F.toArray 0) kS).2.2;have nL:D≠X.env.locals:=(S (D,W.listOf F.toArray 0) kS).2.1;cases e:s.heap.get? D with
  | none=>rfl
  | some o=>exact absurd (lt' (D,o) (Us nL nb e)) (qy _)
 have fresh:H D=none:=by
  cases e:H D with
  | none=>rfl
  | some o=>
   obtain⟨ob,U⟩:=(I.hok D o e).there;rw[hD] at U;cases U
 have I2:=I.laidN (o:=.lst (Y.map V.int)) (D:=D) (h':=b9) (t':=tk) fr Z (fun q hq=>O q (kX _ hq)) hD fresh ⟨by rw[ke,bv];lia,dz,c,U3 i4,(O _ kS).1⟩
 exact⟨.ref D,_,I2,rfl,q D Y fresh perm pw⟩
inductive PF(x y:V)(H:Hp)(Q:VK):Prop|mk(a v:_)(_:x = .ref a)(_:Mc H a y (some v))(_:Q v H)
theorem Dz (S:X.A.units+1<cLine):IxR X PF:=by intro aS J pins s σ H x y v u Q I U V h hs;obtain⟨a,w,rfl,g,q⟩:=h;cases U;exact tail_any (ops:=[.ref a,u]) (Vs I g) PySem.F.slot_dict_getitem.lookup (Vp S I g V fun W Y I3 O=>⟨w,H,I3,O,q⟩) hs
inductive PH(o i v:V)(H:Hp)(Q:Hp->Prop):Prop|mk(a H':_)(_:o = .ref a)(_:LF H a i v H')(_:Q H')
theorem set_dict (F:X.A.units+1<cLine):IW X PH:=by intro pins s σ H o i v U V u Q I J O S h;obtain⟨a,H',rfl,g,q⟩:=h;cases J;exact Vr F I g O S fun s' I'=>⟨H',I',q⟩
inductive SJ(K:QF)(n:Nat)(t:TGs)(v:V)(σ:St)(H:Hp)(Q:QT):Prop|mk(a xs:_)(_:v = .ref a)(_:Zr K H a xs)(_:xs.length=n)(_:t xs σ H Q)
theorem Vy {k:Nat}{t:TGs}(O:X.calm=true)(h:PGs X es t)
  (S:(assignEach es X.env).length=n:=by rfl) (F:(assignEach es X.env).findIdx? (·.1)=none:=by rfl):PG X (.Tuple es k pos) (SJ X.K n t):=by
 intro pins s σ H v u Q I r hw;obtain⟨a,xs,U,V,Y,hw⟩:=hw;subst U;cases r;obtain⟨its,J,p,hz⟩:=I.list V;rw[arm_assign_Tuple];refine kg (XD ?_);unfold unpack;rw[F];refine kg (KC ?_);have e:(assignEach es X.env).length=its.toArray.size:=by rw[S,<- Y,J.length];simp
 rw[e];refine W.kun_itemsOf (I.ok.hd O) p.isList fun h' Z=>?_;have I1:Inv X pins σ H { s with heap:=h' }:=I.kept (t':=s.toks) fun b o e=>Z b o (Kj (k6 e)) e;exact h pins _ σ H xs _ Q I1 (by simpa using J) hw
theorem CV {k:Nat}{t:TGs}(hk:X.K=K)(I:X.calm=true)(h:PGs X es t)
  (J:(assignEach es X.env).length=n:=by rfl) (F:(assignEach es X.env).findIdx? (·.1)=none:=by rfl):PG X (.Tuple es k pos) (SJ K n t):=hk ▸ Vy I h J F
end
def bw (x:Int):Int:=if x % 2=0 then x+1 else x-1
theorem LG (x:Int):bw (bw x)=x:=by unfold bw;split<;>split<;>lia
theorem Vz (x:Int):bw x≠x:=by unfold bw;split<;>lia
structure Wa (m:QX)(N:Int):Prop where
 lo:∀x,0<=x->x<N->0<=m x
 hi:∀x,0<=x->x<N->m x<N
 inv:∀x,0<=x->x<N->m (m x)=x
 ne:∀x,0<=x->x<N->m x≠x
 ev:N % 2=0
theorem SK (e:N % 2=0)(h0:0<=x)(h1:x<N):0<=bw x/\bw x<N:=by unfold bw;split<;>omega
def gt (m:QX)(f:Int):Nat->Int
 | 0=>f
 | i+1=>bw (m (gt m f i))
def Gh (m:QX)(f:Int):Nat->List Int
 | 0=>[]
 | i+1=>Gh m f i ++ [gt m f i,m (gt m f i)]
theorem W6 (m:QX)(f:Int):∀i,(Gh m f i).length=2*i
 | 0=>rfl
 | i+1=>by simp only[Gh,ki,W6 m f i,Kk,Xg];lia
theorem Je {m:QX}{f x:Int}:∀{i:Nat},x∈Gh m f i ↔ ∃j,j<i/\(x=gt m f j∨x=m (gt m f j))
 | 0=>by simp[Gh]
 | i+1=>by
  simp only[Gh,Kg,Je (i:=i),kQ,Xb,NY];constructor
  ·rintro(⟨j,h,e⟩ | h)
   ·exact⟨j,by lia,e⟩
   ·exact⟨i,by lia,h⟩
  ·rintro⟨j,h,e⟩;by_cases F:j=i
   ·subst F;exact .inr e
   ·exact .inl ⟨j,by lia,e⟩
section
variable {m:QX}{N f:Int}
theorem YL (M:Wa m N)(h0:0<=f)(h1:f<N):∀i,0<=gt m f i/\gt m f i<N
 | 0=>⟨h0,h1⟩
 | i+1=>by obtain⟨a,b⟩:=YL M h0 h1 i;exact SK M.ev (M.lo _ a b) (M.hi _ a b)
theorem PJ (M:Wa m N)(h0:0<=f)(h1:f<N):∀d j,gt m f (j+d)≠m (gt m f j)
 | 0,j=>fun e=>M.ne _ (YL M h0 h1 j).1 (YL M h0 h1 j).2 e.symm
 | 1,j=>Vz _
 | d+2,j=>fun e=>by
  refine PJ M h0 h1 d (j+1) ?_;have I:bw (m (gt m f (j+d+1)))=m (gt m f j):=e;have J:m (gt m f (j+d+1))=bw (m (gt m f j)):=by rw[<- I,LG]
  have O:gt m f (j+1)=m (gt m f (j+d+1)):=J.symm;have F:=YL M h0 h1 (j+d+1);rw[O,M.inv _ F.1 F.2];congr 1;lia
theorem CW (M:Wa m N)(h0:0<=f)(h1:f<N)(i j:Nat):gt m f i≠m (gt m f j):=by
 by_cases h:j<=i
 ·have:=PJ M h0 h1 (i-j) j
  rwa [show j+(i-j)=i by lia] at this
 ·intro e;refine PJ M h0 h1 (j-i) i ?_;rw[show i+(j-i)=j by lia,e];exact(M.inv _ (YL M h0 h1 j).1 (YL M h0 h1 j).2).symm
theorem SM (M:Wa m N){y:Int}(F:0<=x/\x<N)(I:0<=y/\y<N)(e:m x=m y):x=y:=by rw[<- M.inv x F.1 F.2,e,M.inv y I.1 I.2]
theorem SN (M:Wa m N)(h0:0<=f)(h1:f<N):∀j d,gt m f (j+d)=gt m f j->gt m f d=f
 | 0,d,e=>by simpa [gt] using e
 | j+1,d,e=>by
  refine SN M h0 h1 j d (SM M (YL M h0 h1 _) (YL M h0 h1 _) ?_);have F:bw (m (gt m f (j+d)))=bw (m (gt m f j)):=by
   have:j+1+d=j+d+1:=by lia
   rw[this] at e;exact e
  rw[<- LG (m (gt m f (j+d))),F,LG]
theorem PK (M:Wa m N)(h0:0<=f)(h1:f<N)(F:j<i)(e:gt m f i=gt m f j):gt m f (i-j)=f:=by refine SN M h0 h1 j (i-j) ?_;rw[show j+(i-j)=i by lia];exact e
theorem PM (M:Wa m N)(h0:0<=f)(h1:f<N):∀i,(∀j,1<=j->j<i->gt m f j≠f)->(Gh m f i).Nodup
 | 0,_=>by simp[Gh]
 | i+1,h=>by
  have I:=PM M h0 h1 i fun j a b=>h j a (by lia);show (Gh m f i ++ [gt m f i,m (gt m f i)]).Nodup;rw[qB];refine⟨I,by simp[CW M h0 h1 i i],fun a ha b hb=>?_⟩;obtain⟨j,F,e⟩:=Je.mp ha;have hb:b=gt m f i∨b=m (gt m f i):=by simpa using hb
  intro z;subst z;rcases e with e | e<;>rcases hb with z | z
  ·exact h (i-j) (by lia) (by lia) (PK M h0 h1 F (z.symm.trans e))
  ·exact CW M h0 h1 j i (e.symm.trans z)
  ·exact CW M h0 h1 i j (z.symm.trans e)
  ·exact h (i-j) (by lia) (by lia) (PK M h0 h1 F (SM M (YL M h0 h1 _) (YL M h0 h1 _) (z.symm.trans e)))
theorem SO (M:Wa m N)(h0:0<=f)(h1:f<N)(F:x∈Gh m f i):0<=x/\x<N:=by
 obtain⟨j,_,e | e⟩:=Je.mp F
 ·rw[e];exact YL M h0 h1 j
 ·rw[e];exact⟨M.lo _ (YL M h0 h1 j).1 (YL M h0 h1 j).2,M.hi _ (YL M h0 h1 j).1 (YL M h0 h1 j).2⟩
theorem Wb:∀(n:Nat)(l:QG),l.Nodup->(∀x∈l,0<=x/\x<(n:Int))->l.length<=n
 | 0,l,_,h=>by
  cases l with
  | nil=>simp
  | cons x _=>have:=h x kS;lia
 | n+1,l,nd,h=>by
  by_cases I:(n:Int)∈l
  ·have h1:=Wb n (l.erase (n:Int)) (nd.erase _) fun x F=>by
    have h2:=(nd.mem_erase_iff).mp F;have:=h x h2.2;have:=h2.1;lia
   rw[Ta I] at h1;lia
  ·have h1:=Wb n l nd fun x F=>by
    have:=h x F;have J:x≠(n:Int):=fun z=>I (z ▸ F);lia
   lia
theorem UQ (M:Wa m N)(h0:0<=f)(h1:f<N)(h:∀j,1<=j->j<i->gt m f j≠f):2*(i:Int)<=N:=by
 have:=Wb N.toNat (Gh m f i) (PM M h0 h1 i h) fun x F=>by have:=SO M h0 h1 F;lia
 rw[W6] at this;lia
theorem SQ (M:Wa m N)(h0:0<=f)(h1:f<N)(h:∀j,1<=j->j<i->gt m f j≠f):gt m f i∈Gh m f i ↔ (1<=i/\gt m f i=f):=by
 constructor
 ·intro F;obtain⟨j,I,e | e⟩:=Je.mp F
  ·have:=PK M h0 h1 I e;by_cases z:j=0
   ·subst z;exact⟨by lia,this⟩
   ·exact absurd this (h (i-j) (by lia) (by lia))
  ·exact absurd e (CW M h0 h1 i j)
 ·rintro⟨a,e⟩;exact Je.mpr ⟨0,by lia,.inl e⟩
end
def Jq (m:QX)(f:Int)(T:QG):Prop:=∃L,1<=L/\gt m f L=f/\(∀j,1<=j->j<L->gt m f j≠f)/\T=Gh m f L
theorem Jq.uniq {T':QG}(a:Jq m f T)(b:Jq m f T'):T=T':=by
 obtain⟨L,h1,F,I,rfl⟩:=a;obtain⟨L',h2,J,O,rfl⟩:=b;have:L=L':=by
  rcases NH L L' with z | z | z
  ·exact absurd F (O L h1 z)
  ·exact z
  ·exact absurd J (I L' h2 z)
 rw[this]
theorem Jq.self (a:Jq m f T):f∈T:=by obtain⟨L,h1,F,I,rfl⟩:=a;exact Je.mpr ⟨0,by lia,.inl rfl⟩
theorem Jq.dom (M:Wa m N)(h0:0<=f)(h1:f<N)(a:Jq m f T):∀x∈T,0<=x/\x<N:=by obtain⟨L,_,_,_,rfl⟩:=a;exact fun x F=>SO M h0 h1 F
theorem Jq.nodup (M:Wa m N)(h0:0<=f)(h1:f<N)(a:Jq m f T):T.Nodup:=by obtain⟨L,_,_,n,rfl⟩:=a;exact PM M h0 h1 L n
theorem Jq.len (M:Wa m N)(h0:0<=f)(h1:f<N)(a:Jq m f T):(T.length:Int)<=N:=by obtain⟨L,_,_,n,rfl⟩:=a;have:=UQ M h0 h1 n;rw[W6];lia
theorem Jq.closed (M:Wa m N)(h0:0<=f)(h1:f<N)(a:Jq m f T):∀x∈T,m x∈T/\bw x∈T:=by
 obtain⟨L,S,F,n,rfl⟩:=a;intro x O;obtain⟨j,I,e | e⟩:=Je.mp O
 ·subst e;refine⟨Je.mpr ⟨j,I,.inr rfl⟩,?_⟩;cases j with
  | zero=>
   refine Je.mpr ⟨L-1,by lia,.inr ?_⟩;have:gt m f (L-1+1)=f:=by rw[show L-1+1=L by lia];exact F
   have J:bw (m (gt m f (L-1)))=f:=this;show bw f=_;rw[<- J,LG,J]
  | succ j=>exact Je.mpr ⟨j,by lia,.inr (LG _)⟩
 ·subst e;refine⟨?_,?_⟩
  ·rw[M.inv _ (YL M h0 h1 j).1 (YL M h0 h1 j).2];exact Je.mpr ⟨j,I,.inl rfl⟩
  ·by_cases z:j+1=L
   ·refine Je.mpr ⟨0,by lia,.inl ?_⟩;show gt m f (j+1)=f;rw[z,F]
   ·exact Je.mpr ⟨j+1,by lia,.inl rfl⟩
theorem PN {m:QX}{N f:Int}(M:Wa m N)(h0:0<=f)(h1:f<N){S:QG}(cl:∀x∈S,m x∈S/\bw x∈S)(F:f∉S):∀i,gt m f i∉S/\m (gt m f i)∉S
 | 0=>⟨F,fun h=>F (by
  have:m (m f)∈S:=(cl _ h).1
  rwa [M.inv _ h0 h1] at this)⟩
 | i+1=>by
  have I:=PN M h0 h1 cl F i;have a:gt m f (i+1)∉S:=fun h=>I.2 (by
   have:=(cl _ h).2
   rwa [show bw (gt m f (i+1))=m (gt m f i) from LG _] at this)
  refine⟨a,fun h=>a ?_⟩;have:=(cl _ h).1
  rwa [M.inv _ (YL M h0 h1 (i+1)).1 (YL M h0 h1 (i+1)).2] at this
inductive UK (m:QX):Nat->List QG->Prop
 | nil:UK m 0 []
 | add {i:Nat}{ts:QA}{T:QG}:UK m i ts->(i:Int)∉ts.flatten->Jq m (i:Int) T->UK m (i+1) (ts ++ [T])
 | skip {i:Nat}{ts:QA}:UK m i ts->(i:Int)∈ts.flatten->UK m (i+1) ts
theorem UK.uniq {m:QX}{i:Nat}{ts:QA}(a:UK m i ts):∀{F:QA},UK m i F->ts=F:=by
 induction a with
 | nil=>intro F b;cases b;rfl
 | add a h t ih=>
  intro F b;cases b with
  | add b h' t'=>rw[ih b,t.uniq t']
  | skip b h'=>rw[ih b] at h;exact absurd h' h
 | skip a h ih=>
  intro F b;cases b with
  | add b h' t'=>rw[ih b] at h;exact absurd h h'
  | skip b h'=>exact ih b
theorem UK.mem (a:UK m i ts):∀j:Nat,j<i->(j:Int)∈ts.flatten:=by
 induction a with
 | nil=>intro j F;lia
 | @add i ts T a h t ih=>
  intro j F;rw[qY,Kg];by_cases e:j=i
  ·subst e;exact .inr (by simpa using t.self)
  ·exact .inl (ih j (by lia))
 | @skip i ts a h ih=>
  intro j F;by_cases e:j=i
  ·subst e;exact h
  ·exact ih j (by lia)
theorem UK.good (M:Wa m N)(a:UK m i ts)(hi:(i:Int)<=N):ts.flatten.Nodup/\(∀x∈ts.flatten,0<=x/\x<N)/\(∀x∈ts.flatten,m x∈ts.flatten/\bw x∈ts.flatten):=by
 induction a with
 | nil=>simp
 | @add i ts T a h t ih=>
  obtain⟨n,d,c⟩:=ih (by lia);have h0:(0:Int)<=(i:Int):=by lia
  have h1:(i:Int)<N:=by lia
  rw[qY];have e:[T].flatten=T:=by simp
  rw[e];refine⟨?_,fun x F=>?_,fun x F=>?_⟩
  ·rw[qB];refine⟨n,t.nodup M h0 h1,fun a ha b hb z=>?_⟩;subst z;obtain⟨L,_,_,_,rfl⟩:=t;obtain⟨j,_,e | e⟩:=Je.mp hb
   ·exact(PN M h0 h1 c h j).1 (e ▸ ha)
   ·exact(PN M h0 h1 c h j).2 (e ▸ ha)
  ·rcases Kg.mp F with z | z
   ·exact d x z
   ·exact t.dom M h0 h1 x z
  ·rw[Kg,Kg];rcases Kg.mp F with z | z
   ·exact⟨.inl (c x z).1,.inl (c x z).2⟩
   ·exact⟨.inr (t.closed M h0 h1 x z).1,.inr (t.closed M h0 h1 x z).2⟩
 | skip a h ih=>exact ih (by lia)
theorem UK.jump {m:QX}{ts:QA}{i:Nat}(a:UK m i ts):∀d:Nat,(∀j:Nat,i<=j->j<i+d->(j:Int)∈ts.flatten)->UK m (i+d) ts
 | 0,_=>a
 | d+1,h=>by have:=UK.jump a d fun j x y=>h j x (by lia);exact UK.skip this (h (i+d) (by lia) (by lia))
theorem UK.len (M:Wa m N)(a:UK m i ts)(hi:(i:Int)<=N):ts.length<=i:=by
 induction a with
 | nil=>simp
 | add a h t ih=>have:=ih (by lia);simp;lia
 | skip a h ih=>have:=ih (by lia);lia
def rowAt (ls:QB)(t:Nat):QG:=(rb (ls.take t)).1
def YK (ls:QB)(t:Nat):Int×Int:=((rowAt ls t).getD ((ls.getD t ("", 0)).2.toNat) 0,(rowAt ls t).getD ((ls.getD t ("", 0)).2.toNat+1) 0)
def UP:Str->Bool:=fun x=>decide (x = "end")
def JE (ls:QB)(i:Nat):QL:=(Ym ls UP i).map fun t=>YK ls t.toNat
def ZK (ps:QL):QG:=ps.flatMap fun p=>[p.1,p.2]
theorem Ji (a b:QL):ZK (a++b)=ZK a++ZK b:=by simp[ZK]
theorem UW (ps:QL):(ZK ps).length=2*ps.length:=by
 induction ps with
 | nil=>rfl
 | cons p r ih=>
  have:ZK (p::r) = [p.1,p.2]++ZK r:=by simp[ZK]
  rw[this,ki,ih];simp;lia
theorem GN (ls:QB)(i:Nat):JE ls (i+1)=JE ls i++(if isK ls UP i=true then[YK ls i] else[]):=by unfold JE;rw[GO,kP];by_cases h:isK ls UP i=true<;>simp[h]
def N1 (n:Nat):QG:=(List.range n).map fun(x:Nat)=>(x:Int)
theorem VA (n:Nat):N1 (n+2)=N1 n ++ [(n:Int),(n:Int)+1]:=by unfold N1;rw[KN,KN];simp
theorem YV :x∈N1 n ↔ 0<=x/\x<(n:Int):=by
 unfold N1;rw[Kw];constructor
 ·rintro⟨a,h,rfl⟩;have:=Ku.mp h;lia
 ·rintro⟨h0,h1⟩;exact⟨x.toNat,Ku.mpr (by lia),by lia⟩
theorem GQ (n:Nat):(N1 n).Nodup:=by unfold N1;rw[K0,Xm];exact(K0.mp TB).imp fun h e=>h (by lia)
theorem U2 (n:Nat):(N1 n).length=n:=by simp[N1]
theorem CY (r:QG)(k:Nat)(h:k+1<r.length):r=r.take k ++ [r.getD k 0,r.getD (k+1) 0]++r.drop (k+2):=by
 have F:r.drop k=r[k]::r.drop (k+1):=K6 (by lia);have I:r.drop (k+1)=r[k+1]::r.drop (k+2):=K6 h;have e:r.take k++r.drop k=r:=KP k r;rw[F,I] at e;have h1:r.getD k 0=r[k]:=by simp[show k<r.length by lia]
 have h2:r.getD (k+1) 0=r[k+1]:=by simp[h]
 rw[h1,h2];simpa using e.symm
theorem VB (r:QG)(k:Nat)(h:k+1<r.length):Um r k=r.take k ++ [r.getD (k+1) 0,r.getD k 0]++r.drop (k+2):=by
 have F:(r.take k).length=k:=by rw[kK];lia
 unfold Um;generalize ha:r.getD k 0=a;generalize hb:r.getD (k+1) 0=b;have e:=CY r k h;rw[ha,hb] at e;generalize r.take k=p at e F ⊢;generalize r.drop (k+2)=q at e ⊢;subst e;rw[Kl,Mx _ _ (by lia),F,Mx _ _ (by lia),F];simp
theorem DT {ls:QB}(W:Wk ls 0):∀i,i<=ls.length->0<=(rb (ls.take i)).2/\(rb (ls.take i)).2 % 2=0/\(rowAt ls i++ZK (JE ls i)).Perm (N1 (rb (ls.take i)).2.toNat)
 | 0,_=>by
  refine⟨qV _,rfl,?_⟩;exact List.Perm.refl _
 | i+1,hi=>by
  obtain⟨J,O,V⟩:=DT W i (by omega);have Y:ls[i]? = some ls[i]:=by simp[show i<ls.length by omega]
  obtain⟨tk,c⟩:=Du W Y;have Z:ls.getD i ("", 0)=ls[i]:=by simp[show i<ls.length by omega]
  unfold rowAt at V ⊢;generalize hp:ls[i]=p at *;obtain⟨S,pk⟩:=p;rw[tk,YJ,GN];have kk:∀pr:Str->Bool,isK ls pr i=pr S:=fun pr=>by unfold isK;rw[Y];cases h:pr S<;>simp[h]
  rw[kk];rcases c with⟨e,I,b1⟩ | ⟨e,I,b1⟩ | ⟨e,I,b1⟩
  ·have e:S = "born" := e;subst e;rw[Gb];have U:UP "born" = false:=by unfold UP;decide +kernel
   rw[U];simp only[qO,XM,KY];generalize hr:rb (ls.take i)=s at *;obtain⟨r,b⟩:=s;refine⟨by omega,by omega,?_⟩;have e2:(b+2).toNat=b.toNat+2:=by omega
   rw[e2,VA];have e3:((b.toNat:Nat):Int)=b:=by omega
   rw[e3];have p1:(r.take pk.toNat ++ [b,b+1]++r.drop pk.toNat).Perm (r ++ [b,b+1]):=by rw[Kl];refine(Xc _ Tt).trans ?_;rw[<- Kl,KP]
   refine(p1.append_right _).trans ?_;rw[Kl];refine(Xc _ Tt).trans ?_;rw[<- Kl];exact V.append_right _
  ·have e:S = "cross" := e;subst e;rw[Wc];have U:UP "cross" = false:=by unfold UP;decide +kernel
   rw[U];simp only[qO,XM,KY];refine⟨J,O,?_⟩;have hk:pk.toNat+1<(rb (ls.take i)).1.length:=by have b1:pk+1<_:=b1;have I:0<=pk:=I;omega
   refine List.Perm.trans ?_ V;refine Mg _ ?_;rw[VB _ _ hk]
   conv=>rhs;rw[CY _ _ hk]
   exact Mg _ (Xc _ (List.Perm.swap _ _ _))
  ·have e:S = "end" := e;subst e;rw[Ur];have U:UP "end" = true:=by unfold UP;simp
   rw[U];simp only[TF];refine⟨J,O,?_⟩;have hk:pk.toNat+1<(rb (ls.take i)).1.length:=by have b1:pk+1<_:=b1;have I:0<=pk:=I;omega
   refine List.Perm.trans ?_ V;rw[Ji];have pr:ZK [YK ls i] = [(rb (ls.take i)).1.getD pk.toNat 0,(rb (ls.take i)).1.getD (pk.toNat+1) 0]:=by unfold YK rowAt;rw[Z];simp[ZK]
   rw[pr]
   conv=>rhs;rw[CY _ _ hk]
   generalize (rb (ls.take i)).1.take pk.toNat=A;generalize (rb (ls.take i)).1.drop (pk.toNat+2)=B;generalize [(rb (ls.take i)).1.getD pk.toNat 0,(rb (ls.take i)).1.getD (pk.toNat+1) 0]=C;generalize ZK (JE ls i)=F;rw[Kl,Kl,Kl];refine Xc _ ?_;rw[<- Kl];exact Tt
def Jb (ls:QB):QL:=JE ls ls.length
def Jp (ls:QB):Nat:=2*(Jb ls).length
theorem W8 (F:Wk ls 0):(ZK (Jb ls)).Perm (N1 (Jp ls)):=by
 obtain⟨h0,h1,h2⟩:=DT F ls.length (km _);have e:rowAt ls ls.length = []:=by unfold rowAt;rw[kL (km _)];have:=LD F;exact qw.mp (by lia)
 rw[e,Xz] at h2;have I:=h2.length_eq;rw[U2,UW] at I;show (ZK (JE ls ls.length)).Perm (N1 (2*(JE ls ls.length).length));rw[I];exact h2
def JB:List (Int×Int)->Int->Int
 | [],_=>0
 | p::r,x=>if x=p.1 then p.2 else if x=p.2 then p.1 else JB r x
theorem DU:∀{ps:QL}{u l:Int},(ZK ps).Nodup->(u,l)∈ps->JB ps u=l/\JB ps l=u
 | [],_,_,_,h=>by cases h
 | p::r,u,l,nd,h=>by
  have e:ZK (p::r)=p.1::p.2::ZK r:=by simp[ZK]
  rw[e] at nd;obtain⟨F,I⟩:=KL.mp nd;obtain⟨O,J⟩:=KL.mp I;rcases kQ.mp h with z | z
  ·subst z;refine⟨by simp[JB],?_⟩;have:l≠u:=fun z=>F (by simp[z]);simp[JB,this]
  ·have S:u∈ZK r:=KO.mpr ⟨(u,l),z,by simp⟩;have U:l∈ZK r:=KO.mpr ⟨(u,l),z,by simp⟩;have V:=DU J z;have a1:u≠p.1:=fun z=>F (kX _ (z ▸ S));have a2:u≠p.2:=fun z=>O (z ▸ S);have W:l≠p.1:=fun z=>F (kX _ (z ▸ U));have Y:l≠p.2:=fun z=>O (z ▸ U);simp only[JB,a1,a2,W,Y,XM];exact V
theorem PQ {ps:QL}(nd:(ZK ps).Nodup){u l:Int}(h:(u,l)∈ps):u≠l:=by
 induction ps with
 | nil=>cases h
 | cons p r ih=>
  have e:ZK (p::r)=p.1::p.2::ZK r:=by simp[ZK]
  rw[e] at nd;obtain⟨J,F⟩:=KL.mp nd;obtain⟨O,I⟩:=KL.mp F;rcases kQ.mp h with z | z
  ·subst z;intro z;exact J (by simp[z])
  ·exact ih I z
theorem WQ (O:Wk ls 0):Wa (JB (Jb ls)) (Jp ls):=by
 have pm:=W8 O;have nd:(ZK (Jb ls)).Nodup:=pm.nodup_iff.mpr (GQ _);have get:∀x:Int,0<=x->x<(Jp ls:Int) -> ∃u l,(u,l)∈Jb ls/\(x=u∨x=l):=fun x h0 h1=>by have:x∈ZK (Jb ls):=pm.mem_iff.mpr (YV.mpr ⟨h0,h1⟩);obtain⟨p,S,U⟩:=KO.mp this;exact⟨p.1,p.2,S,by simpa using U⟩
 have dom:∀u l,(u,l)∈Jb ls->(0<=u/\u<(Jp ls:Int))/\(0<=l/\l<(Jp ls:Int)):=fun u l h=>
  ⟨YV.mp (pm.mem_iff.mp (KO.mpr ⟨(u,l),h,by simp⟩)),YV.mp (pm.mem_iff.mp (KO.mpr ⟨(u,l),h,by simp⟩))⟩
 refine⟨fun x h0 h1=>?_,fun x h0 h1=>?_,fun x h0 h1=>?_,fun x h0 h1=>?_,by unfold Jp;lia⟩
 all_goals
  obtain⟨u,l,F,rfl | rfl⟩:=get x h0 h1
  all_goals
   obtain⟨a,b⟩:=DU nd F;obtain⟨I,J⟩:=dom _ _ F;have ne:=PQ nd F
   first
    | (rw[a];exact J.1)
    | (rw[b];exact I.1)
    | (rw[a];exact J.2)
    | (rw[b];exact I.2)
    | (rw[a,b])
    | (rw[b,a])
    | (rw[a];exact KA ne)
    | (rw[b];exact ne)
theorem VC (h:0<=x):Builtin.bitXor x 1=bw x:=by
 obtain⟨n,rfl⟩:=kF h;unfold bw;have F:Builtin.bitOr (n:Int) 1=((n ||| 1:Nat):Int):=by
  have I:decide (0<=Builtin.bitNot (n:Int))=false:=by unfold Builtin.bitNot;rw[decide_eq_false_iff_not];omega
  have J:decide (0<=Builtin.bitNot (1:Int))=false:=by decide
  have O:(Builtin.bitNot (Builtin.bitNot (n:Int))).toNat=n:=by unfold Builtin.bitNot;omega
  have S:(Builtin.bitNot (Builtin.bitNot (1:Int))).toNat=1:=by decide
  unfold Builtin.bitOr Builtin.bitAnd;rw[I,J];simp only[O,S];unfold Builtin.bitNot;omega
 have ha:Builtin.bitAnd (n:Int) 1=((n &&& 1:Nat):Int):=by unfold Builtin.bitAnd;simp
 unfold Builtin.bitXor;rw[F,ha];have h1:n &&& 1=n % 2:=Lh n;have h2:n ||| 1=n+1-n % 2:=by
  have d:(n ||| 1) / 2=n / 2:=by rw[Nat.or_div_two];simp
  have m:(n ||| 1) % 2=1:=Nat.or_mod_two_eq_one.mpr (.inr rfl);omega
 rw[h1,h2];split<;>omega
section
variable {X:Cx}
inductive SR(K:QF)(x y:V)(H:Hp)(Q:VK):Prop|mk(p q:Addr)(xs:QH)(_:x = .ref p)(_:y = .ref q)(_:Zr K H p xs)(_:Zr K H q [])(_:Q (.bl (!xs.isEmpty)) H)
theorem VD (hu:X.A.units+64<cLine):Uo X (compareOp .NotEq) (SR X.K):=by
 intro pins s σ H x y v u Q I S U h;obtain⟨p,q,xs,rfl,rfl,V,W,F⟩:=h;cases S;cases U;obtain⟨its,Y,J,_⟩:=I.list V;obtain⟨O,Z,p2,_⟩:=I.list W;have l1:=Y.length;have l2:=Z.length;cases xs with
 | nil=>
  refine Nl (e:=fun _=>true) J.isList p2.isList (by simp only[kr];lia) (by lia) (fun j h1 h2=>?_) X.prog X.w _ _ ⟨.bl false,H,I,?_,F⟩
  ·rw[kr] at h1;have:its.length=0:=by simpa using l1.symm
   lia
  ·show Value.bool _=Value.bool false;simp
 | cons z zs=>
  refine Nm J.isList p2.isList (by simp only[kr];rw[XQ];simp at l1 l2;lia) (by lia) X.prog X.w _ _ ⟨.bl true,H,I,rfl,F⟩
theorem SS (h:X.K=K)(F:X.A.units+64<cLine):Uo X (compareOp .NotEq) (SR K):=h ▸ VD F
theorem PR (h:X.K=K:=by rfl):Uo X (compareOp .In) (rIn K false):=h ▸ Hs
theorem SU (h:X.K=K:=by rfl):Uo X (compareOp .NotIn) (rIn K true):=h ▸ Ht
end
theorem DW {ns:QG}:inV (.int x) (ns.map V.int)=decide (x∈ns):=by
 unfold inV
 induction ns with
 | nil=>simp
 | cons n ns ih=>
  rw[Ko,X0,ih];have e:eqV (V.int n) (V.int x)=decide (n=x):=by unfold eqV;by_cases h:n=x<;>simp[h]
  rw[e,<- Bool.decide_or];exact qP.mpr (by rw[kQ];exact⟨fun h=>h.imp Eq.symm id,fun h=>h.imp Eq.symm id⟩)
def JS (H:Hp)(ys:QH)(ps:QL):Prop:=Paired (fun v (p:Int×Int)=>∃a,v=V.ref a/\H a=some (.tup [.int p.1,.int p.2])) ys ps
theorem JS.mono {H H':Hp}(h:∀t p,H t=some (.tup p)->H' t=some (.tup p)):∀{xs:QH}{ps:QL},JS H xs ps->JS H' xs ps
 | _,_,.nil=>.nil
 | _,_,.cons ⟨t,e,q⟩ r=>.cons ⟨t,e,h t _ q⟩ (JS.mono h r)
theorem JS.len {ps:QL}(h:JS H xs ps):xs.length=ps.length:=qp h
theorem JS.get {H:Hp}:∀{xs:QH}{ps:QL}{i:Nat}{x:V},JS H xs ps->xs[i]? = some x -> ∃p t,ps[i]? = some p/\x = .ref t/\H t=some (.tup [.int p.1,.int p.2])
 | _,_,_,_,.nil,e=>by simp at e
 | _,_,0,_,.cons ⟨t,e1,q⟩ _,e=>by simp at e;subst e;exact⟨_,t,rfl,e1,q⟩
 | _,_,i+1,x,.cons _ r,e=>by obtain⟨p,t,h1,h2⟩:=JS.get (i:=i) (x:=x) r (by simpa using e);exact⟨p,t,by simpa using h1,h2⟩
theorem JS.snoc {H:Hp}{xs:QH}{ps:QL}{t:Addr}{p:Int×Int}(h:JS H xs ps)(e:H t=some (.tup [.int p.1,.int p.2])):JS H (xs ++ [.ref t]) (ps ++ [p]):=Ti h ⟨t,rfl,e⟩
theorem YR.at {H:Hp}:∀{xs:QH}{rs:QA}{i:Nat}{r:QG},YR H xs rs->rs[i]? = some r -> ∃p,xs[i]? = some (.ref p)/\H p=some (.lst (r.map V.int))
 | _,_,_,_,.nil,e=>by simp at e
 | _,_,0,_,.cons ⟨t,e1,q⟩ _,e=>by simp at e;subst e;exact⟨t,by simp[e1],q⟩
 | _,_,i+1,r,.cons _ rr,e=>by obtain⟨p,h1,h2⟩:=YR.at (i:=i) (r:=r) rr (by simpa using e);exact⟨p,by simpa using h1,h2⟩
theorem YR.atX {H:Hp}:∀{xs:QH}{rs:QA}{i:Nat}{x:V},YR H xs rs->xs[i]? = some x -> ∃(p:Addr)(r:QG),rs[i]? = some r/\x = .ref p/\H p=some (.lst (r.map V.int))
 | _,_,_,_,.nil,e=>by simp at e
 | _,_,0,_,.cons ⟨t,e1,q⟩ _,e=>by simp at e;subst e;exact⟨t,_,rfl,e1,q⟩
 | _,_,i+1,x,.cons _ r,e=>by obtain⟨p,q,h1,h2⟩:=YR.atX (i:=i) (x:=x) r (by simpa using e);exact⟨p,q,by simpa using h1,h2⟩
theorem CZ (ls:QB)(h:i<n):(rowsOf ls n)[i]? = some (rowAt ls i):=by unfold rowsOf rowAt;rw[kE];simp[h]
theorem DX (J:Wk ls 0){t:Nat}{q:Str×Int}(I:ls[t]? = some q)(hb:q.1 ≠ "born"):0<=q.2/\q.2.toNat+1<(rowAt ls t).length/\YK ls t=((rowAt ls t).getD q.2.toNat 0,(rowAt ls t).getD (q.2.toNat+1) 0):=by
 obtain⟨_,c⟩:=Du J I;have O:ls.getD t ("", 0)=q:=by simp[I]
 have e:YK ls t=((rowAt ls t).getD q.2.toNat 0,(rowAt ls t).getD (q.2.toNat+1) 0):=by unfold YK;rw[O]
 rcases c with⟨z,_⟩ | ⟨_,F,b1⟩ | ⟨_,F,b1⟩
 ·exact absurd z hb
 ·exact⟨F,by unfold rowAt;lia,e⟩
 ·exact⟨F,by unfold rowAt;lia,e⟩
theorem W0 {ns:QG}{x:V}(h:(ns.map V.int)[i]? = some x):∃t,ns[i]? = some t/\x=V.int t:=by
 rw[kE] at h;cases e:ns[i]? with
 | none=>rw[e] at h;cases h
 | some z=>rw[e] at h;exact⟨z,rfl,(k9 h).symm⟩
theorem Jm {α β:Type}{ns:List α}{t:α}(f:α -> β)(h:ns[i]? = some t):(ns.take (i+1)).map f=(ns.take i).map f ++ [f t]:=by rw[Ki,h];simp
theorem SV {pr:Str->Bool}(h:x∈Ym ls pr n):0<=x/\x.toNat<n /\ ∃q,ls[x.toNat]? = some q/\pr q.1=true:=by
 unfold Ym at h;obtain⟨i,hi,e⟩:=KZ.mp h;have F:=Ku.mp hi;by_cases hk:isK ls pr i=true
 ·rw[kj hk] at e;have e:(i:Int)=x:=k9 e;subst e;refine⟨by lia,by simpa using F,?_⟩;unfold isK at hk;cases hq:ls[i]? with
  | none=>rw[hq] at hk;cases hk
  | some q=>
   rw[hq] at hk;refine⟨q,by simpa using hq,by simpa using hk⟩
 ·rw[kh hk] at e;cases e
theorem WM (F:ls.length<=60):Jp ls<=120:=by unfold Jp Jb JE;rw[ke];have:=WE ls UP ls.length;lia
section
variable {X:Cx}{pins:QC}{σ:St}{H:Hp}{s:Shared}
theorem Inv.keptN {h':Heap}{m:QN}(I:Inv X pins σ H s)(F:Fr X.base X.env.locals s.heap m)(F':Fr X.base X.env.locals h' m)
  (N':News X.base X.env.locals h' (W5 X.base s.heap X.env.locals)):Inv X pins σ H { s with heap:=h',toks:=t' }:=by
 have kp:∀b u,b≠X.env.locals->s.heap.get? b=some u->h'.get? b=some u:=fun b u hb e=>by
  cases q:X.base.get? b with
  | some v=>
   have U:=F'.keep b v q;have S:=F.keep b v q;rw[e] at S;cases S;exact U
  | none=>exact(N' (b,u) (Us hb q e)).1
 have J:∀b u,H b=some u->b≠X.env.locals:=fun b u e z=>by rw[z,I.free] at e;cases e
 refine I.step (g':=s.gens) (d':=s.drawn) (ch:=[]) (fun _ z=>nomatch z) (fun b ob hb _ _ e _=>kp b ob hb e) (fun b ob hb _ _ e _=>⟨ob.slots,kp b ob hb e⟩) (fun b ob _ e n=>n) (fun b ob _ e=>?_) (fun b xs e=>e) (fun b ob u e=>e) (fun b ps e=>⟨#[],by rw[e];simp⟩) (fun Y V=>?_) (fun b u e=>?_) I.bare
 ·by_cases hb:b=X.env.locals
  ·subst hb;obtain⟨O,_,_,z,_⟩:=F'.ns;exact⟨O,z⟩
  ·exact⟨ob,kp b ob hb e⟩
 ·rw[SH V F.ns];exact F'.ns
 ·refine(I.hok b u e).stay (fun c v W q=>kp c v ?_ q) (fun c q=>q) fun c xs q=>q;rcases W with z | z
  ·subst z;exact J _ u e
  ·exact J c _ z
end
section
variable {X:Cx}
inductive SW(K:QF)(xs:QH)(H:Hp)(Q:VK):Prop|mk(p:Addr)(ns:QG)(_:xs = [.ref p])(_:Zr K H p (ns.map V.int))(_:Q (.int ns.sum) H)
theorem VE (O:X.calm=true):YU X (.builtin "sum") (SW X.K):=by intro pins s σ H xs us Q I r h;obtain⟨p,ns,rfl,S,q⟩:=h;obtain⟨u,rfl,U⟩:=r.one;cases U;obtain⟨its,V,W,hz⟩:=I.list S;obtain⟨m,fr⟩:=I.fr;refine LSm.sum_ints fr (news:=W5 X.base s.heap X.env.locals) IU (I.ok.hd O) W.isList (GB V) fun h' tk t' F J=>?_;exact⟨.int ns.sum,H,I.keptN fr F J,⟨t',rfl⟩,q⟩
theorem SX (h:X.K=K)(F:X.calm=true):YU X (.builtin "sum") (SW K):=h ▸ VE F
end
theorem VF (h:0<=x):Builtin.bitAnd x 1=x % 2:=by
 obtain⟨n,rfl⟩:=kF h;have ha:Builtin.bitAnd (n:Int) 1=((n &&& 1:Nat):Int):=by unfold Builtin.bitAnd;simp
 rw[ha,Lh];omega
end L2
namespace L2
open PySem PySem.Spec PyProof.Rows PyProof.V
def Itz (K:QF)(a b:Addr):It:=
  ⟨fun i H=>∃xs ys x y,Zr K H a xs/\Zr K H b ys/\xs[i]? = some x/\ys[i]? = some y,
   fun i H v H'=>∃p x y,v = .ref p/\H p=none/\H'=upd H p (.tup [x,y])/\(∀xs,Zr K H a xs->xs[i]? = some x)/\(∀ys,Zr K H b ys->ys[i]? = some y),
   fun i H=>∃xs ys,Zr K H a xs/\Zr K H b ys/\(xs.length<=i∨ys.length<=i)⟩
theorem VG {P:Program}{w:World}{K:QF}{es:QV}{k:Nat}{pos:Pos}(a b z TI TO i1 i2:Addr)(ap:ZipApart z TI TO i1 i2 a b):
  Turn P w K (.Tuple es k pos) (Itz K a b) [z,TI,TO,i1,i2] z (fun i h=>IsZip h z TI TO .none/\IsPair h TI (.ref i1) (.ref i2)/\(∃u v,IsPair h TO u v)/\h.IsListIter i1 a i/\h.IsListIter i2 b i) where
 mem:=by simp
 obj:=fun i h st c F=>by
  obtain⟨h1,h2,⟨u,v,h3⟩,⟨o1,t9,c1,d1⟩,⟨o2,tj,c2,d2⟩⟩:=st;simp only[kQ,Xb,NY] at F;rcases F with e | e | e | e | e
  ·subst e;exact⟨_,h1,fun v z=>by have z':Data.fields _=Data.cell v:=z;cases z'⟩
  ·subst e;exact⟨_,h2,fun v z=>by have z':Data.seq _ _=Data.cell v:=z;cases z'⟩
  ·subst e;exact⟨_,h3,fun v z=>by have z':Data.seq _ _=Data.cell v:=z;cases z'⟩
  ·subst e;exact⟨o1,t9,fun v z=>by rw[d1] at z;cases z⟩
  ·subst e;exact⟨o2,tj,fun v z=>by rw[d2] at z;cases z⟩
 keep:=fun i h h' st k=>by obtain⟨h1,h2,⟨u,v,h3⟩,h4,h5⟩:=st;exact⟨k z (by simp) _ h1,k TI (by simp) _ h2,⟨u,v,k TO (by simp) _ h3⟩,h4.at fun o x=>k i1 (by simp) o x,h5.at fun o x=>k i2 (by simp) o x⟩
 item:=by
  intro X hP hw hK F i pins s σ H E I W st hg;subst hP hw hK;obtain⟨xs,ys,x,y,bM,cq,hx,hy⟩:=hg;obtain⟨i5,gH,p1,eB⟩:=I.list bM;obtain⟨aU,gI,p2,cu⟩:=I.list cq;obtain⟨u,hu,ru⟩:=gH.get hx;obtain⟨v,hv,rv⟩:=gI.get hy;obtain⟨h1,h2,⟨oa,ob,h3⟩,h4,h5⟩:=st;refine wpAny_pyNext_zip_item ap h1 h2 h3 h4 h5 p1.isList p2.isList (x:=u) (y:=v) (by simpa using hu) (by simpa using hv) fun h' g1 g2 g3 g4 g5 hsz kk=>⟨_,rfl,?_⟩;refine wpAny_letOwnedTupleGo_zip (s:={ s with heap:=h' }) g1 fun b9 e1 Y=>?_;have lt:∀c ∈ [z,TI,TO,i1,i2],@LT.lt Nat _ c s.heap.objs.size:=fun c F=>by
   simp only[kQ,Xb,NY] at F;rcases F with e | e | e | e | e
   ·subst e;exact aLt h1
   ·subst e;exact aLt h2
   ·subst e;exact aLt h3
   ·subst e;obtain⟨o,ho,_⟩:=h4;exact aLt ho
   ·subst e;obtain⟨o,ho,_⟩:=h5;exact aLt ho
  have Z:∀c o,c≠z->c≠TO->c≠i1->c≠i2->s.heap.get? c=some o->b9.get? c=some o:=fun c o O S U V q=>(Y.2 c O).trans (kk c o O S U V q);have eC:∀c o,H c=some o->c≠z/\c≠TO/\c≠i1/\c≠i2:=fun c o q=>by
   refine⟨fun e=>?_,fun e=>?_,fun e=>?_,fun e=>?_⟩
   ·rw[e,(W z (by simp)).1] at q;cases q
   ·rw[e,(W TO (by simp)).1] at q;cases q
   ·rw[e,(W i1 (by simp)).1] at q;cases q
   ·rw[e,(W i2 (by simp)).1] at q;cases q
  have fr:H s.heap.objs.size=none:=I.hok.fresh (km _);have hT:b9.get? s.heap.objs.size=some { cls:=.type "tuple", data:=.seq #[u,v] }:=(Y.2 _ (Xj (lt z (by simp)))).trans g5;have nT:∀c o,s.heap.get? c=some o->c≠s.heap.objs.size:=fun c o q=>Kj (aLt q);have b8:HOk X.prog X.w (upd H s.heap.objs.size (.tup [x,y])) b9:=fun c o q=>by
   by_cases hb:c=s.heap.objs.size
   ·subst hb;rw[Zd] at q;cases q;exact⟨show 2<=sizeLine by decide,[u,v],.cons ru (.cons rv .nil),⟨_,hT,rfl,_,rfl⟩⟩
   ·rw[Zi hb] at q;refine(I.hok c o q).stay (fun d v hd r=>?_) (fun d r=>by rw[Zi (Zg r fr)];exact r) fun d xs r=>by rw[Zi (Zg r fr)];exact r
    rcases hd with e | e
    ·subst e;obtain⟨O,S,U,V⟩:=eC d o q;exact Z d v O S U V r
    ·obtain⟨O,S,U,V⟩:=eC d _ e;exact Z d v O S U V r
  have J:∀c,c ∉ [z,TI,TO,i1,i2]->c≠z/\c≠TO/\c≠i1/\c≠i2:=fun c F=>by simp only[kQ,Xb,NY,not_or] at F;exact⟨F.1,F.2.2.1,F.2.2.2.1,F.2.2.2.2⟩
  have I1:Inv X pins σ (upd H s.heap.objs.size (.tup [x,y])) { s with heap:=b9,gens:=s.gens,drawn:=s.drawn,toks:=s.toks }:=by
   refine I.step (ch:=[z,TI,TO,i1,i2]) (fun c F=>?_) (fun c o _ _ F q _=>?_) (fun c o _ _ F q _=>⟨o.slots,?_⟩)
    (fun c o _ q n=>by rw[Zi (nT c o q)];exact n) (fun c o F q=>⟨o,?_⟩) (fun c xs q=>by rw[Zi (Zg q fr)];exact q) (fun c o u q=>by rw[Zi (Zg q fr)];exact q)
    (fun c ps q=>⟨#[],by rw[Zi (Zg q fr),q];simp⟩) (fun m hm=>?_) b8 I.bare
   ·obtain⟨f0,f1,f2,f3,f4,f5⟩:=W c F;exact⟨f3,f1,f4,f5⟩
   ·obtain⟨O,S,U,V⟩:=J c F;exact Z c o O S U V q
   ·obtain⟨O,S,U,V⟩:=J c F;exact Z c o O S U V q
   ·obtain⟨O,S,U,V⟩:=J c F;exact Z c o O S U V q
   ·obtain⟨o,es,ep,ho,r⟩:=hm;exact⟨o,es,ep,Z _ o (KA (W z (by simp)).2.1) (KA (W TO (by simp)).2.1) (KA (W i1 (by simp)).2.1) (KA (W i2 (by simp)).2.1) ho,r⟩
  refine⟨.ref s.heap.objs.size,_,I1,rfl,⟨s.heap.objs.size,x,y,rfl,fr,rfl,fun zs hz=>by rw[I.list_inj hz bM];exact hx,fun zs hz=>by rw[I.list_inj hz cq];exact hy⟩,
   ⟨e1,Z TI _ ap.TIz ap.TITO ap.TIi1 ap.TIi2 h2,⟨u,v,(Y.2 TO ap.TOz).trans g2⟩,g3.at fun o q=>(Y.2 i1 ap.i1z).trans q,g4.at fun o q=>(Y.2 i2 ap.i2z).trans q⟩,fun c F=>?_⟩
  rw[Zi (Kj (lt c F))];exact(W c F).1
 done:=by
  intro X hP hw hK F i pins s σ H E I W st hg;subst hP hw hK;obtain⟨xs,ys,bM,cq,hx⟩:=hg;obtain⟨i5,gH,p1,eB⟩:=I.list bM;obtain⟨aU,gI,p2,cu⟩:=I.list cq;obtain⟨h1,h2,⟨oa,ob,h3⟩,h4,h5⟩:=st;have l1:=gH.length;have l2:=gI.length;refine wpAny_pyNext_zip_end (I.ok.hd F) ap h1 h2 h3 h4 h5 p1.isList p2.isList (by rcases hx with e | e;exact .inl (by simp;lia);exact .inr (by simp;lia)) fun h' kk=>⟨rfl,?_⟩;have eC:∀c o,H c=some o->c≠z/\c≠TO/\c≠i1/\c≠i2:=fun c o q=>by
   refine⟨fun e=>?_,fun e=>?_,fun e=>?_,fun e=>?_⟩
   ·rw[e,(W z (by simp)).1] at q;cases q
   ·rw[e,(W TO (by simp)).1] at q;cases q
   ·rw[e,(W i1 (by simp)).1] at q;cases q
   ·rw[e,(W i2 (by simp)).1] at q;cases q
  have J:∀c,c ∉ [z,TI,TO,i1,i2]->c≠z/\c≠TO/\c≠i1/\c≠i2:=fun c F=>by simp only[kQ,Xb,NY,not_or] at F;exact⟨F.1,F.2.2.1,F.2.2.2.1,F.2.2.2.2⟩
  have b8:HOk X.prog X.w H h':=fun c o q=>by
   refine(I.hok c o q).stay (fun d v hd r=>?_) (fun d r=>r) fun d xs r=>r;rcases hd with e | e
   ·subst e;obtain⟨O,S,U,V⟩:=eC d o q;exact kk d v O S U V r
   ·obtain⟨O,S,U,V⟩:=eC d _ e;exact kk d v O S U V r
  refine I.step (g':=s.gens) (d':=s.drawn) (t':=s.toks) (ch:=[z,TI,TO,i1,i2]) (fun c F=>?_) (fun c o _ _ F q _=>?_) (fun c o _ _ F q _=>⟨o.slots,?_⟩)
    (fun c o _ q n=>n) (fun c o F q=>⟨o,?_⟩) (fun c xs q=>q) (fun c o u q=>q) (fun c ps q=>⟨#[],by rw[q];simp⟩) (fun m hm=>?_) b8 I.bare
  ·obtain⟨f0,f1,f2,f3,f4,f5⟩:=W c F;exact⟨f3,f1,f4,f5⟩
  ·obtain⟨O,S,U,V⟩:=J c F;exact kk c o O S U V q
  ·obtain⟨O,S,U,V⟩:=J c F;exact kk c o O S U V q
  ·obtain⟨O,S,U,V⟩:=J c F;exact kk c o O S U V q
  ·obtain⟨o,es,ep,ho,r⟩:=hm;exact⟨o,es,ep,kk _ o (KA (W z (by simp)).2.1) (KA (W TO (by simp)).2.1) (KA (W i1 (by simp)).2.1) (KA (W i2 (by simp)).2.1) ho,r⟩
 self:=fun _ _ _ _ _ st h=>NZ st.1 h
section
variable {X:Cx}
inductive VH(K:QF)(R:It->Hp->Prop)(vs:QH)(H1:Hp):Prop|mk(a b:_)(_:vs = [.ref a,.ref b])(_:∃xs,Zr K H1 a xs)(_:∃ys,Zr K H1 b ys)(_:R (Itz K a b) H1)
def SY (K:QF)(ta:TA):TI:=fun σ H R=>ta σ H fun vs H1=>VH K R vs H1
theorem VI {a b:Expr}{ta:TA}{p pos aT:Pos}{es:QV}{k:Nat}(hg:Gl X "zip")(hm:X.mg "zip" = none)(ha:PA X [a,b] ta)(hs:starEach [a,b] X.env = [(false,eval a X.env),(false,eval b X.env)]:=by rfl)(J:starEach [b] X.env = [(false,eval b X.env)]:=by rfl):
  PI X (.Tuple es k aT) (.Call (.Name "zip" p) [a,b] [] pos) (SY X.K ta):=by
 intro pins s σ H R I h;refine Call_ (UJ I hg hm boot_zip (KS (YM (ha pos pins s σ H _ I h) fun us F ⟨vs,H1,I1,r1,q1⟩=>?_) (by rw[hs,J]) (by rw[J];rfl)));obtain⟨l1,l2,e,⟨xs,S⟩,⟨ys,U⟩,q⟩:=q1;subst e;obtain⟨u,v,rfl,ru,rv⟩:=r1.two;cases ru;cases rv;obtain⟨W,gH,Y,eB⟩:=I1.list S;obtain⟨Z,gI,p2,cu⟩:=I1.list U;have L1:@LT.lt Nat _ l1 F.heap.objs.size:=by obtain⟨o,V,_⟩:=Y.isList;exact aLt V
 have L2:@LT.lt Nat _ l2 F.heap.objs.size:=by obtain⟨o,V,_⟩:=p2.isList;exact aLt V
 refine call_zip_2 Y.isList p2.isList fun h' g1 g2 g3 g4 g5 hsz kk=>?_;have I2:Inv X pins σ H1 { F with heap:=h' }:=I1.kept (t':=F.toks) kk;refine NZ (s:={ F with heap:=h' }) g1 ?_;have ap:ZipApart (F.heap.objs.size+4) (F.heap.objs.size+2) (F.heap.objs.size+3) F.heap.objs.size (F.heap.objs.size+1) l1 l2:=by constructor<;>(intro e;have e':@Eq Nat _ _:=e;lia)
 refine⟨_,[F.heap.objs.size+4,F.heap.objs.size+2,F.heap.objs.size+3,F.heap.objs.size,F.heap.objs.size+1],_,_,H1,rfl,I2,VG l1 l2 _ _ _ _ _ ap,⟨g1,g2,⟨_,_,g3⟩,g4,g5⟩,fun c hc=>?_,q⟩;have O:@LE.le Nat _ F.heap.objs.size c:=by simp only[kQ,Xb,NY] at hc;rcases hc with e | e | e | e | e<;>(subst e;first | exact km _ | exact Xa _ _)
 exact I1.fpOk O (I1.hok.fresh O)
theorem S0 {K:QF}{a b:Expr}{ta:TA}{p pos aT:Pos}{es:QV}{k:Nat}(hk:X.K=K)(hg:Gl X "zip")(I:X.mg "zip" = none)(ha:PA X [a,b] ta)(hs:starEach [a,b] X.env = [(false,eval a X.env),(false,eval b X.env)]:=by rfl)(F:starEach [b] X.env = [(false,eval b X.env)]:=by rfl):
  PI X (.Tuple es k aT) (.Call (.Name "zip" p) [a,b] [] pos) (SY K ta):=hk ▸ VI hg I ha hs F
end
end L2
namespace L2
open PySem PySem.Spec PyProof.Rows PyProof.V
section
variable {env:Env}{r:QV}
theorem Yx {a:Const}{b:Nat}{p:Pos}:starEach (.Constant a b p::r) env=(false,eval (.Constant a b p) env)::starEach r env:=by rfl
theorem VJ {a:Str}{p:Pos}:starEach (.Name a p::r) env=(false,eval (.Name a p) env)::starEach r env:=by rfl
theorem VL {a:QV}{b:Nat}{p:Pos}:starEach (.Tuple a b p::r) env=(false,eval (.Tuple a b p) env)::starEach r env:=by rfl
theorem S1 {a:QV}{p:Pos}:starEach (.List a p::r) env=(false,eval (.List a p) env)::starEach r env:=by rfl
theorem S2 {a:UnaryOp}{b:Expr}{p:Pos}:starEach (.UnaryOp a b p::r) env=(false,eval (.UnaryOp a b p) env)::starEach r env:=by rfl
theorem S3 {a:Expr}{o:Operator}{b:Expr}{p:Pos}:starEach (.BinOp a o b p::r) env=(false,eval (.BinOp a o b p) env)::starEach r env:=by rfl
end
section
variable {X:Cx}{e a b:Expr}{es:QV}{te ta tb:TE}{t:TA}{pos:Pos}{st:Stmt}{rest:List Stmt}{ts us:TS}
structure PEc (X:Cx)(e:Expr)(t:TE):Prop where
 out:PE X e t
structure PAc (X:Cx)(es:QV)(t:TA):Prop where
 out:PA X es t
theorem PU:PAc X [] LC:=⟨Zb⟩
theorem WB (ha:PEc X e te)(F:PAc X es t)(hs:starEach (e::es) X.env=(false,eval e X.env)::starEach es X.env):PAc X (e::es) (U6 te t):=⟨Za ha.out F.out hs⟩
theorem PV (h:PAc X es t):PEc X (.List es pos) (Dm t):=⟨Zx h.out⟩
theorem VM {i:Int}{j:Nat}:PEc X (.Constant (.int i) j pos) (tC (.int i)):=⟨Ze⟩
theorem S4 {j:Nat}:PEc X (.Constant .none j pos) (tC .non):=⟨Jx⟩
theorem VN {x:Str}{j:Nat}:PEc X (.Constant (.str x) j pos) (tC (.str x)):=⟨ZJ⟩
theorem C1 (h:PE X e te):PEc X e te:=⟨h⟩
theorem VO {op:Operator}{r:R2}(F:Uo X (binaryOp op) r)(ha:PEc X a ta)(hb:PEc X b tb):PEc X (.BinOp a op b pos) (tOp r ta tb):=⟨Zk F ha.out hb.out⟩
theorem VP {op:UnaryOp}{r:V->Hp->VK->Prop}(F:UnR X (unaryOp op) r)(ha:PEc X a ta):PEc X (.UnaryOp op a pos) (tUn r ta):=⟨UY F ha.out⟩
end
inductive Lit
 | non | bl (b:Bool) | int (i:Int) | str (x:Str) | tup (l:List Lit) | lst (l:List Lit)
mutual
inductive Wl (H:Hp):V->Lit->Prop
 | non:Wl H .non .non
 | bl (b:Bool):Wl H (.bl b) (.bl b)
 | int (i:Int):Wl H (.int i) (.int i)
 | str (x:Str):Wl H (.str x) (.str x)
 | tup {a:Addr}{xs:QH}{l:List Lit} (e:H a=some (.tup xs)) (r:J8 H xs l):Wl H (.ref a) (.tup l)
 | lst {a:Addr}{xs:QH}{l:List Lit} (e:H a=some (.lst xs)) (r:J8 H xs l):Wl H (.ref a) (.lst l)
inductive J8 (H:Hp):List V->List Lit->Prop
 | nil:J8 H [] []
 | cons {v:V}{vs:QH}{l:Lit}{ls:List Lit} (a:Wl H v l) (r:J8 H vs ls):J8 H (v::vs) (l::ls)
end
mutual
theorem Wl.same {H H':Hp}(s:Zh H H'):∀{v:V}{l:Lit},Wl H v l->Wl H' v l
 | _,_,.non=>.non
 | _,_,.bl b=>.bl b
 | _,_,.int i=>.int i
 | _,_,.str x=>.str x
 | _,_,.tup e r=>.tup (s _ _ e) (r.same s)
 | _,_,.lst e r=>.lst (s _ _ e) (r.same s)
theorem J8.same {H H':Hp}(s:Zh H H'):∀{vs:QH}{ls:List Lit},J8 H vs ls->J8 H' vs ls
 | _,_,.nil=>.nil
 | _,_,.cons a r=>.cons (a.same s) (r.same s)
end
theorem J8.len {H:Hp}:∀{vs:QH}{ls:List Lit},J8 H vs ls->vs.length=ls.length
 | _,_,.nil=>rfl
 | _,_,.cons _ r=>by rw[Kk,Kk,r.len]
theorem J8.get {H:Hp}:∀{vs:QH}{ls:List Lit}{i:Nat}{x:V},J8 H vs ls->vs[i]? = some x -> ∃l,ls[i]? = some l/\Wl H x l
 | _,_,_,_,.nil,e=>by simp at e
 | _,_,0,_,.cons a _,e=>by simp at e;subst e;exact⟨_,rfl,a⟩
 | _,_,i+1,x,.cons _ r,e=>by obtain⟨o,h1,h2⟩:=J8.get (i:=i) (x:=x) r (by simpa using e);exact⟨o,by simpa using h1,h2⟩
theorem S5 {n:Nat}(h:n<=100):n<=sizeLine:=Kb h (by decide)
section
variable {X:Cx}{G:QT}{e a b:Expr}{es:QV}{pos:Pos}{l:Lit}{ls la lb:List Lit}
def tL (G:QT)(l:Lit):TE:=fun σ H Q=>G σ H /\ ∀v H',Zh H H'->Wl H' v l->Q v H'
def tLs (G:QT)(l:List Lit):TA:=fun σ H Q=>G σ H /\ ∀v H',Zh H H'->J8 H' v l->Q v H'
def Keeps (G:QT):Prop:=∀ σ H H',Zh H H'->G σ H->G σ H'
structure PL (X:Cx)(G:QT)(e:Expr)(l:Lit):Prop where
 out:PE X e (tL G l)
structure PLs (X:Cx)(G:QT)(es:QV)(l:List Lit):Prop where
 out:PA X es (tLs G l)
theorem PE.mono {t t':TE}(h:PE X e t)(m:∀ σ H Q,t' σ H Q->t σ H Q):PE X e t':=fun pins s σ H Q I q=>h pins s σ H Q I (m _ _ _ q)
theorem PA.mono {t t':TA}(h:PA X es t)(m:∀ σ H Q,t' σ H Q->t σ H Q):PA X es t':=fun pos pins s σ H Q I q=>h pos pins s σ H Q I (m _ _ _ q)
theorem VQ {j:Nat}:PL X G (.Constant .none j pos) .non:=⟨PE.mono Jx fun σ H Q h=>h.2 _ _ (Zh.refl _) .non⟩
theorem S6 {b:Bool}{j:Nat}:PL X G (.Constant (.bool b) j pos) (.bl b):=⟨PE.mono Wf fun σ H Q h=>h.2 _ _ (Zh.refl _) (.bl b)⟩
theorem C3 {i:Int}{j:Nat}:PL X G (.Constant (.int i) j pos) (.int i):=⟨PE.mono Ze fun σ H Q h=>h.2 _ _ (Zh.refl _) (.int i)⟩
theorem VR {x:Str}{j:Nat}:PL X G (.Constant (.str x) j pos) (.str x):=⟨PE.mono ZJ fun σ H Q h=>h.2 _ _ (Zh.refl _) (.str x)⟩
theorem VS {i:Int}{j:Nat}{p:Pos}:PL X G (.UnaryOp .USub (.Constant (.int i) j p) pos) (.int (-i)):=⟨PE.mono (UY WO Ze) fun σ H Q h=>⟨i,rfl,h.2 _ _ (Zh.refl _) (.int (-i))⟩⟩
theorem VT {i k:Int}{j j2:Nat}{p p2:Pos}(F:IZ i k):PL X G (.BinOp (.Constant (.int i) j p) .Pow (.Constant (.int k) j2 p2) pos) (.int (i ^ k.toNat)):=⟨PE.mono (Zk CD Ze Ze) fun σ H Q h=>⟨i,k,rfl,rfl,F,h.2 _ _ (Zh.refl _) (.int _)⟩⟩
theorem PX:PLs X G [] []:=⟨PA.mono Zb fun σ H Q h=>h.2 _ _ (Zh.refl _) .nil⟩
theorem Jj (g:Keeps G)(ha:PL X G e l)(J:PLs X G es ls)(hs:starEach (e::es) X.env=(false,eval e X.env)::starEach es X.env):PLs X G (e::es) (l::ls):=
 ⟨PA.mono (Za ha.out J.out hs) fun σ H Q h=>⟨h.1,fun v H1 F O=>⟨g _ _ _ F h.1,fun vs H2 I S=>h.2 _ _ (F.trans I) (.cons (O.same I) S)⟩⟩⟩
theorem VU {k:Nat}(h:PLs X G es ls)(J:ls.length<=100:=by decide):PL X G (.Tuple es k pos) (.tup ls):=
 ⟨PE.mono (ZN h.out) fun σ H Q h=>⟨h.1,fun v H1 O F=>⟨by rw[F.len];exact S5 J,fun p I=>h.2 _ _ (O.step I) (.tup Zd (F.same (Zh.laid I)))⟩⟩⟩
theorem S7 (h:PLs X G es ls)(J:ls.length<=100:=by decide):PL X G (.List es pos) (.lst ls):=
 ⟨PE.mono (Zx h.out) fun σ H Q h=>⟨h.1,fun v H1 O F=>⟨by rw[F.len];exact S5 J,fun p I=>h.2 _ _ (O.step I) (.lst Zd (F.same (Zh.laid I)))⟩⟩⟩
end
theorem Gj:Keeps (fun _ _=>True):=fun _ _ _ _ _=>trivial
section
variable {X:Cx}{st:Stmt}{rest:List Stmt}{t u:TS}
inductive VW(t u:TS)(D:Ends)(σ:St)(H:Hp):Prop|mk(I:QT)(_:t { D with nx:=I } σ H)(_:∀ aD H',I aD H'->u D aD H')
theorem VX (h1:PS X st t)(h2:PSs X rest u):PSs X (st::rest) (VW t u):=by
 intro pins s σ H D I h;obtain⟨W,a,b⟩:=h;have c:PSs X (st::rest) (Rx (fun D' F H'=>F = σ /\ H'=H/\D' = { D with nx:=u D } /\ t { D with nx:=W } σ H) u):=by
  refine Zc (fun pins s F H' D' I' q=>?_) h2;obtain⟨rfl,rfl,rfl,q⟩:=q;refine YM (h1 pins s F H' _ I' q) fun f s' z=>?_;cases f with
  | next=>obtain⟨J,H2,I2,O⟩:=z;exact⟨J,H2,I2,b J H2 O⟩
  | _=>exact z
 exact c pins s σ H D I ⟨rfl,rfl,rfl,a⟩
end
def Exc (h:Heap)(a T:Addr)(C:Value):Prop:=
 ∃oe vs oT ts,h.get? a=some oe/\oe.cls=C/\oe.data = .fields vs/\vs[1]? = some (.ref T)/\h.get? T=some oT/\oT.data = .fields ts/\ts[3]? = some .none/\T≠a/\vs[2]? = some .none
theorem Exc.ne_dict {h:Heap}{a T b:Addr}{C:Value}{o:Obj}(x:Exc h a T C)(e:h.get? b=some o)(d:∀vs,o.data ≠ .fields vs):b≠a/\b≠T:=by
 obtain⟨S,vs,U,ts,F,_,I,_,J,O,_⟩:=x;refine⟨fun z=>?_,fun z=>?_⟩
 ·rw[z,F] at e;cases e;exact d _ I
 ·rw[z,J] at e;cases e;exact d _ O
section
variable {M:Model}{A:Around}{E:QE}{s:Shared}{env:Env}{outer:QK}{L a T:Addr}{C:Value}{base h:Heap}{Q:Unit->Shared->Prop}
theorem C4 {o:Obj}{vs:QY}{k:Nat}{x:Value}(F:s.heap.get? a=some o)(hd:o.data = .fields vs)(hk:k<vs.size)
  (h:∀h',(∃o',h'.get? a=some o'/\o'.cls=o.cls/\o'.data = .fields (vs.setIfInBounds k x))->Heap.SameBut a s.heap h'->Q () { s with heap:=h' }):wpAny M A (setField (.ref a) k x) Q E s:=
 wpAny_setField F hd hk (h _ ⟨_,qN _ F (Obj.isFreed_of_fields (Te hd _)),Obj.cls_mapFields ..,Te hd _⟩ (XY ..))
theorem S8 {oe:Obj}{vs:QY}{T:Option Addr}(cL:A.frames=some (env::outer))(hf:env.frame=some L)(Y:s.heap.FunFrames base (env::outer))(ha:s.heap.get? a=some oe)(Z:oe.data = .fields vs)(h1:vs[1]? = some (T.elim .none .ref))(h2:vs[2]? = some .none)
  (hT:∀t,T=some t->t≠a /\ ∃oT ts,s.heap.get? t=some oT/\oT.data = .fields ts/\ts[3]? = some .none)
  (hQ:∀h' T',(∀b o,s.heap.get? b=some o->b∉frs (env::outer)->b≠a->T≠some b->h'.get? b=some o)->(∀b o,s.heap.get? b=some o->b∈frs (env::outer) -> ∃sl,h'.get? b=some { o with slots:=sl }) ->
   Exc h' a T' oe.cls->s.heap.get? T'=none->Q () { s with heap:=h' }):wpAny M A (noteFrame (.ref a) env) (fun _ I=>wpAny M A (setFlight (.ref a) none) Q E I) E s:=by
 have nf:∀b o,s.heap.get? b=some o->(∃ws,o.data = .fields ws)->b∉frs (env::outer):=fun b o e ⟨ws,d⟩ hb=>by obtain⟨_,o',O,n⟩:=Y.mem hb;rw[e] at O;cases O;exact n ws d
 have sz:2<vs.size:=(qi.mp h2).1;have J:∀(head:Value)(nx:Bool)(h0:Heap),(∀b o,s.heap.get? b=some o->T≠some b->h0.get? b=some o)->(∀b o,s.heap.get? b=some o -> ∃o',h0.get? b=some o')->h0.FunFrames base (env::outer) ->
   wpAny M A (do let f <- frameOf env;let pl <- entryPlaceOf L nx;let b <- EntryCells.newEntry head f .none (rawInt L) .none pl;setField (.ref a) 1 b) (fun _ I=>wpAny M A (setFlight (.ref a) none) Q E I) E { s with heap:=h0 }:=by
  intro head nx h0 k0 n0 aX;have a0:h0.get? a=some oe:=k0 a oe ha fun z=>(hT a z).1 rfl;refine kg (wpAny_frameOf_fun cL aX hf fun F so=>kg (wpAny_entryPlaceOf fun pl bN=>?_));unfold EntryCells.newEntry newFields;refine kg (qc ?_ (bN.sizeOk5 _ _ _ _ _));generalize i6:([head,Value.ref L,.none,rawInt L,.none]++(if pl.isEmpty then List.replicate 6 Value.none else pl)).toArray=ts;have t3:3<ts.size:=by rw[<- i6];simp only[kr,ki,Kk,Xg];lia
  have a1:F.get? a=some oe:=(so.2.1 a (nf a oe ha ⟨vs,Z⟩)).trans a0;have ne:F.objs.size≠a:=Xj (k6 a1);refine C4 (kz _ a1) Z (by lia) fun g2 ⟨o2,e2,c2,d2⟩ S=>?_;have U:g2.get? F.objs.size=some _:=(S.2 _ ne).trans (Kf F rfl);unfold setFlight;refine kg (qt (x:=.ref F.objs.size) e2 d2 (by simp[show 1<vs.size by lia]) ?_);rw[kj (by simp)];refine C4 U rfl t3 fun h3 ⟨o3,e3,c3,d3⟩ V=>?_;have W:∀b o,F.get? b=some o->b≠a->h3.get? b=some o:=fun b o e z=>(V.2 b (Kj (k6 e))).trans ((S.2 b z).trans (kz _ e));have fresh:s.heap.get? F.objs.size=none:=by
   cases q:s.heap.get? F.objs.size with
   | none=>rfl
   | some o=>
    exfalso;obtain⟨o',z⟩:=n0 _ o q;obtain⟨sl,y⟩:=so.2.2 _ _ z;exact qy _ (k6 y)
  refine hQ h3 F.objs.size (fun b o e n na nt=>W b o ((so.2.1 b n).trans (k0 b o e nt)) na) (fun b o e hb=>?_) ⟨o2,_,o3,_,(V.2 a (KA ne)).trans e2,c2,d2,by simp[show 1<vs.size by lia],e3,d3,by simp[t3],ne,by rw[Array.getElem?_setIfInBounds_ne (by decide)];exact h2⟩ fresh;obtain⟨_,o',O,n⟩:=Y.mem hb;rw[e] at O;cases O;obtain⟨sl,y⟩:=so.2.2 b o (k0 b o e fun z=>by obtain⟨_,oT,ts,q,d,_⟩:=hT b z;rw[e] at q;cases q;exact n _ d);exact⟨sl,W b _ y fun z=>by rw[z,ha] at e;cases e;exact n _ Z⟩
 unfold noteFrame;simp only[hf];refine kg (qt ha Z h1 ?_);cases T with
 | none=>
  rw[kh (by decide)];exact J _ _ s.heap (fun b o e _=>e) (fun b o e=>⟨o,e⟩) Y
 | some t=>
  obtain⟨nt,oT,ts,U,dT,f3⟩:=hT t rfl;show wpAny M A (if (Value.ref t != Value.none)=true then _ else _) _ _ s;rw[kj (by simp)];refine kg (qt U dT f3 ?_);rw[kh (by simp[rawInt])];refine kg (C4 U dT (qi.mp f3).1 fun h' ⟨o1,g1,_⟩ sb=>?_);refine J _ _ h' (fun b o e n=>(sb.2 b fun z=>n (by rw[z])).trans e) (fun b o e=>by
   by_cases z:b=t
   ·exact⟨o1,by rw[z];exact g1⟩
   ·exact⟨o,(sb.2 b z).trans e⟩) (Y.of_keeps fun b o e n=>⟨o,(sb.2 b fun z=>?_).trans e,rfl⟩)
  rw[z,U] at e;cases e;exact n _ dT
theorem VY {args:QJ}(I:A.frames=some (env::outer))(O:env.frame=some L)(S:h.FunFrames base (env::outer))(F:Heap.MadeExcOf h s.heap a C args)
  (U:∀h' T,(∀b o,h.get? b=some o->b∉frs (env::outer)->h'.get? b=some o)->(∀b o,h.get? b=some o->b∈frs (env::outer) -> ∃sl,h'.get? b=some { o with slots:=sl }) ->
   Exc h' a T C->h.get? a=none->h.get? T=none->Q () { s with heap:=h' }):wpAny M A (leaving env (.ref a)) Q E s:=by
 obtain⟨t,ha,_⟩:=F.there;have J:∀b,s.heap.get? b=none->h.get? b=none:=fun b e=>by
  cases q:h.get? b with
  | none=>rfl
  | some o=>rw[F.keeps b o q] at e;cases e
 exact kg (S8 (T:=none) I O (S.of_keeps fun b o e _=>⟨o,F.keeps b o e,rfl⟩) ha rfl rfl rfl (fun _ z=>nomatch z) fun h' T' k1 k2 ex V=>
  U h' T' (fun b o e n=>k1 b o (F.keeps b o e) n (fun z=>by rw[z,F.new] at e;cases e) (fun z=>nomatch z)) (fun b o e hb=>k2 b o (F.keeps b o e) hb) ex F.new (J _ V))
theorem looked (I:A.frames=some (env::outer))(J:env.frame=some L)(O:s.heap.FunFrames base (env::outer))(S:Exc s.heap a T C)
  (U:∀h' T',(∀b o,s.heap.get? b=some o->b∉frs (env::outer)->b≠a->b≠T->h'.get? b=some o)->(∀b o,s.heap.get? b=some o->b∈frs (env::outer) -> ∃sl,h'.get? b=some { o with slots:=sl }) ->
   Exc h' a T' C->(T'=T∨s.heap.get? T'=none)->Q () { s with heap:=h' }):wpAny M A (noteFrame (.ref a) env) (fun _ F=>wpAny M A (setFlight (.ref a) none) Q E F) E s:=by
 obtain⟨oe,vs,V,ts,W,rfl,Y,Z,p5,p6,p7,p8,p9⟩:=S;exact S8 (T:=some T) I J O W Y Z p9 (fun t z=>by cases z;exact⟨p8,V,ts,p5,p6,p7⟩) fun h' T' k1 k2 ex nT=>U h' T' (fun b o e n na nt=>k1 b o e n na fun z=>nt (k9 z).symm) k2 ex (.inr nT)
theorem VZ (F:A.frames=some (env::outer))(I:env.frame=some L)(J:s.heap.FunFrames base (env::outer))(O:Exc s.heap a T C)
  (S:∀h' T',(∀b o,s.heap.get? b=some o->b∉frs (env::outer)->b≠a->b≠T->h'.get? b=some o)->(∀b o,s.heap.get? b=some o->b∈frs (env::outer) -> ∃sl,h'.get? b=some { o with slots:=sl }) ->
   Exc h' a T' C->(T'=T∨s.heap.get? T'=none)->Q () { s with heap:=h' }):wpAny M A (leaving env (.ref a)) Q E s:=kg (looked F I J O S)
theorem landed (V:Exc s.heap a T C)(W:∀h',(∀b o,s.heap.get? b=some o->b≠a->b≠T->h'.get? b=some o)->Exc h' a T C->Q () { s with heap:=h' }):wpAny M A (setFlight (.ref a) none) Q E s:=by obtain⟨Y,vs,oT,ts,F,p2,I,J,Z,p6,p7,O,p9⟩:=V;unfold setFlight;refine kg (qt F I J ?_);rw[kj (by simp)];have S:=(qi.mp p7).1;refine C4 Z p6 S fun h' ⟨o',e',c',d'⟩ U=>W h' (fun b o e _ nt=>(U.2 b nt).trans e) ⟨Y,vs,o',_,(U.2 a (KA O)).trans F,p2,I,J,e',d',by simp[S],O,p9⟩
end
def CX1 (P:Program)(w:World):CXT:=fun outer H s E e s'=>∃(a T C:Addr)(H':Hp),e = .ref a/\s'.os=s.os/\AllBare s'.gens/\Un (frs outer) [] H H' s.heap s'.heap/\HOk P w H' s'.heap /\
 Exc s'.heap a T (.ref C)/\s.heap.get? a=none/\s.heap.get? T=none/\H' a=none/\H' T=none/\E (.ref C) none H'
section
variable {P:Program}{w:World}{K:QF}{mg:QN}{base:Heap}{N:QP}{qual:Str}{scope:Scope}{f:Addr}{cd:Value}{A:Around}{outer:QK}{s₀ s:Shared}{H₀ H:Hp}{E:XK}{CX:CXT}{pins:QC}{σ:L2.St}
theorem V0 {h:Heap}{b:Addr}{o:HO}(ok:HOk P w H h)(e:H b=some o):∃ob,h.get? b=some ob:=(ok b o e).there
theorem JK {h:Heap}{b:Addr}(ok:HOk P w H h)(e:h.get? b=none):H b=none:=by
 cases q:H b with
 | none=>rfl
 | some o=>
  obtain⟨ob,z⟩:=V0 ok q;rw[e] at z;cases z
theorem S9 {a T:Addr}{h':Heap}(I:Inv (WH CX P w K mg base N qual scope f cd A outer s₀ H₀ E) pins σ H s)
  (V:H a=none/\s₀.heap.get? a=none) (W:H T=none/\s₀.heap.get? T=none)
  (keep:∀b o,s.heap.get? b=some o->b∉frs (WH CX P w K mg base N qual scope f cd A outer s₀ H₀ E).stack->b≠a->b≠T->h'.get? b=some o)
  (slot:∀b o,s.heap.get? b=some o->b∈frs (WH CX P w K mg base N qual scope f cd A outer s₀ H₀ E).stack -> ∃sl,h'.get? b=some { o with slots:=sl }):
  Un (frs outer) [] H₀ H s₀.heap h'/\HOk P w H h':=by
 have B:Un (frs outer) [] H₀ H s₀.heap s.heap:=I.base;have O:∀b o,s₀.heap.get? b=some o->b∉frs outer->b∉frs (WH CX P w K mg base N qual scope f cd A outer s₀ H₀ E).stack:=fun b o e Y hb=>by
  rcases kQ.mp (I.stkSub b hb) with z | z
  ·exact absurd (Kt (k6 e) I.ok.above) (by rw[z];exact qy _)
  ·exact Y z
 have F:∀b o,s₀.heap.get? b=some o->b≠a/\b≠T:=fun b o e=>⟨(fun z=>by rw[z,V.2] at e;cases e),(fun z=>by rw[z,W.2] at e;cases e)⟩;have any:∀b o,s.heap.get? b=some o->b≠a->b≠T -> ∃o',h'.get? b=some o':=fun b o e Z z2=>by
  by_cases hb:b∈frs (WH CX P w K mg base N qual scope f cd A outer s₀ H₀ E).stack
  ·obtain⟨sl,q⟩:=slot b o e hb;exact⟨_,q⟩
  ·exact⟨o,keep b o e hb Z z2⟩
 refine⟨⟨fun b o e n hb J=>keep b o (B.keep b o e n hb J) (O b o e hb) (F b o e).1 (F b o e).2,fun b o e n hb J=>?_,B.free,fun b o e J=>?_,B.tups,B.frzs,B.tbls⟩,fun b u e=>?_⟩
 ·obtain⟨sl,q⟩:=B.slot b o e n hb J;obtain⟨S,q'⟩:=slot b _ q (by
   show b∈frs (envOfC qual scope s₀.heap.objs.size f cd::outer);unfold frs;rw[qf];exact kX _ hb)
  exact⟨S,q'⟩
 ·obtain⟨o',q⟩:=B.there b o e J;exact any b o' q (F b o e).1 (F b o e).2
 ·refine(I.hok b u e).stay (fun c v hc q=>?_) (fun _ q=>q) fun _ _ q=>q;have U:H c≠none:=by
   rcases hc with rfl | z
   ·rw[e];exact fun z=>nomatch z
   ·rw[z];exact fun z=>nomatch z
  exact keep c v q (fun z=>U (I.stkFree c z)) (fun z=>U (by rw[z];exact V.1)) (fun z=>U (by rw[z];exact W.1))
theorem WD {b:Addr}(I:Inv (WH CX P w K mg base N qual scope f cd A outer s₀ H₀ E) pins σ H s)(e:s.heap.get? b=none):s₀.heap.get? b=none:=by
 cases q:s₀.heap.get? b with
 | none=>rfl
 | some o=>
  obtain⟨o',z⟩:=I.base.there b o q (fun y=>nomatch y);rw[e] at z;cases z
theorem V3 {a C:Addr}{args:QJ}{h':Heap}{tk:Nat}(I:Inv (WH (CX1 P w) P w K mg base N qual scope f cd A outer s₀ H₀ E) pins σ H s)(O:Heap.MadeExcOf s.heap h' a (.ref C) args)(S:E (.ref C) none H):
  (WH (CX1 P w) P w K mg base N qual scope f cd A outer s₀ H₀ E).xe (.ref a) { s with heap:=h',toks:=tk }:=by
 refine VY (L:=s₀.heap.objs.size) I.ok.frames rfl I.stack (s:={ s with heap:=h',toks:=tk }) O fun h2 T keep slot ex F J=>?_;obtain⟨u,ok⟩:=S9 I ⟨JK I.hok F,WD I F⟩ ⟨JK I.hok J,WD I J⟩ (fun b o e n _ _=>keep b o e n) slot;exact⟨a,T,C,H,rfl,I.os,I.bare,u,ok,ex,WD I F,WD I J,JK I.hok F,JK I.hok J,S⟩
theorem Oa:Passes (CX1 P w) (WH (CX1 P w) P w K mg base N qual scope f cd A outer s₀ H₀ E) E:=by
 intro pins σ H s e s' I c;obtain⟨a,T,C,H',rfl,os,bare,un,ok,ex,J,O,ha,S,V⟩:=c;have I':Inv (WH (CX1 P w) P w K mg base N qual scope f cd A outer s₀ H₀ E) pins σ H' s':=I.call' os un ok bare (fun b z=>nomatch z);refine VZ (L:=s₀.heap.objs.size) I'.ok.frames rfl I'.stack ex fun h2 T' keep slot m8 U=>?_;obtain⟨u,F⟩:=S9 I' ⟨ha,WD I J⟩ ⟨S,WD I O⟩ keep slot;refine⟨a,T',C,H',rfl,I'.os,I'.bare,u,F,m8,WD I J,?_,ha,?_,V⟩
 ·rcases U with z | z
  ·rw[z];exact WD I O
  ·exact WD I' z
 ·rcases U with z | z
  ·rw[z];exact S
  ·exact JK I'.hok z
end
theorem Ob {K:QF}{C:Addr}{bmB:QJ}{newId:String}{h:Heap}(KI:K.In h)(F:W.excIn K C bmB newId=true):
  ∃bm N nm I bs hd sn sub ab col dd k0 k1 k2 k3 k5 mN,h.get? C=some (excClassObj nm I C N bs bm hd sn sub ab col dd k0 k1 k2 k3 k5 newId)/\h.Ns N mN/\mN "__init__" = none/\OwnTail h bmB bm:=by
 unfold W.excIn at F;split at F
 ·rename_i dd mu slots i6
  split at F
  ·rename_i C2 tail k0 k1 k2 k3 nid k5 hmro hsl
   simp only[Kc,Bool.not_eq_true',Nj] at F;obtain⟨⟨⟨⟨⟨U,V⟩,O⟩,Y⟩,J⟩,S⟩:=F;subst U;subst V;obtain⟨nm,bs,Z,ns,I,hd,sn,sub,ab,col,zg⟩:=mu;simp only at hmro O J S;subst hmro;subst O;obtain⟨sl⟩:=slots;simp only at hsl;subst hsl;exact⟨tail,ns,nm,I,bs,hd,sn,sub,ab,col,dd,k0,k1,k2,k3,k5,_,KI _ _ i6,.of_isNs (W.isNs_of_in KI J),W.nsMap_none_of_in KI J S,W.tail_of_in KI Y⟩
  ·exact nomatch F
 ·exact nomatch F
def bmV:QJ:=[.type "ValueError", .type "Exception", .type "BaseException", .type "object"]
def V4 (C:Addr)(E:XK)(ta:TA):TS:=fun _ σ H=>ta σ H fun vs H1=>vs.length<=sizeLine/\E (.ref C) none H1
section
variable {P:Program}{w:World}{K:QF}{mg:QN}{base:Heap}{N:QP}{qual:Str}{scope:Scope}{f:Addr}{cd:Value}{A:Around}{outer:QK}{s₀:Shared}{H₀:Hp}{E:XK}
theorem Oc {x:Str}{C:Addr}{e:Expr}{es:QV}{ta:TA}{np cpos pos:Pos}(hg:Gl (WH (CX1 P w) P w K mg base N qual scope f cd A outer s₀ H₀ E) x)(S:mg x=some (.ref C))(U:W.excIn K C bmV "ValueError.__new__" = true)
  (ha:PA (WH (CX1 P w) P w K mg base N qual scope f cd A outer s₀ H₀ E) (e::es) ta)
  (O:starEach (e::es) (WH (CX1 P w) P w K mg base N qual scope f cd A outer s₀ H₀ E).env=(false,eval e (WH (CX1 P w) P w K mg base N qual scope f cd A outer s₀ H₀ E).env)::starEach es (WH (CX1 P w) P w K mg base N qual scope f cd A outer s₀ H₀ E).env:=by rfl)
  (V:(backTo cpos (starEach es (WH (CX1 P w) P w K mg base N qual scope f cd A outer s₀ H₀ E).env)).any (·.1)=false:=by rfl) (hd:(x==("__debug__" : Str))=false:=by decide):
  PS (WH (CX1 P w) P w K mg base N qual scope f cd A outer s₀ H₀ E) (.Raise (some (.Call (.Name x np) (e::es) [] cpos)) none pos) (V4 C E ta):=by
 intro pins s σ H D I h;obtain⟨bm,NN,nm,Y,bs,F,sn,sub,ab,col,dd,k0,k1,k2,k3,k5,mN,Z,hN,J,T⟩:=Ob I.mod.kin U;have hb:bmV.contains (.type "BaseException")=true:=XR.hasBase;refine wpAny_Raise_call_subT (C:=C) (nm:=nm) (q:=Y) (N:=NN) (bs:=bs) (bm:=bm) (bmB:=bmV) (hdct:=F) (sn:=sn) (sub:=sub) (ab:=ab) (col:=col) (dd:=dd) (k0:=k0) (k1:=k1) (k2:=k2) (k3:=k3) (k5:=k5)
  (newId := "ValueError.__new__") XR (mN:=mN) (T.hasType hb) (I.ok.hd rfl) (by rw[O];show (false||(backTo cpos (starEach es _)).any (·.1))=false;rw[V];rfl) J (DI I hg S ⟨rfl,?_⟩ hd)
 have hz:=ha cpos pins s σ H _ I h;rw[O] at hz ⊢;refine TK (KD hz (fun us s2 ⟨vs,H2,I2,rv,hl,hE⟩=>?_) fun _ _ y=>y);refine⟨rfl,by rw[<- rv.length];exact hl,I2.bk _ _ Z,hN.keeps I2.bk,T.keeps I2.bk,fun h' a mk=>?_⟩;exact V3 (tk:=s2.toks) I2 mk hE
end
structure DY (M:Model)(h:Heap)(C:Addr):Prop where
 ga:W.Looks M h (typeLookup (.ref C) "__getattribute__") (some (.builtin "BaseException.__getattribute__"))
 ca:W.Looks M h (typeLookup (.ref C) "__class__") (some (.builtin "object.__class__"))
 ob:W.Looks M h (isSubtype (.ref C) (.type "object")) true
 be:W.Looks M h (isSubtype (.ref C) (.type "BaseException")) true
 gn:W.Looks M h (typeLookup (.ref C) "__getattr__") none
section
variable {prog:Program}{w:World}{A:Around}{E:QE}{h:Heap}{g:Array GenState}{d:Drawn}{t:Nat}{os:OsState}{a C:Addr}{o:Obj}
theorem V5 {R:Result->Shared->Prop}(L:DY (model prog w) h C)(J:h.get? a=some o)(O:o.cls = .ref C)(S:R (.ok (.ret (.ref C))) ⟨h,g,d,t,os⟩):
  codeAny (model prog w) A (.call (.builtin "getset_descriptor.__get__") ⟨[.builtin "object.__class__", .ref a,.ref C],[]⟩) R ⟨h,g,d,t,os⟩:=by
 have I:(⟨h,g,d,t,os⟩:Shared).TypeIs (.builtin "object.__class__") "getset_descriptor" := XH;have Lo:W.Looks (model prog w) h (isSubtype (.ref C) (.type (".".intercalate ("object.__class__".cutAt '.').dropLast))) true:=by rw[PySem.F.owner_object_class];exact L.ob
 refine Xn T4.plain PySem.F.entry_gs_get (T4.check _ _ _ _ _ _ _ _ I (PySem.F.args_gs_get _ _ _) ?_)
 repeat (any_goals (first | assumption | (with_reducible refine qW J ?_;rw[O]) | with_reducible refine Lo.at ?_ | wp_step))
 refine⟨Code.quiet_builtin _ (by decide +kernel),qK PySem.F.entry_object_class ?_⟩
 repeat (any_goals (first | assumption | (with_reducible refine qW J ?_;rw[O]) | wp_step))
theorem V6 {tk:Tok}{Q:Fin->Shared->Prop}(L:DY (model prog w) h C)(I:h.get? a=some o)(J:o.cls = .ref C)(S:Q (.done (.ret (.ref C))) ⟨h,g,d,t,os⟩):
  wpAny (model prog w) A (Builtin.«object.__getattribute__» ⟨[.ref a,.str "__class__" tk],[]⟩) Q E ⟨h,g,d,t,os⟩:=by
 have O:(⟨h,g,d,t,os⟩:Shared).TypeIs (.builtin "object.__class__") "getset_descriptor" := XH;have U:=XH;have V:=T4.lookup;have W:=PySem.F.slot_gs_set.lookup;have Lc:=L.ca
 repeat (any_goals (first | assumption | (with_reducible refine qW I ?_;rw[J]) | with_reducible refine Lc.at ?_ | wp_step))
 refine V5 L I J ?_
 repeat (any_goals (first | assumption | wp_step))
theorem V7 {M:Model}{ba:Value}{Q:Unit->Shared->Prop}(L:DY M h C)(I:h.get? a=some o)(J:o.cls = .ref C)(O:Q () ⟨h,g,d,t,os⟩):
  wpAny M A (checkBuiltinCall "BaseException.__getattribute__" ⟨[.ref a,ba],[]⟩) Q E ⟨h,g,d,t,os⟩:=by
 have kd:builtinKind "BaseException.__getattribute__" = some .slot:=by decide +kernel
 have sp:splitId "BaseException.__getattribute__" = some ("BaseException", "__getattribute__"):=by decide +kernel
 have S:=PySem.F.args_bexc_ga (.ref a) ba;have Lb:=L.be;simp only[checkBuiltinCall,kd,sp];refine kg ?_;unfold isInstance
 repeat (first | (with_reducible refine qW I ?_;rw[J]) | with_reducible refine Lb.at ?_ | wp_step)
 exact O
theorem V8 {tk:Tok}{Q:QE}(L:DY (model prog w) h C)(I:h.get? a=some o)(J:o.cls = .ref C)(S:Q (.ref C) ⟨h,g,d,t,os⟩):
  wpAny (model prog w) A (getAttrBy (.ref a) (.str "__class__" tk) false) Q E ⟨h,g,d,t,os⟩:=by
 have U:=Nn.ga.bind (.ref a);have O:(Value.builtin "BaseException.__getattribute__" == Value.builtin "object.__getattribute__")=false:=by decide +kernel
 have V:(onTheHeap (Value.ref C)&&Value.builtin "BaseException.__getattribute__" == Value.builtin "object.__getattribute__")=false:=by rw[O];rfl
 have Lg:=L.ga;have Ln:=L.gn
 repeat (any_goals (first | assumption | (with_reducible refine qW I ?_;rw[J]) | with_reducible refine Lg.at ?_ | with_reducible refine Ln.at ?_ | wp_step))
 refine Xn Nn.ga.plain PySem.F.entry_bexc_ga (V7 L I J (V6 L I J ?_))
 repeat (any_goals (first | assumption | wp_step))
theorem V9 {Q:Option Value->Shared->Prop}(L:DY (model prog w) h C)(F:h.get? a=some o)(I:o.cls = .ref C)(J:Q (some (.ref C)) ⟨h,g,d,t+1,os⟩):
  wpAny (model prog w) A (getAttr? (.ref a) "__class__") Q E ⟨h,g,d,t,os⟩:=by
 unfold getAttr? getAttrBy?
 repeat (any_goals (first | assumption | with_reducible apply V8 L F I | wp_step))
theorem PY {K:QF}{a C:Addr}(h1:W.findIn K (.ref C) "__getattribute__" = some (some (.builtin "BaseException.__getattribute__")))(h2:W.findIn K (.ref C) "__getattr__" = some none)
  (J:W.findIn K (.ref C) "__class__" = some (some (.builtin "object.__class__"))) (O:W.mroIn K C (.type "object")=some true) (S:W.mroIn K C (.type "BaseException")=some true) (I:(W.clsIn K C).isSome=true):
  W.KitX K (.ref a) (.ref C) (fun h=>∃o,h.get? a=some o/\o.cls = .ref C) where
 ty:=fun _ _ _ ⟨o,e,c⟩=>c ▸ (W.Looks.ld e).andThen .now
 it:=fun _ _ KI _=>by
  obtain⟨cd,z⟩:=Xo.mp I;unfold W.clsIn at z;split at z
  ·rename_i ho
   intro A' Q' E' s' k q;unfold isType loadHead;refine kg (wpAny_loadPart (k _ _ (KI _ _ ho)) (kG ?_));exact q
  ·exact nomatch z
 ne:=fun h U dd its n sl KI F=>by
  obtain⟨cd,z⟩:=Xo.mp I;refine NI.mpr fun q=>?_;have V:C=U:=Value.ref.inj (Nj.mp q);rw[<- V] at F;unfold W.clsIn at z;split at z
  ·rename_i ho
   have:=(KI _ _ ho).symm.trans F;cases this
  ·exact nomatch z
 ca:=fun {prog w A E Q s} KI ⟨o,e,c⟩ k=>by obtain⟨Y,g,d,t,os⟩:=s;exact V9 ⟨TM KI h1,TM KI J,T5 KI O,T5 KI S,TM KI h2⟩ e c k
end
section
variable {M:Model}{A:Around}{E:QE}{h:Heap}{g:Array GenState}{d:Drawn}{t:Nat}{os:OsState}
variable {nm q mv qD:Str}{C N D ND:Addr}{bs bm mw eD:QJ}{hdct my:Bool}{sn mz:QP}{sub eE:QJ}{ab nY:Bool}{col eG:Option Bool}{dd nZ:Option Addr}{k0 k1 k2 k3 k5 j0 j1 j2 j3 j5:Option Value}{newId i7:String}
theorem Qa {e:Addr}{oe:Obj}{Q:Bool->Shared->Prop}(S:h.get? D=some (excClassObj mv qD D ND mw eD my mz eE nY eG nZ j0 j1 j2 j3 j5 i7))(U:h.get? e=some oe)(F:oe.cls = .ref C)
  (J:eD.contains (.type "BaseException")=true) (I:W.Looks M h (isSubtype (.ref C) (.ref D)) true) (V:Q true ⟨h,g,d,t,os⟩):wpAny M A (excMatches (.ref e) (.ref D)) Q E ⟨h,g,d,t,os⟩:=by
 have O:(Value.ref D::eD).contains (.type "BaseException")=true:=by rw[List.contains_cons,J,Bool.or_true]
 have f:=tc_notTuple;unfold excMatches
 repeat (first | (with_reducible refine qW U ?_;rw[F]) | with_reducible refine qW S ?_ | (with_reducible refine wpAny_isSubtype_exc S ?_;rw[O]) | with_reducible refine I.at ?_ | wp_step)
 exact V
end
abbrev Cx.nailed (X:Cx)(pins:QC):Cx:={ X with pn:=X.pn++pins }
theorem Cx.Ok.nailed {X:Cx}(ok:X.Ok)(pins:QC):(X.nailed pins).Ok:=
 ⟨ok.mod,ok.kind,ok.glob,ok.blt,ok.above,ok.inj,ok.has,ok.cab,ok.hd,ok.frames,ok.stk,ok.exf,ok.bs,ok.bsz,ok.noex,ok.exfs,ok.funs,ok.frf⟩
theorem Cx.Ok.unnailed {X:Cx}{pins:QC}(ok:(X.nailed pins).Ok):X.Ok:=
 ⟨ok.mod,ok.kind,ok.glob,ok.blt,ok.above,ok.inj,ok.has,ok.cab,ok.hd,ok.frames,ok.stk,ok.exf,ok.bs,ok.bsz,ok.noex,ok.exfs,ok.funs,ok.frf⟩
section
variable {X:Cx}{pins ps:QC}{σ:L2.St}{H:Hp}{s:Shared}
theorem Inv.nail (I:Inv X pins σ H s):Inv (X.nailed pins) [] σ H s:=⟨I.ok.nailed pins,I.os,I.bare,I.base,I.loc,I.cell,I.free,I.freeC,fun p F=>I.pin p (by simpa using F),I.hok,I.len⟩
theorem Inv.unnail (I:Inv (X.nailed pins) ps σ H s):Inv X pins σ H s:=⟨I.ok.unnailed,I.os,I.bare,I.base,I.loc,I.cell,I.free,I.freeC,fun p F=>I.pin p (K9 _ F),I.hok,I.len⟩
theorem Inv.left {a T:Addr}{h':Heap}(I:Inv X pins σ H s)(i8:X.ex = [])(na:H a=none/\X.s₀.heap.get? a=none)(nT:H T=none/\X.s₀.heap.get? T=none)
  (np:∀p∈X.pn++pins,p.1≠a/\p.1≠T) (V:∃C,Exc s.heap a T C)
  (keep:∀b o,s.heap.get? b=some o->b∉frs X.stack->b≠a->b≠T->h'.get? b=some o) (slot:∀b o,s.heap.get? b=some o->b∈frs X.stack -> ∃sl,h'.get? b=some { o with slots:=sl }):
  Inv X pins σ H { s with heap:=h' }:=by
 obtain⟨C0,V⟩:=V;have W:∀b o,s.heap.get? b=some o->b≠a->b≠T -> ∃sl,h'.get? b=some { o with slots:=sl }:=fun b o e z1 z2=>by
  by_cases hb:b∈frs X.stack
  ·exact slot b o e hb
  ·exact⟨o.slots,keep b o e hb z1 z2⟩
 have Y:∀b o,X.s₀.heap.get? b=some o->b∉X.fs->b∉frs X.stack:=fun b o e nb hb=>by
  rcases kQ.mp (I.stkSub b hb) with z | z
  ·exact absurd (Kt (k6 e) I.ok.above) (by rw[z];exact qy _)
  ·exact nb z
 have F:∀b o,X.s₀.heap.get? b=some o->b≠a/\b≠T:=fun b o e=>⟨(fun z=>by rw[z,na.2] at e;cases e),(fun z=>by rw[z,nT.2] at e;cases e)⟩;have J:∀c v,s.heap.IsCell c v->h'.IsCell c v:=fun c v ⟨o,e,dt⟩=>by have n:=V.ne_dict e (fun vs z=>by rw[dt] at z;cases z);obtain⟨sl,Z⟩:=W c o e n.1 n.2;exact⟨_,Z,dt⟩
 refine⟨I.ok,I.os,I.bare,⟨fun b o e n hb O=>?_,fun b o e n hb O=>?_,I.base.free,fun b o e O=>?_,I.base.tups,I.base.frzs,I.base.tbls⟩,?_,fun x c e=>?_,I.free,I.freeC,fun p hp=>?_,fun b u e=>?_,I.len⟩
 ·exact keep b o (I.base.keep b o e n hb O) (Y b o e hb) (F b o e).1 (F b o e).2
 ·obtain⟨sl,S⟩:=I.base.slot b o e n hb O;obtain⟨iF,U⟩:=W b _ S (F b o e).1 (F b o e).2;exact⟨iF,U⟩
 ·obtain⟨o',S⟩:=I.base.there b o e O;obtain⟨sl,U⟩:=W b o' S (F b o e).1 (F b o e).2;exact⟨_,U⟩
 ·obtain⟨m,⟨o,es,ep,ho,hd,r⟩,hl⟩:=I.loc;have n:=V.ne_dict ho (fun vs z=>by rw[hd] at z;cases z);obtain⟨sl,Z⟩:=W _ o ho n.1 n.2;refine⟨m,⟨_,es,ep,Z,hd,r⟩,fun i x v S U e3=>?_⟩;obtain⟨u,rv,l⟩:=hl i x v S U e3;refine⟨u,rv,?_⟩;rcases l with l | ⟨k,c,e,z⟩
  ·exact .inl l
  ·exact .inr ⟨k,c,e,J c _ z⟩
 ·obtain⟨v,z⟩:=I.cell x c e;exact⟨v,J c v z⟩
 ·obtain⟨e,n,ne,nf,dd⟩:=I.pin p hp;have tm:p.1∉frs X.stack:=fun hb=>by
   rcases kQ.mp (I.stkSub _ hb) with z | z
   ·exact ne z
   ·exact nf z
  exact⟨keep p.1 p.2 e tm (np p hp).1 (np p hp).2,n,ne,nf,dd⟩
 ·refine(I.hok b u e).stay (fun c v hc q=>?_) (fun _ q=>q) fun _ _ q=>q;have hH:H c≠none:=by
   rcases hc with rfl | z
   ·rw[e];exact fun z=>nomatch z
   ·rw[z];exact fun z=>nomatch z
  exact keep c v q (fun z=>hH (I.stkFree c z)) (fun z=>hH (by rw[z];exact na.1)) (fun z=>hH (by rw[z];exact nT.1))
end
def xeT (X:Cx)(R:Addr->Hp->Prop):QE:=fun e s'=>∃(a T C:Addr)(aD:L2.St)(H':Hp),e = .ref a/\Inv X [] aD H' s'/\Exc s'.heap a T (.ref C)/\X.s₀.heap.get? a=none/\X.s₀.heap.get? T=none /\
 H' a=none/\H' T=none/\(∀p∈X.pn,p.1≠a/\p.1≠T)/\R C H'
abbrev ET (R:Addr->Hp->Prop):XK:=fun c _ H'=>∃C,c = .ref C/\R C H'
section
variable {X:Cx}{pins:QC}{σ:L2.St}{H:Hp}{s:Shared}{R:Addr->Hp->Prop}
theorem Qb (O:X.ex = []):Passes (CX1 X.prog X.w) (X.wish (xeT X R)) (ET R):=by
 intro pins σ H s e s' I c;obtain⟨a,T,C,H',rfl,os,bare,un,ok,ex,S,U,ha,V,C',W,Y⟩:=c;cases W;have I0:=I.unwish;have I':Inv X pins σ H' s':=I0.call' os un ok bare (fun b z=>nomatch z);have J:∀b,s.heap.get? b=none->X.s₀.heap.get? b=none:=fun b e=>by
  cases q:X.s₀.heap.get? b with
  | none=>rfl
  | some o=>
   obtain⟨o',z⟩:=I0.base.there b o q (by rw[O];exact fun y=>nomatch y);rw[e] at z;cases z
 have pin:∀b,s.heap.get? b=none -> ∀p∈X.pn,p.1≠b:=fun b e p F z=>by have:=(I0.pin p (K9 _ F)).1;rw[z,e] at this;cases this
 exact⟨a,T,C,σ,H',rfl,I'.pins_of (fun p F=>nomatch F),ex,J a S,J T U,ha,V,fun p F=>⟨pin a S p F,pin T U p F⟩,Y⟩
abbrev Cx.suite (X:Cx)(pins:QC)(a:Addr):Cx:={ X with pn:=X.pn++pins,A:=X.A.mark (some (.ref a)),calm:=false,xe:=fun _ _=>False }
theorem Cx.Ok.suite {X:Cx}(ok:X.Ok)(pins:QC)(a:Addr):(X.suite pins a).Ok:=
 ⟨ok.mod,ok.kind,ok.glob,ok.blt,ok.above,ok.inj,ok.has,ok.cab,(fun z=>nomatch z),ok.frames,ok.stk,ok.exf,ok.bs,ok.bsz,ok.noex,ok.exfs,ok.funs,ok.frf⟩
theorem Inv.suite (I:Inv (X.nailed pins) [] σ H s)(ok:X.Ok)(a:Addr):Inv (X.suite pins a) [] σ H s:=⟨ok.suite pins a,I.os,I.bare,I.base,I.loc,I.cell,I.free,I.freeC,I.pin,I.hok,I.len⟩
theorem Inv.unsuite {a:Addr}{ps:QC}(I:Inv (X.suite pins a) ps σ H s)(ok:X.Ok):Inv X pins σ H s:=⟨ok,I.os,I.bare,I.base,I.loc,I.cell,I.free,I.freeC,fun p F=>I.pin p (K9 _ F),I.hok,I.len⟩
def isX (a C:Addr):Heap->Prop:=fun h=>∃o,h.get? a=some o/\o.cls = .ref C /\ ∃vs,o.data = .fields vs/\vs[2]? = some .none
theorem Inv.track {a C:Addr}(I:Inv X pins σ H s)(ha:H a=none)(h0:X.s₀.heap.get? a=none)(U:a≠X.env.locals)(V:∀x c,X.env.cells.lookup x=some c->c≠a)(W:∀p∈X.pn++pins,p.1≠a)(F:isX a C s.heap):
  Inv X pins σ (upd H a (.ext (isX a C))) s:=by
 have new:∀b o,H b=some o->upd H a (.ext (isX a C)) b=some o:=fun b o e=>by rw[Zi (Zg e ha)];exact e
 refine⟨I.ok,I.os,I.bare,⟨I.base.keep,I.base.slot,fun b o e n F=>?_,I.base.there,fun b xs e=>new _ _ (I.base.tups b xs e),fun b o u e=>new _ _ (I.base.frzs b o u e),fun b ps e=>?_⟩,I.loc,I.cell,?_,fun x c e=>?_,fun p q=>?_,fun b u e=>?_,I.len⟩
 ·have:b≠a:=fun z=>by rw[z,h0] at e;cases e
  rw[Zi this];exact I.base.free b o e n F
 ·obtain⟨m,z⟩:=I.base.tbls b ps e;exact⟨m,new _ _ z⟩
 ·rw[Zi U.symm];exact I.free
 ·rw[Zi (V x c e)];exact I.freeC x c e
 ·obtain⟨e,n,r⟩:=I.pin p q;exact⟨e,by rw[Zi (W p q)];exact n,r⟩
 ·by_cases z:b=a
  ·subst z;rw[Zd] at e;cases e;obtain⟨o,O,J⟩:=F;exact⟨⟨o,O,J⟩,⟨o,O⟩,fun h1 h2 ⟨S,Y,Z⟩ k=>⟨S,k S Y,Z⟩⟩
  ·rw[Zi z] at e;exact(I.hok b u e).stay (fun _ _ _ q=>q) (fun b' q=>new _ _ q) fun b' xs q=>new _ _ q
theorem Inv.goes {h':Heap}{m':QN}{tk:Nat}(I:Inv X pins σ H s)(ns:h'.Ns X.env.locals m')(hs:Heap.SameBut X.env.locals s.heap h'):Inv X pins (List.replicate X.N.length none) H { s with heap:=h',toks:=tk }:=by
 have F:∀b o,X.s₀.heap.get? b=some o->b≠X.env.locals:=fun b o e=>Kj (Kt (k6 e) I.ok.above);refine⟨I.ok,I.os,I.bare,⟨fun b o e n hb J=>(hs.2 b (F b o e)).trans (I.base.keep b o e n hb J),fun b o e n hb J=>?_,I.base.free,fun b o e J=>?_,I.base.tups,I.base.frzs,I.base.tbls⟩,⟨m',ns,fun i x v W O _=>?_⟩,fun x c e=>?_,I.free,I.freeC,fun p S=>?_,fun b u e=>?_,Kz⟩
 ·obtain⟨sl,q⟩:=I.base.slot b o e n hb J;exact⟨sl,(hs.2 b (F b o e)).trans q⟩
 ·obtain⟨o',q⟩:=I.base.there b o e J;exact⟨o',(hs.2 b (F b o e)).trans q⟩
 ·rw[Xq] at O;split at O<;>cases O
 ·obtain⟨v,o,U,hd⟩:=I.cell x c e;exact⟨v,o,(hs.2 c (I.cne x c e)).trans U,hd⟩
 ·obtain⟨e,n,ne,r⟩:=I.pin p S;exact⟨(hs.2 p.1 ne).trans e,n,ne,r⟩
 ·refine(I.hok b u e).stay (fun c v V q=>(hs.2 c fun z=>?_).trans q) (fun _ q=>q) fun _ _ q=>q;have:H c≠none:=by
   rcases V with rfl | y
   ·rw[e];exact fun z=>nomatch z
   ·rw[y];exact fun z=>nomatch z
  exact this (by rw[z];exact I.free)
def Qc (n i:Nat)(R:Addr->Hp->Prop)(tb:TS)(th:Addr->TS):TS:=fun D σ H=>tb D σ H /\ ∀(a C:Addr)(H':Hp),R C H'->H' a=none ->
 th a { nx:=fun _ H2=>D.nx (List.replicate n none) H2,bk:=fun _ H2=>D.bk (List.replicate n none) H2,ct:=fun _ H2=>D.ct (List.replicate n none) H2,rt:=D.rt } ((List.replicate n none).set i (some (.ref a))) (upd H' a (.ext (isX a C)))
theorem Qd {aG suite:List Stmt}{eH:Stmt}{i:Nat}{n cx:Str}{Dc:Addr}{tb:TS}{th:Addr->TS}{np eI pos:Pos}{newId:String}(R:Addr->Hp->Prop)(hb:∀pins,PSs ((X.nailed pins).wish (xeT (X.nailed pins) R)) aG tb)(hs:∀pins a,PSs (X.suite pins a) (eH::suite) (th a))
  (hg:Gl X cx) (hm:X.mg cx=some (.ref Dc)) (tp:W.excIn X.K Dc bmV newId=true) (hR:∀C H',R C H'->W.mroIn X.K C (.ref Dc)=some true) (hN:X.N.Nodup) (hi:X.N[i]? = some n) (hl:X.env.scope.names.lookup n=some .local)
  (Z:X.ex = []:=by rfl) (V:X.stack=X.env::X.outer:=by rfl) (cL:X.env.frame=some X.env.locals:=by rfl) (hd:(cx==("__debug__" : Str))=false:=by decide):
  PS X (.Try aG [.ExceptHandler (some (.Name cx np)) (some n) (eH::suite) eI] [] [] pos) (Qc X.N.length i R tb th):=by
 intro pins s σ H D I hw;obtain⟨i9,ib⟩:=hw;refine wpAny_Try_except ?_;refine KD (hb pins [] s σ H D (I.nail.wish _) i9) (fun f s1 q=>?_) (fun e s1 xe=>?_)
 ·cases f with
  | next=>obtain⟨F,H',I',d⟩:=q;exact Tb ⟨F,H',I'.unwish.unnail,d⟩
  | brk=>obtain⟨F,H',I',d⟩:=q;exact⟨F,H',I'.unwish.unnail,d⟩
  | cont=>obtain⟨F,H',I',d⟩:=q;exact⟨F,H',I'.unwish.unnail,d⟩
  | ret u=>obtain⟨v,F,H',I',r,d⟩:=q;exact⟨v,F,H',I'.unwish.unnail,r,d⟩
 ·obtain⟨a,T,C,F,H',rfl,I',ex,a0,T0,ha,hT,n9,ng⟩:=xe;have ok:X.Ok:=I.ok;have ic:∀p∈(X.nailed pins).pn ++ [],p.1≠a/\p.1≠T:=fun p U=>n9 p (by simpa using U);refine looked (L:=X.env.locals) (outer:=X.outer) (base:=X.base) (by rw[<- V];exact ok.frames) cL (by rw[<- V];exact I'.stack) ex fun h2 T2 keep slot Y oT=>?_;have I2:Inv (X.nailed pins) [] F H' { s1 with heap:=h2 }:=I'.left Z ⟨ha,a0⟩ ⟨hT,T0⟩ ic ⟨_,ex⟩ (by show ∀b o,_->b∉frs X.stack->_;rw[V];exact keep) (by show ∀b o,_->b∈frs X.stack->_;rw[V];exact slot);have tw:∀{h:Heap}{ie:L2.St}{s2:Shared},Inv (X.nailed pins) [] ie H' s2 -> ∀b,s2.heap.get? b=none->H' b=none/\X.s₀.heap.get? b=none /\ ∀p∈(X.nailed pins).pn,p.1≠b:=fun J b e=>by
   refine⟨JK J.hok e,?_,fun p U z=>?_⟩
   ·cases q:X.s₀.heap.get? b with
    | none=>rfl
    | some o=>
     obtain⟨o',z⟩:=J.base.there b o q (by show b∉X.ex;rw[Z];exact fun y=>nomatch y);rw[e] at z;cases z
   ·have:=(J.pin p (K9 _ U)).1;rw[z,e] at this;cases this
  have ig:H' T2=none/\X.s₀.heap.get? T2=none /\ ∀p∈(X.nailed pins).pn,p.1≠T2:=by
   rcases oT with z | z
   ·rw[z];exact⟨hT,T0,fun p U=>(n9 p U).2⟩
   ·exact tw (h:=s1.heap) I' T2 z
  obtain⟨eD,ND,mv,zh,mw,my,mz,eE,nY,eG,nZ,j0,j1,j2,j3,j5,mD,hD,zj,tz,TD⟩:=Ob I2.kIn tp;have gF:eD.contains (.type "BaseException")=true:=TD.hasType XR.hasBase;refine wpAny_handleBy_cons (codeAny_handlers_test ?_) (fun z=>nomatch z);refine DI (X:=X.suite pins a) (I2.suite ok a) hg hm ?_ hd;obtain⟨oe,vs,zk,ts,x1,x2,x3⟩:=id Y;refine Qa hD x1 x2 gF (T5 I2.kIn (hR C H' ng)) ?_;refine codeAny_handlers_suite_as ?_;refine landed (s:={ s1 with heap:=h2 }) Y fun h3 S ii=>?_;have uB:∀p∈(X.nailed pins).pn ++ [],p.1≠a/\p.1≠T2:=fun p U=>⟨(ic p U).1,ig.2.2 p (by simpa using U)⟩;have I3:Inv (X.nailed pins) [] F H' { s1 with heap:=h3 }:=I2.left Z ⟨ha,a0⟩ ⟨ig.1,ig.2.1⟩ uB ⟨_,Y⟩ (fun b o e _ z1 z2=>S b o e z1 z2) (fun b o e hb=>by obtain⟨_,o',e',dd⟩:=I2.stack.mem hb;rw[e] at e';cases e';have n:=Y.ne_dict e dd;exact⟨o.slots,S b o e n.1 n.2⟩)
  have uC:isX a C h3:=by obtain⟨oe,vs,oT,ts,y1,y2,y3,_,_,_,_,_,y9⟩:=ii;exact⟨oe,y1,y2,vs,y3,y9⟩
  have hL:a≠X.env.locals:=by obtain⟨m,⟨o,es,ep,ho,ij,_⟩,_⟩:=I3.loc;exact fun z=>(ii.ne_dict ho (fun vs y=>by rw[ij] at y;cases y)).1 z.symm
  have uD:∀x c,X.env.cells.lookup x=some c->c≠a:=fun x c e=>by obtain⟨v,o,ho,ij⟩:=I3.cell x c e;exact(ii.ne_dict ho (fun vs y=>by rw[ij] at y;cases y)).1
  have I4:Inv (X.nailed pins) [] F (upd H' a (.ext (isX a C))) { s1 with heap:=h3 }:=I3.track ha a0 hL uD (fun p U=>(ic p U).1) uC;have I5:Inv (X.nailed pins) [] (List.replicate X.N.length none) (upd H' a (.ext (isX a C))) { s1 with heap:=h3 }:=I4.weak (by rw[Kz];exact I4.len.symm) (fun k v z=>by rw[Xq] at z;split at z<;>cases z)
  refine UU (X:=X.suite pins a) (I5.suite ok a) hN hi (.inl hl) (show RelV (.ref a) (.ref a) from rfl) (fun s6 I6=>?_) (.inr hl);refine KD (hs pins a [] s6 _ _ _ I6 (ib a C H' ng ha)) (fun f s7 q=>?_) (fun _ _ z=>z.elim);have bx:(X.env.scope.kind == .class||(X.env.scope.kind == .module&&X.env.locals != X.env.globals))=false:=by rw[ok.kind];rfl
  have fin:∀{O:L2.St}{H7:Hp},Inv (X.suite pins a) [] O H7 s7 -> ∀{Q:Shared->Prop},(∀s',Inv X pins (List.replicate X.N.length none) H7 s'->Q s') ->
    wpAny (model X.prog X.w) X.A (do bindName X.env n .none;unbindBehindTheSuite X.env n eI) (fun _ s'=>Q s') X.xe s7:=fun {O H7} J {Q} k=>by
   obtain⟨m,hn,_⟩:=(J.unsuite ok).loc;exact wpAny_nameGoes hl hn bx fun h5 m' ns sb=>k _ ((J.unsuite ok).goes ns sb)
  cases f with
  | next=>obtain⟨O,H7,I7,dq⟩:=q;exact fin I7 fun s' J=>⟨_,H7,J,dq⟩
  | brk=>obtain⟨O,H7,I7,dq⟩:=q;exact fin I7 fun s' J=>⟨_,H7,J,dq⟩
  | cont=>obtain⟨O,H7,I7,dq⟩:=q;exact fin I7 fun s' J=>⟨_,H7,J,dq⟩
  | ret u=>obtain⟨v,O,H7,I7,r,dq⟩:=q;exact fin I7 fun s' J=>⟨v,_,H7,J,r,dq⟩
end
section
variable {P:Program}{w:World}{K:QF}{mg:QN}{base:Heap}
theorem JD.okX {x qual:Str}{st:Stmt}{f:Addr}{fd:FuncData}{N ps:QP}{k:Nat}{sp:Sp}(F:JD K x qual st f fd)(S:Zw N ps (Zj st))(len:∀vs H Q E,sp vs H Q E->vs.length=ps.length)
  (J:∀(I:Value)(A:Around)(outer:QK)(s:Shared)(H:Hp)(vs:QH)(Q:VK)(E:XK),Gz k (A.deeper (envOfC qual (Zj st) s.heap.objs.size f I))->sp vs H Q E ->
   ∃t,PSs (WH (CX1 P w) P w K mg base N qual (Zj st) f I A outer s H E) (Jt st) t/\t { nx:=fun _ H'=>Q .non H',rt:=Q } (start N vs) H):Yc P w K mg base (CX1 P w) (k+1) f fd ps sp:=by
 obtain⟨oc,od,kV,doc,pm,an,I,ct,osl,rfl,V,O⟩:=F.ex;exact RY V O S len fun A outer s H vs Q E W U=>J I A outer s H vs Q E W U
def Lw (P:Program)(w:World)(K:QF)(mg:QN)(base:Heap)(k:Nat)(x:Str)(ps:QP)(sp:Sp):Prop:=
 ∃(f:Addr)(fd:FuncData),Yc P w K mg base (CX1 P w) k f fd ps sp/\mg x=some (.ref f)/\W.keepIn K (.ref f)=true/\Binds K fd ps []
theorem DA {X:Cx}{k:Nat}{x:Str}{ps:QP}{sp:Sp}{p pos:Pos}{e:Expr}{es:QV}{t:TA}{E:XK}(h:Lw X.prog X.w X.K X.mg X.base k x ps sp)(J:Gz k X.A)(O:Passes (CX1 X.prog X.w) X E)(ha:PA X (e::es) t)(hg:Gl X x:=by rfl)(F:(x==("__debug__" : Str))=false:=by decide)
  (S:starEach (e::es) X.env=(false,eval e X.env)::starEach es X.env:=by rfl) (I:(backTo pos (starEach es X.env)).any (·.1)=false:=by rfl):PE X (.Call (.Name x p) (e::es) [] pos) (CI sp [] E t):=by
 obtain⟨f,fd,G,U,hk,hb⟩:=h;exact RQ G J hg U hk hb .nil O ha F S I
structure L8 (k:Nat)(A:Around):Prop where
 dp:A.depth+3*k+5<recursionLimit
 un:A.units+16*k+200<cLine
theorem Gz.suite {k:Nat}{A:Around}(r:Gz k A)(v:Option Value):L8 k (A.mark v):=⟨r.dp,r.un⟩
abbrev cxS (P:Program)(w:World)(K:QF)(mg:QN)(base:Heap)(N:QP)(qual:Str)(scope:Scope)(f:Addr)(cd:Value)(A:Around)(outer:QK)(s:Shared)(H:Hp):Cx:=
 { WH JZ P w K mg base N qual scope f cd A outer s H E0 with calm:=false,xe:=fun _ _=>False }
end
structure C5 (K:QF)(C:Addr):Prop where
 ga:W.findIn K (.ref C) "__getattribute__" = some (some (.builtin "BaseException.__getattribute__"))
 gn:W.findIn K (.ref C) "__getattr__" = some none
 ca:W.findIn K (.ref C) "__class__" = some (some (.builtin "object.__class__"))
 ob:W.mroIn K C (.type "object")=some true
 be:W.mroIn K C (.type "BaseException")=some true
 cl:(W.clsIn K C).isSome=true
def Qe (K:QF):List V->Hp->VK->Prop:=fun xs H Q=>∃(a C:Addr)(y:V)(b:Bool),xs = [.ref a,y]/\H a=some (.ext (isX a C))/\C5 K C /\
 ((∃D,y = .ref D/\W.kitOne K (.ref C) (.ref D)=some b)∨(∃T,y = .ty T/\W.kitOne K (.ref C) (.type T)=some b))/\Q (.bl b) H
theorem Od {X:Cx}{K:QF}(h:X.K=K):YU X (.builtin "isinstance") (Qe K):=by
 subst h;intro pins s σ H vs us Q I J U;obtain⟨a,C,y,b,rfl,ha,F,V,q⟩:=U;cases J with
 | cons W J=>
  cases J with
  | cons O J=>
   cases J;cases W;have S:∃o,s.heap.get? a=some o/\o.cls = .ref C:=let ⟨o,e,c,_⟩:=(show isX a C s.heap from(I.hok a _ ha).1);⟨o,e,c⟩
   rcases V with⟨D,rfl,hk⟩ | ⟨T,rfl,hk⟩
   ·cases O;exact qg (PY F.ga F.gn F.ca F.ob F.be F.cl) I.kIn S hk (fun z=>nomatch z) fun tk=>⟨.bl b,H,I.tok _,rfl,q⟩
   ·cases O;exact qg (PY F.ga F.gn F.ca F.ob F.be F.cl) I.kIn S hk (fun z=>nomatch z) fun tk=>⟨.bl b,H,I.tok _,rfl,q⟩
def PZ:List (TE×TE)->St->Hp->(List (V×V)->Hp->Prop)->Prop
 | [],_,H,Q=>Q [] H
 | (tk,tv)::r,σ,H,Q=>tk σ H fun x H1=>tv σ H1 fun y H2=>PZ r σ H2 fun ps H3=>Q ((x,y)::ps) H3
abbrev VV:List (V×V)->List (Value×Value)->Prop:=Paired fun p q=>RelV p.1 q.1/\RelV p.2 q.2
def PPs (X:Cx)(pos:Pos)(keys:List (Option Expr))(aK:QV)(bO:List (TE×TE)):Prop:=
 ∀(pins:QC)(s:Shared)(σ:St)(H:Hp)(Q:List (V×V)->Hp->Prop),Inv X pins σ H s->PZ bO σ H Q ->
  wpAny (model X.prog X.w) X.A (evalPairs (pairTrees keys aK X.env pos)) (fun vs s'=>∃ps H',Inv X pins σ H' s'/\VV ps vs/\Q ps H') X.xe s
theorem Qf {X:Cx}{pos:Pos}:PPs X pos [] [] []:=fun pins s σ H Q I h=>pairTrees_nil_walk ⟨[],H,I,.nil,h⟩
theorem Oe {X:Cx}{pos:Pos}{k v:Expr}{ks:List (Option Expr)}{vs:QV}{tk tv:TE}{bO:List (TE×TE)}(hk:PE X k tk)(J:PE X v tv)(O:PPs X pos ks vs bO):
  PPs X pos (some k::ks) (v::vs) ((tk,tv)::bO):=fun pins s σ H Q I h=>
 pairTrees_cons_walk (YM (hk pins s σ H _ I h) fun u S ⟨x,H1,I1,U,V⟩=>YM (J pins S σ H1 _ I1 V) fun w2 W ⟨y,H2,I2,Y,Z⟩=>
  YM (O pins W σ H2 _ I2 Z) fun ws s3 ⟨ps,H3,I3,F,q3⟩=>⟨(x,y)::ps,H3,I3,.cons ⟨U,Y⟩ F,q3⟩)
def DB (kvs more:QD):QD:=more.foldl (fun aY kv=>putK aY kv.1 kv.2) kvs
theorem KV.merge:∀{more:QD}{rs:List (Key×Value)}{kvs:QD}{vs:List (Key×Value)},KV more rs->KV kvs vs->KV (DB kvs more) (merged vs rs):=by
 intro more rs kvs vs r;unfold KV at r
 induction r generalizing kvs vs with
 | nil=>intro q;exact q
 | @cons p q ps qs h t ih=>
  intro F;have e:KV (putK kvs p.1 p.2) (stored vs q.1 q.2):=by have:=F.put p.1 h.2;rw[<- h.1];exact this
  exact ih e
theorem Og:∀(more kvs:QD),(DB kvs more).length<=kvs.length+more.length
 | [],kvs=>by show kvs.length<=kvs.length+0;lia
 | p::r,kvs=>by have h1:=Og r (putK kvs p.1 p.2);have h2:=Ga kvs p.1 p.2;show (DB (putK kvs p.1 p.2) r).length<=_;rw[Kk];lia
theorem Oh {P:Program}{w:World}:∀{kvs:QD}{ws:List (Value×Value)},VV (kvs.map fun F=>(kV F.1,F.2)) ws -> ∃rs,Carries (Z9 P w) ws rs/\KV kvs rs
 | [],_,r=>by rw[Me] at r;cases r;exact⟨[],True.intro,.nil⟩
 | p::kvs,_,r=>by
  rw[Ko] at r;cases r with
  | @cons a b I bs h t=>
   obtain⟨rs,c,q⟩:=Oh (P:=P) (w:=w) t;obtain⟨b1,b2⟩:=b;exact⟨(p.1,b2)::rs,⟨Dw h.1,rfl,c⟩,.cons ⟨rfl,h.2⟩ q⟩
def Qg (bO:List (TE×TE)):TE:=fun σ H Q=>∀p,H p=none->PZ bO σ (upd H p (.dK [])) fun ps H2=>H2 p=some (.dK []) /\ ∃kvs:QD,ps=kvs.map (fun kv=>(kV kv.1,kv.2))/\kvs.length<=15/\Q (.ref p) (upd H2 p (.dK (DB [] kvs)))
theorem Qh {X:Cx}{pos:Pos}{keys:List (Option Expr)}{aK:QV}{bO:List (TE×TE)}(h:PPs X pos keys aK bO)(F:keys.all (·.isSome)=true)(U:keys.length=aK.length)(h0:keys ≠ [])
  (O:keys.length<=15):PE X (.Dict keys aK pos) (Qg bO):=by
 intro pins s σ H Q I q;have V:=I.hok.fresh (km s.heap.objs.size);have I1:=I.laid (a:=s.heap.objs.size) (o:=.dK []) (h':=s.heap.push { cls:=.type "dict", data:=.dict #[] }) (t':=s.toks) (fun _ _ q=>kz _ q) (km _) (SG s.heap I.big);refine wpAny_Dict_walk (knd:=Z9 X.prog X.w) F U h0 O (YM (h pins _ σ _ _ I1 (q _ V)) fun ws s2 ⟨ps,H2,I2,S,e,kvs,ep,lk,W⟩=>?_);subst ep;obtain⟨rs,c,Y⟩:=Oh (P:=X.prog) (w:=X.w) S;obtain⟨z,hd,Z,r0,dd⟩:=Pz I2.hok e;cases r0;refine⟨rs,c,dd,fun h' J hs=>⟨.ref s.heap.objs.size,_,?_,rfl,W⟩⟩;have hz:(DB [] kvs).length<=sizeLine:=by have h1:=Og kvs [];rw[Xg] at h1;rw[kY];lia
 have he:∃q,h'.get? s.heap.objs.size=some q:=let ⟨q,_,_,hq,_⟩:=J;⟨q,hq⟩
 exact PB I2 (by rw[e];exact True.intro) hs he (PD hz hd (Y.merge .nil) J)
def P0 (lo:Int)(n:Nat):It:=⟨fun i _=>i<n,fun i H x H'=>H'=H/\x = .int (lo+i*2),fun i _=>n<=i⟩
theorem Qi {P:Program}{w:World}{K:QF}{tg:Expr}(it:Addr)(lo:Int)(n:Nat):Turn P w K tg (P0 lo n) [it] it (fun i h=>IsRangeIter h it (lo+(i:Nat)*2) ((n:Int)-(i:Nat)) 2) where
 mem:=by simp
 obj:=fun i h st b hb=>by
  have e:b=it:=by simpa using hb
  subst e;exact⟨_,st,fun v z=>by have z':Data.fields _=Data.cell v:=z;cases z'⟩
 keep:=fun i h h' st k=>k it (by simp) _ st
 item:=by intro X J hw O S i pins s σ H E I F st hg;subst J hw O;obtain⟨U,V,f2,Y,Z,f5⟩:=F it (by simp);have W:=Walks.range (prog:=X.prog) (w:=X.w) (I.ok.hd S) it lo 2 n;refine W.item i s _ _ hg st fun v h' tk hv st' kk=>?_;obtain⟨t,rfl⟩:=hv;have I1:Inv X pins σ H { s with heap:=h',toks:=tk }:=I.turned (fun b o hb e=>kk b o (by simpa using hb) e) U V Y Z f5;exact⟨_,rfl,DJ (s:={ s with heap:=h',toks:=tk }) (n := "range_iterator") st' rfl rfl (by decide) ⟨.int (lo+i*2),H,I1,⟨t,rfl⟩,⟨rfl,rfl⟩,st',fun b hb=>(F b hb).1⟩⟩
 done:=by intro X J hw O S i pins s σ H E I F st hg;subst J hw O;obtain⟨U,V,f2,Y,Z,f5⟩:=F it (by simp);exact wpAny_pyNext_range_end (I.ok.hd S) st (by have:n<=i:=hg;lia) fun h' eb=>⟨rfl,I.turned (t':=s.toks) (fun b o hb e=>eb b o hb e) U V Y Z f5⟩
 self:=fun _ _ _ _ _ st h=>wpAny_pyIter_rangeiter st h
section
variable {X:Cx}{tg:Expr}
inductive Qj(R:It->Hp->Prop)(vs:QH)(H1:Hp):Prop|mk(n:Nat)(_:vs = [.int 0,.int (2*n),.int 2])(_:n<100000)(_:R (P0 0 n) H1)
def Qk (ta:TA):TI:=fun σ H R=>ta σ H fun vs H1=>Qj R vs H1
theorem Oi (n:Nat):Builtin.Range.rangeSize 0 (2*(n:Int)) 2=n:=by unfold Builtin.Range.rangeSize;rw[kj (by decide)];split<;>lia
theorem GS {i:Int}(h0 : -1<=i)(h1:i<1000000):Builtin.Range.rangeFitsLong i=true:=by unfold Builtin.Range.rangeFitsLong;rw[Kc];exact⟨kH (by lia),kH (by lia)⟩
theorem Ql {n:Nat}(h:n<100000):Builtin.Range.small 0 (2*(n:Int)) 2=true:=by unfold Builtin.Range.small;rw[Oi];rw[kj (by decide),GS (i:=0) (by lia) (by lia),GS (i:=2*(n:Int)) (by lia) (by lia),GS (i:=2) (by lia) (by lia),GS (i:=(n:Int)) (by lia) (by lia),GS (i:=2*(n:Int)+(2-1)) (by lia) (by lia)];simp
theorem Qm {a b c:Expr}{ta:TA}{p pos:Pos}(hg:Gl X "range")(U:X.mg "range" = none)(ha:PA X [a,b,c] ta)(hs:starEach [a,b,c] X.env = [(false,eval a X.env),(false,eval b X.env),(false,eval c X.env)]:=by rfl)(J:starEach [b,c] X.env = [(false,eval b X.env),(false,eval c X.env)]:=by rfl):
  PI X tg (.Call (.Name "range" p) [a,b,c] [] pos) (Qk ta):=by
 intro pins s σ H R I h;refine Call_ (UJ I hg U boot_range (KS (YM (ha pos pins s σ H _ I h) fun us F ⟨vs,H1,I1,V,W⟩=>?_) (by rw[hs,J]) (by rw[J];rfl)));obtain⟨n,e,Y,q⟩:=W;subst e;cases V with
 | cons r O=>
  cases O with
  | cons Z O=>
   cases O with
   | cons r2 O=>
    cases O;obtain⟨t,rfl⟩:=r;obtain⟨t',rfl⟩:=Z;obtain⟨S,rfl⟩:=r2;refine call_range_3 (by decide) ?_ (Or.inl (Mb (by lia)));refine Nc (IsRange.new ..) (Ql Y) ?_;have I2:Inv X pins σ H1 { F with heap:=F.heap.push { cls:=.type "range", data:=.fields #[.int 0 t,.int (2*(n:Int)) t',.int 2 S] } }:=I1.kept (t':=F.toks) fun b o e=>kz _ e;refine⟨(F.heap.push { cls:=.type "range", data:=.fields #[.int 0 t,.int (2*(n:Int)) t',.int 2 S] }).objs.size,[(F.heap.push { cls:=.type "range", data:=.fields #[.int 0 t,.int (2*(n:Int)) t',.int 2 S] }).objs.size],_,_,H1,rfl,
     I2.kept (t':=F.toks) fun b o e=>kz _ e,Qi _ 0 n,?_,fun b hb=>?_,q⟩
    ·have e1:(0:Int)+((0:Nat):Int)*2=0:=by simp
     have e2:((n:Nat):Int)-((0:Nat):Int)=Builtin.Range.rangeSize 0 (2*(n:Int)) 2:=by rw[Oi];simp
     show IsRangeIter _ _ ((0:Int)+((0:Nat):Int)*2) (((n:Nat):Int)-((0:Nat):Int)) 2;rw[e1,e2];exact Kf _ rfl
    ·have e:b=(F.heap.push { cls:=.type "range", data:=.fields #[.int 0 t,.int (2*(n:Int)) t',.int 2 S] }).objs.size:=by simpa using hb
     subst e;exact I2.fpOk (km _) (I2.hok.fresh (km _))
end
theorem Qn {lo:Int}{n:Nat}{g:TG}{tb:TS}{D:Ends}{σ:L2.St}{H:Hp}(Pv:Nat->L2.St->Hp->Prop)(h0:Pv 0 σ H)
  (hs:∀i σ H,i<n->Pv i σ H->g (.int (lo+i*2)) σ H fun I H2=>tb { D with nx:=Pv (i+1),ct:=Pv (i+1),bk:=D.nx } I H2) (hd:∀ σ H,Pv n σ H->D.nx σ H):
  Dl (P0 lo n) g tb D σ H:=by
 refine⟨fun i m σ H=>m=n-i/\i<=n/\Pv i σ H,⟨n,by simp,Kn _,h0⟩,?_⟩;rintro i m σ H ⟨rfl,hi,p⟩;by_cases F:i<n
 ·refine .inr ⟨F,Pv (i+1),fun J H' O=>⟨n-(i+1),by lia,rfl,F,O⟩,fun x H' y=>?_⟩;obtain⟨rfl,rfl⟩:=y;exact hs i σ _ F p
 ·exact .inl ⟨by show n<=i;lia,hd σ H ((show i=n by lia) ▸ p)⟩
theorem Qo {K:QF}{a b:Addr}{xs ys:QH}{g:TG}{tb:TS}{D:Ends}{σ:L2.St}{H:Hp}(hl:xs.length=ys.length)(Pv:Nat->L2.St->Hp->Prop)(h0:Pv 0 σ H)(S:∀i σ H,Pv i σ H->Zr K H a xs/\Zr K H b ys)
  (hs:∀i x y p σ H,xs[i]? = some x->ys[i]? = some y->Pv i σ H->H p=none->g (.ref p) σ (upd H p (.tup [x,y])) fun I H2=>tb { D with nx:=Pv (i+1),ct:=Pv (i+1),bk:=D.nx } I H2) (hd:∀ σ H,Pv xs.length σ H->D.nx σ H):
  Dl (Itz K a b) g tb D σ H:=by
 refine⟨fun i m σ H=>m=xs.length-i/\i<=xs.length/\Pv i σ H,⟨xs.length,by simp,Kn _,h0⟩,?_⟩;rintro i m σ H ⟨rfl,hi,p⟩;obtain⟨J,O⟩:=S i σ H p;by_cases F:i<xs.length
 ·refine .inr ⟨⟨xs,ys,xs[i],ys[i]'(by lia),J,O,by simp[F],by simp[show i<ys.length by lia]⟩,Pv (i+1),fun U H' V=>⟨xs.length-(i+1),by lia,rfl,F,V⟩,fun x H' y=>?_⟩;obtain⟨q,u,v,W,Y,Z,y1,y2⟩:=y;subst W Z;exact hs i u v q σ _ (y1 xs J) (y2 ys O) p Y
 ·exact .inl ⟨⟨xs,ys,J,O,.inl (by lia)⟩,hd σ H ((show i=xs.length by lia) ▸ p)⟩
end L2
namespace L2
open PySem PySem.Spec PyProof.Rows PyProof.V
variable {j n i k m lo:Nat}{α β:Type}{M:Model}{aE:QS}{st:SortSt}
section
variable {X:Cx}
inductive Oj(K:QF)(x y:V)(H:Hp)(Q:VK):Prop|mk(p q:Addr)(ns ms:QG)(_:x = .ref p)(_:y = .ref q)(_:Zr K H p (ns.map V.int))(_:Zr K H q (ms.map V.int))(_:Q (.bl (decide (ns=ms))) H)
theorem C6 {ns:QG}{its:QJ}(r:Vals (ns.map V.int) its)(h:j<its.toArray.size):∃t,its.toArray[j] = .int (ns.getD j 0) t:=by
 have l:=r.length;rw[ke] at l;have F:j<ns.length:=by simp only[kr] at h;lia
 obtain⟨u,e,I⟩:=r.get (i:=j) (x:=V.int ns[j]) (by simp[F]);obtain⟨t,q⟩:=(show ∃t,u=Value.int ns[j] t from I);have hi:j<its.length:=by lia
 refine⟨t,?_⟩;have:its[j]? = some its[j]:=by simp[hi]
 rw[this] at e;have J:=k9 e;simp[F];rw[J,q]
theorem Qp (hu:X.A.units+64<cLine):Uo X (compareOp .Eq) (Oj X.K):=by
 intro pins s σ H x y v u Q I Y Z h;obtain⟨p,q,ns,F,rfl,rfl,hp,hq,J⟩:=h;cases Y;cases Z;obtain⟨its,O,S,_⟩:=I.list hp;obtain⟨U,V,p2,_⟩:=I.list hq;have l1:=O.length;have l2:=V.length;rw[ke] at l1 l2;by_cases W:ns.length=F.length
 ·refine Ms (e:=fun j=>ns.getD j 0==F.getD j 0) S.isList p2.isList (by simp only[kr];lia) (by lia) (fun j h1 h2=>?_) ⟨.bl (decide (ns=F)),H,I,?_,J⟩
  ·obtain⟨t1,e1⟩:=C6 O h1;obtain⟨t2,e2⟩:=C6 V h2;rw[e1,e2];exact Nh _ _ _ _
  ·show Value.bool _=Value.bool _;congr 1;rw[qJ,Ks,Lj];constructor
   ·intro z;refine List.ext_getElem W fun i h1 h2=>?_;have:=z i (Ku.mpr (by simp only[kr];lia));simpa [h1,h2] using this
   ·intro z i _;rw[z];simp
 ·refine SeqAt.eq_list_lengthsAt S.isList p2.isList (by simp only[kr];rw[XQ];lia) (by lia) ⟨.bl (decide (ns=F)),H,I,?_,J⟩;rw[Kh (fun z=>W (by rw[z]))];rfl
theorem Qq {K:QF}(h:X.K=K)(F:X.A.units+64<cLine):Uo X (compareOp .Eq) (Oj K):=h ▸ Qp F
end
theorem Ol {α:Type}:∀{l:List α}{i:Nat}(h:i<l.length),([l[i]]++l.eraseIdx i).Perm l
 | _::_,0,_=>.refl _
 | x::l,i+1,h=>by have:=Ol (l:=l) (i:=i) (by simpa using h);exact(List.Perm.swap _ _ _).trans (this.cons x)
theorem Om {α:Type}(nx:Nat->Nat):∀(n k:Nat)(left:List α)(out:Array α),left.length=n->(pickOrder.go nx n k left out).toList.Perm (out.toList++left)
 | 0,k,left,out,h=>by
  cases left with
  | nil=>simp[pickOrder.go]
  | cons _ _=>cases h
 | n+1,k,left,out,h=>by have hi:nx k % left.length<left.length:=Mh _ (by lia);unfold pickOrder.go;rw[ko hi];dsimp only;refine(Om nx n (k+1) _ _ (by rw[Np hi];lia)).trans ?_;rw[Array.toList_push,Kl];exact Xc _ (Ol hi)
theorem Qr (nx:Nat->Nat)(xs:Array α):(pickOrder nx xs).toList.Perm xs.toList:=by have:=Om nx xs.size 0 xs.toList #[] (by simp);simpa [pickOrder] using this
theorem Oo {α β:Type}{F:α -> β -> Prop}{x:α}{y:β}(I:F x y):∀(p:Nat){l:List α}{r:List β},Paired F l r->Paired F (l.take p++x::l.drop p) (r.take p++y::r.drop p)
 | 0,_,_,h=>.cons I h
 | p+1,_,_,.nil=>.cons I .nil
 | p+1,_,_,.cons a t=>.cons a (Oo I p t)
section
variable {prog:Program}{w:World}{A:Around}{E:QE}{s:Shared}{a:Addr}{b:Nat->Bool}{ep:Nat}{es:Array (Int×Value)}
abbrev M7 (led:Bool):Obj:={ cls:=.type "set", dict:=none,data:=.set #[] 0 (.fresh 0 0 led) }
abbrev Led (w:World)(led:Bool):Prop:=w.params.followText "set-order" = true∨led=true
def Oq (prog:Program)(w:World)(u:Nat)(S:Addr)(J:Nat->Heap->Prop)(i:Nat)(v:Value):Prop:=
 ∀(A:Around)(E:QE)(s:Shared)(Q:Bool->Shared->Prop),A.units<=u->J i s.heap ->
  (∀b h' tk,s.toks<=tk->J (i+1) h'->Heap.SameBut S s.heap h'->Q b { s with heap:=h',toks:=tk })->wpAny (model prog w) A (setAdd S v) Q E s
theorem grow {R:Result->Shared->Prop}{I:Addr}{fp wr:List Addr}{G:Array GenState->Array GenState->Prop}{P:Nat->Value->Prop}{St:Nat->Shared->Prop}
  (W:WalksS prog w A.in1 I fp wr G n P St) {S:Addr} (Z:S∉fp) {J:Nat->Heap->Prop} (V:∀i h h',J i h->(∀c o,c∉wr->h.get? c=some o->h'.get? c=some o)->J i h') (ja:∀i v,P i v->Oq prog w A.in1.units S J i v):
  ∀(k i:Nat)(s:Shared),i+k=n->St i s->J i s.heap->(∀s',Moved (S::wr) G s s'->J n s'.heap->R (.ok (.ret .none)) s')->codeAny (model prog w) A (.builtin "set.update.loop" ⟨[.ref S,.ref I],[]⟩) R s:=by
 have sub:∀c∈wr,c∈S::wr:=fun c O=>.tail _ O;intro k
 induction k with
 | zero=>
  rintro i s e st j U;obtain rfl:i=n:=e;refine qK F.entry_set_update_loop ?_;rw[qF Tj _]
  wp_walk using W.done s _ _ st
  intro s' m
  wp_walk
  exact U s' (m.mono sub) (V _ _ _ j m.heap)
 | succ k ih=>
  rintro i s rfl st j U;refine qK F.entry_set_update_loop ?_;rw[qF Tj _]
  wp_walk using W.item i s _ _ (by lia) st
  intro v s' p st' m;have j':=V _ _ s'.heap j m.heap;refine kg (KC (ja i v p _ _ s' _ (km _) j' fun b h' tk le j2 Y=>?_))
  wp_walk
  refine⟨TJ Tj _,ih (i+1) _ (by lia) (W.frame _ s' _ _ st' le fun c O o e=>(Y.2 c fun z=>Z (z ▸ O)).trans e) j2 fun s2 m2 j3=>U s2 (Moved.trans W.gtrans ((m.mono sub).then_heap le fun c o O e=>(Y.2 c fun z=>O (z ▸ .head _)).trans e) m2) j3⟩
theorem Ot {c:Code}{R:Result->Shared->Prop}{Q:QE}(x:codeAny M A c (wants Q E) s)(ok:∀v F,Q v F->R (.ok (.ret v)) F)(I:∀e F,E e F->R (.error e) F):codeAny M A c R s:=
 T7 x fun r F h=>match r,h with
  | .ok (.ret v),h=>ok v F h
  | .error e,h=>I e F h
theorem Qs {x:Value}{Q:QE}
  (h:∀led:Bool,Led w led->wpAny (model prog w) A.in1.in1 (Builtin.«set.__init__» ⟨[.ref s.heap.objs.size,x],[]⟩) (fun f I=>f = .done (.ret .none)/\Q (.ref s.heap.objs.size) I) E { s with heap:=s.heap.push (M7 led) }):
  wpAny (model prog w) A (call (.type "set") [x]) Q E s:=by
 have ⟨c,tl,m⟩:=Xx.mro;have:=Xx.made;have:=Xx.sub;have:=Xx.notType;have:=Xx.canCreate;have:=F.typeCall_set_1 x;have:=sub_set_self;refine wpAny_call (codeAny_of_tree (kG ⟨Code.quiet_builtin _ (by decide +kernel),qK F.entry_type_call ?_⟩));rw[Around.under_plain (weight_type_call_type "set" [x] []) rfl]
 wp_walk
 refine Ot (Q:=fun v I=>∃led,Led w led/\v = .ref s.heap.objs.size/\I = { s with heap:=s.heap.push (M7 led) }) (E:=E) (Xn F.plain_set_new F.entry_set_new (TL (F.newCall_set_1 x) ?_)) ?_ fun _ _ e=>e
 ·obtain⟨O,g,d,tk,os⟩:=s
  wp_walk using XU
  refine⟨_,?_,rfl,rfl⟩;show _∨(!w.params.followText "set-order")=true;cases w.params.followText "set-order" <;> simp
 ·rintro _ _ ⟨led,J,rfl,rfl⟩;have ty:Shared.TypeIs { s with heap:=s.heap.push (M7 led) } (.ref s.heap.objs.size) "set" := ⟨_,Kf _ rfl,rfl⟩;have:=Xx.init.lookup;have:=Xx.init.bind (.ref s.heap.objs.size)
  wp_walk
  refine Ot (Q:=fun r I=>r = .none/\Q (.ref s.heap.objs.size) I) (E:=E) (Xn Xx.init.plain F.entry_set_init (check_set_init_1 ty (KD (h led J) ?_ fun _ _ e=>e))) ?_ fun _ _ e=>e
  ·rintro _ I ⟨rfl,q⟩;exact⟨rfl,q⟩
  ·rintro _ I ⟨rfl,q⟩
   wp_walk
   exact q
theorem Qt {l:Addr}{its:QY}{J:Nat->Heap->Prop}{Q:QE}(Z:A.handled=none)(U:s.heap.IsList l its)
  (V:∀i h h',J i h->(∀c o,c<=s.heap.objs.size->h.get? c=some o->h'.get? c=some o)->J i h') (j0:∀led,Led w led->J 0 (s.heap.push (M7 led))) (ja:∀(i:Nat)(v:Value),its[i]? = some v->Oq prog w (A.units+3) s.heap.objs.size J i v)
  (h:∀h' tk,J its.size h'->(∀c o,c<s.heap.objs.size->s.heap.get? c=some o->h'.get? c=some o)->Q (.ref s.heap.objs.size) { s with heap:=h',toks:=tk }):wpAny (model prog w) A (call (.type "set") [.ref l]) Q E s:=by
 refine Qs fun led I=>?_;have gs:(s.heap.push (M7 led)).get? s.heap.objs.size=some (M7 led):=Kf _ rfl;have O:=U.push (M7 led);obtain⟨⟨cls,dd,mu,sl⟩,W,g2,n,g3⟩:=id U;cases g2;cases g3;have zm:=kz (M7 led) W;have:=F.sub_list_set;have:=F.sub_list_frozenset;have:(Value.type "list" == Value.type "dict")=false:=by decide
 wp_walk using NB O
 have sz:(s.heap.push (M7 led)).objs.size=s.heap.objs.size+1:=Nk ..;have Y:l<s.heap.objs.size:=k6 W;have out:∀c:Nat,c<=s.heap.objs.size->c ∉ [(s.heap.push (M7 led)).objs.size]:=fun c S z=>by have:=kR.mp z;lia
 refine grow (Walks.list (by simp[Z]) _ l (fun z=>out l (Kv Y) (z ▸ .head _)) its).toS (fun z=>?_) (fun i h h' j k=>V i h h' j fun c o S e=>k c o (out c S) e) ja its.size 0 _ (Xy _) ⟨⟨_,Kf _ rfl,rfl,rfl⟩,O.push _⟩ (V _ _ _ (j0 led I) fun c o _ e=>kz _ e) fun s' m j=>?_
 ·rcases kQ.mp z with z | z
  ·exact out _ (km _) (z ▸ .head _)
  ·exact Xj Y (kR.mp z)
 ·wp_walk
  rw[Moved.eq_with m];exact⟨rfl,h _ _ j fun c o S e=>m.heap c o (fun z=>(kQ.mp z).elim (Kj S) (out c (Kv S))) (kz _ (kz _ e))⟩
end
theorem C7:Slot "set_iterator" "__next__" "set_iterator.__next__" := .of (owner := "set_iterator") (n := "__next__") (by rw[TY,XE];kernel_rfl) (by decide +kernel) (by decide +kernel) (by decide +kernel) (by first | exact .inl (by decide +kernel) | exact .inr (by decide +kernel)) (by rw[MI];kernel_rfl)
theorem Ou:Slot "set_iterator" "__iter__" "set_iterator.__iter__" := .of (owner := "set_iterator") (n := "__iter__") (by rw[TY,XE];kernel_rfl) (by decide +kernel) (by decide +kernel) (by decide +kernel) (by first | exact .inl (by decide +kernel) | exact .inr (by decide +kernel)) (by rw[MI];kernel_rfl)
theorem Qu:entryFor table "set_iterator.__next__" = some Builtin.«set_iterator.__next__»:=N2 (by kernel_rfl)
theorem Qv:entryFor table "set_iterator.__iter__" = some Builtin.«dict_keyiterator.__iter__»:=MJ (id' := "dict_keyiterator.__iter__") (by kernel_rfl) rfl (by decide +kernel) (by kernel_rfl)
theorem Qw:entryFor table "set.__iter__" = some Builtin.«frozenset.__iter__»:=MJ (id' := "frozenset.__iter__") (by kernel_rfl) rfl (by decide +kernel) (by kernel_rfl)
theorem Ov:Manifest.owners.lookup (String.ofList ['r', 'o', 't', 'a', 'r', 'e', 't', 'i', '_', 't', 'e', 's'].reverse)=some Manifest.sig_set_iterator:=by kernel_rfl
theorem Qx (a:Value):argsOk "set_iterator.__next__" ⟨[a],[]⟩:=by unfold argsOk;rw[signature?_of (id := "set_iterator.__next__") (n:=['_', '_', 't', 'x', 'e', 'n', '_', '_']) (o:=['r', 'o', 't', 'a', 'r', 'e', 't', 'i', '_', 't', 'e', 's']) (by kernel_rfl) Ov];kernel_rfl
theorem Qy (a:Value):argsOk "set_iterator.__iter__" ⟨[a],[]⟩:=by unfold argsOk;rw[signature?_of (id := "set_iterator.__iter__") (n:=['_', '_', 'r', 'e', 't', 'i', '_', '_']) (o:=['r', 'o', 't', 'a', 'r', 'e', 't', 'i', '_', 't', 'e', 's']) (by kernel_rfl) Ov];kernel_rfl
def LI (h:Heap)(it:Addr)(f i:Nat)(a:Addr)(n ep:Nat):Prop:=∃o,h.get? it=some o/\o.cls = .type "set_iterator" /\ o.data = .fields #[.int f 0,.int i 0,.ref a,.int n 0,.int ep 0]
theorem LI.kept {h h':Heap}{it a:Addr}{f ep:Nat}(x:LI h it f i a n ep)(k:∀o,h.get? it=some o->h'.get? it=some o):LI h' it f i a n ep:=
 let ⟨o,e,r⟩:=x;⟨o,k o e,r⟩
def Md (w:World)(a:Addr)(ep:Nat)(es:Array (Int×Value)):Array (Int×Value):=if w.params.followText "set-order" = true then pickOrder (w.params.setOrder a ep) es else es
theorem Ow (w:World)(a:Addr)(ep:Nat)(es:Array (Int×Value)):(Md w a ep es).toList.Perm es.toList:=by
 unfold Md;split
 ·exact Qr _ _
 ·exact .refl _
section
variable {prog:Program}{w:World}{A:Around}{E:QE}{s:Shared}{a it:Addr}{b:Nat->Bool}{ep i:Nat}{es:Array (Int×Value)}
theorem Ox (w:World)(a:Addr)(ep:Nat)(es:Array (Int×Value)):(Md w a ep es).size=es.size:=by have:=(Ow w a ep es).length_eq;simpa using this
theorem LI.typeIs {f:Nat}(x:LI s.heap it f i a n ep):s.TypeIs (.ref it) "set_iterator" := let ⟨o,e,c,_⟩:=x;⟨o,e,c⟩
theorem Qz {Q:α -> Shared->Prop}(F:A.handled=none)(h:∀h' a,(∀b o,s.heap.get? b=some o->h'.get? b=some o)->Shared.TypeIs { s with heap:=h' } (.ref a) "StopIteration" -> E (.ref a) { s with heap:=h' }):
  wpAny (model prog w) A ((newExc (.type "StopIteration") [] >>= raiseNew:Sem α)) Q E s:=by
 wp_walk using qc,wpAny_raiseNew_none F
 ·exact h _ _ (fun b o e=>kz _ (kz _ e)) ⟨_,Kf _ rfl,rfl⟩
 all_goals size_fits
theorem P1 {x:Addr}{o:Obj}{vs:QY}{v:Value}{Q:Unit->Shared->Prop}(F:s.heap.get? x=some o)(hd:o.data = .fields vs)(hk:k<vs.size)
  (h:∀h',(∃o',h'.get? x=some o'/\o'.cls=o.cls/\o'.data = .fields (vs.setIfInBounds k v))->Heap.SameBut x s.heap h'->Q () { s with heap:=h' }):wpAny M A (setField (.ref x) k v) Q E s:=
 wpAny_setField F hd hk (h _ ⟨_,qN _ F (Obj.isFreed_of_fields (Te hd _)),Obj.cls_mapFields ..,Te hd _⟩ (XY ..))
structure L9 (prog:Program)(w:World)(a:Addr)(ep:Nat)(es:Array (Int×Value))(f:Nat->Nat)(C:Heap->Prop):Prop where
 there:∀{h},C h -> ∃o t,h.get? a=some o/\o.ExactSet/\o.data = .set es ep t/\t.fits es.size=true/\t.plain=true
 kept:∀{h h'},C h->(∀o,h.get? a=some o->h'.get? a=some o)->C h'
 first:f 0=0
 next:∀{A E s i}{Q:Option (Value×Nat)->Shared->Prop},C s.heap->i<=es.size->Q (((Md w a ep es)[i]?).map fun e=>(e.2,f (i+1))) s->wpAny (model prog w) A (setNext a (f i) i ep) Q E s
theorem QM {Q:Bool->Shared->Prop}(J:s.TypeIs (.ref a) "set")(h:Q false s):wpAny (model prog w) A (Builtin.List.listLengthHint (.ref a)) Q E s:=by
 unfold Builtin.List.listLengthHint;refine kg (Mr J PySem.F.slot_set_len.lookup ?_);generalize I:("set.__len__" : String)=id0
 wp_delta
 rw[show splitId id0=some ("set", "__len__") from by subst I;decide +kernel];subst I;refine kg (TC (T := "set") (b:=true) J (by rw[MI];kernel_rfl) ?_);refine XC (fun q=>absurd q (by decide)) fun _=>XC (fun _=>kg (qS J (kG h))) fun q=>absurd (by decide +kernel) q
section
variable {f:Nat->Nat}{C:Heap->Prop}(N:L9 prog w a ep es f C)
include N
theorem L9.typeIs (x:C s.heap):s.TypeIs (.ref a) "set" := let ⟨o,_,e,c,_⟩:=N.there x;⟨o,e,c.1⟩
theorem L9.go {Q:Option Value->Shared->Prop}(O:A.handled=none)(k:LI s.heap it (f i) i a es.size ep)(x:C s.heap)(hi:i<=es.size)
  (F:∀e h',(Md w a ep es)[i]? = some e->LI h' it (f (i+1)) (i+1) a es.size ep->Heap.SameBut it s.heap h'->Q (some e.2) { s with heap:=h' })
  (h2:(Md w a ep es)[i]? = none -> ∀h',Heap.ExtBut it s.heap h'->Q none { s with heap:=h' }):wpAny (model prog w) A (pyNext (.ref it)) Q E s:=by
 obtain⟨oi,k1,k2,k3⟩:=id k;obtain⟨o,t,S,hx,hd,U,pl⟩:=N.there x;have ty:=k.typeIs;unfold pyNext;refine kg (NM (qE (name:=Str.ofString "__next__") ty C7 (qA C7 ty Qu ?_ (Qx _))));have nx:∀{E Q},Q (((Md w a ep es)[i]?).map fun e=>(e.2,f (i+1))) s->wpAny (model prog w) A.in1 (setNext a (Int.toNat (f i:Int)) (Int.toNat (i:Int)) (Int.toNat (ep:Int))) Q E s:=fun q=>N.next x hi q
 wp_walk using wpAny_fieldsOf k1 k3,wpAny_setEntries_of S hd U,nx
 cases e:(Md w a ep es)[i]? with
 | some y=>
  wp_walk using P1 k1 k3
  ·show 0<5;decide
  rintro h1 ⟨o1,V,W,Y⟩ I
  wp_walk using P1 (s:={ s with heap:=h1 }) V Y
  ·show 1<5;decide
  rintro h2 ⟨Z,n1,n2,n3⟩ J
  wp_walk
  exact⟨_,rfl,kG (F y h2 e ⟨Z,n1,n2.trans (W.trans k2),by rw[n3];simp[rawInt]⟩ (I.trans J))⟩
 | none=>
  wp_walk using P1 k1 k3
  ·show 2<5;decide
  rintro h1 _ sb;refine Qz O fun h' z kp ty=>?_
  wp_walk using TC (T := "StopIteration") (b:=true) ty MK
  exact h2 e h' fun c o hc g=>kp c o ((sb.2 c hc).trans g)
theorem L9.walks (W:A.handled=none)(I:Addr)(S:a≠I):Walks prog w A I [I,a] [I] es.size (fun i v=>∃e,(Md w a ep es)[i]? = some e/\v=e.2) (fun i h=>i<=es.size/\LI h I (f i) i a es.size ep/\C h) where
 sub:=fun c J=>by simp at J;simp[J]
 frame:=fun _ _ _ st hk=>⟨st.1,st.2.1.kept fun o=>hk I (by simp) o,N.kept st.2.2 fun o=>hk a (by simp) o⟩
 item:=fun i s Q E lt ⟨le,F,x⟩ O=>N.go W F x le (fun e h' U V Y=>O _ h' s.toks ⟨e,U,rfl⟩ ⟨lt,V,N.kept x fun o=>Y.extBut a o S⟩ fun c o J=>Y.extBut c o fun z=>J (by simp[z])) fun q=>absurd (Array.getElem?_eq_none_iff.mp q) (by rw[Ox];lia)
 done:=fun s Q E ⟨le,F,x⟩ O=>N.go W F x le (fun e h' U=>absurd (qi.mp U).1 (by rw[Ox];lia)) fun _ h' ex=>O h' s.toks fun c o J=>ex c o fun z=>J (by simp[z])
 self:=fun _ s _ _ ⟨_,F,_⟩ O=>wpAny_pyIter_slot F.typeIs Ou (qA Ou F.typeIs Qv (kG ⟨_,rfl,_,_,F.typeIs,C7.lookup,O⟩) (Qy _))
theorem L9.iter {Q:QE}(x:C s.heap)(h:Q (.ref s.heap.objs.size) { s with heap:=s.heap.push { cls:=.type "set_iterator", data:=.fields #[.int (f 0) 0,.int 0 0,.ref a,.int es.size 0,.int ep 0] } }):wpAny (model prog w) A (pyIter (.ref a)) Q E s:=by
 obtain⟨o,t,I,S,hd,J,O⟩:=N.there x;rw[N.first] at h;have ty:=N.typeIs x;refine wpAny_pyIter_slot ty F.slot_set_iter (qA F.slot_set_iter ty Qw ?_ (F.args_set_iter_1 _))
 wp_walk using wpAny_setEntries_of I hd J,wpAny_setEpoch_of I hd J,Tr I hd J,XU,qc
 refine XC (fun q=>absurd q ?_) fun _=>?_
 ·show ¬((!w.params.followText "set-order")&&(!t.plain&&_))=true;rw[O];cases w.params.followText "set-order" <;> simp
 wp_walk using wpAny_setEpoch_of I hd J,qc
 ·exact⟨_,rfl,_,_,⟨_,Kf _ rfl,rfl⟩,C7.lookup,by simpa [rawInt] using h⟩
 ·size_fits
theorem L9.src:W.KdlSrc prog w "set" a a es.size (fun i v=>∃e,(Md w a ep es)[i]? = some e/\v=e.2) C where
 type:=fun _ x=>N.typeIs x
 there:=fun _ x=>let ⟨_,_,e,_⟩:=N.there x;⟨k6 e,k6 e⟩
 keep:=fun _ _ x k=>N.kept x fun o=>k a (.inl rfl) o
 notList:=by decide
 notTuple:=by decide
 hint:=fun _ _ _ _ x q=>QM (N.typeIs x) q
 iter:=fun _ s F x=>⟨_,_,(fun _ _ q=>N.iter x q),N.walks F _ (let ⟨_,_,e,_⟩:=N.there x;Kj (k6 e)),⟨Kn _,⟨_,Kf _ rfl,rfl,rfl⟩,N.kept x fun _ e=>kz _ e⟩⟩
end
end
theorem Oy:∀{ns:QG}{us:QJ},Vals (ns.map V.int) us->us.length=ns.length /\ ∀(i:Nat)(v:Value),us[i]? = some v -> ∃t,v = .int (ns.getD i 0) t
 | [],_,.nil=>⟨rfl,fun i v h=>by simp at h⟩
 | n::ns,u::us,.cons r t=>by
  obtain⟨F,I⟩:=Oy t;refine⟨by simp[F],fun i v h=>?_⟩;cases i with
  | zero=>
   simp at h;subst h;obtain⟨t,e⟩:=r;exact⟨t,e⟩
  | succ i=>simpa using I i v (by simpa using h)
section
variable {X:Cx}
def ev4:Int×Value->Int:=fun e=>match e.2 with
 | .int n _=>n
 | _=>0
theorem Oz:∀(F:QJ)(ns:QG),F.length=ns.length->(∀(j:Nat)(v:Value)(n:Int),F[j]? = some v->ns[j]? = some n -> ∃t,v = .int n t)->IntsAre F ns
 | [],[],_,_=>.nil
 | [],_::_,h,_=>by cases h
 | _::_,[],h,_=>by cases h
 | w::F,n::ns,hl,h=>by obtain⟨t,rfl⟩:=h 0 w n rfl rfl;exact .cons n t (Oz F ns (by simpa using hl) fun j v I J O=>h (j+1) v I (by simpa using J) (by simpa using O))
end
structure Wo (lt:Keyed->Keyed->Bool):Prop where
 irr:∀p,lt p p=false
 asym:∀p q,lt p q=true->lt q p=false
 neg:∀p q r,lt p r=true->lt p q=true∨lt q r=true
theorem Wo.leT {lt : Keyed -> Keyed -> Bool}(C : Wo lt){p q r : Keyed}(h1 : lt q p = false)(h2 : lt r q = false) : lt r p = false := by
  cases h : lt r p with
  | false => rfl
  | true => rcases C.neg r q p h with z | z
            · rw[z] at h2; cases h2
            · rw[z] at h1; cases h1
structure Cmp (prog:Program)(w:World)(A:Around)(E:QE)(s:Shared)(kd:SortKind)(D:Keyed->Prop)(lt:Keyed->Keyed->Bool):Prop where
 cmp:∀(p q:Keyed)(st:SortSt)(Q:Option Bool->SortSt->Prop),D p->D q->kindOf st=kd->Q (some (lt p q)) st->wpS (model prog w) A E s (lt' p q) Q st
 wo:Wo lt
section
variable {prog:Program}{w:World}{A:Around}{E:QE}{s:Shared}{kd:SortKind}{D:Keyed->Prop}{lt:Keyed->Keyed->Bool}
def Srt (lt:Keyed->Keyed->Bool)(l:List Keyed):Prop:=l.Pairwise fun p q=>lt q p=false
theorem OA {x:Keyed}{Q:Keyed->SortSt->Prop}(e:aE[i]? = some x)(h:Q x st):wpS M A E s (elem' aE i) Q st:=by rw[elem'_eq,e];exact KJ h
end
section
variable {prog:Program}{w:World}{A:Around}{E:QE}{s:Shared}{kd:SortKind}{D:Keyed->Prop}{lt:Keyed->Keyed->Bool}
section
variable {β:Type}{st:SortSt}{Q:β -> SortSt->Prop}{M:Model}
theorem QO {c:Bool}{X Y:StateT SortSt Sem β}(h1:c=true->wpS M A E s X Q st)(h2:c=false->wpS M A E s Y Q st):wpS M A E s (if c=true then X else Y) Q st:=by
 cases c with
 | true=>exact h1 rfl
 | false=>exact h2 rfl
theorem DZ {X Y:StateT SortSt Sem β}(h1:k>n->wpS M A E s X Q st)(h2:k<=n->wpS M A E s Y Q st):wpS M A E s (if k>n then X else Y) Q st:=by
 by_cases h:k>n
 ·rw[kj h];exact h1 h
 ·rw[kh h];exact h2 (by lia)
end
theorem QQ (h:(m==n)=false):m≠n:=fun e=>by rw[e] at h;simp at h
end
def QR:Nat->Nat->StateT SortSt Sem (Option Nat):=sortPriv% PySem.Builtin.countRun
def QU:Nat->Nat->Nat->StateT SortSt Sem Bool:=sortPriv% PySem.Builtin.binarySort
def P2:StateT SortSt Sem Unit:=sortPriv% PySem.Builtin.sortRuns
section
variable {prog:Program}{w:World}{A:Around}{E:QE}{s:Shared}{kd:SortKind}{D:Keyed->Prop}{lt:Keyed->Keyed->Bool}
def Mu (lt:Keyed->Keyed->Bool)(aE:QS)(lo m:Nat):Prop:=∀i j p q,i<=j->j<m->aE[lo+i]? = some p->aE[lo+j]? = some q->lt q p=false
def Mv (lt:Keyed->Keyed->Bool)(aE:QS)(lo m:Nat):Prop:=∀i j p q,i<=j->j<m->aE[lo+i]? = some p->aE[lo+j]? = some q->lt p q=false
def EqS (lt:Keyed->Keyed->Bool)(aE:QS)(b e:Nat):Prop:=∀i j p q,b<=i->i<e->b<=j->j<e->aE[i]? = some p->aE[j]? = some q->lt p q=false
structure Kp (lo n:Nat)(st st':SortSt):Prop where
 kind:kindOf st'=kindOf st
 pend:pendingOf st'=pendingOf st
 fail:failedOf st'=failedOf st
 perm:(arrOf st').toList.Perm (arrOf st).toList
 out:∀i,i<lo∨lo+n<=i->(arrOf st')[i]? = (arrOf st)[i]?
theorem Kp.refl (lo n:Nat)(st:SortSt):Kp lo n st st:=⟨rfl,rfl,rfl,.refl _,fun _ _=>rfl⟩
theorem Kp.trans {lo n:Nat}{a b c:SortSt}(x:Kp lo n a b)(y:Kp lo n b c):Kp lo n a c:=⟨y.kind.trans x.kind,y.pend.trans x.pend,y.fail.trans x.fail,y.perm.trans x.perm,fun i h=>(y.out i h).trans (x.out i h)⟩
theorem Kp.size {lo n:Nat}{a b:SortSt}(x:Kp lo n a b):(arrOf b).size=(arrOf a).size:=by have:=x.perm.length_eq;simpa using this
theorem Ca (h:i<aE.size):∃x,aE[i]? = some x:=⟨aE[i],getElem?_pos aE i h⟩
theorem Wq (C:Cmp prog w A E s kd D lt){Q:Option Bool->SortSt->Prop}(hi:i<(arrOf st).size)(O:j<(arrOf st).size)(J:∀x∈(arrOf st).toList,D x)(hk:kindOf st=kd)
  (h:∀p q,(arrOf st)[i]? = some p->(arrOf st)[j]? = some q->Q (some (lt p q)) st):wpS (model prog w) A E s (ltAt' i j) Q st:=by
 obtain⟨p,F⟩:=Ca hi;obtain⟨q,I⟩:=Ca O;rw[ltAt'_eq];refine Ky (wpS_get ?_);show wpS _ _ _ _ (elem' (arrOf st) i >>= fun x=>elem' (arrOf st) j >>= fun y=>lt' x y) Q st;refine Ky (OA F (Ky (OA I (C.cmp p q st Q (J p ?_) (J q ?_) hk (h p q F I)))))
 ·exact kT (by rw[qu];exact F)
 ·exact kT (by rw[qu];exact I)
theorem Lx {Q:Unit->SortSt->Prop}(h:Q () (setArr st (mirror (arrOf st) i j ((j-i) / 2)))):wpS M A E s (reverseSlice' i j) Q st:=by rw[reverseSlice'_eq];exact wpS_modify h
theorem JI (h1:lo<=i)(h2:j<=lo+n)(F:lo+n<=(arrOf st).size):Kp lo n st (setArr st (mirror (arrOf st) i j ((j-i) / 2))):=by refine⟨rfl,rfl,rfl,Nq.mp (mirror_perm _ _ _ _),fun k hk=>?_⟩;show (mirror (arrOf st) i j ((j-i) / 2))[k]? = _;rw[T6 (by lia),kh (by lia)]
theorem GR {b e:Nat}(h:Mv lt aE lo m)(V:EqS lt aE b e)(h1:lo<=b)(h2:e<=lo+m)(W:lo+m<=aE.size):Mv lt (mirror aE b e ((e-b) / 2)) lo m:=by
 intro i j p q S U F I;rw[T6 (by lia)] at F I;by_cases J:b<=lo+i/\lo+i<e<;>by_cases O:b<=lo+j/\lo+j<e
 ·rw[kj J] at F;rw[kj O] at I;exact V _ _ p q (by lia) (by lia) (by lia) (by lia) F I
 ·rw[kj J] at F;rw[kh O] at I;exact h (b+e-1-(lo+i)-lo) j p q (by lia) U (by rw[show lo+(b+e-1-(lo+i)-lo)=b+e-1-(lo+i) by lia];exact F) I
 ·rw[kh J] at F;rw[kj O] at I;exact h i (b+e-1-(lo+j)-lo) p q (by lia) (by lia) F (by rw[show lo+(b+e-1-(lo+j)-lo)=b+e-1-(lo+j) by lia];exact I)
 ·rw[kh J] at F;rw[kh O] at I;exact h i j p q S U F I
theorem C8 (h:Mv lt aE lo m)(O:lo+m<=aE.size):Mu lt (mirror aE lo (lo+m) ((lo+m-lo) / 2)) lo m:=by intro i j p q J S F I;rw[T6 (by lia),kj (by lia)] at F I;exact h (m-1-j) (m-1-i) q p (by lia) (by lia) (by rw[<- I];congr 1;lia) (by rw[<- F];congr 1;lia)
theorem UX (C:Wo lt)(h:Mv lt aE lo m)(V:0<m){d e:Keyed}(hd:aE[lo+m-1]? = some d)(S:aE[lo+m]? = some e)(I:lt d e=false):Mv lt aE lo (m+1):=by
 intro i j p q J W F O;by_cases c:j<m
 ·exact h i j p q J c F O
 ·obtain rfl:j=m:=by lia
  rw[S] at O;cases O;by_cases U:i=j
  ·subst U;rw[S] at F;cases F;exact C.irr _
  ·exact C.leT I (h i (j-1) p d (by lia) (by lia) F (by rw[show lo+(j-1)=lo+j-1 by lia];exact hd))
theorem QZ (C:Wo lt)(h:Mu lt aE lo m)(V:0<m){d e:Keyed}(hd:aE[lo+m-1]? = some d)(S:aE[lo+m]? = some e)(I:lt e d=false):Mu lt aE lo (m+1):=by
 intro i j p q J W F O;by_cases c:j<m
 ·exact h i j p q J c F O
 ·obtain rfl:j=m:=by lia
  rw[S] at O;cases O;by_cases U:i=j
  ·subst U;rw[S] at F;cases F;exact C.irr _
  ·exact C.leT (h i (j-1) p d (by lia) (by lia) F (by rw[show lo+(j-1)=lo+j-1 by lia];exact hd)) I
theorem DC (C:Wo lt){x:Nat}(aE:QS):EqS lt aE (lo+x-(0+1)) (lo+x):=fun i j p q i1 i2 j1 j2 I F=>by
 obtain rfl:i=j:=by lia
 rw[I] at F;cases F;exact C.irr _
theorem OB (C:Wo lt){b e:Nat}(h:EqS lt aE b e)(hb:b<e){d x:Keyed}(hd:aE[e-1]? = some d)(J:aE[e]? = some x)(h1:lt x d=false)(h2:lt d x=false):EqS lt aE b (e+1):=fun i j p q i1 i2 j1 j2 I F=>by
 by_cases O:i<e<;>by_cases S:j<e
 ·exact h i j p q i1 O j1 S I F
 ·obtain rfl:j=e:=by lia
  rw[J] at F;cases F;exact C.leT h2 (h i (j-1) p d i1 O (by lia) (by lia) I hd)
 ·obtain rfl:i=e:=by lia
  rw[J] at I;cases I;exact C.leT (h (i-1) j d q (by lia) (by lia) j1 S hd F) h1
 ·obtain rfl:i=e:=by lia
  obtain rfl:j=i:=by lia
  rw[I] at F;cases F;exact C.irr _
theorem Cb (C:Cmp prog w A E s kd D lt){a:Nat}{Q:Option (Option Nat)×Nat->SortSt->Prop}{aG:Nat->Option (Option Nat)×Nat->StateT SortSt Sem (ForInStep (Option (Option Nat)×Nat))}
  (hb:∀x m (R:ForInStep (Option (Option Nat)×Nat)->SortSt->Prop),1<=m->m<n->(∀p q,(arrOf st)[lo+m]? = some p->(arrOf st)[lo+m-1]? = some q->R (if lt p q=true then .done (none,m) else .yield (none,m+1)) st)->wpS (model prog w) A E s (aG x (none,m)) R st)
  (ha:1<=a) (O:a<=n) (hsz:lo+n<=(arrOf st).size) (hs:Mu lt (arrOf st) lo a)
  (h:∀m,a<=m->m<=n->Mu lt (arrOf st) lo m->(m<n -> ∀p q,(arrOf st)[lo+m]? = some p->(arrOf st)[lo+m-1]? = some q->lt p q=true)->Q (none,m) st):wpS (model prog w) A E s (forIn [a:n] (none,a) aG) Q st:=by
 refine XW (I:=fun x c st'=>st'=st/\c=(none,x)/\Mu lt (arrOf st) lo x) ?_ ?_ ⟨rfl,rfl,hs⟩
 ·rintro x c st' S U ⟨rfl,rfl,g⟩;refine hb x x _ (by lia) U fun p q V W=>?_;cases e:lt p q with
  | true=>
   exact h x S (by lia) g fun _ Y Z F J=>by
    rw[V] at F;rw[W] at J;cases F;cases J;exact e
  | false=>exact⟨rfl,rfl,QZ C.wo g (by lia) W V e⟩
 ·rintro c st' ⟨rfl,rfl,g⟩;rw[show max a n=n by lia] at g ⊢;exact h n O (km _) g fun z=>by lia
theorem Q0 (C:Cmp prog w A E s kd D lt){Q:Option Nat->SortSt->Prop}(hn:0<n)(hsz:lo+n<=(arrOf st).size)(hD:∀x∈(arrOf st).toList,D x)(hk:kindOf st=kd)
  (h:∀m st',1<=m->m<=n->Kp lo n st st'->Mu lt (arrOf st') lo m->Q (some m) st'):wpS (model prog w) A E s (QR lo n) Q st:=by
 have s1:∀aE:QS,Mu lt aE lo 1:=fun aE i j p q nh hj U S=>by
  obtain rfl:i=0:=by lia
  obtain rfl:j=0:=by lia
  rw[U] at S;cases S;exact C.wo.irr _
 refine Ky (Cb C (lo:=lo) (n:=n) (a:=1) (st:=st) (fun x m R h1 h2 hR=>?_) (km _) hn hsz (s1 _) fun m ni nj g nx=>?_)
 ·refine Ky (Wq C (by lia) (by lia) hD hk fun p q U S=>?_);have:=hR p q U S;cases e:lt p q with
  | true=>rw[e] at this;exact KJ this
  | false=>rw[e] at this;exact KJ this
 refine QO (c:=(m==n)) (fun c1=>KJ (h m st ni nj (Kp.refl _ _ _) g)) (fun c1=>?_);have cw:=QQ c1;obtain⟨pl,bN⟩:=Ca (show lo+m<(arrOf st).size by lia);obtain⟨ql,ik⟩:=Ca (show lo+m-1<(arrOf st).size by lia);have less:=nx (by lia) pl ql bN ik;refine DZ (k:=m) (n:=1) (fun z=>?_) (fun z=>?_)
 ·refine Ky (Wq C (i:=lo) (j:=lo+m-1) (by lia) (by lia) hD hk fun p q U S=>?_);cases e:lt p q with
  | true=>exact KJ (h m st ni nj (Kp.refl _ _ _) g)
  | false=>
   have nv:EqS lt (arrOf st) lo (lo+m):=fun i j a b i1 i2 j1 j2 ha hb=>by
    have gJ:(arrOf st)[lo+(i-lo)]? = some a:=by rw[show lo+(i-lo)=i by lia];exact ha
    have gL:(arrOf st)[lo+(j-lo)]? = some b:=by rw[show lo+(j-lo)=j by lia];exact hb
    have l1:=g (i-lo) (m-1) a q (by lia) (by lia) gJ (by rw[<- S];congr 1;lia);have l2:=g 0 (j-lo) p b (by lia) (by lia) (by rw[XX];exact U) gL;have l3:=g 0 (i-lo) p a (by lia) (by lia) (by rw[XX];exact U) gJ;have l4:=g (j-lo) (m-1) b q (by lia) (by lia) gL (by rw[<- S];congr 1;lia);exact C.wo.leT l4 (C.wo.leT e l3)
   refine Ky (Lx (i:=lo) (j:=lo+m) ?_);have k1:=JI (lo:=lo) (n:=n) (i:=lo) (j:=lo+m) (st:=st) (km _) (by lia) hsz;have il:Mv lt (arrOf st) lo m:=fun i j a b nh hj ha hb=>nv _ _ a b (by lia) (by lia) (by lia) (by lia) ha hb;have Y:Mv lt (arrOf (setArr st (mirror (arrOf st) lo (lo+m) ((lo+m-lo) / 2)))) lo (m+1):=GR (UX C.wo il (by lia) ik bN (C.wo.asym _ _ less)) nv (km _) (by lia) (by lia);generalize setArr st (mirror (arrOf st) lo (lo+m) ((lo+m-lo) / 2))=st1 at k1 Y ⊢;refine Ky (wpS_lift (XJ ⟨rfl,?_⟩));refine Ky (ML (XW (a:=m+1) (b:=n) (I:=fun x c st'=>∃F,c=(none,x,F)/\Kp lo n st st'/\Mv lt (arrOf st') lo x/\F+1<=x/\EqS lt (arrOf st') (lo+x-(F+1)) (lo+x))
    (Q:=fun c st'=>∃x F,c=(none,x,F)/\m+1<=x/\x<=n/\Kp lo n st st'/\Mv lt (arrOf st') lo x/\F+1<=x/\EqS lt (arrOf st') (lo+x-(F+1)) (lo+x)) ?_ ?_ ⟨0,rfl,k1,Y,by lia,DC C.wo _⟩) ?_)
   ·rintro x c J eJ uE ⟨F,rfl,k2,V,Z,W⟩;have z2:=k2.size;have eK:∀y∈(arrOf J).toList,D y:=fun y hy=>hD y (k2.perm.mem_iff.mp hy);have bc:=k2.kind.trans hk;refine Ky (Wq C (i:=lo+x) (j:=lo+x-1) (by lia) (by lia) eK bc fun p q U S=>?_);cases e:lt p q with
    | true=>
     have gs:=UX C.wo V (by lia) S U (C.wo.asym _ _ e);refine DZ (k:=F) (n:=0) (fun z=>?_) (fun z=>?_)
     ·refine Ky (Lx (i:=lo+x-(F+1)) (j:=lo+x) ?_);exact KJ ⟨0,rfl,k2.trans (JI (by lia) (by lia) (by lia)),GR gs W (by lia) (by lia) (by lia),by lia,DC C.wo _⟩
     ·exact KJ ⟨0,rfl,k2,gs,by lia,DC C.wo _⟩
    | false=>
     refine Ky (Wq C (i:=lo+x-1) (j:=lo+x) (by lia) (by lia) eK bc fun q' p' cM aZ=>?_);rw[S] at cM;rw[U] at aZ;cases cM;cases aZ;cases e':lt q p with
     | true=>exact KJ ⟨x,F,rfl,eJ,by lia,k2,V,Z,W⟩
     | false=>
      refine KJ ⟨F+1,rfl,k2,UX C.wo V (by lia) S U e',by lia,?_⟩;have:=OB C.wo W (by lia) S U e e';rw[show lo+(x+1)-(F+1+1)=lo+x-(F+1) by lia];exact this
   ·rintro c J ⟨F,rfl,k2,V,Z,W⟩;rw[show max (m+1) n=n by lia] at V Z W ⊢;exact⟨n,F,rfl,by lia,km _,k2,V,Z,W⟩
   ·rintro c J ⟨x,F,rfl,x1,x2,k2,V,Z,W⟩;have z2:=k2.size;refine DZ (k:=F) (n:=0) (fun z=>?_) (fun z=>?_)
    ·refine Ky (Lx (i:=lo+x-(F+1)) (j:=lo+x) ?_);have k3:=k2.trans (JI (lo:=lo) (n:=n) (i:=lo+x-(F+1)) (j:=lo+x) (st:=J) (by lia) (by lia) (by lia));have g3:Mv lt (arrOf (setArr J (mirror (arrOf J) (lo+x-(F+1)) (lo+x) ((lo+x-(lo+x-(F+1))) / 2)))) lo x:=GR V W (by lia) (by lia) (by lia);generalize setArr J (mirror (arrOf J) (lo+x-(F+1)) (lo+x) ((lo+x-(lo+x-(F+1))) / 2))=bB at k3 g3 ⊢;refine Ky (Lx (i:=lo) (j:=lo+x) ?_);have z3:=k3.size;have O:=k3.trans (JI (lo:=lo) (n:=n) (i:=lo) (j:=lo+x) (st:=bB) (km _) (by lia) (by lia));have g4:=C8 g3 (by lia);refine Ky (Cb C (lo:=lo) (n:=n) (a:=x) (st:=setArr bB (mirror (arrOf bB) lo (lo+x) ((lo+x-lo) / 2))) (fun y m' R h1 h2 hR=>?_) (by lia) x2 (by rw[O.size];exact hsz) g4 fun m' a1 a2 g5 _=>KJ (h m' _ (by lia) a2 O g5));refine Ky (Wq C (by rw[O.size];lia) (by rw[O.size];lia) (fun y hy=>hD y (O.perm.mem_iff.mp hy)) (O.kind.trans hk) fun p q U S=>?_);have:=hR p q U S;cases e:lt p q with
     | true=>rw[e] at this;exact KJ this
     | false=>rw[e] at this;exact KJ this
    ·have k3:=k2;have g3:=V;refine Ky (Lx (i:=lo) (j:=lo+x) ?_);have z3:=k3.size;have O:=k3.trans (JI (lo:=lo) (n:=n) (i:=lo) (j:=lo+x) (st:=J) (km _) (by lia) (by lia));have g4:=C8 g3 (by lia);refine Ky (Cb C (lo:=lo) (n:=n) (a:=x) (st:=setArr J (mirror (arrOf J) lo (lo+x) ((lo+x-lo) / 2))) (fun y m' R h1 h2 hR=>?_) (by lia) x2 (by rw[O.size];exact hsz) g4 fun m' a1 a2 g5 _=>KJ (h m' _ (by lia) a2 O g5));refine Ky (Wq C (by rw[O.size];lia) (by rw[O.size];lia) (fun y hy=>hD y (O.perm.mem_iff.mp hy)) (O.kind.trans hk) fun p q U S=>?_);have:=hR p q U S;cases e:lt p q with
     | true=>rw[e] at this;exact KJ this
     | false=>rw[e] at this;exact KJ this
 ·obtain rfl:m=1:=by lia
  have k1:=Kp.refl lo n st;have Y:Mv lt (arrOf st) lo (1+1):=UX C.wo (fun i j a b nh hj ha hb=>by
   obtain rfl:i=0:=by lia
   obtain rfl:j=0:=by lia
   rw[ha] at hb;cases hb;exact C.wo.irr _) (by lia) ik bN (C.wo.asym _ _ less)
  refine Ky (wpS_lift (XJ ⟨rfl,?_⟩));refine Ky (ML (XW (a:=1+1) (b:=n) (I:=fun x c st'=>∃F,c=(none,x,F)/\Kp lo n st st'/\Mv lt (arrOf st') lo x/\F+1<=x/\EqS lt (arrOf st') (lo+x-(F+1)) (lo+x))
   (Q:=fun c st'=>∃x F,c=(none,x,F)/\1+1<=x/\x<=n/\Kp lo n st st'/\Mv lt (arrOf st') lo x/\F+1<=x/\EqS lt (arrOf st') (lo+x-(F+1)) (lo+x)) ?_ ?_ ⟨0,rfl,k1,Y,by lia,DC C.wo _⟩) ?_)
  ·rintro x c J eJ uE ⟨F,rfl,k2,V,Z,W⟩;have z2:=k2.size;have eK:∀y∈(arrOf J).toList,D y:=fun y hy=>hD y (k2.perm.mem_iff.mp hy);have bc:=k2.kind.trans hk;refine Ky (Wq C (i:=lo+x) (j:=lo+x-1) (by lia) (by lia) eK bc fun p q U S=>?_);cases e:lt p q with
   | true=>
    have gs:=UX C.wo V (by lia) S U (C.wo.asym _ _ e);refine DZ (k:=F) (n:=0) (fun z=>?_) (fun z=>?_)
    ·refine Ky (Lx (i:=lo+x-(F+1)) (j:=lo+x) ?_);exact KJ ⟨0,rfl,k2.trans (JI (by lia) (by lia) (by lia)),GR gs W (by lia) (by lia) (by lia),by lia,DC C.wo _⟩
    ·exact KJ ⟨0,rfl,k2,gs,by lia,DC C.wo _⟩
   | false=>
    refine Ky (Wq C (i:=lo+x-1) (j:=lo+x) (by lia) (by lia) eK bc fun q' p' cM aZ=>?_);rw[S] at cM;rw[U] at aZ;cases cM;cases aZ;cases e':lt q p with
    | true=>exact KJ ⟨x,F,rfl,eJ,by lia,k2,V,Z,W⟩
    | false=>
     refine KJ ⟨F+1,rfl,k2,UX C.wo V (by lia) S U e',by lia,?_⟩;have:=OB C.wo W (by lia) S U e e';rw[show lo+(x+1)-(F+1+1)=lo+x-(F+1) by lia];exact this
  ·rintro c J ⟨F,rfl,k2,V,Z,W⟩;rw[show max (1+1) n=n by lia] at V Z W ⊢;exact⟨n,F,rfl,by lia,km _,k2,V,Z,W⟩
  ·rintro c J ⟨x,F,rfl,x1,x2,k2,V,Z,W⟩;have z2:=k2.size;refine DZ (k:=F) (n:=0) (fun z=>?_) (fun z=>?_)
   ·refine Ky (Lx (i:=lo+x-(F+1)) (j:=lo+x) ?_);have k3:=k2.trans (JI (lo:=lo) (n:=n) (i:=lo+x-(F+1)) (j:=lo+x) (st:=J) (by lia) (by lia) (by lia));have g3:Mv lt (arrOf (setArr J (mirror (arrOf J) (lo+x-(F+1)) (lo+x) ((lo+x-(lo+x-(F+1))) / 2)))) lo x:=GR V W (by lia) (by lia) (by lia);generalize setArr J (mirror (arrOf J) (lo+x-(F+1)) (lo+x) ((lo+x-(lo+x-(F+1))) / 2))=bB at k3 g3 ⊢;refine Ky (Lx (i:=lo) (j:=lo+x) ?_);have z3:=k3.size;have O:=k3.trans (JI (lo:=lo) (n:=n) (i:=lo) (j:=lo+x) (st:=bB) (km _) (by lia) (by lia));have g4:=C8 g3 (by lia);refine Ky (Cb C (lo:=lo) (n:=n) (a:=x) (st:=setArr bB (mirror (arrOf bB) lo (lo+x) ((lo+x-lo) / 2))) (fun y m' R h1 h2 hR=>?_) (by lia) x2 (by rw[O.size];exact hsz) g4 fun m' a1 a2 g5 _=>KJ (h m' _ (by lia) a2 O g5));refine Ky (Wq C (by rw[O.size];lia) (by rw[O.size];lia) (fun y hy=>hD y (O.perm.mem_iff.mp hy)) (O.kind.trans hk) fun p q U S=>?_);have:=hR p q U S;cases e:lt p q with
    | true=>rw[e] at this;exact KJ this
    | false=>rw[e] at this;exact KJ this
   ·have k3:=k2;have g3:=V;refine Ky (Lx (i:=lo) (j:=lo+x) ?_);have z3:=k3.size;have O:=k3.trans (JI (lo:=lo) (n:=n) (i:=lo) (j:=lo+x) (st:=J) (km _) (by lia) (by lia));have g4:=C8 g3 (by lia);refine Ky (Cb C (lo:=lo) (n:=n) (a:=x) (st:=setArr J (mirror (arrOf J) lo (lo+x) ((lo+x-lo) / 2))) (fun y m' R h1 h2 hR=>?_) (by lia) x2 (by rw[O.size];exact hsz) g4 fun m' a1 a2 g5 _=>KJ (h m' _ (by lia) a2 O g5));refine Ky (Wq C (by rw[O.size];lia) (by rw[O.size];lia) (fun y hy=>hD y (O.perm.mem_iff.mp hy)) (O.kind.trans hk) fun p q U S=>?_);have:=hR p q U S;cases e:lt p q with
    | true=>rw[e] at this;exact KJ this
    | false=>rw[e] at this;exact KJ this
theorem Q1 {Q:Unit->SortSt->Prop}(h:Q () (setArr st (bubble (arrOf st) i (i-j)))):wpS M A E s (moveDown' i j) Q st:=by rw[moveDown'_eq];exact wpS_modify h
theorem Q3 (C:Cmp prog w A E s kd D lt){ok:Nat}{Q:Bool->SortSt->Prop}(h1:1<=ok)(hok:ok<=n)(hsz:lo+n<=(arrOf st).size)(hD:∀x∈(arrOf st).toList,D x)(hk:kindOf st=kd)(hs:Mu lt (arrOf st) lo ok)
  (h:∀st',Kp lo n st st'->Mu lt (arrOf st') lo n->Q true st'):wpS (model prog w) A E s (QU lo n ok) Q st:=by
 refine Ky (ML (XW (a:=max ok 1) (b:=n) (I:=fun k c st'=>c=(none,())/\Kp lo n st st'/\Mu lt (arrOf st') lo k) (Q:=fun c st'=>c=(none,())/\Kp lo n st st'/\Mu lt (arrOf st') lo n) ?_ ?_ ⟨rfl,Kp.refl _ _ _,by rw[show max ok 1=ok by lia];exact hs⟩) ?_)
 ·rintro k c J im bc ⟨rfl,kp,g⟩;have z1:=kp.size;obtain⟨e,Y⟩:=Ca (show lo+k<(arrOf J).size by lia);refine Ky (ML (XW (a:=0) (b:=k) (I:=fun x c st'=>st'=J /\ ∃l r,c=(none,l,r)/\l<=r/\r<=k/\r-l<=k-x/\(∀i p,i<l->(arrOf J)[lo+i]? = some p->lt e p=false) /\ ∀i p,r<=i->i<k->(arrOf J)[lo+i]? = some p->lt e p=true)
   (Q:=fun c st'=>st'=J /\ ∃l r,c=(none,l,r)/\l<=k/\(∀i p,i<l->(arrOf J)[lo+i]? = some p->lt e p=false) /\ ∀i p,l<=i->i<k->(arrOf J)[lo+i]? = some p->lt e p=true) ?_ ?_ ⟨rfl,0,k,rfl,by lia,by lia,by lia,fun i p hi=>by lia,fun i p h1 h2=>by lia⟩) ?_)
  ·rintro x c st' _ hx ⟨rfl,l,r,rfl,g1,W,g3,S,U⟩;dsimp only;by_cases V:l>=r
   ·rw[kj V];obtain rfl:l=r:=by lia
    exact KJ ⟨rfl,l,l,rfl,W,S,U⟩
   ·rw[kh V];refine Ky (Wq C (i:=lo+k) (j:=lo+(l+r) / 2) (by lia) (by lia) (fun y hy=>hD y (kp.perm.mem_iff.mp hy)) (kp.kind.trans hk) fun p q F O=>?_);rw[Y] at F;cases F;cases c:lt e q with
    | true=>
     refine KJ ⟨rfl,l,(l+r) / 2,rfl,by lia,by lia,by lia,S,fun i p i1 i2 F=>?_⟩;rcases C.wo.neg e p q c with z | z
     ·exact z
     ·rw[g ((l+r) / 2) i q p i1 i2 O F] at z;cases z
    | false=>
     refine KJ ⟨rfl,(l+r) / 2+1,r,rfl,by lia,by lia,by lia,fun i p i1 F=>?_,U⟩;exact C.wo.leT (g i ((l+r) / 2) p q (by lia) (by lia) F O) c
  ·rintro c st' ⟨rfl,l,r,rfl,g1,W,g3,S,U⟩;obtain rfl:l=r:=by lia
   exact⟨rfl,l,l,rfl,W,S,U⟩
  ·rintro c st' ⟨rfl,l,r,rfl,W,S,U⟩;refine Ky (Q1 (i:=lo+k) (j:=lo+l) ?_);have sz:lo+k<(arrOf st').size:=by lia
   refine KJ ⟨rfl,kp.trans ⟨rfl,rfl,rfl,Nq.mp (bubble_perm _ _ _),fun i hi=>?_⟩,fun i j p q Z hj F O=>?_⟩
   ·show (bubble (arrOf st') (lo+k) (lo+k-(lo+l)))[i]? = _;rw[getElem?_bubble sz _ (by lia),kh (by lia),kh (by lia)]
   ·rw[show arrOf (setArr st' (bubble (arrOf st') (lo+k) (lo+k-(lo+l))))=bubble (arrOf st') (lo+k) (lo+k-(lo+l)) from rfl,getElem?_bubble sz _ (by lia)] at F O;rw[show lo+k-(lo+k-(lo+l))=lo+l by lia] at F O;by_cases ci:i=l<;>by_cases cj:j=l
    ·subst ci;subst cj;rw[kj rfl] at F O;rw[F] at O;cases O;exact C.wo.irr _
    ·subst ci;rw[kj rfl,Y] at F;cases F;rw[kh (by lia),kj (by lia)] at O;exact C.wo.asym _ _ (U (j-1) q (by lia) (by lia) (by rw[<- O];congr 1;lia))
    ·subst cj;rw[kh (by lia),kh (by lia)] at F;rw[kj rfl,Y] at O;cases O;exact S i p (by lia) F
    ·rw[kh (by lia)] at F O;by_cases di:i<l<;>by_cases dj:j<l
     ·rw[kh (by lia)] at F O;exact g i j p q Z (by lia) F O
     ·rw[kh (by lia)] at F;rw[kj (by lia)] at O;exact g i (j-1) p q (by lia) (by lia) F (by rw[<- O];congr 1;lia)
     ·lia
     ·rw[kj (by lia)] at F O;exact g (i-1) (j-1) p q (by lia) (by lia) (by rw[<- F];congr 1;lia) (by rw[<- O];congr 1;lia)
 ·rintro c J ⟨rfl,kp,g⟩;rw[show max (max ok 1) n=n by lia] at g;exact⟨rfl,kp,g⟩
 ·rintro c J ⟨rfl,kp,g⟩;exact KJ (h J kp g)
theorem Q4 {Q:β -> SortSt->Prop}{X Y:StateT SortSt Sem β}(h1:k<n->wpS M A E s X Q st)(h2:n<=k->wpS M A E s Y Q st):wpS M A E s (if k<n then X else Y) Q st:=by
 by_cases h:k<n
 ·rw[kj h];exact h1 h
 ·rw[kh h];exact h2 (by lia)
end
def lexLt:List Int->List Int->Bool
 | [],[]=>false
 | [],_::_=>true
 | _::_,[]=>false
 | a::as,b::bs=>if a=b then lexLt as bs else decide (a<b)
theorem Q5:∀{xs ys:QG}{i:Nat},(xs.length<=i∨ys.length<=i)->lexLt (xs.drop i) (ys.drop i)=decide (xs.length-i<ys.length-i):=fun {xs ys i} h=>by
 rcases Nat.lt_or_ge i xs.length with h1 | h1
 ·rw[K6 h1,show ys.drop i = [] from qo (by lia)];simp[lexLt];lia
 ·rw[qo h1];rcases Nat.lt_or_ge i ys.length with h2 | h2
  ·rw[K6 h2];simp[lexLt];lia
  ·rw[qo h2];simp[lexLt];lia
theorem Q6 {xs ys:QG}(h1:i<xs.length)(h2:i<ys.length):lexLt (xs.drop i) (ys.drop i)=if xs[i]=ys[i] then lexLt (xs.drop (i+1)) (ys.drop (i+1)) else decide (xs[i]<ys[i]):=by
 conv=>lhs;rw[K6 h1,K6 h2]
 rfl
theorem ints_get:∀{vs:QJ}{ns:QG},IntsAre vs ns -> ∀(i:Nat)(h:i<vs.length)(h':i<ns.length),∃t,vs[i] = .int ns[i] t
 | _,_,.cons n t hr,0,_,_=>⟨t,rfl⟩
 | _,_,.cons n t hr,i+1,h,h'=>by obtain⟨t',e⟩:=ints_get hr i (by simpa using h) (by simpa using h');exact⟨t',by simpa using e⟩
open PySem.SeqAt AutoSeq1 in
theorem OD:∀xs:QG,lexLt xs xs=false
 | []=>rfl
 | a::as=>by rw[lexLt,kj rfl];exact OD as
theorem OE:∀(xs ys zs:QG),lexLt xs zs=true->lexLt xs ys=true∨lexLt ys zs=true
 | [],[],[],h=>by simp[lexLt] at h
 | [],[],_::_,h=>.inr rfl
 | [],_::_,_,h=>.inl rfl
 | _::_,_,[],h=>by simp[lexLt] at h
 | _::_,[],_::_,h=>.inr rfl
 | a::as,b::bs,c::cs,h=>by
  simp only[lexLt] at h ⊢;by_cases I:a=c
  ·subst I;rw[kj rfl] at h;by_cases F:a=b
   ·subst F;rw[kj rfl,kj rfl];exact OE as bs cs h
   ·rw[kh F,kh (KA F),Km,Km];lia
  ·rw[kh I,Km] at h;by_cases F:a=b
   ·subst F;rw[kh I];exact .inr (kH h)
   ·rw[kh F];by_cases J:b=c
    ·subst J;exact .inl (kH h)
    ·rw[kh J,Km,Km];lia
theorem OF:∀(xs ys:QG),lexLt xs ys=true->lexLt ys xs=false
 | [],[],h=>by simp[lexLt] at h
 | [],_::_,_=>rfl
 | _::_,[],h=>by simp[lexLt] at h
 | a::as,b::bs,h=>by
  simp only[lexLt] at h ⊢;by_cases e:a=b
  ·subst e;rw[kj rfl] at h ⊢;exact OF as bs h
  ·rw[kh e,Km] at h;rw[kh (KA e)];exact Kh (by lia)
section
variable {prog:Program}{w:World}{A:Around}{E:QE}{s:Shared}{a b:Addr}{xs ys:QG}
def Gn (T:String)(h:Heap)(a:Addr)(ks:QG):Prop:=∃(vs:QY)(dd:Option Addr)(n:Nat)(sl:Array (Option Value)),h.get? a=some { cls:=.type T,dict:=dd,data:=.seq vs n,slots:=sl } /\ IntsAre vs.toList ks
def LJ (h:Heap):Value->List Int
 | .ref a=>match h.get? a with
  | some o=>match o.data with
   | .seq vs _=>vs.toList.map numOf
   | _=>[]
  | none=>[]
 | _=>[]
theorem Gn.key {T:String}{h:Heap}(x:Gn T h a xs):LJ h (.ref a)=xs:=by obtain⟨vs,dd,n,sl,e,i⟩:=x;show (match h.get? a with | some o=>_ | none=>_)=_;rw[e];exact i.nums
theorem Gn.kept {T:String}{h h':Heap}(x:Gn T h a xs)(k:∀o,h.get? a=some o->h'.get? a=some o):Gn T h' a xs:=
 let ⟨vs,dd,n,sl,e,i⟩:=x;⟨vs,dd,n,sl,k _ e,i⟩
def DS (T:String)(s:Shared)(p:Keyed):Prop:=∃a ks,p.1 = .ref a/\Gn T s.heap a ks
def ltW (s:Shared)(p q:Keyed):Bool:=lexLt (LJ s.heap p.1) (LJ s.heap q.1)
def C9 (h:Heap)(l:QJ):Prop:=l.Pairwise fun u v=>lexLt (LJ h v) (LJ h u)=false
theorem Q7 {c:Prop}[Decidable c]{m n:Sem α}{f:α -> Sem β}{Q:β -> Shared->Prop}(R:α -> Prop)(h1:c -> ∀Q':α -> Shared->Prop,(∀x,R x->Q' x s)->wpAny M A m Q' E s)(h2:¬c -> ∀Q':α -> Shared->Prop,(∀x,R x->Q' x s)->wpAny M A n Q' E s)
  (h:∀x,R x->wpAny M A (f x) Q E s):wpAny M A (if c then m >>= f else n >>= f) Q E s:=by
 split
 ·exact kg (h1 (by assumption) _ h)
 ·exact kg (h2 (by assumption) _ h)
end
section
variable {prog:Program}{w:World}{A:Around}{E:QE}{s:Shared}{d it:Addr}{es:Array DictEntry}{ep i:Nat}
theorem Q8 {Q:α -> Shared->Prop}(F:A.handled=none)(h:∀h' a,(∀b o,s.heap.get? b=some o->h'.get? b=some o)->Shared.TypeIs { s with heap:=h' } (.ref a) "StopIteration" -> E (.ref a) { s with heap:=h' }):
  wpAny (model prog w) A ((newExc (.type "StopIteration") [] >>= raiseNew:Sem α)) Q E s:=by
 wp_walk using qc,wpAny_raiseNew_none F
 ·exact h _ _ (fun b o e=>kz _ (kz _ e)) ⟨_,Kf _ rfl,rfl⟩
 all_goals size_fits
end
def Jv (H:Hp)(v:V)(ks:QG):Prop:=∃a,v = .ref a/\H a=some (.tup (ks.map V.int))
abbrev Words (H:Hp)(xs:QH)(ws:QA):Prop:=Paired (Jv H) xs ws
theorem Paired.Ia {F:α -> β -> Prop}{l:List α}{m m':List β}(p:m.Perm m'):Paired F l m -> ∃l',l.Perm l'/\Paired F l' m':=by
 induction p generalizing l with
 | nil=>intro r;cases r;exact⟨[],.nil,.nil⟩
 | cons x _ ih=>intro r;cases r with | cons h t=>obtain⟨l',a,b⟩:=ih t;exact⟨_::l',a.cons _,.cons h b⟩
 | swap x y t=>intro r;cases r with | cons h t=>cases t with | cons h2 t=>exact⟨_,.swap _ _ _,.cons h2 (.cons h t)⟩
 | trans _ _ i1 i2=>intro r;obtain⟨l1,a,b⟩:=i1 r;obtain⟨l2,c,d⟩:=i2 b;exact⟨l2,a.trans c,d⟩
theorem Paired.flip {α β:Type}{F:α -> β -> Prop}:∀{l:List α}{m:List β},Paired F l m->Paired (fun b a=>F a b) m l
 | _,_,.nil=>.nil
 | _,_,.cons h t=>.cons h (Paired.flip t)
theorem Paired.mem1 {α β:Type}{F:α -> β -> Prop}:∀{l:List α}{m:List β},Paired F l m -> ∀a∈l,∃b∈m,F a b
 | _,_,.nil,a,h=>by cases h
 | _,_,.cons r t,a,h=>by
  rcases kQ.mp h with rfl | h
  ·exact⟨_,kS,r⟩
  ·obtain⟨b,hb,f⟩:=Paired.mem1 t a h;exact⟨b,kX _ hb,f⟩
def Ib (ws:QA):Prop:=ws.Pairwise fun u v=>lexLt v u=false
section
variable {X:Cx}{pins:QC}{σ:St}{H:Hp}{s:Shared}
theorem Q9 {T:String}{F:V->List Int->Prop}{h h1:Heap}(S:∀{v u ks},F v ks->RelV v u -> ∃a,u = .ref a/\Gn T h a ks){xs:QH}{us out:QJ}{ws:QA}(r:Vals xs us)(x:Paired F xs ws)(U:out.Perm us)
  (hk:∀a ks,Gn T h a ks->Gn T h1 a ks) (W:C9 h1 out):∃ys vs,Vals ys out/\Paired F ys vs/\ys.Perm xs/\vs.Perm ws/\Ib vs:=by
 obtain⟨ys,I,J⟩:=Paired.Ia U.symm r;obtain⟨vs,p2,Y⟩:=Paired.Ia I (Paired.flip x);have O:Paired F ys vs:=Paired.flip Y;refine⟨ys,vs,J,O,I.symm,p2.symm,?_⟩;have key:∀{ys:QH}{out:QJ}{vs:QA},Vals ys out->Paired F ys vs->out.map (LJ h1)=vs:=by
  intro ys out vs a b
  induction a generalizing vs with
  | nil=>cases b;rfl
  | cons r _ ih=>
   cases b with
   | cons f t=>
    obtain⟨q,Z,e3⟩:=S f r;rw[Ko,ih t,Z,(hk _ _ e3).key]
 rw[<- key J O];unfold Ib;rw[Xm];exact W
end
section
variable {X:Cx}
inductive OG(x y:V)(H:Hp)(Q:VK):Prop|mk(a b:QG)(_:Jv H x a)(_:Jv H y b)(_:a.length+b.length<=sizeLine)(_:a = []->Q y H)(_:b = []->Q x H)(_:∀p,H p=none->Q (.ref p) (upd H p (.tup ((a++b).map V.int))))
theorem P4:Uo X (binaryOp .Add) OG:=by
 intro pins s σ H x y v u Q I rx ry h;obtain⟨a,b,⟨p,rfl,hp⟩,⟨r,rfl,hr⟩,hz,q1,q2,q3⟩:=h;cases rx;cases ry;obtain⟨_,its,Y,Z⟩:=(show Yy X.prog X.w H s.heap p (.tup (a.map V.int)) from I.hok p _ hp);obtain⟨_,F,r2,p2⟩:=(show Yy X.prog X.w H s.heap r (.tup (b.map V.int)) from I.hok r _ hr);have l1:a.length=its.length:=by simpa using Y.length
 have l2:b.length=F.length:=by simpa using r2.length
 by_cases e:its = []
 ·obtain⟨⟨cls,dd,data,sl⟩,ho,hc,n,hd⟩:=id Z;obtain⟨⟨uF,U,data2,W⟩,J,O,n2,S⟩:=id p2;simp only at hc hd O S;subst hc hd O S;have ea:a = []:=by rw[e] at l1;exact qw.mp l1
  exact concat_meets ⟨_,ho,rfl⟩ ⟨_,J,rfl⟩ NS M5 Tp Th (XZ _ _)
   (tuple_addW0 p r its.toArray F.toArray n n2 dd U sl W (by simp[e])) ⟨ho,J,⟨.ref r,H,I,rfl,q1 ea⟩⟩
 ·refine HT.E7 Z p2 e (fun z=>⟨.ref p,H,I,rfl,q2 (by rw[z] at l2;exact qw.mp l2)⟩) (fun z=>?_) (by rw[<- l1,<- l2];exact hz);refine⟨.ref s.heap.objs.size,_,I.laid (t':=s.toks) (o:=.tup ((a++b).map V.int)) (fun b ob q=>kz _ q) (km _) ?_,rfl,q3 _ (I.hok.fresh (km _))⟩;exact⟨by rw[ke,ki];exact hz,_,by rw[kP];exact Y.append r2,IsTup.new _ _⟩
end
end L2
namespace L2
open PySem PySem.Spec PyProof.Rows PyProof.V
section
variable {X:Cx}
theorem OH {K:QF}{l tg:Expr}{tl:TE}(hk:X.K=K)(F:PE X l tl):PI X tg l (RF K tl):=hk ▸ Ez F
end
section
variable {g:TG}{tc:TT}{te:TE}{σ:St}{H:Hp}{Q:VK}{K:QF}{a b:Addr}{xs ys:QH}
theorem OI (O:xs.length<=sizeLine)(Pv:Nat->List V->Hp->Prop)(h0:Pv 0 [] H)(F:∀i ys H,Pv i ys H->ys.length<=i)(J:∀i ys H,Pv i ys H->Y9 K H a xs)
  (hs:∀i x ys H,xs[i]? = some x->Pv i ys H->g x σ H fun I H2=>tc I H2 fun b H3=>if b=true then te I H3 fun y H4=>Pv (i+1) (ys ++ [y]) H4 else Pv (i+1) ys H3)
  (hd:∀ys H,Pv xs.length ys H -> ∀D,H D=none->Q (.ref D) (upd H D (.lst ys))):LcW (Itt K a) σ g tc te H Q:=
 Ds O Pv h0 F (fun i ys H hi p=>⟨xs,xs[i],J i ys H p,by simp[hi]⟩) (fun ys H p=>⟨xs,J _ ys H p,km _⟩) (fun i ys H hi p x H' y=>by obtain⟨e,y⟩:=y;subst e;exact hs i x ys _ (y xs (J i ys _ p)) p) hd
theorem Znq (O:ys.length<=sizeLine)(hl:ys.length<=xs.length)(Pv:Nat->List V->Hp->Prop)(h0:Pv 0 [] H)(I:∀i zs H,Pv i zs H->zs.length<=i)(F:∀i zs H,Pv i zs H->Zr K H a xs/\Zr K H b ys)
  (hs:∀i x y p zs H,xs[i]? = some x->ys[i]? = some y->Pv i zs H->H p=none->g (.ref p) σ (upd H p (.tup [x,y])) fun J H2=>tc J H2 fun b H3=>if b=true then te J H3 fun y H4=>Pv (i+1) (zs ++ [y]) H4 else Pv (i+1) zs H3)
  (hd:∀zs H,Pv ys.length zs H -> ∀D,H D=none->Q (.ref D) (upd H D (.lst zs))):LcW (Itz K a b) σ g tc te H Q:=
 Ds O Pv h0 I (fun i zs H hi p=>⟨xs,ys,xs[i]'(by lia),ys[i],(F i zs H p).1,(F i zs H p).2,by simp[show i<xs.length by lia],by simp[hi]⟩) (fun zs H p=>⟨xs,ys,(F _ zs H p).1,(F _ zs H p).2,.inr (km _)⟩) (fun i zs H hi p x H' y=>by obtain⟨q,u,v,S,U,W,Y,Z⟩:=y;subst S W;exact hs i u v q zs _ (Y xs (F i zs _ p).1) (Z ys (F i zs _ p).2) p U) hd
end
abbrev WS:=QA
theorem Jv.mono {H H':Hp}{v:V}{w:QG}(k:∀t p,H t=some (.tup p)->H' t=some (.tup p))(x:Jv H v w):Jv H' v w:=let ⟨a,e,q⟩:=x;⟨a,e,k _ _ q⟩
theorem Words.mono {H H':Hp}{xs:QH}{L:WS}(k:∀t p,H t=some (.tup p)->H' t=some (.tup p))(x:Words H xs L):Words H' xs L:=Paired.mapP x fun _ _ q=>Jv.mono k q
theorem Words.same {H H':Hp}{xs:QH}{L:WS}(s:Zh H H')(x:Words H xs L):Words H' xs L:=Words.mono (fun t p e=>s t _ e) x
theorem Jv.same {H H':Hp}{v:V}{w:QG}(s:Zh H H')(x:Jv H v w):Jv H' v w:=Jv.mono (fun t p e=>s t _ e) x
theorem Words.len {H:Hp}{xs:QH}{L:WS}(x:Words H xs L):xs.length=L.length:=qp x
theorem Words.get {H:Hp}:∀{xs:QH}{L:WS}{i:Nat}{x:V},Words H xs L->xs[i]? = some x -> ∃w,L[i]? = some w/\Jv H x w
 | _,_,_,_,.nil,e=>by simp at e
 | _,_,0,_,.cons r _,e=>by simp at e;subst e;exact⟨_,rfl,r⟩
 | _,_,i+1,x,.cons _ t,e=>by obtain⟨w,h1,h2⟩:=Words.get (i:=i) (x:=x) t (by simpa using e);exact⟨w,by simpa using h1,h2⟩
theorem Words.snoc {H:Hp}{xs:QH}{L:WS}{x:V}{w:QG}(h:Words H xs L)(e:Jv H x w):Words H (xs ++ [x]) (L ++ [w]):=Ti h e
section
variable {X:Cx}
inductive OJ(xs:QH)(H:Hp)(Q:VK):Prop|mk(p ys:_)(_:xs = [.ref p])(_:H p=some (.lst ys))(_:∀l,H l=none->Q (.ref l) (upd H l (.tup ys)))
theorem W7:YU X (.type "tuple") OJ:=by intro pins s σ H xs us Q I r ⟨p,ys,e,F,q⟩;exact Hx pins s σ H xs us Q I r ⟨p,ys,e,.inl ⟨Zr.of F,q⟩⟩
end
end L2
namespace L2
open PySem PySem.Spec PyProof.Rows PyProof.V
variable {TI TO z i1 i2 l1 l2:Addr}{xs ys:QY}
theorem Zk1:entryFor table "zip.__getattribute__" = some Builtin.«object.__getattribute__»:=MJ (id' := "object.__getattribute__") (by kernel_rfl) (by decide +kernel) (by decide +kernel) (by kernel_rfl)
theorem Znf:typeLookup (.type "zip") "__getattr__" = pure none:=by rw[TY,XE];kernel_rfl
theorem Zh3:typeLookup (.type "zip") "keys" = pure none:=by rw[TY,XE];kernel_rfl
abbrev OK (f0 f1:Value)(TI TO:Addr):Obj:={ cls:=.type "zip", dict:=none,data:=.fields #[f0,f1,.bool false,.ref TI,.ref TO],slots:=#[] }
theorem Zon (a TI TO:Addr)(F I:Value)(u:Tok):Meets (Builtin.«object.__getattribute__» ⟨[.ref a,.str "keys" u],[]⟩) (fun A R s=>s.heap.get? a=some (OK F I TI TO)/\raisesAttr (.ref a) "keys" A R s):=
 .of_wp fun prog w A R ⟨J,g,d,tk,os⟩ ⟨O,S,U⟩=>by
  have ty:Shared.TypeIs ⟨J,g,d,tk,os⟩ (.ref a) "zip" := ⟨_,O,rfl⟩;have V:=Zh3
  wp_walk
  exact wpAny_raiseAttrError S U (attrMsg_fits (by decide +kernel) (by decide))
theorem ZnS {prog:Program}{w:World}{A:Around}{E:QE}{s:Shared}{a:Addr}{f0 f1:Value}{Q:Option Value->Shared->Prop}(S:s.heap.get? a=some (OK f0 f1 TI TO))(V:A.handled=none)
  (h:∀h' tk,(∀b o,s.heap.get? b=some o->h'.get? b=some o)->Q none { s with heap:=h',toks:=tk }):wpAny (model prog w) A (getAttr? (.ref a) "keys") Q E s:=by
 obtain⟨J,g,d,tk,os⟩:=s;have ty:∀t,Shared.TypeIs ⟨J,g,d,t,os⟩ (.ref a) "zip" := fun _=>⟨_,S,rfl⟩;have kind:=sub_AttributeError;have own:=Xr.lookup;have bound:=Xr.bind (.ref a);have U:=Znf;have I:∀{A':Around}{R:Result->Shared->Prop}(t:Nat)(u:Tok),A'.handled=none->(∀h' tk e,Heap.NewAttrErr J h' e (.ref a) "keys" -> R (.error (.ref e)) ⟨h',g,d,tk,os⟩)->codeAny (model prog w) A' (.call (.builtin "zip.__getattribute__") ⟨[.ref a,.str "keys" u],[]⟩) R ⟨J,g,d,t,os⟩:=
  fun {A' R} t u O k=>Xn Xr.plain Zk1 (Xr.check _ _ _ _ _ _ _ _ (ty t) (F.args_zip_getattribute_2 _ _) (Zon a TI TO f0 f1 u _ _ A' R _ ⟨S,O,k⟩))
 unfold getAttr? getAttrBy? getAttrBy
 wp_walk
 refine I _ _ V fun h' W e new=>?_;obtain⟨t',Y,there⟩:=new.there;unfold getattributeRaised
 wp_walk
 exact h _ _ new.1
section
variable {prog:Program}{w:World}{A:Around}{E:QE}{s:Shared}
theorem Zg4 {a:Addr}{Q:Option Obj->Shared->Prop}(h:Q (s.heap.get? a) s):wpAny (model prog w) A (loadIfAlive a) Q E s:=fun Γ p _=>by unfold loadIfAlive;rw[Sem.wp_loadIfAlive];exact h
abbrev Cc (h:Heap)(z TI TO T:Addr)(b:Bool):Prop:=
 h.get? z=some { cls:=.type "zip", dict:=none,data:=.fields #[rawInt T,.bool b,.bool false,.ref TI,.ref TO],slots:=#[] }
theorem ZiF {T:Addr}{bb:Bool}{oT:Obj}{Q:Bool->Shared->Prop}(hz:Cc s.heap z TI TO T bb)(I:s.heap.get? T=some oT)
  (h:∀F,Cc F z TI TO T true->Heap.SameBut z s.heap F->Q false { s with heap:=F }):wpAny (model prog w) A (Builtin.SmallTypes.ownedTupleIsFree (.ref z)) Q E s:=by
 unfold Builtin.SmallTypes.ownedTupleIsFree
 wp_walk using Zg4,qt hz rfl rfl
 cases bb with
 | true=>exact kG (h s.heap hz ⟨rfl,fun _ _=>rfl⟩)
 | false=>exact kg (wpAny_setField_rec hz (by simp) fun F a b=>kG (h F a b))
theorem OL {T:Addr}{k:Nat}{bb:Bool}{oT:Obj}{R:Fin->Shared->Prop}(D:ZipApart z TI TO i1 i2 l1 l2)
  (hz:Cc s.heap z TI TO T bb) (hT:s.heap.get? T=some oT) (Y:IsPair s.heap TI (.ref i1) (.ref i2))
  (h1:s.heap.IsListIter i1 l1 k) (h2:s.heap.IsListIter i2 l2 k) (Z:s.heap.IsList l1 xs) (aa:s.heap.IsList l2 ys)
  (more:∀x y h',xs[k]? = some x->ys[k]? = some y->Cc h' z TI TO T true->h'.IsListIter i1 l1 (k+1)->h'.IsListIter i2 l2 (k+1)->IsPair h' s.heap.objs.size x y->h'.objs.size=s.heap.objs.size+1 ->
   (∀c o,c≠z->c≠i1->c≠i2->s.heap.get? c=some o->h'.get? c=some o)->R (.done (.ret (.ref s.heap.objs.size))) { s with heap:=h' })
  (V:xs[k]? = none->A.handled=none /\ ∀h' e,(∀c o,c≠z->c≠i1->s.heap.get? c=some o->h'.get? c=some o)->(∃o,h'.get? e=some o/\o.cls = .type "StopIteration")->E (.ref e) { s with heap:=h' })
  (W:∀x,xs[k]? = some x -> ∃y,ys[k]? = some y):
  wpAny (model prog w) A (Builtin.«zip.__next__» ⟨[.ref z],[]⟩) R E s:=by
 unfold Builtin.«zip.__next__»;refine kg (show wpAny _ _ (pure (Value.ref z,[])) _ _ _ from kG ?_);dsimp only;refine kg (qt hz rfl rfl (kg (qt hz rfl rfl (kg (Tq Y rfl ?_)))));refine kg (ZiF hz hT fun bL U F=>?_);simp only[qO,XM,List.forIn_toArray,List.forIn_cons,List.forIn_nil];have b1:=h1.extBut F.extBut D.i1z;have b2:=Z.extBut F.extBut D.l1z;refine kg (kg (kg (KC ?_)));show wpAny _ _ (Builtin.SmallTypes.nextOf (.ref i1) >>= fun v=>pure (some v)) _ _ _;cases hx:xs[k]? with
 | none=>
  obtain⟨hh,fin⟩:=V hx;exact kg (wpAny_nextOf_list_end hh b1 b2 hx fun S e keep stop=>fin S e (fun c o n1 n2 g=>keep c o n2 (F.extBut c o n1 g)) stop)
 | some x=>
  obtain⟨y,hy⟩:=W x hx;refine kg (wpAny_nextOf_list_item b1 b2 hx fun S c1 I=>kG (kG ?_));refine kg (kg (KC ?_));show wpAny _ _ (Builtin.SmallTypes.nextOf (.ref i2) >>= fun v=>pure (some v)) _ _ _;refine kg (wpAny_nextOf_list_item ((h2.extBut F.extBut D.i2z).extBut I.extBut D.i12.symm) ((aa.extBut F.extBut D.l2z).extBut I.extBut D.l2i1) hy fun O c2 J=>kG (kG (kG ?_)));show wpAny _ _ (newTuple [x,y] >>= ret) _ _ _;have size:O.objs.size=s.heap.objs.size:=J.1.trans (I.1.trans F.1);refine kg (wpAny_newTuple (kG ?_));show R (.done (.ret (.ref O.objs.size))) _;rw[size];have lay:∀c o,O.get? c=some o->(O.push { cls:=.type "tuple", data:=.seq #[x,y] }).get? c=some o:=fun c o=>kz _;refine more x y _ hx hy (lay _ _ (J.extBut _ _ D.i2z.symm (I.extBut _ _ D.i1z.symm U))) ((c1.extBut J.extBut D.i12).at fun o=>lay _ o) (c2.at fun o=>lay _ o) ?_ (by rw[Nk,size]) fun c o n1 n2 n3 g=>lay _ _ (J.extBut _ _ n3 (I.extBut _ _ n2 (F.extBut _ _ n1 g)));rw[<- size];exact Kf _ rfl
theorem OM {Q:Option Value->Shared->Prop}(ty:s.TypeIs (.ref z) "zip")
  (h:∀E',(∀e s',(∃o,s'.heap.get? e=some o/\o.cls = .type "StopIteration")->Q none s'->E' (.ref e) s') -> ∀A',A'.handled=A.handled->wpAny (model prog w) A' (Builtin.«zip.__next__» ⟨[.ref z],[]⟩) (fun fin s'=>∃v,fin = .done (.ret v)/\wpAny (model prog w) A (pure (some v)) Q E s') E' s):wpAny (model prog w) A (pyNext (.ref z)) Q E s:=by
 unfold pyNext;refine kg (NM (qE (name:=Str.ofString "__next__") ty F.slot_zip_next (qA F.slot_zip_next ty F.entry_zip_next (h _ (fun e s' ⟨o,g,c⟩ q=>?_) _ rfl) (F.args_zip_next_1 _))));exact kg (TC (T := "StopIteration") (b:=true) ⟨o,g,c⟩ MK (kG q))
structure ZS (h:Heap)(z TI TO i1 i2 l1 l2:Addr)(k:Nat):Prop where
 zp:(IsZip h z TI TO .none /\ ∃a b,IsPair h TO a b) ∨ ∃T b o,Cc h z TI TO T b/\h.get? T=some o/\o.cls = .type "tuple" /\ T≠z/\T≠TO/\T≠i1/\T≠i2
 ti:IsPair h TI (.ref i1) (.ref i2)
 j1:h.IsListIter i1 l1 k
 j2:h.IsListIter i2 l2 k
theorem ZS.keep {h h':Heap}{k:Nat}(x:ZS h z TI TO i1 i2 l1 l2 k)(F:∀c o,h.get? c=some o->o.cls ≠ .type "dict" -> h'.get? c=some o):ZS h' z TI TO i1 i2 l1 l2 k:=by
 refine⟨?_,F _ _ x.ti (by show Value.type "tuple" ≠ _;decide),?_,?_⟩
 ·rcases x.zp with⟨a,p,q,b⟩ | ⟨T,b,o,a,c,d,e⟩
  ·exact .inl ⟨F _ _ a (by show Value.type "zip" ≠ _;decide),p,q,F _ _ b (by show Value.type "tuple" ≠ _;decide)⟩
  ·exact .inr ⟨T,b,o,F _ _ a (by show Value.type "zip" ≠ _;decide),F _ _ c (by rw[d];decide),d,e⟩
 ·obtain⟨o,J,I,r⟩:=x.j1;exact⟨o,F _ _ J (by rw[I];decide),I,r⟩
 ·obtain⟨o,J,I,r⟩:=x.j2;exact⟨o,F _ _ J (by rw[I];decide),I,r⟩
theorem Zny {k:Nat}{x y:Value}{Q:Option Value->Shared->Prop}(D:ZipApart z TI TO i1 i2 l1 l2)(Z:ZS s.heap z TI TO i1 i2 l1 l2 k)
  (I:s.heap.IsList l1 xs) (J:s.heap.IsList l2 ys) (U:xs[k]? = some x) (V:ys[k]? = some y)
  (hQ:∀h',ZS h' z TI TO i1 i2 l1 l2 (k+1)->IsPair h' s.heap.objs.size x y->h'.objs.size=s.heap.objs.size+1->(∀c o,c≠z->c≠TO->c≠i1->c≠i2->s.heap.get? c=some o->h'.get? c=some o)->Q (some (.ref s.heap.objs.size)) { s with heap:=h' }):
  wpAny (model prog w) A (pyNext (.ref z)) Q E s:=by
 have lt:∀{c:Addr}{o:Obj},s.heap.get? c=some o->s.heap.objs.size≠c:=fun e=>KA (Kj (k6 e));have n1:s.heap.objs.size≠i1:=by obtain⟨o,W,_⟩:=Z.j1;exact lt W
 have n2:s.heap.objs.size≠i2:=by obtain⟨o,W,_⟩:=Z.j2;exact lt W
 rcases Z.zp with⟨hz,a,b,O⟩ | ⟨T,b,o,hz,hT,hc,t1,t2,t3,t4⟩
 ·exact wpAny_pyNext_zip_item D hz Z.ti O Z.j1 Z.j2 I J U V fun h' a1 a2 Y a4 S a6 F=>
   hQ h' ⟨.inr ⟨s.heap.objs.size,false,_,a1,S,rfl,lt hz,lt O,n1,n2⟩,F _ _ D.TIz D.TITO D.TIi1 D.TIi2 Z.ti,Y,a4⟩ S a6 F
 ·refine OM ⟨_,hz,rfl⟩ fun E' _ A' _=>OL D hz hT Z.ti Z.j1 Z.j2 I J (fun x' y' h' e1 e2 a1 Y a4 S a6 F=>⟨_,rfl,kG ?_⟩) (fun e=>by rw[U] at e;cases e) (fun _ _=>⟨y,V⟩);rw[U] at e1;rw[V] at e2;cases e1;cases e2;exact hQ h' ⟨.inr ⟨T,true,o,a1,F _ _ t1 t3 t4 hT,hc,t1,t2,t3,t4⟩,F _ _ D.TIz D.TIi1 D.TIi2 Z.ti,Y,a4⟩ S a6 fun c o c1 _ c3 c4 e=>F c o c1 c3 c4 e
theorem ZpN {k:Nat}{Q:Option Value->Shared->Prop}(S:A.handled=none)(D:ZipApart z TI TO i1 i2 l1 l2)(Z:ZS s.heap z TI TO i1 i2 l1 l2 k)
  (F:s.heap.IsList l1 xs) (I:s.heap.IsList l2 ys) (J:xs[k]? = none)
  (U:∀h',(∀c o,c≠z->c≠TO->c≠i1->c≠i2->s.heap.get? c=some o->h'.get? c=some o)->Q none { s with heap:=h' }):
  wpAny (model prog w) A (pyNext (.ref z)) Q E s:=by
 rcases Z.zp with⟨hz,a,b,O⟩ | ⟨T,b,o,hz,W,hc,t1,t2,t3,t4⟩
 ·exact wpAny_pyNext_zip_end S D hz Z.ti O Z.j1 Z.j2 F I (.inl J) U
 ·exact OM ⟨_,hz,rfl⟩ fun E' out A' Y=>OL D hz W Z.ti Z.j1 Z.j2 F I (fun x' y' h' V=>by rw[J] at V;cases V) (fun _=>⟨Y.trans S,fun h' e keep stop=>out e _ stop (U h' fun c o c1 _ c3 _ g=>keep c o c1 c3 g)⟩) (fun x' e=>by rw[J] at e;cases e)
end
theorem ON:entryFor table "dict.update.loop" = some Builtin.«dict.update.loop»:=N2 (by kernel_rfl)
theorem Ic:plainId "dict.update.loop" = true:=by decide +kernel
def P5 (kvs:List (Key×Value))(ps:List (Key×Value)):List (Key×Value):=ps.foldl (fun a p=>stored a p.1 p.2) kvs
section
variable {prog:Program}{w:World}{A:Around}{R:Result->Shared->Prop}
theorem Zp0 {E:QE}{s:Shared}{d:Addr}{kvs:List (Key×Value)}{k:Int}{t:Tok}{v:Value}{Q:Unit->Shared->Prop}(F:s.heap.DictOf (Z9 prog w) d kvs)(hsz:kvs.length<=sizeLine)
  (I:∀h',h'.DictOf (Z9 prog w) d (stored kvs (Sum.inl k) v)->Heap.SameBut d s.heap h'->Q () { s with heap:=h',toks:=s.toks+1 }):wpAny (model prog w) A (dictSet d (.int k t) v) Q E s:=by
 unfold dictSet
 try with_reducible refine KC ?_
 refine kg (wpAny_pyHash_int ?_);exact wpAny_dictSetHashed_pairs (knd:=Z9 prog w) (k:=Sum.inl k) (by show Value.isInt k (.int k t)=true;simp[Value.isInt]) (s:={ s with toks:=s.toks+1 }) F I hsz
theorem ZnZ {d:Addr}{ps:List (Key×Value)}(D:ZipApart z TI TO i1 i2 l1 l2)(hh:A.handled=none)(hn:xs.size=ys.size)(hz:xs.size<=100000)
  (hp:ps.length=xs.size) (bP:∀(i:Nat)(k:Key)(v:Value),ps[i]? = some (k,v) -> ∃(a:Int)(t:Tok),k=Sum.inl a/\xs[i]? = some (Value.int a t)/\ys[i]? = some v)
  (I:d≠z/\d≠TO/\d≠i1/\d≠i2/\l1≠d/\l2≠d):
  ∀(m k:Nat)(s:Shared)(kvs:List (Key×Value)),m+k=xs.size->ZS s.heap z TI TO i1 i2 l1 l2 k->s.heap.IsList l1 xs->s.heap.IsList l2 ys->s.heap.DictOf (Z9 prog w) d kvs->kvs.length<=k ->
   (∀h' tk,h'.DictOf (Z9 prog w) d (P5 kvs (ps.drop k))->(∀c o,c≠z->c≠TO->c≠i1->c≠i2->c≠d->s.heap.get? c=some o->h'.get? c=some o)->R (.ok (.ret .none)) { s with heap:=h',toks:=tk }) ->
   codeAny (model prog w) A (.builtin "dict.update.loop" ⟨[.ref d,.ref z,rawInt (k:Int),.none],[]⟩) R s:=by
 intro m
 induction m with
 | zero=>
  intro k s kvs hk Z J O hd aA fin;refine qK ON ?_;rw[qF Ic _];show wpAny _ A.in1 (pyNext (.ref z) >>= _) _ _ s;refine kg (ZpN (A:=A.in1) hh D Z J O (by rw[Mj];lia) fun h' kk=>?_);refine kG ?_;have e:ps.drop k = []:=qo (by lia);rw[e] at fin;refine fin h' s.toks ?_ fun c o V W Y c4 _ x=>kk c o V W Y c4 x;obtain⟨o,es,ep,S,r⟩:=hd;exact⟨o,es,ep,kk _ _ I.1 I.2.1 I.2.2.1 I.2.2.2.1 S,r⟩
 | succ m ih=>
  intro k s kvs hk Z J O hd aA fin;refine qK ON ?_;rw[qF Ic _];show wpAny _ A.in1 (pyNext (.ref z) >>= _) _ _ s;obtain⟨⟨pk,pv⟩,ny⟩:∃p,ps[k]? = some p:=⟨ps[k]'(by lia),by simp⟩;obtain⟨a,t,rfl,hx,hy⟩:=bP k pk pv ny;refine kg (Zny (A:=A.in1) D Z J O hx hy fun h' Z' F hsz kk=>?_);refine kg (KC ?_);refine kg (wpAny_tryCatch ?_);unfold Builtin.Dict.pairItems;refine kg (qS (T := "tuple") ⟨_,F,rfl⟩ ?_);refine wpAny_ite ?_;rw[kj (by decide)];refine kg (Tq F rfl ?_);refine kG ?_;show wpAny _ _ (holding [.int a t,pv] (dictSet d (.int a t) pv)) _ _ _;have gM:h'.DictOf (Z9 prog w) d kvs:=by obtain⟨o,es,ep,S,r⟩:=hd;exact⟨o,es,ep,kk _ _ I.1 I.2.1 I.2.2.1 I.2.2.2.1 S,r⟩
  have lst:∀{h h2:Heap}{l:Addr}{zs:QY},h.IsList l zs->(∀o,h.get? l=some o->h2.get? l=some o)->h2.IsList l zs:=fun {h h2 l zs} q k=>by obtain⟨o,S,r⟩:=q;exact⟨o,k o S,r⟩
  refine KC (Zp0 (s:={ s with heap:=h' }) gM (by rw[kY];lia) fun h2 cN sb=>?_);refine kG ⟨TJ Ic _,?_⟩;have U:∀c o,c≠z->c≠TO->c≠i1->c≠i2->c≠d->s.heap.get? c=some o->h2.get? c=some o:=fun c o V W Y c4 c5 e=>sb.extBut _ _ c5 (kk c o V W Y c4 e);have e:((k:Int)+1)=((k+1:Nat):Int):=by lia
  rw[e];have e2:ps.drop k=(Sum.inl a,pv)::ps.drop (k+1):=by obtain⟨h1,h3⟩:=kC.mp ny;rw[<- h3];exact K6 h1
  refine ih (k+1) { s with heap:=h2,toks:=s.toks+1 } _ (by lia) (Z'.keep fun c o e nd=>sb.extBut _ _ (fun q=>?_) e) (lst J fun o e=>U _ o D.l1z D.l1TO D.l1i1 D.l1i2 I.2.2.2.2.1 e) (lst O fun o e=>U _ o D.l2z D.l2TO D.l2i1 D.l2i2 I.2.2.2.2.2 e) cN ?_ fun h3 tk io k3=>?_
  ·obtain⟨o',es,ep,S,hc,_⟩:=gM;rw[q,S] at e;cases e;exact nd hc.1
  ·have:=stored_length_le kvs (Sum.inl a:Key) pv;lia
  ·refine fin h3 tk ?_ fun c o V W Y c4 c5 e=>k3 c o V W Y c4 c5 (U c o V W Y c4 c5 e);rw[e2];exact io
theorem Zni {E:QE}{s:Shared}{ps:List (Key×Value)}{Q:QE}(D:ZipApart z TI TO i1 i2 l1 l2)(hh:A.handled=none)(hn:xs.size=ys.size)(hz:xs.size<=100000)
  (hp:ps.length=xs.size) (bP:∀(i:Nat)(k:Key)(v:Value),ps[i]? = some (k,v) -> ∃(a:Int)(t:Tok),k=Sum.inl a/\xs[i]? = some (Value.int a t)/\ys[i]? = some v)
  (J:IsZip s.heap z TI TO .none) (uG:IsPair s.heap TI (.ref i1) (.ref i2)) (uH:∃a b,IsPair s.heap TO a b) (h1:s.heap.IsListIter i1 l1 0) (h2:s.heap.IsListIter i2 l2 0) (V:s.heap.IsList l1 xs) (W:s.heap.IsList l2 ys)
  (h:∀h' tk,h'.DictOf (Z9 prog w) s.heap.objs.size (P5 [] ps)->(∀c o,c≠z->c≠TO->c≠i1->c≠i2->s.heap.get? c=some o->h'.get? c=some o)->Q (.ref s.heap.objs.size) { s with heap:=h',toks:=tk }):
  wpAny (model prog w) A (call (.type "dict") [.ref z]) Q E s:=by
 refine callType_codes (Q₁:=fun obj S=>obj = .ref s.heap.objs.size/\S = { s with heap:=s.heap.push { cls:=.type "dict", data:=.dict #[] } }) F.kt_called_dict (F.kt_typeCall_dict_1 _) F.entry_dict_init (kt_code_dict_new _ ⟨rfl,rfl⟩) ?_;rintro obj S ⟨rfl,rfl⟩;have O:(s.heap.push { cls:=.type "dict", data:=.dict #[] }).DictOf (Z9 prog w) s.heap.objs.size []:=Heap.DictOf.new s.heap;have Z:∀c o,s.heap.get? c=some o->(s.heap.push { cls:=.type "dict", data:=.dict #[] }).get? c=some o:=fun c o e=>kz _ e;refine⟨O.typeIs,F.args_dict_init_2 _ _,?_⟩;unfold Builtin.«dict.__init__»;refine kg ?_;unfold Builtin.Dict.selfAndRest;refine kg (wpAny_notOrdered_dict O.typeIs ?_);show wpAny _ _ (pure (s.heap.objs.size,[Value.ref z])) _ _ _;refine kG ?_;show wpAny _ _ (Builtin.Dict.updateFrom "dict.__init__" s.heap.objs.size (.ref z) [] .none) _ _ _;unfold Builtin.Dict.updateFrom;refine kg (qS (T := "zip") ⟨_,Z _ _ J,rfl⟩ ?_);rw[kj (by decide)];refine kg (ZnS (Z _ _ J) hh fun h' tk kk=>?_);rw[kj (by rfl)];refine kg (XJ ?_);refine kg (NZ (kk _ _ (Z _ _ J)) ?_);have U:∀c o,s.heap.get? c=some o->h'.get? c=some o:=fun c o e=>kk c o (Z c o e);have lt:∀{c:Addr}{o:Obj},s.heap.get? c=some o->s.heap.objs.size≠c:=fun e=>KA (Kj (k6 e));obtain⟨ta,tb,Y⟩:=uH;have n1:s.heap.objs.size≠i1:=by obtain⟨o,I,_⟩:=h1;exact lt I
 have n2:s.heap.objs.size≠i2:=by obtain⟨o,I,_⟩:=h2;exact lt I
 have n3:l1≠s.heap.objs.size:=by obtain⟨o,I,_⟩:=V;exact(lt I).symm
 have n4:l2≠s.heap.objs.size:=by obtain⟨o,I,_⟩:=W;exact(lt I).symm
 have cp:∀{l:Addr}{zs:QY},s.heap.IsList l zs->h'.IsList l zs:=fun {l zs} q=>by obtain⟨o,I,r⟩:=q;exact⟨o,U _ _ I,r⟩
 have ci:∀{i l:Addr}{k:Nat},s.heap.IsListIter i l k->h'.IsListIter i l k:=fun {i l k} q=>by obtain⟨o,I,r⟩:=q;exact⟨o,U _ _ I,r⟩
 have gM:h'.DictOf (Z9 prog w) s.heap.objs.size []:=by obtain⟨o,es,ep,I,r⟩:=O;exact⟨o,es,ep,kk _ _ I,r⟩
 refine kG ⟨TJ Ic _,?_⟩;refine ZnZ (A:=A.in1) D hh hn hz hp bP ⟨lt J,lt Y,n1,n2,n3,n4⟩ xs.size 0 _ [] rfl ⟨.inl ⟨U _ _ J,ta,tb,U _ _ Y⟩,U _ _ uG,ci h1,ci h2⟩ (cp V) (cp W) gM (km _) fun h3 uI d3 k3=>?_;exact⟨rfl,h h3 uI d3 fun c o c1 c2 c3 c4 e=>k3 c o c1 c2 c3 c4 (lt e).symm (U c o e)⟩
end
def LK (aY:QD)(ps:List (Int×V)):QD:=ps.foldl (fun a p=>putK a (Sum.inl p.1) p.2) aY
inductive Zrr(K:QF)(Q:VK)(vs:QH)(H1:Hp):Prop|mk(a b:Addr)(ns:QG)(ys:QH)(_:vs = [.ref a,.ref b])(_:Zr K H1 a (ns.map V.int))(_:Zr K H1 b ys)(_:ns.length=ys.length)(_:ns.length<=100000)(_:∀D,H1 D=none->Q (.ref D) (upd H1 D (.dK (LK [] (ns.zip ys)))))
def tDz (K:QF)(ta:TA):TE:=fun σ H Q=>ta σ H fun vs H1=>Zrr K Q vs H1
theorem OO:∀{ns:QG}{ys:QH}{us vs:QJ}{aY:QD}{eN:List (Key×Value)},Vals (ns.map V.int) us->Vals ys vs->KV aY eN->KV (LK aY (ns.zip ys)) (P5 eN ((ns.map fun n=>(Sum.inl n:Key)).zip vs))
 | [],_,_,_,_,_,_,_,r=>r
 | n::ns,[],_,_,_,_,_,h,r=>by cases h;exact r
 | n::ns,y::ys,_,_,_,_,h1,h2,r=>by
  cases h1 with
  | cons a1 F=>
   cases h2 with
   | cons a2 I=>exact OO (ns:=ns) (ys:=ys) F I (r.put (Sum.inl n) a2)
theorem OP:∀(ps:List (Int×V))(F:QD),(LK F ps).length<=F.length+ps.length
 | [],F=>km _
 | p::ps,F=>by have h1:=OP ps (putK F (Sum.inl p.1) p.2);have h2:=Ga F (Sum.inl p.1:Key) p.2;show (LK (putK F (Sum.inl p.1) p.2) ps).length<=_;rw[Kk];lia
section
variable {X:Cx}
theorem OQ:∀{xs:QH}{us:QJ}{i:Nat}{x:V},Vals xs us->xs[i]? = some x -> ∃u,us[i]? = some u/\RelV x u
 | _,_,_,_,.nil,h=>by simp at h
 | _,_,0,_,.cons r _,h=>by simp at h;subst h;exact⟨_,rfl,r⟩
 | _,_,i+1,x,.cons _ t,h=>by obtain⟨b,h1,h2⟩:=OQ (i:=i) (x:=x) t (by simpa using h);exact⟨b,by simpa using h1,h2⟩
theorem ZhH {K:QF}{a b:Expr}{ta:TA}{p p2 pos aV:Pos}(hK:X.K=K)(hc:X.calm=true)(Z:Gl X "dict")(uJ:X.mg "dict" = none)(uK:Gl X "zip")(uL:X.mg "zip" = none)(ha:PA X [a,b] ta)
  (hs:starEach [a,b] X.env = [(false,eval a X.env),(false,eval b X.env)]:=by rfl) (U:starEach [b] X.env = [(false,eval b X.env)]:=by rfl)
  (he:starEach [Expr.Call (.Name "zip" p2) [a,b] [] aV] X.env=(false,eval (Expr.Call (.Name "zip" p2) [a,b] [] aV) X.env)::starEach [] X.env:=by rfl) (bN:(backTo pos (starEach [] X.env)).any (·.1)=false:=by rfl):
  PE X (.Call (.Name "dict" p) [.Call (.Name "zip" p2) [a,b] [] aV] [] pos) (tDz K ta):=by
 subst hK;intro pins s σ H Q I h;refine Xv (UJ I Z uJ boot_dict ?_ (by decide) (by decide));refine KS ?_ he bN;rw[he];show wpAny _ _ (spliced ((false,eval (Expr.Call (.Name "zip" p2) [a,b] [] aV) X.env)::backTo pos (starEach [] X.env))) _ _ s;refine Nd ?_;refine Call_ (UJ I uK uL boot_zip (KS (YM (ha aV pins s σ H _ I h) fun us F ⟨vs,H1,I1,r1,q1⟩=>?_) (by rw[hs,U]) (by rw[U];rfl)));obtain⟨l1,l2,ns,ys,e,bM,cq,hl,hz,q⟩:=q1;subst e;obtain⟨u,v,rfl,ru,rv⟩:=r1.two;cases ru;cases rv;obtain⟨V,O,p1,eB⟩:=I1.list bM;obtain⟨J,W,S,cu⟩:=I1.list cq;have L1:@LT.lt Nat _ l1 F.heap.objs.size:=by obtain⟨o,Y,_⟩:=p1.isList;exact aLt Y
 have L2:@LT.lt Nat _ l2 F.heap.objs.size:=by obtain⟨o,Y,_⟩:=S.isList;exact aLt Y
 refine call_zip_2 p1.isList S.isList fun h' g1 g2 g3 g4 g5 hsz kk=>?_;have ap:ZipApart (F.heap.objs.size+4) (F.heap.objs.size+2) (F.heap.objs.size+3) F.heap.objs.size (F.heap.objs.size+1) l1 l2:=by constructor<;>(intro e;have e':@Eq Nat _ _:=e;lia)
 refine NC ?_;have zo:V.length=ns.length:=by rw[<- O.length,ke]
 have zq:J.length=ys.length:=W.length.symm;have hb:@LT.lt Nat _ sysModules h'.objs.size:=by have:@LT.lt Nat _ sysModules F.heap.objs.size:=I1.big;rw[hsz];lia
 have cp:∀{l:Addr}{zs:QY},F.heap.IsList l zs->h'.IsList l zs:=fun {l zs} q=>by obtain⟨o,Y,r⟩:=q;exact⟨o,kk _ _ Y,r⟩
 refine Zni (s:={ F with heap:=h' }) (ps:=(ns.map fun n=>(Sum.inl n:Key)).zip J) ap (I1.ok.hd hc) (by simp;lia) (by simp;lia) (by simp;lia) (fun i k v hi=>?_) g1 g2 ⟨_,_,g3⟩ g4 g5 (cp p1.isList) (cp S.isList) fun h2 tk hd k2=>?_
 ·obtain⟨e1,e2⟩:=Nv.mp hi;rw[kE] at e1;obtain⟨a,gJ,rfl⟩:=k8.mp e1;obtain⟨u,hu,t,rfl⟩:=OQ O (i:=i) (x:=.int a) (by rw[kE,gJ];rfl);exact⟨a,t,rfl,by simpa using hu,by simpa using e2⟩
 ·have keep:∀c o,F.heap.get? c=some o->h2.get? c=some o:=fun c o e=>by
   have lt:@LT.lt Nat _ c F.heap.objs.size:=aLt e;refine k2 c o ?_ ?_ ?_ ?_ (kk c o e)<;>(intro e;have e':@Eq Nat _ _:=e;lia)
  have le:@LE.le Nat _ F.heap.objs.size h'.objs.size:=by rw[hsz];lia
  refine⟨.ref h'.objs.size,_,I1.laid (a:=h'.objs.size) (o:=.dK (LK [] (ns.zip ys))) (h':=h2) (t':=tk) keep le (PD ?_ (qH.mpr (KA (Kj hb))) (OO O W .nil) hd),rfl,q _ (I1.hok.fresh le)⟩;have:=OP (ns.zip ys) [];rw[TZ,Xg] at this;rw[kY];lia
end
open AutoSeq1 (wpAny_loadPart') in
theorem Ie (xs:QH)(k:Nat):J5 xs none (some (k:Int))=xs.take k:=by unfold J5;rw[HT.CJ,HT.Dp,MM,LO,List.take_eq_take_iff];lia
theorem Ig (xs:QH)(k:Nat):J5 xs (some (k:Int)) none=xs.drop k:=by
 unfold J5;rw[HT.CJ,HT.Dp];by_cases h:k<=xs.length
 ·rw[K7 h,kL (by rw[Kr];lia)]
 ·rw[KU (by lia),qo (km _),qo (by lia),M6]
end L2
namespace L2
open PySem PySem.Spec PyProof.Rows HT
variable {mask j i:Nat}{hs:QG}
def adv (mask:Nat)(p:SetTable.Probe):SetTable.Probe:=
 if p.more>0 then { p with j:=p.j+1,more:=p.more-1 } else
 { p with j:=(SetTable.leap mask p.i p.perturb).1,more:=SetTable.runEnd mask (SetTable.leap mask p.i p.perturb).1-(SetTable.leap mask p.i p.perturb).1,i:=(SetTable.leap mask p.i p.perturb).1,perturb:=(SetTable.leap mask p.i p.perturb).2 }
theorem Zqi (t:SetTable)(p:SetTable.Probe):t.advance p=adv t.mask p:=rfl
def stH (mask:Nat)(h:Int):Nat->SetTable.Probe
 | 0=>{ j:=SetTable.bits h % (mask+1),more:=SetTable.runEnd mask (SetTable.bits h % (mask+1))-SetTable.bits h % (mask+1),i:=SetTable.bits h % (mask+1),perturb:=SetTable.bits h,dummy:=none }
 | n+1=>adv mask (stH mask h n)
def pj (mask:Nat)(h:Int)(n:Nat):Nat:=(stH mask h n).j
theorem ZkY (t:SetTable)(h:Int):t.probeStart h=stH t.mask h 0:=rfl
def W3 (mask b:Nat):Nat->Nat×Nat
 | 0=>(b % (mask+1),b)
 | n+1=>SetTable.leap mask (W3 mask b n).1 (W3 mask b n).2
theorem OR (mask i:Nat):SetTable.runEnd mask i-i<=9:=by unfold SetTable.runEnd;split<;>lia
theorem P6 {mask i q:Nat}{h:Int}{s:Nat}(e:stH mask h s = { j:=i,more:=SetTable.runEnd mask i-i,i:=i,perturb:=q,dummy:=none }):∀m,m<=SetTable.runEnd mask i-i->stH mask h (s+m) = { j:=i+m,more:=SetTable.runEnd mask i-i-m,i:=i,perturb:=q,dummy:=none }
 | 0,_=>e
 | m+1,hm=>by show adv mask (stH mask h (s+m))=_;rw[P6 e m (by lia)];unfold adv;dsimp only;rw[kj (by lia)];congr 1
theorem OS (mask:Nat)(h:Int):∀n,∃s,s<=10*n/\stH mask h s = { j:=(W3 mask (SetTable.bits h) n).1,more:=SetTable.runEnd mask (W3 mask (SetTable.bits h) n).1-(W3 mask (SetTable.bits h) n).1,i:=(W3 mask (SetTable.bits h) n).1,perturb:=(W3 mask (SetTable.bits h) n).2,dummy:=none }
 | 0=>⟨0,by lia,rfl⟩
 | n+1=>by obtain⟨s,hs,e⟩:=OS mask h n;have r:=OR mask (W3 mask (SetTable.bits h) n).1;have F:=P6 e _ (km _);refine⟨s+(SetTable.runEnd mask (W3 mask (SetTable.bits h) n).1-(W3 mask (SetTable.bits h) n).1)+1,by lia,?_⟩;show adv mask (stH mask h _)=_;rw[F];unfold adv;dsimp only;rw[kh (by lia)];rfl
theorem OT (mask b:Nat):∀n,(W3 mask b n).2=b / 32 ^ n
 | 0=>by simp[W3]
 | n+1=>by show (W3 mask b n).2 / 32=_;rw[OT mask b n,Nat.div_div_eq_div_mul,Nat.pow_succ]
theorem P7 (mask b:Nat):∀n,(W3 mask b n).1<mask+1
 | 0=>Mh _ (by lia)
 | n+1=>Mh _ (by lia)
def lcg (mask:Nat):Nat->Nat->Nat
 | 0,i=>i
 | k+1,i=>(lcg mask k i*5+1) % (mask+1)
theorem OU (h:Int):SetTable.bits h<2 ^ 64:=by unfold SetTable.bits;have:=qQ h (b:=2 ^ 64) (by decide);have:=Xh h (b:=2 ^ 64) (by decide);lia
theorem P8 (mask:Nat){b:Nat}(hb:b<2 ^ 64):∀k,(W3 mask b (13+k)).1=lcg mask k (W3 mask b 13).1
 | 0=>rfl
 | k+1=>by
  show ((W3 mask b (13+k)).1*5+1+(W3 mask b (13+k)).2 / 32) % (mask+1)=(lcg mask k _*5+1) % (mask+1);have z:(W3 mask b (13+k)).2=0:=by
   rw[OT];refine Nat.div_eq_of_lt (Kt hb ?_)
   calc 2 ^ 64<=32 ^ 13:=by decide
    _<=32 ^ (13+k):=MN (by decide) (by lia)
  rw[z,P8 mask hb k]
theorem Zso:∀i,i<8 -> ∀j,j<8 -> ∃k,k<8/\lcg 7 k i=j:=by decide +kernel
theorem Zq7:∀i,i<32 -> ∀j,j<32 -> ∃k,k<32/\lcg 31 k i=j:=by decide +kernel
theorem Ih (mask i:Nat):∀k a,lcg mask k (lcg mask a i)=lcg mask (k+a) i
 | 0,a=>by rw[Xy];rfl
 | k+1,a=>by show (lcg mask k (lcg mask a i)*5+1) % (mask+1)=_;rw[Ih mask i k a,show k+1+a=(k+a)+1 by lia];rfl
theorem OV:∀j,j<128 -> ∃a,a<128/\lcg 127 a 0=j:=by decide +kernel
theorem Zpm:lcg 127 128 0=0:=by decide +kernel
theorem Zqo (i:Nat)(hi:i<128)(j:Nat)(F:j<128):∃k,k<128/\lcg 127 k i=j:=by
 obtain⟨a,ha,rfl⟩:=OV i hi;obtain⟨c,I,rfl⟩:=OV j F;by_cases z:a<=c
 ·exact⟨c-a,by lia,by rw[Ih,show c-a+a=c by lia]⟩
 ·exact⟨c+128-a,by lia,by rw[Ih,show c+128-a+a=c+128 by lia,<- Ih,Zpm]⟩
theorem OW (I:mask=7∨mask=31∨mask=127)(i:Nat)(hi:i<mask+1)(j:Nat)(F:j<mask+1):∃k,k<mask+1/\lcg mask k i=j:=by
 rcases I with rfl | rfl | rfl
 ·exact Zso i hi j F
 ·exact Zq7 i hi j F
 ·exact Zqo i hi j F
theorem cover (F:mask=7∨mask=31∨mask=127)(h:Int)(I:j<=mask):∃s,s<10*SetTable.turns mask/\pj mask h s=j:=by
 have key:∃n,n+1<SetTable.turns mask/\(W3 mask (SetTable.bits h) n).1=j:=by have lt:=P7 mask (SetTable.bits h) 13;obtain⟨k,hk,e⟩:=OW F _ lt j (by lia);exact⟨13+k,by unfold SetTable.turns;lia,by rw[P8 _ (OU h),e]⟩
 obtain⟨n,J,e⟩:=key;obtain⟨s,hs,es⟩:=OS mask h n;refine⟨s,by lia,?_⟩;unfold pj;rw[es];exact e
theorem OX {P:Nat->Prop}[DecidablePred P]:∀N,(∃s,s<N/\P s) -> ∃s,s<N/\P s /\ ∀m,m<s -> ¬P m
 | 0,⟨s,h,_⟩=>by lia
 | N+1,h=>by
  by_cases c:∃s,s<N/\P s
  ·obtain⟨s,a,b⟩:=OX N c;exact⟨s,by lia,b⟩
  ·obtain⟨s,a,b⟩:=h;have:s=N:=by
    by_cases z:s<N
    ·exact absurd ⟨s,z,b⟩ c
    ·lia
   subst this;exact⟨s,a,b,fun m F z=>c ⟨m,F,z⟩⟩
theorem ZhU {l:List Nat}{N:Nat}(r:l.Pairwise (· < ·))(d:∀j∈l,j<=N)(S:l.length<=N):∃j,j<=N/\j∉l:=by
 have key:∀(l:List Nat)(b:Nat),l.Pairwise (· < ·)->(∀j∈l,b<=j)->(∀j,b<=j->j<b+l.length+1->j∈l)->False:=by
  intro l
  induction l with
  | nil=>intro b _ _ h;have:=h b (km _) (by simp);cases this
  | cons x l ih=>
   intro b r lo h;obtain⟨F,I⟩:=qd.mp r;have J:x=b:=by
    have:=h b (km _) (by lia);rcases kQ.mp this with z | z
    ·exact z.symm
    ·have:=F b z;have:=lo x kS;lia
   subst J;refine ih (x+1) I (fun j O=>F j O) fun j h1 h2=>?_;have:=h j (by lia) (by rw[Kk];lia);rcases kQ.mp this with z | z
   ·lia
   ·exact z
 by_cases c:∃j,j<N+1/\j∉l
 ·obtain⟨j,a,b⟩:=c;exact⟨j,by lia,b⟩
 ·refine(key l 0 r (fun _ _=>Kn _) fun j _ h2=>?_).elim;by_cases z:j∈l
  ·exact z
  ·exact absurd ⟨j,by lia,z⟩ c
theorem UN {l:List Nat}(r:l.Pairwise (· < ·)){k x y:Nat}(hi:l[i]? = some x)(hk:l[k]? = some y)(h:i<k):x<y:=by obtain⟨h1,F⟩:=kC.mp hi;obtain⟨h2,I⟩:=kC.mp hk;rw[<- F,<- I];exact Nw.mp r i k h1 h2 h
theorem P9 {xs:Array Nat}{j:Nat}(r:xs.toList.Pairwise (· < ·)):∀(F lo hi:Nat),hi-lo<=F->lo<=hi->hi<=xs.size->(∀i x,xs.toList[i]? = some x->i<lo->x<j)->(∀i x,xs.toList[i]? = some x->hi<=i->j<=x) ->
  SetTable.below.go xs j F lo hi<=xs.size /\ ∀i x,xs.toList[i]? = some x->(i<SetTable.below.go xs j F lo hi ↔ x<j)
 | 0,lo,hi,hf,hl,hh,a,b=>by
  have:lo=hi:=by lia
  subst this;show lo<=_ /\ ∀i x,_->(i<lo ↔ _);refine⟨hh,fun i x e=>⟨fun z=>a i x e z,fun z=>?_⟩⟩;by_cases c:i<lo
  ·exact c
  ·have:=b i x e (by lia);lia
 | F+1,lo,hi,hf,hl,hh,a,b=>by
  unfold SetTable.below.go;by_cases c:lo<hi
  ·rw[kj c];dsimp only;have J:(lo+hi) / 2<xs.size:=by lia
   have I:xs.toList[(lo+hi) / 2]? = some xs[(lo+hi) / 2]:=by simp[J]
   have O:xs.getD ((lo+hi) / 2) j=xs[(lo+hi) / 2]:=by simp[Array.getD,J]
   rw[O];generalize xs[(lo+hi) / 2]=v at I;by_cases q:v<j
   ·rw[kj q];refine P9 r F _ _ (by lia) (by lia) hh (fun i x e z=>?_) b;by_cases y:i=(lo+hi) / 2
    ·subst y;rw[I] at e;cases e;exact q
    ·have:=UN r e I (by lia);lia
   ·rw[kh q];refine P9 r F _ _ (by lia) (by lia) (by lia) a fun i x e z=>?_;by_cases y:i=(lo+hi) / 2
    ·subst y;rw[I] at e;cases e;lia
    ·have:=UN r I e (by lia);lia
  ·rw[kh c];have:lo=hi:=by lia
   subst this;refine⟨hh,fun i x e=>⟨fun z=>a i x e z,fun z=>?_⟩⟩;by_cases c:i<lo
   ·exact c
   ·have:=b i x e (by lia);lia
theorem Cd {xs:Array Nat}(r:xs.toList.Pairwise (· < ·))(j:Nat):SetTable.below xs j<=xs.size /\ ∀i x,xs.toList[i]? = some x->(i<SetTable.below xs j ↔ x<j):=
 P9 r _ _ _ (by lia) (Kn _) (km _) (fun i x _ h=>by lia) fun i x e h=>by have:=(kC.mp e).1;simp at this;lia
theorem below_at {xs:Array Nat}(r:xs.toList.Pairwise (· < ·))(e:xs.toList[i]? = some j):SetTable.below xs j=i:=by
 obtain⟨a,b⟩:=Cd r j;have h1:=(b i j e);have hi:=(kC.mp e).1;by_cases c:SetTable.below xs j<i
 ·have F:xs.toList[SetTable.below xs j]? = some (xs.toList[SetTable.below xs j]'(by lia)):=by simp
  have h2:=UN r F e c;have:=(b _ _ F).mpr h2;lia
 ·have:¬i<SetTable.below xs j:=fun z=>by have:=h1.mp z;lia
  lia
theorem Zkz {t:SetTable}(r:t.place.toList.Pairwise (· < ·))(e:t.place.toList[i]? = some j):t.slot j = .live i:=by
 unfold SetTable.slot;rw[below_at r e];have:t.place[i]? = some j:=by rw[<- qu];exact e
 dsimp only;rw[this];simp
theorem ZiE {t:SetTable}(d:t.dummies = #[])(h:j∉t.place.toList):t.slot j = .empty:=by
 unfold SetTable.slot;have:(t.place[SetTable.below t.place j]? == some j)=false:=by rw[qH];intro z;rw[<- qu] at z;exact h (kT z)
 dsimp only;rw[this,d];rfl
theorem Zmd {xs:Array Nat}(r:xs.toList.Pairwise (· < ·))(h:j∉xs.toList):(SetTable.insertAt xs (SetTable.below xs j) j).toList.Pairwise (· < ·):=by
 obtain⟨a,b⟩:=Cd r j;rw[qq,MO];refine⟨r.sublist (NF _ _),qd.mpr ⟨fun y F=>?_,r.sublist (List.drop_sublist _ _)⟩,fun x O y F=>?_⟩
 ·obtain⟨k,hk⟩:=Xd.mp F;rw[qR] at hk;have:=(b _ _ hk);have ne:y≠j:=fun z=>h (z ▸ kT hk);have:¬y<j:=fun z=>by have:=this.mpr z;lia
  lia
 ·obtain⟨k,hk⟩:=Xd.mp O;have I:=(kC.mp hk).1;rw[kK] at I;rw[Tf,kj (by lia)] at hk;have S:=(b _ _ hk).mp (by lia);rcases kQ.mp F with z | z
  ·rw[z];exact S
  ·obtain⟨m,J⟩:=Xd.mp z;rw[qR] at J;exact UN r hk J (by lia)
def Rch (mask:Nat)(P:Nat->Prop)(h:Int)(j:Nat):Prop:=∃s,s<10*SetTable.turns mask/\pj mask h s=j /\ ∀m,m<s->P (pj mask h m)
theorem Rch.mono {P Q:Nat->Prop}{h:Int}(k:∀x,P x->Q x)(r:Rch mask P h j):Rch mask Q h j:=let ⟨s,a,b,c⟩:=r;⟨s,a,b,fun m F=>k _ (c m F)⟩
structure TbG (t:SetTable)(hs:QG):Prop where
 dum:t.dummies = #[]
 rise:t.place.toList.Pairwise (· < ·)
 dom:∀j∈t.place.toList,j<=t.mask
 len:t.place.size=hs.length
 msk:t.mask=7∨t.mask=31∨t.mask=127
 few:hs.length*5<t.mask*3
 rch:∀(i j:Nat)(h:Int),t.place.toList[i]? = some j->hs[i]? = some h->Rch t.mask (· ∈ t.place.toList) h j
theorem TbG.fits {t:SetTable}{hs:QG}(x:TbG t hs):t.fits hs.length=true:=by unfold SetTable.fits SetTable.fill;have:=x.few;rw[x.len,x.dum];simp;lia
theorem TbG.free {t:SetTable}(x:TbG t hs)(h:Int):∃s,s<10*SetTable.turns t.mask/\pj t.mask h s∉t.place.toList /\ ∀m,m<s->pj t.mask h m∈t.place.toList:=by have f:=x.few;obtain⟨j,I,J⟩:=ZhU x.rise x.dom (by rw[kZ,x.len];lia);obtain⟨s,F,e⟩:=cover x.msk h I;obtain⟨s,a,b,c⟩:=OX (P:=fun s=>pj t.mask h s∉t.place.toList) _ ⟨s,F,by rw[e];exact J⟩;exact⟨s,a,b,fun m O=>Decidable.not_not.mp (c m O)⟩
theorem OY (mask:Nat)(h:Int):∀n,(stH mask h n).dummy=none
 | 0=>rfl
 | n+1=>by show (adv mask (stH mask h n)).dummy=none;unfold adv;split<;>exact OY mask h n
theorem OZ {t:SetTable}{hashAt:Nat->Int}{h:Int}:∀(d F I:Nat),d<F->(∀m,m<d -> ∃i,t.slot (pj t.mask h (I+m)) = .live i/\(hashAt i==h)=false)->SetTable.probe.go t hashAt h F (stH t.mask h I)=SetTable.probe.go t hashAt h (F-d) (stH t.mask h (I+d))
 | 0,F,I,_,_=>rfl
 | d+1,0,I,hd,_=>by lia
 | d+1,F+1,I,hd,H=>by
  obtain⟨i,O,S⟩:=H 0 (by lia)
  conv=>lhs;unfold SetTable.probe.go
  have J:t.slot (stH t.mask h I).j = .live i:=O;rw[J];dsimp only;rw[S,kh (by decide),Zqi];have:=OZ (t:=t) (hashAt:=hashAt) (h:=h) d F (I+1) (by lia) fun m U=>by
   have:=H (m+1) (by lia)
   rwa [show I+(m+1)=I+1+m by lia] at this
  show SetTable.probe.go t hashAt h F (stH t.mask h (I+1))=_;rw[this,show F+1-(d+1)=F-d by lia,show I+(d+1)=I+1+d by lia]
theorem Zqt {l:List Nat}{x:Nat}(h:x∈l):∃i:Nat,l[i]? = some x:=Xd.mp h
theorem Zqh {t:SetTable}(x:TbG t hs){h:Int}{se:Nat}(F:se<10*SetTable.turns t.mask)(I:pj t.mask h se∉t.place.toList)(liv:∀m,m<se->pj t.mask h m∈t.place.toList)(le:pj t.mask h se<=t.mask)(plain led:Bool):
  (t.put (pj t.mask h se)).2=SetTable.below t.place (pj t.mask h se)/\(t.put (pj t.mask h se)).1 = { t with place:=SetTable.insertAt t.place (SetTable.below t.place (pj t.mask h se)) (pj t.mask h se) }:=by
 refine⟨rfl,?_⟩;unfold SetTable.put;have:SetTable.has t.dummies (pj t.mask h se)=false:=by rw[x.dum];rfl
 dsimp only;rw[this,kh (by decide)]
theorem Ii {α:Type}{l:List α}{p:Nat}{y:α}(F:p<=l.length){z:α}(e:(l.take p++y::l.drop p)[i]? = some z):(i=p/\z=y)∨(i<p/\l[i]? = some z)∨(p<i/\l[i-1]? = some z):=by
 have lt:(l.take p).length=p:=by rw[kK];lia
 by_cases c:i<p
 ·rw[KG (by lia),Tf,kj c] at e;exact .inr (.inl ⟨c,e⟩)
 ·rw[Kq (by lia),lt] at e;by_cases d:i=p
  ·subst d;rw[Mk] at e;exact .inl ⟨rfl,(by simpa using e.symm)⟩
  ·rw[show i-p=(i-p-1)+1 by lia,List.getElem?_cons_succ,qR,show p+(i-p-1)=i-1 by lia] at e;exact .inr (.inr ⟨by lia,e⟩)
theorem Zpb {t:SetTable}(x:TbG t hs){h:Int}{se:Nat}(F:se<10*SetTable.turns t.mask)(I:pj t.mask h se∉t.place.toList)(liv:∀m,m<se->pj t.mask h m∈t.place.toList)(le:pj t.mask h se<=t.mask)
  (few:(hs.length+1)*5<t.mask*3):TbG { t with place:=SetTable.insertAt t.place (SetTable.below t.place (pj t.mask h se)) (pj t.mask h se) } (hs.take (SetTable.below t.place (pj t.mask h se))++h::hs.drop (SetTable.below t.place (pj t.mask h se))):=by
 obtain⟨b1,b2⟩:=Cd x.rise (pj t.mask h se);have W:=x.len;have mem:∀y,y∈t.place.toList->y∈(SetTable.insertAt t.place (SetTable.below t.place (pj t.mask h se)) (pj t.mask h se)).toList:=fun y S=>by
  rw[qq];rw[<- KP (SetTable.below t.place (pj t.mask h se)) t.place.toList] at S;rcases Kg.mp S with z | z
  ·exact K9 _ z
  ·exact KH _ (kX _ z)
 refine⟨x.dum,Zmd x.rise I,fun j U=>?_,?_,x.msk,?_,fun i j h' J O=>?_⟩
 ·rw[qq] at U;rcases Kg.mp U with z | z
  ·exact x.dom j (TN z)
  ·rcases kQ.mp z with z | z
   ·rw[z];exact le
   ·exact x.dom j (MP z)
 ·rw[<- kZ,qq];simp;lia
 ·simp only[ki,Kk,kK,Kr];lia
 ·rw[qq] at J;dsimp only at J ⊢;rcases Ii (by simpa using b1) J with⟨a,b⟩ | ⟨a,b⟩ | ⟨a,b⟩
  ·rcases Ii (by lia) O with⟨c,d⟩ | ⟨c,d⟩ | ⟨c,d⟩
   ·rw[b,d];exact⟨se,F,rfl,fun m V=>mem _ (liv m V)⟩
   ·lia
   ·lia
  ·rcases Ii (by lia) O with⟨c,d⟩ | ⟨c,d⟩ | ⟨c,d⟩
   ·lia
   ·exact(x.rch i j h' b d).mono mem
   ·lia
  ·rcases Ii (by lia) O with⟨c,d⟩ | ⟨c,d⟩ | ⟨c,d⟩
   ·lia
   ·lia
   ·exact(x.rch (i-1) j h' b d).mono mem
theorem O0 (mask:Nat)(h:Int):∀n,(stH mask h n).i<=mask/\(stH mask h n).j+(stH mask h n).more=SetTable.runEnd mask (stH mask h n).i
 | 0=>by
  have:SetTable.bits h % (mask+1)<mask+1:=Mh _ (by lia);show SetTable.bits h % (mask+1)<=mask/\SetTable.bits h % (mask+1)+(SetTable.runEnd mask (SetTable.bits h % (mask+1))-SetTable.bits h % (mask+1))=_;refine⟨by lia,?_⟩;show _=SetTable.runEnd mask (SetTable.bits h % (mask+1));have:SetTable.bits h % (mask+1)<=SetTable.runEnd mask (SetTable.bits h % (mask+1)):=by unfold SetTable.runEnd;split<;>lia
  lia
 | n+1=>by
  obtain⟨a,b⟩:=O0 mask h n;show (adv mask (stH mask h n)).i<=mask/\(adv mask (stH mask h n)).j+(adv mask (stH mask h n)).more=SetTable.runEnd mask (adv mask (stH mask h n)).i;unfold adv;split
  ·exact⟨a,by dsimp only;lia⟩
  ·dsimp only;have l:(SetTable.leap mask (stH mask h n).i (stH mask h n).perturb).1<mask+1:=Mh _ (by lia);generalize (SetTable.leap mask (stH mask h n).i (stH mask h n).perturb).1=v at *;refine⟨by lia,?_⟩;have:v<=SetTable.runEnd mask v:=by unfold SetTable.runEnd;split<;>lia
   lia
theorem O1 (mask:Nat)(h:Int)(n:Nat):pj mask h n<=mask:=by
 obtain⟨a,b⟩:=O0 mask h n;unfold pj;have:SetTable.runEnd mask (stH mask h n).i<=mask:=by unfold SetTable.runEnd;split<;>lia
 lia
def occ (owner:Array (Option Nat))(j:Nat):Prop:=∃k,owner[j]? = some (some k)
theorem Ba {owner:Array (Option Nat)}(F:j<owner.size):(owner.getD j (some 0)).isNone=true ↔ ¬occ owner j:=by
 have e:owner.getD j (some 0)=owner[j]:=by simp[Array.getD,F]
 unfold occ;rw[e,qM F];cases owner[j]<;>simp
theorem O2 {mask:Nat}{owner:Array (Option Nat)}(hsz:owner.size=mask+1)(h:Int):∀(F n s:Nat),s<=10*n->stH mask h s = { j:=(W3 mask (SetTable.bits h) n).1,more:=SetTable.runEnd mask (W3 mask (SetTable.bits h) n).1-(W3 mask (SetTable.bits h) n).1,i:=(W3 mask (SetTable.bits h) n).1,perturb:=(W3 mask (SetTable.bits h) n).2,dummy:=none } ->
  (∀m,m<s->occ owner (pj mask h m))->(∃I,n<=I/\I-n<F/\I+1<SetTable.turns mask /\ ¬occ owner (W3 mask (SetTable.bits h) I).1) ->
  ∃z,SetTable.layClean.free mask owner F (W3 mask (SetTable.bits h) n).1 (W3 mask (SetTable.bits h) n).2=some (pj mask h z)/\z<10*SetTable.turns mask /\ ¬occ owner (pj mask h z) /\ ∀m,m<z->occ owner (pj mask h m)
 | 0,n,s,_,_,_,⟨I,_,hf,_⟩=>by lia
 | F+1,n,s,hs,e,oc,⟨I,a1,a2,a3,a4⟩=>by
  have lt:=P7 mask (SetTable.bits h) n;have rl:=OR mask (W3 mask (SetTable.bits h) n).1;have run:=P6 e;have re:SetTable.runEnd mask (W3 mask (SetTable.bits h) n).1<=mask/\(W3 mask (SetTable.bits h) n).1<=SetTable.runEnd mask (W3 mask (SetTable.bits h) n).1:=by unfold SetTable.runEnd;split<;>lia
  have J:∀k,k<=SetTable.runEnd mask (W3 mask (SetTable.bits h) n).1-(W3 mask (SetTable.bits h) n).1->pj mask h (s+k)=(W3 mask (SetTable.bits h) n).1+k:=fun k hk=>by unfold pj;rw[run k hk]
  unfold SetTable.layClean.free;have V:(W3 mask (SetTable.bits h) (n+1))=SetTable.leap mask (W3 mask (SetTable.bits h) n).1 (W3 mask (SetTable.bits h) n).2:=rfl;cases q:(List.range (SetTable.runEnd mask (W3 mask (SetTable.bits h) n).1+1-(W3 mask (SetTable.bits h) n).1)).find? fun k=>(owner.getD ((W3 mask (SetTable.bits h) n).1+k) (some 0)).isNone with
  | some k=>
   dsimp only;obtain⟨S,W,Y⟩:=List.find?_range_eq_some.mp q;have hk:k<SetTable.runEnd mask (W3 mask (SetTable.bits h) n).1+1-(W3 mask (SetTable.bits h) n).1:=by simpa using W
   have U:=J k (by lia);refine⟨s+k,by rw[U],by lia,by rw[U];exact(Ba (by lia)).mp S,fun m Z=>?_⟩;by_cases c:m<s
   ·exact oc m c
   ·have O:=J (m-s) (by lia);rw[show s+(m-s)=m by lia] at O;rw[O];have:=Y (m-s) (by lia);refine Xe fun z=>?_;rw[(Ba (by lia)).mpr z] at this;cases this
  | none=>
   dsimp only;have S:=List.find?_range_eq_none.mp q;have all:∀k,k<=SetTable.runEnd mask (W3 mask (SetTable.bits h) n).1-(W3 mask (SetTable.bits h) n).1->occ owner ((W3 mask (SetTable.bits h) n).1+k):=fun k hk=>by have:=S k (by lia);refine Xe fun z=>?_;rw[(Ba (by lia)).mpr z] at this;cases this
   have ne:n≠I:=fun z=>by subst z;exact a4 (by have:=all 0 (by lia);simpa using this)
   obtain⟨s',e'⟩:∃s',s'=s+(SetTable.runEnd mask (W3 mask (SetTable.bits h) n).1-(W3 mask (SetTable.bits h) n).1)+1:=⟨_,rfl⟩;have st':stH mask h s' = { j:=(W3 mask (SetTable.bits h) (n+1)).1,more:=SetTable.runEnd mask (W3 mask (SetTable.bits h) (n+1)).1-(W3 mask (SetTable.bits h) (n+1)).1,i:=(W3 mask (SetTable.bits h) (n+1)).1,perturb:=(W3 mask (SetTable.bits h) (n+1)).2,dummy:=none }:=by rw[e'];show adv mask (stH mask h _)=_;rw[run _ (km _)];unfold adv;dsimp only;rw[kh (by lia)];rfl
   rw[<- V];refine O2 hsz h F (n+1) s' (by lia) st' (fun m Z=>?_) ⟨I,by lia,by lia,a3,a4⟩;by_cases c:m<s
   ·exact oc m c
   ·have O:=J (m-s) (by lia);rw[show s+(m-s)=m by lia] at O;rw[O];exact all _ (by lia)
structure OC (mask:Nat)(owner:Array (Option Nat))(hs:QG):Prop where
 sz:owner.size=mask+1
 sur:∀i:Nat,i<hs.length -> ∃j:Nat,owner[j]? = some (some i)
 lt:∀j i:Nat,owner[j]? = some (some i)->i<hs.length
 one:∀j j' i:Nat,owner[j]? = some (some i)->owner[j']? = some (some i)->j=j'
 rch:∀(j i:Nat)(h:Int),owner[j]? = some (some i)->hs[i]? = some h->Rch mask (occ owner) h j
theorem OC.free {owner:Array (Option Nat)}(x:OC mask owner hs)(V:hs.length<=mask):∃j,j<=mask /\ ¬occ owner j:=by
 refine Xe fun c=>?_;have all:∀j,j<=mask->occ owner j:=fun j I=>Xe fun z=>c ⟨j,I,z⟩;have sz:=x.sz;have:=Wb hs.length ((List.range (mask+1)).map fun j=>(((owner.getD j none).getD 0:Nat):Int)) (by
  rw[K0,Xm];refine NO ?_ (K0.mp TB);intro a b ha hb ne e;obtain⟨k1,F⟩:=all a (by have:=Ku.mp ha;lia);obtain⟨k2,O⟩:=all b (by have:=Ku.mp hb;lia);have J:owner.getD a none=some k1:=by simp[F]
  have S:owner.getD b none=some k2:=by simp[O]
  rw[J,S] at e;have:k1=k2:=by
   have q:((k1:Nat):Int)=(k2:Nat):=by simpa using e
   lia
  subst this;exact ne (x.one a b k1 F O)) (fun y U=>by
  obtain⟨j,I,rfl⟩:=Kw.mp U;obtain⟨k1,F⟩:=all j (by have:=Ku.mp I;lia);have J:owner.getD j none=some k1:=by simp[F]
  rw[J];have:=x.lt j k1 F;simp;lia)
 simp at this;lia
theorem ZmP (J:mask=7∨mask=31∨mask=127){owner:Array (Option Nat)}(x:OC mask owner hs)(Z:hs.length<=mask)(h:Int):∃j,SetTable.layClean.free mask owner (SetTable.turns mask) (SetTable.bits h % (mask+1)) (SetTable.bits h)=some j/\OC mask (owner.setIfInBounds j (some hs.length)) (hs ++ [h]):=by
 obtain⟨j0,zr,O⟩:=x.free Z;have key:∃n,n+1<SetTable.turns mask/\(W3 mask (SetTable.bits h) n).1=j0:=by have lt:=P7 mask (SetTable.bits h) 13;obtain⟨k,hk,e⟩:=OW J _ lt j0 (by lia);exact⟨13+k,by unfold SetTable.turns;lia,by rw[P8 _ (OU h),e]⟩
 obtain⟨n0,S,U⟩:=key;obtain⟨z,e,hz,nz,oc⟩:=O2 x.sz h (SetTable.turns mask) 0 0 (Kn _) rfl (fun m J=>by lia) ⟨n0,by lia,by lia,S,by rw[U];exact O⟩;have zd:=O1 mask h z;refine⟨pj mask h z,e,?_⟩;have sz:=x.sz;have get:∀j:Nat,(owner.setIfInBounds (pj mask h z) (some hs.length))[j]? = if j=pj mask h z then some (some hs.length) else owner[j]?:=fun j=>by
  rw[Array.getElem?_setIfInBounds];by_cases c:pj mask h z=j
  ·subst c;rw[kj rfl,kj (by lia),kj rfl]
  ·rw[kh c,kh (fun q=>c q.symm)]
 have W:∀y,occ owner y->occ (owner.setIfInBounds (pj mask h z) (some hs.length)) y:=fun y ⟨k,hk⟩=>by
  unfold occ;rw[get];split
  ·exact⟨_,rfl⟩
  ·exact⟨k,hk⟩
 have F:∀j i:Nat,(owner.setIfInBounds (pj mask h z) (some hs.length))[j]? = some (some i)->(j=pj mask h z/\i=hs.length)∨(j≠pj mask h z/\owner[j]? = some (some i)):=fun j i q=>by
  rw[get] at q;split at q
  ·exact .inl ⟨by assumption,by simpa using q.symm⟩
  ·exact .inr ⟨by assumption,q⟩
 refine⟨by rw[Array.size_setIfInBounds];exact sz,fun i hi=>?_,fun j i q=>?_,fun j V i q I=>?_,fun j i h' q I=>?_⟩
 ·rw[ki,Ke] at hi;by_cases c:i=hs.length
  ·exact⟨pj mask h z,by rw[get,kj rfl,c]⟩
  ·obtain⟨j,Y⟩:=x.sur i (by lia);refine⟨j,?_⟩;rw[get,kh (fun q=>nz ⟨i,by rw[<- q];exact Y⟩)];exact Y
 ·rw[ki,Ke];rcases F j i q with⟨_,c⟩ | ⟨_,c⟩
  ·lia
  ·have:=x.lt j i c;lia
 ·rcases F j i q with⟨a,c⟩ | ⟨a,c⟩<;>rcases F V i I with⟨b,d⟩ | ⟨b,d⟩
  ·rw[a,b]
  ·have:=x.lt V i d;lia
  ·have:=x.lt j i c;lia
  ·exact x.one j V i c d
 ·rcases F j i q with⟨a,c⟩ | ⟨a,c⟩
  ·subst a c;rw[Kq (km _),Mk] at I;have:h'=h:=by simpa using I.symm
   subst this;exact⟨z,hz,rfl,fun m J=>W _ (oc m J)⟩
  ·have:=x.lt j i c;rw[KG this] at I;exact(x.rch j i h' c I).mono W
theorem Zps (mask:Nat):OC mask (Array.replicate (mask+1) none) []:=by
 have F:∀(j i:Nat),(Array.replicate (mask+1) (none:Option Nat))[j]? ≠ some (some i):=fun j i q=>by rw[Array.getElem?_replicate] at q;split at q<;>simp at q
 exact⟨by simp,fun i hi=>by simp at hi,fun j i q=>absurd q (F j i),fun j I i q=>absurd q (F j i),fun j i h q=>absurd q (F j i)⟩
theorem O3 {mask:Nat}(I:mask=7∨mask=31∨mask=127):∀(rest done:QG)(owner:Array (Option Nat)),OC mask owner done->done.length+rest.length<=mask ->
  ∃o',(rest.foldl (fun F h=>do
   let (owner,k) <- F
   let j <- SetTable.layClean.free mask owner (SetTable.turns mask) (SetTable.bits h % (mask+1)) (SetTable.bits h)
   pure (owner.setIfInBounds j (some k),k+1)) (some (owner,done.length)))=some (o',done.length+rest.length)/\OC mask o' (done++rest)
 | [],done,owner,x,_=>⟨owner,rfl,by rw[KY];exact x⟩
 | h::rest,done,owner,x,hl=>by
  rw[Kk] at hl;obtain⟨j,e,J⟩:=ZmP I x (by lia) h;obtain⟨o',O,y⟩:=O3 I rest (done ++ [h]) _ J (by simp;lia);refine⟨o',?_,by simpa using y⟩;rw[List.foldl_cons];have:(do
   let (owner,k) <- (some (owner,done.length):Option (Array (Option Nat)×Nat))
   let j <- SetTable.layClean.free mask owner (SetTable.turns mask) (SetTable.bits h % (mask+1)) (SetTable.bits h)
   pure (owner.setIfInBounds j (some k),k+1))=some (owner.setIfInBounds j (some done.length),(done ++ [h]).length):=by
   show (SetTable.layClean.free mask owner (SetTable.turns mask) (SetTable.bits h % (mask+1)) (SetTable.bits h) >>= fun j=>pure (owner.setIfInBounds j (some done.length),done.length+1))=_;rw[e];simp
  rw[this,O];simp;lia
theorem Zlc (F:mask=7∨mask=31∨mask=127)(hs:QG)(I:hs.length<=mask):∃o',SetTable.layClean mask hs.toArray=some o'/\OC mask o' hs:=by obtain⟨o',e,x⟩:=O3 F hs [] _ (Zps mask) (by simpa using I);refine⟨o',?_,by simpa using x⟩;unfold SetTable.layClean;rw[<- Array.foldl_toList];have J:(hs.foldl _ (some (Array.replicate (mask+1) none,0)))=_:=e;show Option.map _ (hs.foldl _ _)=_;rw[J];rfl
def liv (owner:Array (Option Nat))(l:List Nat):List (Nat×Nat):=l.filterMap fun j=>(owner.getD j none).map (j,·)
theorem U8 {owner:Array (Option Nat)}{l:List Nat}{k:Nat}:(j,k)∈liv owner l ↔ j∈l/\owner[j]? = some (some k):=by
 unfold liv;rw[KZ];constructor
 ·rintro⟨a,ha,e⟩;obtain⟨b,hb,F⟩:=k8.mp e;have:a=j/\b=k:=by simpa using F
  obtain⟨rfl,rfl⟩:=this;refine⟨ha,?_⟩;by_cases c:a<owner.size
  ·simp[Array.getD,c] at hb;rw[qM c,hb]
  ·simp[Array.getD,c] at hb
 ·rintro⟨ha,e⟩;exact⟨j,ha,by simp[e]⟩
theorem Ce (owner:Array (Option Nat)):∀l:List Nat,((liv owner l).map (·.1)).Sublist l
 | []=>.slnil
 | a::l=>by
  unfold liv;rw[qf];cases (owner.getD a none) with
  | none=>exact(Ce owner l).cons _
  | some k=>exact(Ce owner l).cons₂ _
theorem Ij {α:Type}{es:List α}{order:List Nat}(p:order.Perm (List.range es.length)):(order.filterMap (es[·]?)).Perm es:=by
 refine(p.filterMap _).trans ?_;have:∀l:List α,(List.range l.length).filterMap (l[·]?)=l:=fun l=>by
  refine XI fun i=>?_;have key:∀n,n<=l.length->(List.range n).filterMap (l[·]?)=l.take n:=by
   intro n
   induction n with
   | zero=>intro _;simp
   | succ n ih=>
    intro h;rw[KN,Mw,ih (by lia),Ki];simp[ko (show n<l.length by lia)]
  rw[key _ (km _),kL (km _)]
 rw[this]
theorem O4 {α:Type}{es:List α}:∀{order:List Nat},(∀k∈order,k<es.length) -> ∀{i k:Nat},order[i]? = some k->(order.filterMap (es[·]?))[i]? = es[k]?
 | [],_,i,k,e=>by simp at e
 | a::order,h,i,k,e=>by
  have ha:=h a kS;rw[qf,ko ha];cases i with
  | zero=>simp at e;subst e;simp[ko ha]
  | succ i=>simpa using O4 (order:=order) (fun k hk=>h k (kX _ hk)) (i:=i) (k:=k) (by simpa using e)
theorem ZkN (t:SetTable)(hs:QG){mk:Nat}(V:mk=31∨mk=127)(Z:hs.length*5<mk*3){aw:Nat}(hw:SetTable.sizeAbove aw=mk+1):∃(t':SetTable)(order:Array Nat),t.relaid hs.toArray aw=some (t',order)/\order.toList.Perm (List.range hs.length)/\TbG t' (order.toList.filterMap (hs[·]?))/\t'.led=t.led/\t'.plain=t.plain:=by
 obtain⟨o',e,x⟩:=Zlc (mask:=mk) (.inr V) hs (by lia);have sz:=x.sz;have pm:((liv o' (List.range (mk+1))).map (·.2)).Perm (List.range hs.length):=by
  refine(Nr ?_ TB).mpr fun k=>?_
  ·rw[K0,Xm];have nd:((liv o' (List.range (mk+1))).map (·.1)).Nodup:=TB.sublist (Ce o' _);rw[K0,Xm] at nd;refine nd.imp_of_mem ?_;rintro⟨a,U⟩ ⟨b,kb⟩ ha hb ne z;dsimp only at z ne;subst z;exact ne (x.one a b U (U8.mp ha).2 (U8.mp hb).2)
  ·rw[Kw,Ku];constructor
   ·rintro⟨⟨a,U⟩,ha,rfl⟩;exact x.lt a U (U8.mp ha).2
   ·intro hk;obtain⟨j,I⟩:=x.sur k hk;refine⟨(j,k),U8.mpr ⟨Ku.mpr ?_,I⟩,rfl⟩;have:=(qi.mp I).1;lia
 refine⟨{ mask:=mk,place:=((liv o' (List.range (mk+1))).map (·.1)).toArray,dummies:=#[],finger:=t.finger,led:=t.led,moves:=t.movedTo mk,plain:=t.plain },((liv o' (List.range (mk+1))).map (·.2)).toArray,?_,pm,?_,rfl,rfl⟩
 ·unfold SetTable.relaid;rw[hw];unfold SetTable.laid;show (SetTable.layClean mk hs.toArray >>= fun owner=>_)=_;rw[e];rfl
 ·have W:(liv o' (List.range (mk+1))).length=hs.length:=by have:=pm.length_eq;simpa using this
  have F:=(Ij (es:=hs) pm).length_eq;have J:∀y,occ o' y ↔ y∈(liv o' (List.range (mk+1))).map (·.1):=fun y=>by
   rw[Kw];constructor
   ·rintro⟨k,hk⟩;refine⟨(y,k),U8.mpr ⟨Ku.mpr ?_,hk⟩,rfl⟩;have:=(qi.mp hk).1;lia
   ·rintro⟨⟨a,k⟩,ha,rfl⟩;exact⟨k,(U8.mp ha).2⟩
  refine⟨rfl,?_,fun j I=>?_,?_,.inr V,?_,fun i j h O S=>?_⟩
  ·show ((liv o' (List.range (mk+1))).map (·.1)).Pairwise _;exact List.pairwise_lt_range.sublist (Ce o' _)
  ·have I:j∈(liv o' (List.range (mk+1))).map (·.1):=I;have:=(Ce o' (List.range (mk+1))).subset I;have:=Ku.mp this;show j<=mk;lia
  ·show ((liv o' (List.range (mk+1))).map (·.1)).toArray.size=(((liv o' (List.range (mk+1))).map (·.2)).toArray.toList.filterMap (hs[·]?)).length;rw[kr,ke,W];exact F.symm
  ·show (((liv o' (List.range (mk+1))).map (·.2)).toArray.toList.filterMap (hs[·]?)).length*5<mk*3;rw[F];lia
  ·have O:((liv o' (List.range (mk+1))).map (·.1))[i]? = some j:=O;have S:(((liv o' (List.range (mk+1))).map (·.2)).filterMap (hs[·]?))[i]? = some h:=S;rw[kE] at O;obtain⟨⟨a,k⟩,ha,rfl⟩:=k8.mp O;rw[O4 (fun k hk=>by have:=pm.mem_iff.mp hk;exact Ku.mp this) (i:=i) (k:=k) (by rw[kE,ha];rfl)] at S;have:=x.rch a k h (U8.mp (kT ha)).2 S;exact this.mono fun y Y=>(J y).mp Y
section
variable {prog:Program}{w:World}{A:Around}{E:QE}{s:Shared}
theorem O5 {α β:Type}{F:α -> β -> Prop}{l:List α}{r:List β}(p:Paired F l r):∀order:List Nat,Paired F (order.filterMap (l[·]?)) (order.filterMap (r[·]?))
 | []=>.nil
 | k::order=>by
  have I:=O5 p order;have S:=qp p;have get:∀{l:List α}{r:List β},Paired F l r -> ∀{i:Nat}{x:α}{y:β},l[i]? = some x->r[i]? = some y->F x y:=by
   intro l r p
   induction p with
   | nil=>intro i x y e;simp at e
   | cons a _ I=>
    intro i x y J O;cases i with
    | zero=>simp at J O;subst J O;exact a
    | succ i=>exact I (by simpa using J) (by simpa using O)
  rw[qf,qf];by_cases c:k<l.length
  ·rw[ko c,ko (by lia:k<r.length)];exact .cons (get p (ko c) (ko (by lia))) I
  ·rw[XF (by lia),XF (by lia:r.length<=k)];exact I
set_option maxHeartbeats 6400000 in
theorem Zmp (led:Bool):TbG (.fresh 0 0 led) []:=⟨rfl,.nil,(fun j h=>by cases h),rfl,.inl rfl,(by show 0*5<7*3;decide),(fun i j h e=>by simp[SetTable.fresh] at e)⟩
end
def SWt (prog:Program)(w:World)(a:Addr)(ks:QA)(ep:Nat)(es:Array (Int×Value))(t:SetTable)(h:Heap):Prop:=
 ∃o,h.get? a=some o/\o.ExactSet/\o.data = .set es ep t/\(w.params.followText "set-order" = true∨t.led=true)/\t.plain=true/\TbG t (es.toList.map (·.1))
def slP (pl:List Nat):Nat->Nat
 | 0=>0
 | i+1=>pl.getD i 0+1
theorem Zmg {xs:Array Nat}(r:xs.toList.Pairwise (· < ·))(hi:i<=xs.size):SetTable.below xs (slP xs.toList i)=i:=by
 obtain⟨a,b⟩:=Cd r (slP xs.toList i);have key:∀(k x:Nat),xs.toList[k]? = some x->(x<slP xs.toList i ↔ k<i):=fun k x e=>by
  cases i with
  | zero=>exact⟨fun z=>absurd z (Mt _),fun z=>absurd z (Mt _)⟩
  | succ i=>
   have F:i<xs.toList.length:=by rw[kZ];lia
   have I:xs.toList[i]? = some xs.toList[i]:=ko F;have J:slP xs.toList (i+1)=xs.toList[i]+1:=by show xs.toList.getD i 0+1=_;rw[k7,I];rfl
   rw[J];rcases NH k i with z | z | z
   ·have:=UN r e I z;lia
   ·subst z;rw[I] at e;cases e;lia
   ·have:=UN r I e z;lia
 rcases NH (SetTable.below xs (slP xs.toList i)) i with z | z | z
 ·have F:SetTable.below xs (slP xs.toList i)<xs.toList.length:=by rw[kZ];lia
  have e:=ko F;have:=(b _ _ e).mpr ((key _ _ e).mpr z);lia
 ·exact z
 ·have F:i<xs.toList.length:=by rw[kZ];lia
  have e:=ko F;have:=(key _ _ e).mp ((b _ _ e).mp z);lia
def LL (w:World)(t:SetTable)(i:Nat):Nat:=if w.params.followText "set-order" = true then 0 else slP t.place.toList i
section
variable {prog:Program}{w:World}{A:Around}{E:QE}{s:Shared}{a it:Addr}{ks:QA}{ep i:Nat}{es:Array (Int×Value)}{t:SetTable}
theorem SWt.kept {h h':Heap}(x:SWt prog w a ks ep es t h)(k:∀o,h.get? a=some o->h'.get? a=some o):SWt prog w a ks ep es t h':=let ⟨o,e,r⟩:=x;⟨o,k o e,r⟩
theorem SWt.fits {h:Heap}(x:SWt prog w a ks ep es t h):t.fits es.size=true:=by obtain⟨_,_,_,_,_,_,tg⟩:=x;have:=tg.fits;simpa using this
theorem SWt.sz {h:Heap}(x:SWt prog w a ks ep es t h):t.place.size=es.size:=by obtain⟨_,_,_,_,_,_,tg⟩:=x;have:=tg.len;simpa using this
theorem Zr2 {Q:Option (Value×Nat)->Shared->Prop}(x:SWt prog w a ks ep es t s.heap)(hi:i<=es.size)(h:Q (((Md w a ep es)[i]?).map fun e=>(e.2,LL w t (i+1))) s):wpAny (model prog w) A (setNext a (LL w t i) i ep) Q E s:=by
 have sz:=x.sz;have S:=x.fits;obtain⟨o,U,W,hd,Y,I,tg⟩:=id x;unfold setNext;refine kg (Tr U hd S ?_);dsimp only;unfold setsByText;refine kg (kg (XU (kG ?_)));show wpAny _ _ (if w.params.followText "set-order" = true then _ else _) _ _ s;by_cases F:w.params.followText "set-order" = true
 ·rw[kj F];unfold Md LL at h;rw[kj F,kj F] at h;rw[kh (by simp)];refine kg ?_;unfold setWalk setsByText;refine kg (Tr U hd S ?_);dsimp only;refine kg (kg (XU (kG ?_)));show wpAny _ _ (if w.params.followText "set-order" = true then _ else _) _ _ s;rw[kj F];refine kg (XU (kG (kG ?_)));unfold LL;rw[kj F];exact h
 ·rw[kh F];unfold Md LL at h;rw[kh F,kh F] at h;have J:t.led=true:=by
   rcases Y with q | q
   ·exact absurd q F
   ·exact q
  refine XC (fun q=>absurd q (by show ¬((!t.plain&&_)=true);rw[I];simp)) fun _=>?_
  refine kg (TL (a:=()) (by show (if (!t.led && !es.isEmpty)=true then _ else pure ())=_;rw[J,kh (by simp)]) ?_)
  unfold LL;rw[kh F];refine kG ?_;rw[Zmg tg.rise (by lia)];by_cases O:i<es.size
  ·rw[qM O] at h ⊢;have V:i<t.place.size:=by lia
   rw[qM V];dsimp only;have Z:slP t.place.toList (i+1)=t.place[i]+1:=by show t.place.toList.getD i 0+1=_;rw[k7,qu,qM V];rfl
   rw[<- Z];exact h
  ·rw[Mj (by lia)] at h ⊢;exact h
theorem Zrx:W.KdlSrc prog w "set" a a es.size (fun i v=>∃e,(Md w a ep es)[i]? = some e/\v=e.2) (fun h=>SWt prog w a ks ep es t h):=
 L9.src (f:=LL w t) ⟨fun x=>let ⟨o,e,c,d,_,p,_⟩:=id x;⟨o,t,e,c,d,x.fits,p⟩,fun x k=>x.kept k,by unfold LL;split<;>rfl,fun x hi q=>Zr2 x hi q⟩
end
end L2
namespace L2
open PySem PyProof.Rows
section
variable {X:Cx}
theorem ZkC {K:QF}{a:Expr}{ta:TE}(hk:X.K=K)(h:PT X a (fun σ H Q=>ta σ H fun x H'=>CF X.K x H' Q)):PT X a (fun σ H Q=>ta σ H fun x H'=>CF K x H' Q):=hk ▸ h
end
open PySem PySem.Spec PyProof.Rows
end L2
namespace L2
open PySem PySem.Spec PyProof.Rows
section
variable {X:Cx}
inductive Zlg(K:QF)(x y:V)(H:Hp)(Q:VK):Prop|mk(p q:Addr)(xs:QH)(_:x = .ref p)(_:y = .ref q)(_:Zr K H p xs)(_:Zr K H q [])(_:Q (.bl xs.isEmpty) H)
theorem ZjP {K:QF}(h:X.K=K)(hu:X.A.units+64<cLine):Uo X (compareOp .Eq) (Zlg K):=by
 subst h;intro pins s σ H x y v u Q I S U h;obtain⟨p,q,xs,rfl,rfl,V,W,J⟩:=h;cases S;cases U;obtain⟨its,Y,O,_⟩:=I.list V;obtain⟨F,Z,p2,_⟩:=I.list W;have l1:=Y.length;have l2:F.length=0:=by simpa using Z.length.symm
 cases xs with
 | nil=>
  have l3:its.length=0:=by simpa using l1.symm
  refine Ms (e:=fun _=>true) O.isList p2.isList (by simp only[kr];lia) (by lia) (fun j h1 _=>by simp only[kr] at h1;lia) ⟨.bl true,H,I,?_,J⟩;show Value.bool _=Value.bool true;simp
 | cons z zs=>
  have l3:its.length=zs.length+1:=by simpa using l1.symm
  exact SeqAt.eq_list_lengthsAt O.isList p2.isList (by simp only[kr,XQ];lia) (by lia) ⟨.bl false,H,I,rfl,J⟩
end
theorem Bb {H:Hp}:∀{vs:QH}(F:V->Lit->Prop),(∀v∈vs,∃l,Wl H v l/\F v l) -> ∃ls,J8 H vs ls/\vs.length=ls.length /\ ∀l∈ls,∃v∈vs,F v l
 | [],F,_=>⟨[],.nil,rfl,fun _ h=>(nomatch h)⟩
 | v::vs,F,h=>by
  obtain⟨l,h1,h2⟩:=h v kS;obtain⟨ls,O,S,U⟩:=Bb (vs:=vs) F fun u I=>h u (kX _ I);refine⟨l::ls,.cons h1 O,by rw[Kk,Kk,S],fun m J=>?_⟩;rcases kQ.mp J with e | J
  ·subst e;exact⟨v,kS,h2⟩
  ·obtain⟨u,I,q⟩:=U m J;exact⟨u,kX _ I,q⟩
def Trk (H:Hp)(v:Value):Prop:=∃a C,v = .ref a/\H a=some (.ext (isX a C))
def Hnd (A:Around)(H:Hp):Prop:=∀v,A.handled=some v->Trk H v
def Quiet (A:Around)(h:Heap):Prop:=∀v,A.handled=some v -> ∃a o vs,v = .ref a/\h.get? a=some o/\o.data = .fields vs/\vs[2]? = some .none
theorem Inv.quietH {X:Cx}{pins:QC}{σ:St}{H:Hp}{s:Shared}(I:Inv X pins σ H s)(F:Hnd X.A H):Quiet X.A s.heap:=fun v e=>by obtain⟨a,C,rfl,ha⟩:=F v e;obtain⟨o,J,_,vs,d,z⟩:=(show isX a C s.heap from(I.hok a _ ha).1);exact⟨a,o,vs,rfl,J,d,z⟩
theorem Hnd.same {A:Around}{H H':Hp}(x:Hnd A H)(s:Zh H H'):Hnd A H':=fun v e=>let ⟨a,C,r,h⟩:=x v e;⟨a,C,r,s a _ h⟩
section
variable {prog:Program}{w:World}{A:Around}{E:QE}{s:Shared}
theorem ZeC:entryFor table "proto.unchain" = some Builtin.«proto.unchain»:=N2 (by kernel_rfl)
theorem Zez:plainId "proto.unchain" = true:=by decide +kernel
theorem Zhi {α:Type}{Q:α -> Shared->Prop}(W:Quiet A s.heap)(h:∀h' a,(∀b o,s.heap.get? b=some o->h'.get? b=some o)->Shared.TypeIs { s with heap:=h' } (.ref a) "StopIteration" -> E (.ref a) { s with heap:=h' }):
  wpAny (model prog w) A ((newExc (.type "StopIteration") [] >>= raiseNew:Sem α)) Q E s:=by
 cases hh:A.handled with
 | none=>exact Q8 hh h
 | some v=>
  obtain⟨a,o,vs,rfl,ha,hd,h2⟩:=W v hh
  wp_walk using qc
  ·obtain⟨h1,U⟩:∃h1,h1=s.heap.push { cls:=.type "tuple", data:=.seq #[] }:=⟨_,rfl⟩;obtain⟨I,V⟩:∃I,I=(#[Value.ref s.heap.objs.size,Value.none,Value.none,Value.none,Value.bool false,if ((Manifest.find? "StopIteration").elim false fun t=>t.mro.contains "StopIteration" || t.mro.contains "SystemExit")=true then[].headD Value.none else Value.none]++ownMembersOf (Value.type "StopIteration") []):=⟨_,rfl⟩;have Y:2<I.size:=by rw[V,Array.size_append];simp only[kr,Kk,Xg];lia
   obtain⟨F,O⟩:∃F,F=h1.push { cls:=.type "StopIteration", data:=.fields I }:=⟨_,rfl⟩;have S:∀b o,s.heap.get? b=some o->h1.get? b=some o:=fun b o e=>by rw[U];exact kz _ e
   have J:∀b o,s.heap.get? b=some o->F.get? b=some o:=fun b o e=>by rw[O];exact kz _ (S b o e)
   have Z:F.get? h1.objs.size=some { cls:=.type "StopIteration", data:=.fields I }:=by rw[O];exact Kf _ rfl
   have ne:(Value.ref a != Value.ref h1.objs.size)=true:=XQ.mpr fun z=>by have:=k6 (S a o ha);rw[Value.ref.inj z] at this;exact qy _ this
   show wpAny (model prog w) A (raiseNew (.ref (s.heap.push { cls:=.type "tuple", data:=.seq #[] }).objs.size)) Q E { s with heap:=(s.heap.push { cls:=.type "tuple", data:=.seq #[] }).push { cls:=.type "StopIteration", data:=.fields (#[Value.ref s.heap.objs.size,Value.none,Value.none,Value.none,Value.bool false,if ((Manifest.find? "StopIteration").elim false fun t=>t.mro.contains "StopIteration" || t.mro.contains "SystemExit")=true then[].headD Value.none else Value.none]++ownMembersOf (Value.type "StopIteration") []) } };rw[<- U,<- V,<- O];unfold raiseNew;refine kg (wpAny_handled ?_);rw[hh];refine wpAny_ite_true (kH ne) (kg (KC (wpAny_runValue (qK ZeC ?_))));rw[qF Zez _];unfold Builtin.«proto.unchain»;refine kg (qt (J a o ha) hd h2 ?_)
   wp_walk
   rw[kj Y]
   wp_walk
   refine h _ _ (fun b o e=>(Xw _ _ fun z=>?_).trans (J b o e)) ⟨_,qN _ Z rfl,rfl⟩;have q:=k6 (S b o e);rw[<- z] at q;exact qy _ q
  all_goals size_fits
theorem Zh6 {it:Addr}{x left step:Int}{Q:Option Value->Shared->Prop}(S:Quiet A s.heap)(I:IsRangeIter s.heap it x left step)(U:left<=0)
  (V:∀h',(∀b o,b≠it->s.heap.get? b=some o->h'.get? b=some o)->Q none { s with heap:=h' }):wpAny (model prog w) A (pyNext (.ref it)) Q E s:=by
 have ty:s.TypeIs (.ref it) "range_iterator" := ⟨_,I,rfl⟩;have J:Quiet A.in1 s.heap:=S;unfold pyNext;refine kg (NM (qE (name:=Str.ofString "__next__") ty Nt (qA Nt ty F.entry_range_iterator_next ?_ (F.args_range_iterator_next_1 _))))
 wp_walk using Zhi J,wpAny_ite_true (kH U),wpAny_fieldsOf I rfl
 intro h' a k O
 wp_walk using TC (T := "StopIteration") (b:=true) O MK
 exact V h' fun b o _ e=>k b o e
end
def Bc (A:Around)(lo:Int)(n:Nat):It:=⟨(Itr lo n).go,(Itr lo n).yld,fun i H=>(Itr lo n).stop i H/\Hnd A H⟩
def Zsh (X:Cx)(pins:QC)(σ:St)(tg:Expr)(R:It->Hp->Prop)(itv:Value)(s2:Shared):Prop:=
 ∃(it:Addr)(fp:List Addr)(tn:Nat->Heap->Prop)(J:It)(H':Hp),itv = .ref it/\Inv X pins σ H' s2/\(∀X':Cx,X'.A=X.A->CK X' tg J fp it tn)/\tn 0 s2.heap/\(∀b∈fp,Mz X pins H' b)/\R J H'
def PIQ (X:Cx)(tg iter:Expr)(wi:TI):Prop:=
 ∀(pins:QC)(s:Shared)(σ:St)(H:Hp)(R:It->Hp->Prop),Inv X pins σ H s->wi σ H R ->
  wpAny (model X.prog X.w) X.A (eval iter X.env) (fun v s1=>wpAny (model X.prog X.w) X.A (pyIter v) (Zsh X pins σ tg R) X.xe s1) X.xe s
theorem Zhr {X:Cx}{A:Around}(Y:X.A=A){tg:Expr}(it:Addr)(lo:Int)(n:Nat):CK X tg (Bc A lo n) [it] it (fun i h=>IsRangeIter h it (lo+(i:Nat)*1) ((n:Int)-(i:Nat)) 1):=by
 subst Y;have T:=RD (P:=X.prog) (w:=X.w) (K:=X.K) (tg:=tg) it lo n;refine⟨T.obj,T.keep,fun i pins s σ H E I J st hg=>?_,fun i pins s σ H E I J st hg=>?_,T.self⟩
 ·obtain⟨O,S,Z,U,V,W⟩:=J it (by simp);have lt:i<n:=hg;refine wpAny_pyNext_range_item st (by lia) fun h' st' sb=>?_;have F:IsRangeIter h' it (lo+((i+1:Nat):Int)*1) ((n:Int)-((i+1:Nat):Int)) 1:=by
   rw[show lo+((i+1:Nat):Int)*1=lo+(i:Nat)*1+1 by lia,show (n:Int)-((i+1:Nat):Int)=(n:Int)-(i:Nat)-1 by lia];exact st'
  have I1:Inv X pins σ H { s with heap:=h',toks:=s.toks+1 }:=I.turned (fun b o hb e=>(sb.2 b hb).trans e) O S U V W;refine⟨_,rfl,DJ (s:={ s with heap:=h',toks:=s.toks+1 }) (n := "range_iterator") F rfl rfl (by decide) ⟨.int (lo+i),H,I1,⟨s.toks,?_⟩,⟨rfl,rfl⟩,F,fun b hb=>(J b hb).1⟩⟩;rw[Int.mul_one]
 ·obtain⟨O,S,Z,U,V,W⟩:=J it (by simp);exact Zh6 (I.quietH hg.2) st (by have:n<=i:=hg.1;lia) fun h' eb=>⟨rfl,I.turned (t':=s.toks) eb O S U V W⟩
def Zrl (A:Around)(ta:TA):TI:=fun σ H R=>ta σ H fun vs H1=>∃j:Int,vs = [.int j] /\ -(2 ^ 62)<=j/\j<2 ^ 62/\R (Bc A 0 j.toNat) H1
section
variable {X:Cx}{tg:Expr}
theorem ZjW {A:Around}{a:Expr}{ta:TA}{p pos:Pos}(O:X.A=A)(hg:Gl X "range")(S:X.mg "range" = none)(ha:PA X [a] ta)(hs:starEach [a] X.env = [(false,eval a X.env)]:=by rfl):PIQ X tg (.Call (.Name "range" p) [a] [] pos) (Zrl A ta):=by
 subst O;intro pins s σ H R I h;refine Call_ (UJ I hg S boot_range (KS (YM (ha pos pins s σ H _ I h) fun us F ⟨vs,H1,I1,U,J⟩=>?_) hs rfl));obtain⟨j,e,J,V,q⟩:=J;subst e;cases U with
 | cons r W=>
  cases W;obtain⟨t,rfl⟩:=r;refine call_range_1 (Nc (IsRange.new ..) (small_one (by lia) (by lia) J V) ?_);have I2:Inv X pins σ H1 { F with heap:=F.heap.push { cls:=.type "range", data:=.fields #[.int 0 F.toks,.int j t,.int 1 (F.toks+1)] },toks:=F.toks+1+1 }:=I1.kept fun b o e=>kz _ e;refine⟨_,[(F.heap.push { cls:=.type "range", data:=.fields #[.int 0 F.toks,.int j t,.int 1 (F.toks+1)] }).objs.size],_,_,H1,rfl,I2.kept (t':=F.toks+1+1) fun b o e=>kz _ e,fun X' Y=>Zhr Y _ 0 j.toNat,?_,fun b hb=>?_,q⟩
  ·have Z:((j.toNat:Nat):Int)-((0:Nat):Int)=Builtin.Range.rangeSize 0 j 1:=by rw[rangeSize_one];split<;>lia
   show IsRangeIter _ _ (0+((0:Nat):Int)*1) (((j.toNat:Nat):Int)-((0:Nat):Int)) 1;rw[Z];exact Kf _ rfl
  ·obtain rfl:b=_:=by simpa using hb
   have e:(F.heap.push { cls:=.type "range", data:=.fields #[.int 0 F.toks,.int j t,.int 1 (F.toks+1)] }).objs.size=F.heap.objs.size+1:=Nk ..;exact I2.fpOk (Mf e) (I2.hok.fresh (Mf e))
theorem Zqv {aL iter:Expr}{aR:QV}{scope:Scope}{pos:Pos}{Ls Fs:QP}{fi:List Nat}{g:TG}{tc:TT}{te:TE}{wi:TI}(S:LX X.N X.env.scope scope Ls Fs fi)(hi:PIQ X tg iter wi)
  (hb:∀cl C U H3 ex,PG (blk X scope (Ls++Fs) cl C U H3 ex) tg g/\PTs (blk X scope (Ls++Fs) cl C U H3 ex) aR tc/\PE (blk X scope (Ls++Fs) cl C U H3 ex) aL te)
  (hs:∀x,foldedSetIterable iter X.env x=pure x:=by intro _;rfl):PE X (.ListComp aL [⟨tg,iter,aR,0⟩] scope pos) (tLc Ls.length fi wi g tc te):=by
 intro pins s σ H Q I h;rw[eval_ListComp];obtain⟨cl,V,F,O⟩:=Po (scope:=scope) (env:=X.env) fun y hy hf=>I.ok.has y.1 (S.all y hy hf);refine X9 (use:=none) rfl hs V S.kind S.names (KD (hi pins s σ H _ I h) (fun v s1 h1=>KD h1 (fun itv s2 h2=>?_) fun _ _ e=>e) fun _ _ e=>e);obtain⟨it,fp,tn,J,H2,e,I2,T,W,f2,hW⟩:=h2;subst e;refine Pp (RR:=fun Y C=>compPost (model X.prog X.w) X.A X.xe none (EP X pins σ Q) Y C) S (hb cl) F O I2 (fun C U H3 ex=>T _ rfl) W f2 hW fun D C H' s' m I' q hn f=>?_;obtain⟨f0,f1,f2,f3,f4,f5⟩:=f;exact⟨m,hn,fun h' Z=>⟨.ref D,H',I'.turned (it:=C) (t':=s'.toks) (fun b o hb e=>(Z.2 b hb).trans e) f0 f1 f3 f4 f5,rfl,q⟩⟩
end
def ZrB (K:QF):List V->Hp->VK->Prop:=fun xs H Q=>∃(a C:Addr)(y:V)(b:Bool),xs = [.ref a,y]/\H a=some (.ext (isX a C))/\C5 K C /\
 ((∃D,y = .ref D/\W.kitOne K (.ref C) (.ref D)=some b)∨(∃T,y = .ty T/\W.kitOne K (.ref C) (.type T)=some b)∨(∃(p:Addr)(ds:List Addr),y = .ref p/\H p=some (.tup (ds.map V.ref))/\W.kitAny K (.ref C) (ds.map Value.ref)=some b))/\Q (.bl b) H
theorem O6:∀{ds:List Addr}{us:QJ},Vals (ds.map V.ref) us->us=ds.map Value.ref
 | [],_,.nil=>rfl
 | _::_,_,.cons r t=>by rw[O6 t];cases r;rfl
theorem WN {X:Cx}{K:QF}(h:X.K=K:=by rfl):YU X (.builtin "isinstance") (ZrB K):=by
 intro pins s σ H vs us Q I J U;obtain⟨a,C,y,b,rfl,ha,F,O,q⟩:=U;rcases O with O | O | ⟨p,ds,rfl,Y,hk⟩
 ·exact Od h pins s σ H _ us Q I J ⟨a,C,y,b,rfl,ha,F,.inl O,q⟩
 ·exact Od h pins s σ H _ us Q I J ⟨a,C,y,b,rfl,ha,F,.inr O,q⟩
 ·subst h;cases J with
  | cons Z J=>
   cases J with
   | cons r2 J=>
    cases J;cases Z;cases r2;obtain⟨_,its,r,o,h1,h2,n,S⟩:=(show Yy X.prog X.w H s.heap p (.tup (ds.map V.ref)) from I.hok p _ Y);obtain⟨cls,dd,data,sl⟩:=o;dsimp only at h2 S;subst h2 S;obtain rfl:=O6 r;have hx:∃o,s.heap.get? a=some o/\o.cls = .ref C:=let ⟨o,e,c,_⟩:=(show isX a C s.heap from(I.hok a _ ha).1);⟨o,e,c⟩
    exact W.kia_tup (PY F.ga F.gn F.ca F.ob F.be F.cl) I.kIn hx h1 hk (fun z=>nomatch z) fun tk=>⟨.bl b,H,I.tok _,rfl,q⟩
section
variable {P:Program}{w:World}{K:QF}{mg:QN}{base:Heap}
structure DD (P:Program)(w:World)(K:QF)(mg:QN)(base:Heap)(k:Nat)(f:Addr)(fd:FuncData)(ps:QP)(sp:Sp):Prop where
 len:∀vs H Q E,sp vs H Q E->vs.length=ps.length
 run:∀(A:Around)(outer:QK)(s:Shared)(H:Hp)(args:Args)(us:QJ)(vs:QH)(Q:VK),L8 k A->Hnd A H->Dn P w K mg base A outer s H->BindsTo s fd args (ps.zip us)->Vals vs us->sp vs H Q E0 ->
  codeAny (model P w) A (.call (.ref f) args) (CR JZ outer P w H s Q E0) s
theorem JD.okQ {x qual:Str}{st:Stmt}{f:Addr}{fd:FuncData}{N ps:QP}{k:Nat}{sp:Sp}(F:JD K x qual st f fd)(S:Zw N ps (Zj st))(len:∀vs H Q E,sp vs H Q E->vs.length=ps.length)
  (Y:∀(O:Value)(A:Around)(outer:QK)(s:Shared)(H:Hp)(vs:QH)(Q:VK),L8 k (A.deeper (envOfC qual (Zj st) s.heap.objs.size f O))->Hnd (A.deeper (envOfC qual (Zj st) s.heap.objs.size f O)) H->sp vs H Q E0 ->
   ∃t,PSs (cxS P w K mg base N qual (Zj st) f O A outer s H) (Jt st) t/\t { nx:=fun _ H'=>Q .non H',rt:=Q } (start N vs) H):DD P w K mg base (k+1) f fd ps sp:=by
 obtain⟨oc,od,kV,doc,pm,an,O,ct,osl,rfl,lk,fz⟩:=F.ex;refine⟨len,fun A outer s H args us vs Q hr hq U hb r cn=>?_⟩;have hl:=len _ _ _ _ cn;have KX:K.In s.heap:=U.mod.kin.keeps fun b o e=>(U.bs b o e).1;have iJ:s.heap.NoLimit:=U.mod.nolimit.keeps fun b o e=>(U.bs b o e).1;have Z:∀y∈ps.zip us,(Zj st).names.lookup y.1=some .local∨((Zj st).names.lookup y.1=some .cell/\((cellsFrom (s.heap.objs.size+1) (Zj st).names []).lookup y.1).isSome=true):=fun⟨n,v⟩ hy=>by
  rcases S.par n (TU hy).1 with q | q
  ·exact .inl q
  ·exact .inr ⟨q,To _ _ _ (.inl q)⟩
 have uM:A.depth<recursionLimit:=by have:=hr.dp;lia
 refine codeAny_call_function uM (KX _ _ lk) rfl S.co S.gen rfl (La KX fz) (hb _ _ _ _ ?_);refine Nf S.kind Z fun env he s1 x=>?_;subst he;refine⟨iJ.keeps x.toInCall.keep,codeAny_func ?_⟩;obtain⟨t,ht,hq⟩:=Y O A outer s H vs Q ⟨by have:=hr.dp;show A.depth+1+3*k+5<_;lia,by have:=hr.un;show A.units+3+16*k+200<_;lia⟩ hq cn;have e1:Dn P w K mg base ({ A with handled:=none }) outer s H:=⟨U.frames,U.mod,U.bs,U.bsz,U.funs,U.frf,U.hok,U.bare⟩;have I0:Inv (WH JZ P w K mg base N qual (Zj st) f O ({ A with handled:=none }) outer s H E0) [] (start N vs) H s1:=RX S rfl e1 hl r x;have ok:=I0.ok;have I:Inv (cxS P w K mg base N qual (Zj st) f O A outer s H) [] (start N vs) H s1:=
  ⟨⟨ok.mod,ok.kind,ok.glob,ok.blt,ok.above,ok.inj,ok.has,ok.cab,(fun z=>nomatch z),Around.frames_deeper U.frames,ok.stk,ok.exf,ok.bs,ok.bsz,ok.noex,ok.exfs,ok.funs,ok.frf⟩,I0.os,I0.bare,I0.base,I0.loc,I0.cell,I0.free,I0.freeC,I0.pin,I0.hok,I0.len⟩
 refine KD (ht [] s1 (start N vs) H _ I hq) (fun fl s' hs=>?_) fun e s' hs=>hs.elim;have fin:∀{W:L2.St}{H':Hp}{v:V}{u:Value},Inv (cxS P w K mg base N qual (Zj st) f O A outer s H) [] W H' s'->RelV v u->Q v H'->CE outer P w H s Q u s':=
  fun {W H' v u} J rv q=>⟨v,H',J.os,J.bare,J.base,J.hok,rv,q⟩
 cases fl with
 | ret u=>obtain⟨v,W,H',J,rv,q⟩:=hs;exact fin J rv q
 | next=>obtain⟨W,H',J,q⟩:=hs;exact fin (v:=V.non) (u:=Value.none) J rfl q
 | brk=>obtain⟨_,_,_,q⟩:=hs;exact False.elim q
 | cont=>obtain⟨_,_,_,q⟩:=hs;exact False.elim q
def Zpd (A:Around)(sp:Sp)(ta:TA):TE:=fun σ H Q=>ta σ H fun vs H1=>Hnd A H1/\sp vs H1 Q E0
def Ik (P:Program)(w:World)(K:QF)(mg:QN)(base:Heap)(k:Nat)(x:Str)(ps:QP)(sp:Sp):Prop:=
 ∃(f:Addr)(fd:FuncData),DD P w K mg base k f fd ps sp/\mg x=some (.ref f)/\W.keepIn K (.ref f)=true/\Binds K fd ps []
theorem Zm0 {X:Cx}{k:Nat}{x:Str}{ps:QP}{sp:Sp}{p pos:Pos}{e:Expr}{es:QV}{t:TA}{A:Around}(h:Ik X.prog X.w X.K X.mg X.base k x ps sp)(S:L8 k X.A)(U:X.A=A)(ha:PA X (e::es) t)(hg:Gl X x:=by rfl)(F:(x==("__debug__" : Str))=false:=by decide)
  (V:starEach (e::es) X.env=(false,eval e X.env)::starEach es X.env:=by rfl) (J:(backTo pos (starEach es X.env)).any (·.1)=false:=by rfl):PE X (.Call (.Name x p) (e::es) [] pos) (Zpd A sp t):=by
 subst U;obtain⟨f,fd,G,W,hk,hb⟩:=h;intro pins s σ H Q I hw;refine Xv (DI I hg W ?_ F);refine M9 (h₀:=X.base) I.ok.mod.kin hk (YM (ha pos pins s σ H _ I hw) fun us O ⟨vs,H1,I1,r,q⟩=>⟨I1.kIn,?_⟩) V J;obtain⟨Y,q⟩:=q;have Z:=G.len _ _ _ _ q;refine wpAny_call (T7 (G.run X.A X.stack O H1 ⟨us,[]⟩ us vs Q S Y I1.env0 ?_ r q) fun res s2 c=>?_)
 ·have:=hb O us I1.kIn (by rw[KY,<- r.length,Z])
  rwa [KY] at this
 ·cases res with
  | error e=>exact c.elim
  | ok fl=>
   cases fl with
   | ret u=>exact I1.after c
   | next=>exact c.elim
   | brk=>exact c.elim
   | cont=>exact c.elim
end
theorem L8.units {k:Nat}{A:Around}(r:L8 k A):A.units+64<cLine:=by have:=r.un;lia
theorem ZmW {A:Around}{σ:St}{g:TG}{tc:TT}{te:TE}{H:Hp}{Q:VK}{lo:Int}{n:Nat}(J:n<=sizeLine)(Pv:Nat->List V->Hp->Prop)(h0:Pv 0 [] H)(F:∀i ys H,Pv i ys H->ys.length<=i)(O:∀ys H,Pv n ys H->Hnd A H)
  (hs:∀i ys H,i<n->Pv i ys H->g (.int (lo+i)) σ H fun I H2=>tc I H2 fun b H3=>if b=true then te I H3 fun y H4=>Pv (i+1) (ys ++ [y]) H4 else Pv (i+1) ys H3)
  (hd:∀ys H,Pv n ys H -> ∀D,H D=none->Q (.ref D) (upd H D (.lst ys))):LcW (Bc A lo n) σ g tc te H Q:=
 Ds J Pv h0 F (fun i ys H hi p=>hi) (fun ys H p=>⟨km _,O ys H p⟩) (fun i ys H hi p x H' y=>by obtain⟨e,y⟩:=y;subst e y;exact hs i ys _ hi p) hd
end L2
namespace L2
open PySem PySem.Spec PyProof.Rows MeetsSeq3
section
variable {l b:Addr}{us vs:QY}{m n:Nat}{p q:Option Addr}{sl st:Array (Option Value)}{xs ys:QG}
theorem Zk6 (O:IntsAre us.toList xs)(S:IntsAre vs.toList ys):∀k i:Nat,i+k=min xs.length ys.length->Meets (Builtin.«list.__eq__.loop» ⟨[.ref l,.ref b,rawInt i,rawInt 0],[]⟩)
  (fun A R s=>(s.heap.get? l=some ⟨.type "list", p,.seq us m,sl⟩/\s.heap.get? b=some ⟨.type "list", q,.seq vs n,st⟩)/\R (.ok (.ret (.bool (lexLt (xs.drop i) (ys.drop i))))) s):=by
 have lu:us.size=xs.length:=kZ.symm.trans (IntsAre.length O);have lv:vs.size=ys.length:=kZ.symm.trans (IntsAre.length S);intro k
 induction k with
 | zero=>
  rintro i hi prog w A R ⟨Y,g,d,tk,os⟩ ⟨⟨U,hb⟩,h⟩;rw[Q5 (by lia),show decide (xs.length-i<ys.length-i)=decide (us.size<vs.size) from qP.mpr ⟨fun z=>by lia,fun z=>by lia⟩] at h
  wp_walk
  have F:us[((i:Nat):Int).toNat]? = none∨vs[((i:Nat):Int).toNat]? = none:=by simp;lia
  cases I:us[((i:Nat):Int).toNat]? with
  | none=>
   wp_walk
   exact h
  | some _=>
   cases J:vs[((i:Nat):Int).toNat]? with
   | none=>
    wp_walk
    exact h
   | some _=>
    rw[I,J] at F;rcases F with F | F<;>cases F
 | succ k ih=>
  rintro i hi prog w A R ⟨Y,g,d,tk,os⟩ ⟨⟨U,hb⟩,h⟩;have i1:i<us.size:=by lia
  have i2:i<vs.size:=by lia
  obtain⟨Z,I⟩:=ints_get O i (by simpa using i1) (by lia);obtain⟨t2,J⟩:=ints_get S i (by simpa using i2) (by lia);have V:us[((i:Nat):Int).toNat]? = some (.int (xs[i]'(by lia)) Z):=by rw[<- I];simp[i1]
  have W:vs[((i:Nat):Int).toNat]? = some (.int (ys[i]'(by lia)) t2):=by rw[<- J];simp[i2]
  rw[Q6 (by lia) (by lia)] at h
  wp_walk
  rw[V,W];refine kg (wpAny_eqBool_int ?_);by_cases z:xs[i]'(by lia)=ys[i]'(by lia)
  ·rw[kj z] at h;rw[Nj.mpr z]
   wp_walk
   refine⟨TJ plain_eq_loop _,qK entry_eq_loop ?_⟩;rw[qF plain_eq_loop _];exact ih (i+1) (by lia) prog w A R _ ⟨⟨U,hb⟩,h⟩
  ·rw[kh z] at h;rw[qH.mpr z]
   wp_walk
   rw[V,W];refine kg (wpAny_lt_int ?_)
   wp_walk
   exact h
theorem O7 (F:IntsAre us.toList xs)(I:IntsAre vs.toList ys):Meets (Builtin.«list.__lt__» ⟨[.ref l,.ref b],[]⟩)
  (fun A R s=>(s.heap.get? l=some ⟨.type "list", p,.seq us m,sl⟩/\s.heap.get? b=some ⟨.type "list", q,.seq vs n,st⟩)/\R (.ok (.ret (.bool (lexLt xs ys)))) s):=by
 rintro prog w A R ⟨O,g,d,tk,os⟩ ⟨⟨J,hb⟩,h⟩;have S:=AutoSeq1.sub_list_list
 wp_walk
 refine⟨TJ plain_eq_loop _,qK entry_eq_loop ?_⟩;rw[qF plain_eq_loop _];exact Zk6 F I _ 0 (Xy _) prog w A R _ ⟨⟨J,hb⟩,h⟩
end
section
variable {prog:Program}{w:World}{A:Around}{E:QE}{s:Shared}{a b:Addr}{xs ys:QG}
theorem O8 {c:Bool}{Q:Bool->Shared->Prop}(ha:Gn "list" s.heap a xs)(hb:Gn "list" s.heap b ys)(J:A.units<cLine)(h:Q (lexLt xs ys) s):wpAny (model prog w) A (oneLt' c (.ref a) (.ref b)) Q E s:=by
 obtain⟨_,_,_,_,e,i⟩:=ha;obtain⟨_,_,_,_,I,i2⟩:=hb;rw[oneLt'_eq];cases c with
 | false=>exact kg (richCompare_meets_room (op:=.Lt) ⟨_,e,rfl⟩ ⟨_,I,rfl⟩ MQ F.entry_list_lt (F.args_list_lt_2 _ _) (O7 i i2) ⟨⟨e,I⟩,⟨(fun x=>nomatch x),KW h⟩⟩ J)
 | true=>exact kg (wpAny_cRoomFor J (kg (wpAny_callSpecialIfBound?_slot (T := "list") ⟨_,e,rfl⟩ MQ (Tx MQ ⟨_,e,rfl⟩ F.entry_list_lt (F.args_list_lt_2 _ _) (O7 i i2) ⟨⟨e,I⟩,kg (KW (kG h))⟩))))
def Kd2 (kd:SortKind):Prop:=kd=general'∨kd=oneType'
theorem ZjZ {kd:SortKind}(F:Kd2 kd)(I:A.units<cLine):Cmp prog w A E s kd (DS "list" s) (ltW s) where
 wo:=⟨fun p=>OD _,fun p q h=>OF _ _ h,fun p q r h=>OE _ _ _ h⟩
 cmp:=fun p q st Q ⟨a,ks,J,h1⟩ ⟨b,S,O,h2⟩ hk h=>by
  unfold ltW at h;rw[J,O,h1.key,h2.key] at h;rw[lt'_eq];refine Ky (wpS_get ?_);rw[hk,J,O];refine Ky (wpS_lift (NM ?_));rcases F with rfl | rfl
  ·exact O8 (c:=false) h1 h2 I (by exact⟨rfl,KJ h⟩)
  ·exact O8 (c:=true) h1 h2 I (by exact⟨rfl,KJ h⟩)
theorem O9 {M:Model}:∀(vs:QJ){Q:List (Option Value)->Shared->Prop},(∀v∈vs,∃a ks,v = .ref a/\Gn "list" s.heap a ks)->(∀fs:List (Option Value),(∀f∈fs,f=none)->fs.length=vs.length->Q fs s)->wpAny M A (vs.mapM firstOfTuple') Q E s
 | [],Q,_,h=>by rw[List.mapM_nil];exact kG (h [] (fun f F=>by cases F) rfl)
 | v::vs,Q,hv,h=>by
  obtain⟨a,ks,rfl,S,dd,n,sl,e,i⟩:=hv v kS;rw[List.mapM_cons];refine kg ?_;rw[W.kas_first_eq];refine kg (qS (T := "list") ⟨_,e,rfl⟩ ?_);rw[kj (by first | decide | simp)];refine kG ?_;refine kg (O9 vs (fun v I=>hv v (kX _ I)) fun fs J O=>kG (h _ (fun f F=>?_) (by simp[O])));rcases kQ.mp F with rfl | F
  ·rfl
  ·exact J f F
theorem Zig {M:Model}{vs:QJ}{Q:SortKind->Shared->Prop}(F:vs ≠ [])(S:∀v∈vs,∃a ks,v = .ref a/\Gn "list" s.heap a ks)(h:∀kd,Kd2 kd->Q kd s):wpAny M A (keyKind' vs.toArray) Q E s:=by
 rw[kat_kind_eq,List.mapM_toArray,map_eq_pure_bind];refine kg (kg (O9 vs S fun fs I J=>kG ?_));have U:∃rest,fs=none::rest:=by
  cases fs with
  | nil=>exact absurd (List.eq_nil_of_length_eq_zero J.symm) F
  | cons f r=>exact⟨r,by rw[I f kS]⟩
 obtain⟨rest,rfl⟩:=U;refine XC (fun q=>?_) (fun _=>XC (fun _=>kG (h _ (.inl rfl))) fun _=>?_)
 ·exfalso;simp at q
 ·rw[oneTypeOnly'_eq,List.mapM_toArray,map_eq_pure_bind];refine kg (kg (kg (W.kas_mapM (r:=.type "list") _ (fun v O Q' V=>?_) (kG ?_))))
  ·obtain⟨a,ks,rfl,Y,dd,n,sl,e,i⟩:=S v O;exact qS (T := "list") ⟨_,e,rfl⟩ V
  ·split
   ·refine kG (kG (h _ ?_));split
    ·exact .inr rfl
    ·exact .inl rfl
   ·exact kG (kG (h _ (.inl rfl)))
end
def Bd (H:Hp)(v:V)(ks:QG):Prop:=∃a,v = .ref a/\H a=some (.lst (ks.map V.int))
abbrev MR (H:Hp):List V->List QG->Prop:=Paired (Bd H)
theorem Fb {H:Hp}{P:Program}{w:World}{h:Heap}{v:V}{u:Value}{ks:QG}(ok:HOk P w H h)(x:Bd H v ks)(r:RelV v u):∃a,u = .ref a/\H a=some (.lst (ks.map V.int))/\Gn "list" h a ks:=by obtain⟨a,rfl,e⟩:=x;obtain⟨_,its,n,F,h1⟩:=(show Yy P w H h a (.lst (ks.map V.int)) from ok a _ e);exact⟨a,r,e,its.toArray,_,n,_,h1,by simpa using GB F⟩
end L2
namespace HT
open PySem PySem.Spec PyProof.Rows
section
variable {prog:Program}{w:World}{A:Around}{E:QE}{s:Shared}
theorem ZbC {t sl:Addr}{items:QY}{vl vu:Value}{lo hi:QW}{Q:QE}(F:IsTup s.heap t items)(hs:s.heap.IsSliceOf sl vl vu .none)(U:IsPart vl lo)(V:IsPart vu hi)
  (hw:JH items.size 0 lo=0/\JH items.size items.size hi=items.size) (h:Q (.ref t) s):wpAny (model prog w) A (getItem (.ref t) (.ref sl)) Q E s:=by
 obtain⟨os,J,O,W⟩:=id hs;have S:s.TypeIs (.ref sl) "slice" := ⟨os,J,O⟩;unfold getItem
 try with_reducible refine KC ?_
 first | refine kg (kG ?_) | skip
 refine kg (NG F.typeIs (by decide) ?_);refine kg (qE (name:=Str.ofString "__getitem__") F.typeIs qe
  (qA qe F.typeIs entry_tuple_getitem ?_ (args_tuple_getitem _ _)))
 show wpAny _ _ (Builtin.Tuple.tupleItemsOf (.ref t) >>= _) _ _ s;refine kg (tupleItemsOf_ F ?_);refine kg (qS S ?_);rw[kj (by decide)];refine kg (UM hs U V ?_);have I:((((JH items.size 0 lo:Nat):Int)==0&&(1:Int)==1&&(JH items.size items.size hi-JH items.size 0 lo)==items.size)=true):=by rw[hw.1,hw.2];simp
 show wpAny _ _ (if (((JH items.size 0 lo:Nat):Int)==0&&(1:Int)==1&&(JH items.size items.size hi-JH items.size 0 lo)==items.size)=true then _ else _) _ _ s;rw[kj I];refine kg (m:=Builtin.Tuple.tupleIsExact _) (kg (qS F.typeIs (kG ?_)));rw[kj (by decide)];exact kg (XJ (kG ⟨_,rfl,kG h⟩))
end
end HT
namespace L2
open PySem PySem.Spec PyProof.Rows
variable {a l:Addr}{ks:QG}
inductive Il(K:QF)(x:V)(lo hi:QW)(H:Hp)(Q:VK):Prop|mk(a xs:_)(_:x = .ref a)(_:Y9 K H a xs)(_:J5 xs lo hi=xs->Q x H)(_:∀p,H p=none->Q (.ref p) (upd H p (.tup (J5 xs lo hi))))
theorem Zoa {X:Cx}:SlR X (Il X.K):=by
 intro pins s σ H x v W Y lo hi sl Q I J hs O S h;obtain⟨a,xs,rfl,U,h1,q⟩:=h;by_cases hw:HT.JH xs.length 0 lo=0/\HT.JH xs.length xs.length hi=xs.length
 ·have e:J5 xs lo hi=xs:=by unfold J5;rw[hw.1,hw.2,MM,LO,Xs]
  cases J;obtain⟨its,r,V,hz⟩:=I.tuple U;have F:its.toArray.size=xs.length:=by rw[kr];exact r.length.symm
  refine⟨"tuple", _,qe.lookup,V.typeIs,?_⟩;exact HT.ZbC V hs O S (by rw[F];exact hw) ⟨.ref a,H,I,rfl,h1 e⟩
 ·exact Hi pins s σ H _ v W Y lo hi sl Q I J hs O S ⟨a,xs,rfl,U,hw,q⟩
theorem Im {X:Cx}{K:QF}(h:X.K=K:=by rfl):SlR X (Il K):=h ▸ Zoa
theorem Fc {K:QF}{G:Hp}{x:V}{w:QG}{k:Nat}{Q:VK}(F:Jv G x w)(q:∀v G',Zh G G'->Jv G' v (w.take k)->Q v G'):Il K x none (some (k:Int)) G Q:=by
 obtain⟨a,rfl,ha⟩:=F;refine⟨a,_,rfl,Y9.of ha,fun z=>q _ _ (Zh.refl _) ⟨a,rfl,?_⟩,fun p I=>q _ _ (Zh.laid I) ⟨p,rfl,?_⟩⟩
 ·rw[ha,<- z,Ie,qT]
 ·rw[Zd,Ie,qT]
theorem Fd {K:QF}{G:Hp}{x:V}{w:QG}{k:Nat}{i:Int}{Q:VK}(hi:i=(k:Int))(F:Jv G x w)(q:∀v G',Zh G G'->Jv G' v (w.drop k)->Q v G'):Il K x (some i) none G Q:=by
 subst hi;obtain⟨a,rfl,ha⟩:=F;refine⟨a,_,rfl,Y9.of ha,fun z=>q _ _ (Zh.refl _) ⟨a,rfl,?_⟩,fun p I=>q _ _ (Zh.laid I) ⟨p,rfl,?_⟩⟩
 ·rw[ha,<- z,Ig,qG]
 ·rw[Zd,Ig,qG]
theorem Be {G:Hp}{x y:V}{a b:QG}{Q:VK}(F:Jv G x a)(I:Jv G y b)(hz:a.length+b.length<=sizeLine)(k:∀v G',Zh G G'->Jv G' v (a++b)->Q v G'):OG x y G Q:=
 ⟨a,b,F,I,hz,fun e=>k y G (Zh.refl _) (by rw[e];exact I),fun e=>k x G (Zh.refl _) (by rw[e,KY];exact F),fun p fp=>k _ _ (Zh.laid fp) ⟨p,rfl,Zd⟩⟩
structure M1 (X:Cx)(o:Expr)(m:Str)(apos:Pos)(e:Expr)(cpos:Pos):Prop where
 base:attributeBase o m X.env (eval o X.env)=eval o X.env
 few:((backTo cpos (starEach [e] X.env)).all (fun x=>!x.1)&&(backToKw cpos (keywordEach [] X.env)).all (fun x=>x.1.isSome)
  && decide (([e]:QV).length+([]:List Keyword).length+(if ([]:List Keyword).isEmpty then 0 else 1)<30))=true
 line:(apos.endLine==cpos.line)=true
 trees:backTo cpos (starEach [e] X.env) = [(false,eval e X.env)]
def IsD (H:Hp)(a:Addr):Prop:=(∃kvs,Rd H a (.dK kvs)) ∨ ∃kvs,Rd H a (.dT kvs)
theorem ZqA {X:Cx}{pins:QC}{σ:St}{H:Hp}{s:Shared}(I:Inv X pins σ H s)(d:IsD H a):
  s.TypeIs (.ref a) "dict" /\ (∀b,Value.ref a = .ref b -> ∃ob,s.heap.get? b=some ob/\ob.dict=none)/\(a==sysModules)=false:=by
 rcases d with⟨kvs,e⟩ | ⟨kvs,e⟩
 ·obtain⟨_,hd,vs,_,dd⟩:=Dx I.hok e;refine⟨dd.typeIs,fun b q=>?_,hd⟩;cases q;obtain⟨ob,_,_,h1,h2,_⟩:=dd;exact⟨ob,h1,h2.2.1⟩
 ·obtain⟨_,hd,xs,_,dd⟩:=Dy I.hok e;refine⟨dd.typeIs,fun b q=>?_,hd⟩;cases q;obtain⟨ob,_,_,h1,h2,_⟩:=dd;exact⟨ob,h1,h2.2.1⟩
section
variable {X:Cx}{pins:QC}{σ:St}{H:Hp}{s:Shared}{a:Addr}{y d:V}{u r:Value}{o:QI}{A:Around}{E:QE}
theorem Zqd {Q:QE}(U:A.units+1<cLine)(I:Inv X pins σ H s)(g:Mc H a y o)(O:RelV y u)(h:∀S s',Inv X pins σ H s'->RelV (o.getD .non) S->Q S s'):
  wpAny (model X.prog X.w) A (call (.builtin "dict.get") [.ref a,u]) Q E s:=by
 rcases g with⟨kvs,k,e,J,l⟩ | ⟨kvs,k,b,e,J,eb,l⟩
 ·subst J;obtain⟨z,hd,vs,F,dd⟩:=Dx I.hok e;refine call_meetsIn Tu dd.typeIs Ml (N3 _ _) (meets_dict_get (Z9 X.prog X.w) a (Dw O) hd) ⟨_,dd.mapOf,h _ _ (I.tok _) ?_⟩;rw[l];exact(F.val k).getD rfl
 ·subst J;cases (show u=Value.ref b from O);obtain⟨z,hd,xs,F,dd⟩:=Dy I.hok e;refine call_meetsIn Tu dd.typeIs Ml (N3 _ _) (meetsH_dict_get (tupleKind (Z9 X.prog X.w)) a b hd) ⟨Td U,k,xs,DQ I.hok eb,dd,h _ _ (I.tok _) ?_⟩;rw[l];exact(F.val k).getD rfl
end
inductive Zi8(ty:TE)(σ:St)(Q:VK)(x:V)(H1:Hp):Prop|mk(a:_)(_:x = .ref a)(_:IsD H1 a)(_:ty σ H1 fun y H2=>∃o,Mc H2 a y o/\Q (o.getD .non) H2)
def ZqD (td ty:TE):TE:=fun σ H Q=>td σ H fun x H1=>Zi8 ty σ Q x H1
section
variable {X:Cx}{o e f:Expr}{apos cpos:Pos}{td ty tx:TE}
theorem ZlW (O:X.A.units+1<cLine)(S:PE X o td)(U:PE X e ty)(m:M1 X o "get" apos e cpos):PE X (.Call (.Attribute o "get" apos) [e] [] cpos) (ZqD td ty):=by intro pins s σ H Q I h;refine wpAny_Call_method m.base m.few m.line PySem.F.plainAttrs_dict Tu PySem.F.type_dict_get (YM (S pins s σ H _ I h) fun u V ⟨x,H1,I1,W,a,ex,d,Y⟩=>?_);subst ex;obtain rfl:u=Value.ref a:=W;obtain⟨Z,t2,_⟩:=ZqA I1 d;refine⟨Z,t2,?_⟩;rw[m.trees];refine Calls.callWith_builtin rfl (TK (Nd (YM (U pins V σ H1 _ I1 Y) fun iv s2 ⟨y,H2,I2,ry,ov,g,q2⟩=>NC ?_)));exact Zqd O I2 g ry fun w' s3 I3 J=>⟨_,H2,I3,J,q2⟩
end
section
variable {prog:Program}{w:World}{A:Around}{E:QE}{s:Shared}
theorem ZhT {T:String}(c:Bool)(kp:SortKind->Prop){D:Addr}{vs:QJ}{n:Nat}{P:PySem.Fin->Shared->Prop}(sr:∀(s':Shared)(kd:SortKind),kp kd->(∀p∈(pairsOf vs).toList,DS T s' p) -> ¬vs.toArray.size<2->wpS (model prog w) A E s' P2 (fun _ st'=>(arrOf st').toList.Perm (pairsOf vs).toList/\(c=true->Srt (ltW s') (arrOf st').toList)/\failedOf st'=none) (SortSt.mk' kd (vs.toArray.zip vs.toArray) #[] 7 none))
  (kn:∀(s':Shared)(Q:SortKind->Shared->Prop),vs ≠ []->(∀v∈vs,∃a ks,v = .ref a/\Gn T s'.heap a ks)->(∀kd,kp kd->Q kd s')->wpAny (model prog w) A (keyKind' vs.toArray) Q E s')
  (W:s.heap.get? D=some (seqObj "list" vs.toArray n)) (hv:∀v∈vs,∃a ks,v = .ref a/\a≠D/\Gn T s.heap a ks) (hz:vs.length<=sizeLine)
  (h:∀out:QY,out.toList.Perm vs->(c=true->C9 s.heap out.toList)->P (.done (.ret .none)) { s with heap:=sortedHeap s.heap D vs out }):
  wpAny (model prog w) A (Builtin.«list.sort» ⟨[.ref D],[]⟩) P E s:=by
 rw[list_sort_plain];obtain⟨ep,Y⟩:∃ep,(s.heap.update D (Obj.mapSeq fun _=>#[])).get? D=some (seqObj "list" #[] ep):=⟨_,get?_update_seq W fun _=>#[]⟩;refine kg (listItems_at W rfl (kg (listUpdate_at W rfl (kg (seqEpoch_at Y rfl (kg (wpAny_newTuple (kg (wpAny_newList (KC ?_))) (by simpa using hz))))) (by simpa using hz))));obtain⟨u,V⟩:∃u:Shared,u = { s with heap:=((s.heap.update D (Obj.mapSeq fun _=>#[])).push (seqObj "tuple" vs.toArray 0)).push (seqObj "list" #[] 0) }:=⟨_,rfl⟩;have keep:∀b o,b≠D->s.heap.get? b=some o->u.heap.get? b=some o:=fun b o hb e=>by rw[V];exact kz _ (kz _ ((Xw _ _ (KA hb)).trans e))
 have Z:u.heap.get? D=some (seqObj "list" #[] ep):=by rw[V];exact kz _ (kz _ Y)
 have I:∀v∈vs,(∃a ks,v = .ref a/\Gn T u.heap a ks)/\LJ u.heap v=LJ s.heap v:=fun v J=>by obtain⟨a,ks,rfl,ne,t⟩:=hv v J;have t':=t.kept fun o q=>keep a o ne q;exact⟨⟨a,ks,rfl,t'⟩,by rw[t.key,t'.key]⟩
 show wpAny (model prog w) A _ P E { s with heap:=((s.heap.update D (Obj.mapSeq fun _=>#[])).push (seqObj "tuple" vs.toArray 0)).push (seqObj "list" #[] 0) };rw[<- V];dsimp only;refine Q7 (fun kd=>vs.toArray.size<2∨kp kd) (fun h2 Q' q=>kG (q _ (.inl h2))) (fun h2 Q' q=>kn u Q' (fun z=>h2 (by rw[z];decide)) (fun v J=>(I v J).1) fun kd hk=>q kd (.inr hk)) fun kd hk=>?_;refine kg (KD (Q:=fun r O=>O=u/\(arrOf r.2).toList.Perm (pairsOf vs).toList/\(c=true->Srt (ltW u) (arrOf r.2).toList)/\failedOf r.2=none) ?_ (fun r O hr=>?_) fun _ _ e=>e)
 ·by_cases h2:vs.toArray.size<2
  ·rw[kj h2,StateT.run_pure];refine kG ⟨rfl,List.Perm.refl _,fun _=>?_,rfl⟩;have lp:(pairsOf vs).toList.length<2:=by rw[kZ,Mm];simpa using h2
   show Srt _ (pairsOf vs).toList;generalize (pairsOf vs).toList=L at lp ⊢;cases L with
   | nil=>exact .nil
   | cons x t=>
    cases t with
    | nil=>exact N4 _ _
    | cons y t=>exact absurd lp (by simp)
  ·rw[kh h2];refine KD (sr u kd (hk.resolve_left h2) (fun p S=>?_) h2) (fun r O x=>x) fun _ _ e=>e;have F:p∈(pairsOf vs).toList:=S;rw[pairsOf_toList] at F;exact(I _ (mem_zip_self F).2).1
 obtain⟨rfl,S,hs,hf⟩:=hr;refine kg (seqEpoch_at Z rfl (kg (listUpdate_at Z rfl ?_ (hsz2:=by have:=S.length_eq;rw[kZ,kZ,Mm] at this;rw[Array.size_map,this];lia))))
 have same:∀p∈(arrOf r.2).toList,p.1=p.2/\p.1∈vs:=fun p F=>by have:=S.mem_iff.mp F;rw[pairsOf_toList] at this;exact mem_zip_self this
 have:=h ((arrOf r.2).map (·.2)) (by
  rw[N5];refine(S.map _).trans ?_;rw[pairsOf_toList,List.map_snd_zip (km _)]) (fun hc=>by
  rw[N5];refine Xm.mpr (NO (fun {p q} F U x=>?_) (hs hc));rw[<- (same p F).1,<- (same q U).1,<- (I _ (same p F).2).2,<- (I _ (same q U).2).2];exact x)
 unfold sortedHeap at this;subst V;rw[hf,kh (by simp)];exact kG this
theorem Zgn {T:String}(c:Bool)(kp:SortKind->Prop){vs:QJ}{Q:QE}(U:∀(A:Around)(E:QE),A.units<cLine -> ∀(s':Shared)(kd:SortKind),kp kd->(∀p∈(pairsOf vs).toList,DS T s' p) -> ¬vs.toArray.size<2->wpS (model prog w) A E s' P2 (fun _ st'=>(arrOf st').toList.Perm (pairsOf vs).toList/\(c=true->Srt (ltW s') (arrOf st').toList)/\failedOf st'=none) (SortSt.mk' kd (vs.toArray.zip vs.toArray) #[] 7 none))
  (kn:∀(A:Around) E (s':Shared) (Q:SortKind->Shared->Prop),vs ≠ []->(∀v∈vs,∃a ks,v = .ref a/\Gn T s'.heap a ks)->(∀kd,kp kd->Q kd s')->wpAny (model prog w) A (keyKind' vs.toArray) Q E s')
  (V:A.units+2<cLine) (W:s.heap.IsList l vs.toArray) (Y:∀v∈vs,∃a ks,v = .ref a/\Gn T s.heap a ks) (hz:vs.length<=sizeLine)
  (h:∀(out:QY),out.toList.Perm vs->(∃h1:Heap,(∀a ks,Gn T s.heap a ks->Gn T h1 a ks)/\(c=true->C9 h1 out.toList))->Q (.ref (s.heap.objs.size+1)) { s with heap:=sortedAll s.heap vs out }):
  wpAny (model prog w) A (call (.builtin "sorted") [.ref l]) Q E s:=by
 refine Calls.call_function_entry kind_sorted plain_sorted entry_sorted (args_sorted1 _) ?_;unfold Builtin.«sorted»;refine kg (TL (a:=()) rfl (kg (collect_list W (kg (wpAny_newList ?_ hz)) hz)));obtain⟨u,I⟩:∃u:Heap,u=(s.heap.push (seqObj "list" #[] 0)).update s.heap.objs.size (Obj.mapSeq (· ++ vs.toArray)):=⟨_,rfl⟩;have O:u.objs.size=s.heap.objs.size+1:=by rw[I,Heap.size_update,size_push']
 have F:∀b o,s.heap.get? b=some o->(u.push (seqObj "list" vs.toArray 0)).get? b=some o:=fun b o e=>kz _ (by rw[I,Heap.get?_update_ne _ _ _ _ (Kj (k6 e))];exact kz _ e)
 have S:(u.push (seqObj "list" vs.toArray 0)).get? (s.heap.objs.size+1)=some (seqObj "list" vs.toArray 0):=O ▸ Kf _ rfl;show wpAny _ _ _ _ _ { s with heap:=((s.heap.push (seqObj "list" #[] 0)).update s.heap.objs.size (Obj.mapSeq (· ++ vs.toArray))).push (seqObj "list" vs.toArray 0) };unfold sortedAll at h;rw[<- I] at h ⊢;rw[O];refine kg (KC (qA slot_list_sort ⟨_,S,rfl⟩ entry_list_sort (ZhT c kp (U _ _ (by exact V)) (kn _ _) S (fun v J=>?_) hz fun out a2 Z=>⟨_,rfl,kG ⟨_,rfl,h out a2 ⟨_,fun a ks t=>t.kept fun o e=>F a o e,Z⟩⟩⟩) (args_list_sort _)));obtain⟨a,ks,e,t⟩:=Y v J;refine⟨a,ks,e,?_,t.kept fun o e=>F a o e⟩;obtain⟨_,_,_,_,e',_⟩:=t;exact Kj (Nat.lt_succ_of_lt (k6 e'))
end
section
variable {prog:Program}{w:World}{A:Around}{E:QE}{s:Shared}{kd:SortKind}{D:Keyed->Prop}{lt:Keyed->Keyed->Bool}
theorem Zj5 {aE:QS}{n:Nat}(J:aE.size=n)(h:Mu lt aE 0 n):Srt lt aE.toList:=by
 refine Nw.mpr fun i j hi I F=>?_;rw[kZ] at hi I;refine h i j _ _ (Kv F) (by lia) ?_ ?_<;>rw[Xy,<- qu]
 ·exact ko _
 ·exact ko _
theorem ZfR (C:Cmp prog w A E s kd D lt){st:SortSt}{Q:Unit->SortSt->Prop}(Z:∀x∈(arrOf st).toList,D x)(hk:kindOf st=kd)(hf:failedOf st=none)(U:pendingOf st = #[])(h0:0<(arrOf st).size)(mt:(arrOf st).size<64)
  (h:∀st',(arrOf st').toList.Perm (arrOf st).toList->Srt lt (arrOf st').toList->failedOf st'=none->Q () st'):wpS (model prog w) A E s P2 Q st:=by
 obtain⟨n,en⟩:∃n,n=(arrOf st).size:=⟨_,rfl⟩;have mr:(sortPriv% PySem.Builtin.minRun) n n 0=n:=by
  cases n with
  | zero=>lia
  | succ f=>exact(minRun'_succ f (f+1) 0).trans (kj (by lia))
 have last:∀(m:Nat)(st':SortSt),Kp 0 n st st'->Mu lt (arrOf st') 0 n->m=n ->
   ((none:Option Unit),0+m)=(none,n)/\(arrOf st').toList.Perm (arrOf st).toList/\Srt lt (arrOf st').toList/\failedOf st'=none/\((pendingOf st').push (0,m,0)).size<=1:=fun m st' k g e=>by
  subst e;refine⟨by rw[Xy],k.perm,Zj5 (by rw[k.size,en]) g,k.fail.trans hf,?_⟩;rw[k.pend,U];exact km _
 refine Ky (wpS_get ?_);refine Ky (ML (XW (a:=0) (b:=(arrOf st).size) (I:=fun x c st'=>(x=0/\c=(none,0)/\st'=st)∨(c=(none,n)/\(arrOf st').toList.Perm (arrOf st).toList/\Srt lt (arrOf st').toList/\failedOf st'=none/\(pendingOf st').size<=1))
  (Q:=fun c st'=>c.1=none/\(arrOf st').toList.Perm (arrOf st).toList/\Srt lt (arrOf st').toList/\failedOf st'=none/\(pendingOf st').size<=1) ?_ ?_ (.inl ⟨rfl,rfl,rfl⟩)) ?_)
 ·rw[<- en];rintro x c F _ hx (⟨rfl,rfl,rfl⟩ | ⟨rfl,z⟩)
  ·show wpS _ _ _ _ (if 0>=n then _ else _) _ _;rw[kh (by lia)];refine Ky (Q0 C (lo:=0) (n:=n-0) (by lia) (by lia) Z hk fun m O m1 m2 kp sm=>?_);show wpS _ _ _ _ (if m<(sortPriv% PySem.Builtin.minRun) n n 0 then _ else _) _ _;rw[mr];refine Q4 (fun c1=>?_) (fun c1=>?_)
   ·refine Ky (wpS_lift (XJ ⟨rfl,?_⟩));have V:min (n-0) n=n:=by lia
    rw[V];have z2:=kp.size;refine Ky (Q3 C (lo:=0) (n:=n) (ok:=m) m1 (by lia) (by lia) (fun y hy=>Z y (kp.perm.mem_iff.mp hy)) (kp.kind.trans hk) sm fun J W Y=>?_);have k3:Kp 0 n F J:=Kp.trans kp W;refine Ky (wpS_get ?_);have hb:(pendingOf J).back? = none:=by rw[k3.pend,U];rfl
    show wpS _ _ _ _ (match (pendingOf J).back? with | some (_,_,_)=>_ | _=>_) _ _;rw[hb];exact Ky (wpS_modify (KJ (Or.inr (last n J k3 Y rfl))))
   ·refine Ky (wpS_get ?_);have hb:(pendingOf O).back? = none:=by rw[kp.pend,U];rfl
    show wpS _ _ _ _ (match (pendingOf O).back? with | some (_,_,_)=>_ | _=>_) _ _;rw[hb];have e:m=n:=by lia
    exact Ky (wpS_modify (KJ (Or.inr (last m O kp (e ▸ sm) e))))
  ·show wpS _ _ _ _ (if n>=n then _ else _) _ _;rw[kj (km _)];exact KJ ⟨rfl,z⟩
 ·rintro c F (⟨e,_⟩ | ⟨rfl,z⟩)
  ·lia
  ·exact⟨rfl,z⟩
 ·rintro⟨c1,c2⟩ F ⟨hc,p1,p2,p3,p4⟩;dsimp only at hc;subst hc;refine Ky (ML (XW (a:=0) (b:=(arrOf st).size) (I:=fun _ c st'=>st'=F/\c=(none,())) (Q:=fun c st'=>st'=F/\c=(none,())) ?_ (fun _ _ z=>z) ⟨rfl,rfl⟩) ?_)
  ·rintro y c S _ _ ⟨rfl,rfl⟩;refine Ky (wpS_get ?_);show wpS _ _ _ _ (if (pendingOf S).size<=1 then _ else _) _ _;rw[kj p4];exact KJ ⟨rfl,rfl⟩
  ·rintro c S ⟨rfl,rfl⟩;exact KJ (h _ p1 p2 p3)
theorem Zf4 {T:String}(kp:SortKind->Prop){vs:QJ}{Q:QE}(I:∀A,A.units<cLine -> ∀E s' kd,kp kd->Cmp prog w A E s' kd (DS T s') (ltW s'))
  (kn:∀(A:Around) E (s':Shared) (Q:SortKind->Shared->Prop),vs ≠ []->(∀v∈vs,∃a ks,v = .ref a/\Gn T s'.heap a ks)->(∀kd,kp kd->Q kd s')->wpAny (model prog w) A (keyKind' vs.toArray) Q E s')
  (F:A.units+2<cLine) (J:s.heap.IsList l vs.toArray) (O:∀v∈vs,∃a ks,v = .ref a/\Gn T s.heap a ks) (hz:vs.length<=sizeLine) (S:vs.length<64)
  (h:∀(out:QY),out.toList.Perm vs->(∃h1:Heap,(∀a ks,Gn T s.heap a ks->Gn T h1 a ks)/\C9 h1 out.toList)->Q (.ref (s.heap.objs.size+1)) { s with heap:=sortedAll s.heap vs out }):
  wpAny (model prog w) A (call (.builtin "sorted") [.ref l]) Q E s:=
 Zgn true kp (fun A E F s' kd hk hd h2=>ZfR (I A F E s' kd hk) hd rfl rfl rfl (by
  have z:(arrOf (SortSt.mk' kd (vs.toArray.zip vs.toArray) #[] 7 none)).size=vs.length:=Mm vs;have h2:¬vs.length<2:=h2;lia) (by
  have z:(arrOf (SortSt.mk' kd (vs.toArray.zip vs.toArray) #[] 7 none)).size=vs.length:=Mm vs;lia) fun st' a1 a2 U=>⟨a1,fun _=>a2,U⟩) kn F J O hz fun out p ⟨h1,k,r⟩=>h out p ⟨h1,k,r rfl⟩
end
section
variable {X:Cx}
inductive Fe(K:QF)(xs:QH)(H:Hp)(Q:VK):Prop|mk(p:Addr)(ys:QH)(ws:QA)(_:xs = [.ref p])(_:Zr K H p ys)(_:MR H ys ws)(_:ys.length<64)(_:∀(l:Addr)(zs:QH)(vs:QA),H l=none->zs.Perm ys->vs.Perm ws->MR H zs vs->Ib vs->Q (.ref l) (upd H l (.lst zs)))
theorem ZeH (O:X.A.units+64<cLine):YU X (.builtin "sorted") (Fe X.K):=by
 intro pins s σ H xs us Q I r h;obtain⟨p,ys,ws,rfl,V,hw,W,q⟩:=h;obtain⟨u,rfl,Y⟩:=r.one;cases Y;obtain⟨its,F,Z,hz⟩:=I.list V;have S:ys.length=its.length:=F.length;refine Zf4 Kd2 (fun A O E s' kd hk=>ZjZ hk O) (fun A E s' Q hn J h=>Zig hn J h) (by lia) Z.isList (fun v J=>?_) (by lia) (by lia) fun out a2 ⟨h1,k1,a3⟩=>?_
 ·obtain⟨y,hy,ry⟩:=Paired.mem1 (Paired.flip F) v J;obtain⟨ks,_,hk⟩:=Paired.mem1 hw y hy;obtain⟨a,e1,e2,e3⟩:=Fb I.hok hk ry;exact⟨a,ks,e1,e3⟩
 obtain⟨zs,vs,b1,b2,U,b4,b5⟩:=Q9 (fun f r=>(Fb I.hok f r).imp fun _ z=>⟨z.1,z.2.2⟩) F hw a2 k1 a3;obtain⟨e,he⟩:=sortedAll_at s.heap its out;have fr:H (s.heap.objs.size+1)=none:=I.hok.fresh (XN _);refine⟨.ref (s.heap.objs.size+1),_,I.laid (a:=s.heap.objs.size+1) (o:=.lst zs) (t':=s.toks) (fun b o q=>sortedAll_old q) (XN _) ⟨?_,out.toList,e,b1,?_⟩,rfl,q _ _ _ fr U b4 b2 b5⟩
 ·rw[U.length_eq];lia
 ·simpa [seqObj] using he
theorem Ff {K:QF}(h:X.K=K)(F:X.A.units+64<cLine):YU X (.builtin "sorted") (Fe K):=h ▸ ZeH F
end
def EI:Int×Value->Int->Prop:=fun e n=>e.1=hashInt n /\ ∃t,e.2 = .int n t
section
variable {prog:Program}{w:World}{A:Around}{E:QE}{s:Shared}
theorem Bf:∀{r L:QG},r.Nodup->(∀w∈r,w∈L)->r.length<=L.length
 | [],_,_,_=>Kn _
 | a::r,L,n,h=>by obtain⟨F,I⟩:=KL.mp n;have ha:=h a kS;have:=Bf (r:=r) (L:=L.erase a) I fun w hw=>(MS (fun(e:w=a)=>F (e ▸ hw))).mpr (h w (kX _ hw));rw[Ta ha] at this;have:=Mn ha;rw[Kk];lia
def SI (w:World)(a:Addr)(ks:QG)(ep:Nat)(es:Array (Int×Value))(h:Heap):Prop:=
 ∃o t,h.get? a=some o/\o.ExactSet/\o.data = .set es ep t/\(w.params.followText "set-order" = true∨t.led=true)/\t.plain=true/\TbG t (es.toList.map (·.1))/\Paired EI es.toList ks/\ks.Nodup
theorem SI.kept {ep:Nat}{es:Array (Int×Value)}{h h':Heap}(x:SI w a ks ep es h)(k:∀o,h.get? a=some o->h'.get? a=some o):SI w a ks ep es h':=
 let ⟨o,t,e,r⟩:=x;⟨o,t,k o e,r⟩
theorem ZlS {l:List (Int×Value)}(h:Paired EI l ks):ElemsOf (intKind prog w) l:=by
 induction h with
 | nil=>intro e F;cases F
 | cons q _ ih=>
  intro e F
  rename_i k' _ _ _
  obtain⟨J,t,I⟩:=q;rcases kQ.mp F with rfl | F
  ·exact⟨⟨k',by rw[I];exact Ll _ _ _ _,J⟩,by rw[I];rfl⟩
  ·exact ih e F
theorem ZnD {k:Int}{l:List (Int×Value)}(h:Paired EI l ks):(l.findIdx? fun e=>(intKind prog w).is k e.2)=ks.findIdx? (decide <| · = k):=by
 induction h with
 | nil=>rfl
 | cons q _ ih=>
  obtain⟨I,t,F⟩:=q
  rename_i e k' _ _ _
  have:(intKind prog w).is k e.2=decide (k'=k):=by
   have hi:(intKind prog w).is k' e.2=true:=by rw[F];exact Ll _ _ _ _
   exact(KeyKind.is_eq_decide hi k).trans (qP.mpr ⟨Eq.symm,Eq.symm⟩)
  rw[Lm,Lm,this,ih]
theorem Zn6 {t:SetTable}{hs:QG}(x:TbG t hs){h:Int}{se:Nat}(J:se<10*SetTable.turns t.mask)(F:pj t.mask h se∉t.place.toList)(liv:∀m,m<se->pj t.mask h m∈t.place.toList):t.freeSlot h=some (pj t.mask h se,false):=by
 have e:t.probe (fun _=>h+1) h (t.probeStart h)=some (.empty (pj t.mask h se) none):=by
  rw[ZkY];unfold SetTable.probe;rw[OZ se _ 0 (by lia) fun m O=>?_]
  ·rw[Xy];obtain⟨I,S⟩:∃I,10*SetTable.turns t.mask-se=I+1:=⟨10*SetTable.turns t.mask-se-1,by lia⟩;rw[S];unfold SetTable.probe.go;have d':t.slot (stH t.mask h se).j = .empty:=ZiE x.dum F;rw[d'];dsimp only;rw[OY];rfl
  ·rw[Xy];obtain⟨i,e⟩:=Zqt (liv m O);exact⟨i,Zkz x.rise e,by rw[qH];lia⟩
 unfold SetTable.freeSlot;rw[e];rfl
theorem Zq8 {ep:Nat}{es:Array (Int×Value)}{n:Int}{tk:Nat}{Q:Bool->Shared->Prop}(hS:SI w a ks ep es s.heap)(hl:ks.length<=62)
  (h:∀h' ip uN oA,Heap.SameBut a s.heap h'->SI w a oA ip uN h'->oA.Perm (if n∈ks then ks else n::ks)->Q (!decide (n∈ks)) { s with heap:=h' }):
  wpAny (model prog w) A (setAddHashed a (.int n tk) (hashInt n)) Q E s:=by
 obtain⟨o,t,ho,i8,hd,aa,bN,tg,hp,nd⟩:=id hS;have el:=ZlS (prog:=prog) (w:=w) hp;have lk:es.toList.length=ks.length:=qp hp;have sz:es.size=(es.toList.map (·.1)).length:=by simp
 have ft:t.fits es.size=true:=by rw[sz];exact tg.fits
 unfold setAddHashed setAddHashedIn;refine KC (kg (Tr ho hd ft ?_));dsimp only;rw[byScan_of (knd:=intKind prog w) (x:=.int n tk) rfl (by rw[<- kZ];unfold scanBound;lia) el,kj rfl];unfold setAddByScan;refine kg (kg (XJ ?_));refine kg (wpAny_setScan_of (knd:=intKind prog w) (Ll _ _ _ _) ho hd ft el ?_);rw[ZnD hp];by_cases U:n∈ks
 ·obtain⟨j,ej⟩:∃j,ks.findIdx? (decide <| · = n)=some j:=by
   cases q:ks.findIdx? (decide <| · = n) with
   | some j=>exact⟨j,rfl⟩
   | none=>
    have:=Nx.mp q n U;simp at this
  rw[ej];refine kG (kG ?_);have q:=h s.heap ep es ks (Heap.SameBut.refl a s.heap) hS (by rw[kj U]);rw[kH U] at q;cases s;exact q
 ·have:ks.findIdx? (decide <| · = n)=none:=Nx.mpr fun x hx=>Kh fun z=>U (z ▸ hx);rw[this];dsimp only;obtain⟨se,W,Y,liv⟩:=tg.free (hashInt n);have le:=O1 t.mask (hashInt n) se;obtain⟨p1,p2⟩:=Zqh tg W Y liv le true true;obtain⟨b1,_⟩:=Cd tg.rise (pj t.mask (hashInt n) se);generalize gN:SetTable.below t.place (pj t.mask (hashInt n) se)=pp at *;have zt:pp<=es.toList.length:=by rw[kZ,sz,<- tg.len];exact b1
  have lst:(SetTable.insertAt es pp (hashInt n,Value.int n tk)).toList=es.toList.take pp++(hashInt n,Value.int n tk)::es.toList.drop pp:=qq ..;have sz1:(SetTable.insertAt es pp (hashInt n,Value.int n tk)).size=ks.length+1:=by rw[<- kZ,lst,ki,Kk,kK,Kr];lia
  have S:Paired EI (SetTable.insertAt es pp (hashInt n,Value.int n tk)).toList (ks.take pp++n::ks.drop pp):=by rw[lst];exact Oo ⟨rfl,tk,rfl⟩ pp hp
  have Z:(ks.take pp++n::ks.drop pp).Perm (n::ks):=by refine List.perm_middle.trans ?_;rw[KP]
  have oB:(ks.take pp++n::ks.drop pp).Nodup:=Z.nodup_iff.mpr (KL.mpr ⟨U,nd⟩);have oC:(SetTable.insertAt es pp (hashInt n,Value.int n tk)).toList.map (·.1)=(es.toList.map (·.1)).take pp++hashInt n::(es.toList.map (·.1)).drop pp:=by rw[lst];simp[qT,qG]
  obtain⟨F,V⟩:∃F,SetTable.insertAt es pp (hashInt n,Value.int n tk)=F:=⟨_,rfl⟩;obtain⟨I,J⟩:∃I:SetTable,{ t with place:=SetTable.insertAt t.place pp (pj t.mask (hashInt n) se) } = I:=⟨_,rfl⟩;rw[V] at lst sz1 S oC;have iq:I.plain=true:=by rw[<- J];exact bN
  have oD:w.params.followText "set-order" = true∨I.led=true:=by rw[<- J];exact aa
  have O:I.fill=ks.length+1:=by rw[<- J];unfold SetTable.fill;dsimp only;rw[tg.dum,<- kZ,qq,ki,Kk,kK,Kr,kZ,tg.len,ke];show _+0=_;lia
  have ir:I.mask=t.mask:=by rw[<- J]
  have fw:=tg.few;rw[ke,lk] at fw;have eO:I.fits F.size=true:=by
   unfold SetTable.fits;rw[O,ir,sz1,<- O];have:I.place.size=I.fill:=by unfold SetTable.fill;rw[show I.dummies = #[] by rw[<- J];exact tg.dum];rfl
   rw[this,O];simp;rcases tg.msk with e | e | e<;>rw[e] at fw ⊢<;>lia
  have lay:layNew t es (hashInt n) (.int n tk)=(F,I,false,false):=by unfold layNew;rw[Zn6 tg W Y liv];dsimp only;rw[p1,p2,V,J];unfold SetTable.orStandIn;rw[eO];rfl
  rw[lay];dsimp only;refine kg (kG ?_);rw[iq,kj rfl];refine kg (TL (hashByValue_scannable 8 (x:=.int n tk) rfl) ?_);rw[show plainKind (.int n tk)=true from rfl,kj rfl];refine kg (wpAny_storeSet_of ho hd ?_ (by rw[sz1,kY];lia));have g1:(s.heap.update a (Obj.putSet F I)).get? a=some { o with data:=.set F (ep+1) I }:=by have:=qN (Obj.putSet F I) ho (by rw[putSet_of _ _ hd];rfl);rw[putSet_of _ _ hd] at this;exact this
  have oE:=XY s.heap a (Obj.putSet F I);have r1:(!decide (n∈ks))=true:=by rw[Kh U];rfl
  by_cases few:(ks.length+1)*5<t.mask*3
  ·have tf:I.tooFull=false:=by unfold SetTable.tooFull;rw[O,ir];exact Kh (by lia)
   rw[tf];refine kG (kG ?_);rw[<- r1];refine h _ (ep+1) F (ks.take pp++n::ks.drop pp) oE ⟨_,I,g1,i8,rfl,oD,iq,?_,S,oB⟩ (by rw[kh U];exact Z);rw[oC,<- J,<- gN];exact Zpb tg W Y liv le (by rw[ke,lk];exact few)
  ·have tf:I.tooFull=true:=by unfold SetTable.tooFull;rw[O,ir];exact kH (by lia)
   rw[tf];obtain⟨mk,uO,lk,wn⟩:∃mk,(mk=31∨mk=127)/\(ks.length+1)*5<mk*3/\SetTable.sizeAbove (SetTable.grown F.size)=mk+1:=by
    rw[sz1];have:ks.length=4∨ks.length=18:=by rcases tg.msk with e | e | e<;>rw[e] at few fw<;>lia
    rcases this with z | z<;>rw[z]
    ·exact⟨31,.inl rfl,by decide,by decide⟩
    ·exact⟨127,.inr rfl,by decide,by decide⟩
   obtain⟨t2,order,er,op,oF,uP,uQ⟩:=ZkN I (F.toList.map (·.1)) uO (by rw[ke,kZ,sz1];exact lk) wn;rw[ke,kZ] at op;have eh:(F.map (·.1))=(F.toList.map (·.1)).toArray:=Array.ext' (by rw[N5]);have iu:(order.filterMap (F[·]?)).toList=order.toList.filterMap (F.toList[·]?):=by rw[Array.toList_filterMap];simp
   have bC:order.toList.Perm (List.range F.toList.length):=by rw[kZ];exact op
   have uR:=Ij (es:=F.toList) bC;have oG:(order.filterMap (F[·]?)).size=F.size:=by rw[<- kZ,iu,uR.length_eq,kZ]
   have f2:t2.fits (order.filterMap (F[·]?)).size=true:=by
    have:=oF.fits
    rwa [(Ij (es:=F.toList.map (·.1)) (by rw[ke,kZ];exact op)).length_eq,ke,kZ,<- oG] at this
   have ra:relayAll I F (SetTable.grown F.size)=(order.filterMap (F[·]?),t2,false):=by unfold relayAll;rw[eh,er];dsimp only;rw[f2,show coversAll order F.size=true from List.isPerm_iff.mpr op];rfl
   rw[kj (by rfl),ra];dsimp only;refine kg (kg (kG ?_));refine kG ?_;refine kg (wpAny_storeSet_of (s:={ s with heap:=s.heap.update a (Obj.putSet F I) }) g1 rfl ?_ (by rw[oG,sz1,kY];lia));refine kG (kG ?_);rw[<- r1];have g2:((s.heap.update a (Obj.putSet F I)).update a (Obj.putSet (order.filterMap (F[·]?)) t2)).get? a=some { o with data:=.set (order.filterMap (F[·]?)) (ep+1+1) t2 }:=by have:=qN (Obj.putSet (order.filterMap (F[·]?)) t2) g1 (by rw[putSet_of _ _ (o:={ o with data:=.set F (ep+1) I }) rfl];rfl);rw[putSet_of _ _ (o:={ o with data:=.set F (ep+1) I }) rfl] at this;exact this
   have uS:=oE.trans (XY (s.heap.update a (Obj.putSet F I)) a (Obj.putSet (order.filterMap (F[·]?)) t2));have uT:F.toList.length=(ks.take pp++n::ks.drop pp).length:=qp S;have kp:=Ij (order:=order.toList) (es:=ks.take pp++n::ks.drop pp) (by rw[<- uT];exact bC);refine h _ _ _ _ uS ⟨_,t2,g2,i8,rfl,by rw[uP];exact oD,by rw[uQ];exact iq,?_,?_,kp.nodup_iff.mpr oB⟩ (by rw[kh U];exact kp.trans Z)
   ·rw[iu];have:(order.toList.filterMap (F.toList[·]?)).map (·.1)=order.toList.filterMap ((F.toList.map (·.1))[·]?):=by
     rw[List.map_filterMap];congr 1;funext k;rw[kE]
    rw[this];exact oF
   ·rw[iu];exact O5 S order.toList
theorem ZrN {its:QY}{val:Nat->Int}{Q:QE}(W:A.handled=none)(Y:s.heap.IsList l its)(hn:its.size<=62)(Z:∀(i:Nat)(v:Value),its[i]? = some v -> ∃t,v = .int (val i) t)
  (h:∀(h':Heap)(tk ep:Nat)(es:Array (Int×Value))(ks:QG),SI w s.heap.objs.size ks ep es h'->(∀x,x∈ks ↔ ∃j,j<its.size/\val j=x)->(∀c o,c<s.heap.objs.size->s.heap.get? c=some o->h'.get? c=some o)->Q (.ref s.heap.objs.size) { s with heap:=h',toks:=tk }):
  wpAny (model prog w) A (call (.type "set") [.ref l]) Q E s:=by
 refine Qt (J:=fun i h=>∃ep es ks,SI w s.heap.objs.size ks ep es h /\ ∀x,x∈ks ↔ ∃j,j<i/\val j=x) W Y (fun i h h' ⟨ep,es,ks,x,m⟩ k=>⟨ep,es,ks,x.kept fun o e=>k _ o (km _) e,m⟩) (fun led q=>⟨0,#[],[],⟨_,.fresh 0 0 led,Kf _ rfl,⟨rfl,rfl,rfl⟩,rfl,q,rfl,Zmp led,.nil,.nil⟩,fun x=>by simp⟩) (fun i v e A E U Q _ ⟨ep,es,ks,x,m⟩ hQ=>?_) fun h' tk ⟨ep,es,ks,x,m⟩ k=>h h' tk ep es ks x m k;obtain⟨t,rfl⟩:=Z i v e;have hi:i<its.size:=(qi.mp e).1;have few:ks.length<=i:=by
  obtain⟨_,_,_,_,_,_,_,_,_,nd⟩:=x;have:=Bf (L:=(List.range i).map val) nd fun y hy=>by obtain⟨j,F,e⟩:=(m y).mp hy;exact Kw.mpr ⟨j,Ku.mpr F,e⟩
  rwa [ke,qj] at this
 unfold setAdd;refine KC (kg ((intKind prog w).pyHash (k:=val i) (Ll _ _ _ _) (Zq8 (s:={ U with toks:=U.toks+1 }) x (by lia) fun h' I O S sb x' pm=>hQ _ h' _ (XN _) ⟨I,O,S,x',fun y=>?_⟩ sb)));have:(y∈if val i∈ks then ks else val i::ks) ↔ y∈ks∨val i=y:=by
  by_cases c:val i∈ks
  ·rw[kj c];exact⟨.inl,fun z=>z.elim id fun z=>z ▸ c⟩
  ·rw[kh c,kQ];exact⟨fun z=>z.elim (.inr ·.symm) .inl,fun z=>z.elim .inr (.inl ·.symm)⟩
 rw[pm.mem_iff,this,m y];constructor
 ·rintro(⟨j,F,e⟩ | e)
  ·exact⟨j,by lia,e⟩
  ·exact⟨i,Nat.lt_succ_self i,e⟩
 ·rintro⟨j,F,V⟩;rcases Nat.lt_succ_iff_lt_or_eq.mp F with z | rfl
  ·exact .inl ⟨j,z,V⟩
  ·exact .inr V
end
def Dd (prog:Program)(w:World)(a:Addr)(ks:QG):HO:=.ext fun h=>∃ep es t,SWt prog w a [] ep es t h/\Paired EI es.toList ks
theorem Zll {prog:Program}{w:World}{H:Hp}{h:Heap}{ep:Nat}{es:Array (Int×Value)}{t:SetTable}(x:SWt prog w a [] ep es t h)(e:Paired EI es.toList ks):Yy prog w H h a (Dd prog w a ks):=
 ⟨⟨ep,es,t,x,e⟩,let ⟨o,e,_⟩:=x;⟨o,e⟩,fun _ _ ⟨ep,es,t,y,q⟩ k=>⟨ep,es,t,y.kept k,q⟩⟩
section
variable {X:Cx}
theorem Zkt (O:X.calm=true):YU X (.type "set") (fun xs H Q=>∃(p:Addr)(ns:QG),xs = [.ref p]/\H p=some (.lst (ns.map V.int))/\ns.length<=62 /\
  ∀(a:Addr)(ks:QG),H a=none->ks.Nodup->(∀x,x∈ks ↔ x∈ns)->Q (.ref a) (upd H a (Dd X.prog X.w a ks))):=by
 intro pins s σ H xs us Q I r h;obtain⟨p,ns,rfl,S,hn,q⟩:=h;obtain⟨u,rfl,U⟩:=r.one;cases U;obtain⟨_,its,n,vs,e⟩:_ /\ ∃(its:QJ)(n:Nat),_/\_:=I.hok p _ S;obtain⟨len,at_⟩:=Oy vs;have W:s.heap.IsList p its.toArray:=⟨_,e,rfl,n,rfl⟩;refine ZrN (val:=fun i=>ns.getD i 0) (I.ok.hd O) W (by simp;lia) (fun i v Y=>at_ i v (by simpa using Y)) fun h' tk ep es ks x m keep=>?_;obtain⟨o,t,Z,e2,e3,e4,e5,e6,e7,e8⟩:=x;have I2:=I.laid (a:=s.heap.objs.size) (o:=Dd X.prog X.w s.heap.objs.size ks) (h':=h') (t':=tk) (fun c o z=>keep c o (k6 z) z) (km _) (Zll ⟨o,Z,e2,e3,e4,e5,e6⟩ e7);refine⟨.ref s.heap.objs.size,_,I2,rfl,q _ ks (I.hok.fresh (km _)) e8 fun x=>?_⟩;rw[m x];constructor
 ·rintro⟨j,J,rfl⟩;have F:j<ns.length:=by simp at J;lia
  show ns.getD j 0∈ns;rw[k7,ko F];exact Tz F
 ·intro hx;obtain⟨j,J,rfl⟩:=MY hx;refine⟨j,by simp;lia,?_⟩;show ns.getD j 0=_;rw[k7,ko J];rfl
theorem Zrf {l:List (Int×Value)}(h:Paired EI l ks):l.map ev4=ks /\ ∀e∈l,∃t,e.2 = .int (ev4 e) t:=by
 induction h with
 | nil=>exact⟨rfl,fun e J=>by cases J⟩
 | cons q _ ih=>
  rename_i e k _ _ _
  obtain⟨O,t,I⟩:=q;have z:ev4 e=k:=by unfold ev4;rw[I]
  refine⟨by rw[Ko,ih.1,z],fun y F=>?_⟩;rcases kQ.mp F with rfl | F
  ·exact⟨t,by rw[z];exact I⟩
  ·exact ih.2 y F
theorem ZeM (hc:X.calm=true):YU X (.builtin "sorted") (fun xs H Q=>∃(p:Addr)(ks:QG),xs = [.ref p]/\H p=some (Dd X.prog X.w p ks)/\ks.length<64 /\
  ∀(l:Addr)(ns:QG),H l=none->ns.Perm ks->ns.Pairwise (· <= ·)->Q (.ref l) (upd H l (.lst (ns.map V.int)))):=by
 intro pins s σ H xs us Q I r h;obtain⟨p,ks,rfl,hp,kl,q⟩:=h;obtain⟨u,rfl,ru⟩:=r.one;cases ru;obtain⟨⟨ep,es,t,x,F⟩,_⟩:=I.hok p _ hp;obtain⟨m,fr⟩:=I.fr;have sz:es.size=ks.length:=by rw[<- kZ];exact qp F
 refine W.kdu_sorted (Zrx (es:=es) (ep:=ep) (t:=t) (ks:=[])) (I.ok.hd hc) fr (news:=W5 X.base s.heap X.env.locals) IU x (by rw[kY];lia) fun D h' tk U dy O lt' Y hP=>?_;obtain⟨v1,v2⟩:=Zrf F;have pm:=Ow X.w p ep es;have ia:IntsAre U ((Md X.w p ep es).toList.map ev4):=by refine Oz _ _ (by rw[Y,ke,pm.length_eq,kZ]) fun j v n e1 Z=>?_;obtain⟨e,e3,rfl⟩:=hP j v e1;rw[<- qu] at e3;rw[kE,e3] at Z;cases Z;exact v2 e (pm.mem_iff.mp (kT e3))
 refine W.ksk_lsort (vs:=U) (its:=U.toArray) (n:=0) dy O (news':=fun o=>(D,o)::W5 X.base s.heap X.env.locals) (fun o=>.head fun q hq=>Kj (lt' q hq)) rfl ia (by rw[ke,pm.length_eq,kZ];lia) fun dz S c b9 iw J i4 bv perm pw _=>?_;have hD:s.heap.get? D=none:=by
  have nb:X.base.get? D=none:=(O (D,W.listOf U.toArray 0) kS).2.2;have nL:D≠X.env.locals:=(O (D,W.listOf U.toArray 0) kS).2.1;cases e:s.heap.get? D with
  | none=>rfl
  | some o=>exact absurd (lt' (D,o) (Us nL nb e)) (qy _)
 have fresh:H D=none:=by
  cases e:H D with
  | none=>rfl
  | some o=>
   obtain⟨ob,Z⟩:=(I.hok D o e).there;rw[hD] at Z;cases Z
 have pk:S.Perm ks:=perm.trans ((pm.map ev4).trans (by rw[v1]));have I2:=I.laidN (o:=.lst (S.map V.int)) (D:=D) (h':=b9) (t':=tk) fr iw (fun q hq=>J q (kX _ hq)) hD fresh ⟨by rw[ke,pk.length_eq];rw[kY];lia,dz,c,U3 i4,(J _ kS).1⟩
 exact⟨.ref D,_,I2,rfl,q D S fresh pk pw⟩
theorem Zih {P:Program}{w:World}(h1:X.prog=P)(h2:X.w=w)(F:X.calm=true):YU X (.type "set") (fun xs H Q=>∃(p:Addr)(ns:QG),xs = [.ref p]/\H p=some (.lst (ns.map V.int))/\ns.length<=62 /\
  ∀(a:Addr)(ks:QG),H a=none->ks.Nodup->(∀x,x∈ks ↔ x∈ns)->Q (.ref a) (upd H a (Dd P w a ks))):=by
 subst h1 h2;exact Zkt F
theorem Zd1 {P:Program}{w:World}(h1:X.prog=P)(h2:X.w=w)(F:X.calm=true):YU X (.builtin "sorted") (fun xs H Q=>∃(p:Addr)(ks:QG),xs = [.ref p]/\H p=some (Dd P w p ks)/\ks.length<64 /\
  ∀(l:Addr)(ns:QG),H l=none->ns.Perm ks->ns.Pairwise (· <= ·)->Q (.ref l) (upd H l (.lst (ns.map V.int)))):=by
 subst h1 h2;exact ZeM F
end
end L2
namespace L2
open PySem PySem.Spec PyProof.Rows PyProof.V
section
variable {X:Cx}
inductive Zr0(K:QF)(x y:V)(H:Hp)(Q:VK):Prop|mk(p q:Addr)(ns ms:QG)(_:x = .ref p)(_:y = .ref q)(_:Zr K H p (ns.map V.int))(_:Zr K H q (ms.map V.int))(_:ns.length=ms.length)(_:Q (.bl (!decide (ns=ms))) H)
theorem Zp7 (hu:X.A.units+64<cLine):Uo X (compareOp .NotEq) (Zr0 X.K):=by
 intro pins s σ H x y v u Q I U V h;obtain⟨p,q,ns,F,rfl,rfl,W,Y,Z,hQ⟩:=h;cases U;cases V;obtain⟨its,J,p1,_⟩:=I.list W;obtain⟨O,S,p2,_⟩:=I.list Y;have l1:=J.length;have l2:=S.length;rw[ke] at l1 l2;refine Nl (e:=fun j=>ns.getD j 0==F.getD j 0) p1.isList p2.isList (by simp only[kr];lia) (by lia) (fun j h1 h2=>?_) X.prog X.w _ _ ⟨.bl (!decide (ns=F)),H,I,?_,hQ⟩
 ·obtain⟨t1,e1⟩:=C6 J h1;obtain⟨t2,e2⟩:=C6 S h2;rw[e1,e2];exact Nh _ _ _ _
 ·show Value.bool _=Value.bool _;congr 2;rw[qJ,Ks,Lj];constructor
  ·intro z;refine List.ext_getElem Z fun i h1 h2=>?_;have:=z i (Ku.mpr (by simp only[kr];lia));simpa [h1,h2] using this
  ·intro z i _;rw[z];simp
end
end L2
namespace L2
open PySem PySem.Spec PyProof.Rows PyProof.V
section
variable {X:Cx}
def Fg (K:QF):R2:=fun x y H Q=>∃(p q:Addr)(ns ms:QG),x = .ref p/\y = .ref q/\Zr K H p (ns.map V.int)/\Zr K H q (ms.map V.int)/\Q (.bl (!decide (ns=ms))) H
theorem Zo4 (Z:X.A.units+64<cLine):Uo X (compareOp .NotEq) (Fg X.K):=by
 intro pins s σ H x y v u Q I O S h;obtain⟨p,q,ns,F,rfl,rfl,U,V,J⟩:=h;by_cases W:ns.length=F.length
 ·exact Zp7 Z pins s σ H _ _ v u Q I O S ⟨p,q,ns,F,rfl,rfl,U,V,W,J⟩
 cases O;cases S;obtain⟨its,r1,p1,_⟩:=I.list U;obtain⟨Y,r2,p2,_⟩:=I.list V;have l1:=r1.length;have l2:=r2.length;rw[ke] at l1 l2;have e:(!decide (ns=F))=true:=by rw[Kh (fun z=>W (by rw[z]))];rfl
 rw[e] at J;exact Nm p1.isList p2.isList (by simp only[kr];rw[XQ];lia) (by lia) X.prog X.w _ _ ⟨.bl true,H,I,rfl,J⟩
theorem Zn3 {K:QF}(h:X.K=K)(F:X.A.units+64<cLine):Uo X (compareOp .NotEq) (Fg K):=h ▸ Zo4 F
end
end L2
namespace L2
open PySem PySem.Spec PyProof.Rows
variable {N ps:QP}{i k:Nat}{x qual:Str}
theorem Zw.lc {P:QP}{osc scope:Scope}{Ls Fs:QP}{fi:List Nat}(_:Zw N P osc)(h:Pr N osc scope Fs fi=true:=by decide +kernel):LX N osc scope Ls Fs fi:=.of h
theorem YC {X:Cx}{scope:Scope}{Ls Fs:QP}{cl:List (Str×Addr)}{C:Addr}{s:Shared}{H:Hp}{ex:List Addr}{pos:Pos}(nd:(Ls++Fs).Nodup:=by decide +kernel)(hi:(Ls++Fs)[i]? = some x:=by rfl)(F:Loc (blk X scope (Ls++Fs) cl C s H ex).env.scope x:=by exact Or.inl rfl)(I:(blk X scope (Ls++Fs) cl C s H ex).fn x=true∨(blk X scope (Ls++Fs) cl C s H ex).env.scope.names.lookup x=some .local:=by first | exact .inl rfl | exact .inr rfl):PG (blk X scope (Ls++Fs) cl C s H ex) (.Name x pos) (Li i):=Cy nd hi F I
theorem ZT {X:Cx}{pos:Pos}(F:X.N.Nodup)(hi:X.N[i]? = some x:=by rfl)(I:Loc X.env.scope x:=by exact Or.inl rfl)(J:X.fn x=true∨X.env.scope.names.lookup x=some .local:=by first | exact .inl rfl | exact .inr rfl):PG X (.Name x pos) (Li i):=Cy F hi I J
theorem Zz {X:Cx}{pos:Pos}{e:Expr}{te:TE}{aV:Pos}(F:X.N.Nodup)(I:PE X e te)(hi:X.N[i]? = some x:=by rfl)(J:Loc X.env.scope x:=by exact Or.inl rfl)(hs:swapsWith e (some (.Name x aV)) pos.line X.env=pure false:=by rfl)(O:X.fn x=true∨X.env.scope.names.lookup x=some .local:=by first | exact .inl rfl | exact .inr rfl):PS X (.Assign [.Name x aV] e pos) (Dk te (Li i)):=LV F hi J I hs O
section
variable {P:Program}{w:World}{K:QF}{mg:QN}{base:Heap}
theorem JD.ok1 {st:Stmt}{f:Addr}{fd:FuncData}{sp:Sp}(F:JD K x qual st f fd)(S:Zw N ps (Zj st))
  (I:∀(J:Value)(A:Around)(outer:QK)(s:Shared)(H:Hp)(vs:QH)(Q:VK)(E:XK),Gz k (A.deeper (envOfC qual (Zj st) s.heap.objs.size f J))->sp vs H Q E ->
   ∃t,PSs (WH JZ P w K mg base N qual (Zj st) f J A outer s H E).nox (Jt st) t/\t { nx:=fun _ H'=>Q .non H',rt:=Q } (start N vs) H)
  (len:∀vs H Q E,sp vs H Q E->vs.length=ps.length:=by intro _ _ _ _ h;first | (cases h;subst_vars;rfl) | repeat (first | exact Kx List.length h.1 | obtain⟨_,h⟩:=h)):Yc P w K mg base JZ (k+1) f fd ps sp:=F.ok S len I
theorem JD.okX1 {st:Stmt}{f:Addr}{fd:FuncData}{sp:Sp}(F:JD K x qual st f fd)(S:Zw N ps (Zj st))
  (I:∀(J:Value)(A:Around)(outer:QK)(s:Shared)(H:Hp)(vs:QH)(Q:VK)(E:XK),Gz k (A.deeper (envOfC qual (Zj st) s.heap.objs.size f J))->sp vs H Q E ->
   ∃t,PSs (WH (CX1 P w) P w K mg base N qual (Zj st) f J A outer s H E) (Jt st) t/\t { nx:=fun _ H'=>Q .non H',rt:=Q } (start N vs) H)
  (len:∀vs H Q E,sp vs H Q E->vs.length=ps.length:=by intro _ _ _ _ h;first | (cases h;subst_vars;rfl) | repeat (first | exact Kx List.length h.1 | obtain⟨_,h⟩:=h)):Yc P w K mg base (CX1 P w) (k+1) f fd ps sp:=F.okX S len I
theorem JD.okQ1 {st:Stmt}{f:Addr}{fd:FuncData}{sp:Sp}(F:JD K x qual st f fd)(S:Zw N ps (Zj st))
  (I:∀(J:Value)(A:Around)(outer:QK)(s:Shared)(H:Hp)(vs:QH)(Q:VK),L8 k (A.deeper (envOfC qual (Zj st) s.heap.objs.size f J))->Hnd (A.deeper (envOfC qual (Zj st) s.heap.objs.size f J)) H->sp vs H Q E0 ->
   ∃t,PSs (cxS P w K mg base N qual (Zj st) f J A outer s H) (Jt st) t/\t { nx:=fun _ H'=>Q .non H',rt:=Q } (start N vs) H)
  (len:∀vs H Q E,sp vs H Q E->vs.length=ps.length:=by intro _ _ _ _ h;first | (cases h;subst_vars;rfl) | repeat (first | exact Kx List.length h.1 | obtain⟨_,h⟩:=h)):DD P w K mg base (k+1) f fd ps sp:=F.okQ S len I
end
end L2
abbrev _root_.nC:QP:=["drawing"]
abbrev _root_.nE:QP:=["drawing", "scale"]
abbrev _root_.nF:QP:=["_law_drawing_here"]
abbrev _root_.nG:QP:=["_law_drawing_here", "_law_scale"]
abbrev _root_.nH:QP:=["partners", "k"]
abbrev _root_.nI:QP:=["_law_bag_here", "_law_most"]
abbrev _root_.nJ:QP:=["_law_bag_here", "_law_many"]
abbrev _root_.nK:QP:=["_law_thing"]
abbrev _root_.nM:QP:=["tour", "uppers"]
abbrev _root_.nN:QP:=["_law_drawing_here", "_law_scale", "_law_thing"]
abbrev _root_.nO:QP:=["drawing", "scale", "thing"]
abbrev _root_.nP:QP:=["drawing", "scale", "banding"]
abbrev _root_.nQ:QP:=["_law_partners", "_law_letter"]
abbrev _root_.nS:QP:=["_law_drawing_here", "_law_scale", "_law_changed"]
abbrev _root_.nU:QP:=["_law_bag_here", "_law_births", "_law_most"]
abbrev _root_.nV:QP:=["_law_bag_here", "_law_letters", "_law_most"]
abbrev _root_.nW:QP:=["_law_drawing_here", "_law_scale", "_law_one"]
namespace L2
inductive Ex2 {A:Sort a}{B:Sort b}(p:A->B->Prop):Prop|mk (x1:A)(x2:B)(h:p x1 x2)
inductive Ex3 {A:Sort a}{B:Sort b}{C:Sort c}(p:A->B->C->Prop):Prop|mk (x1:A)(x2:B)(x3:C)(h:p x1 x2 x3)
inductive Ex4 {A:Sort a}{B:Sort b}{C:Sort c}{D:Sort d}(p:A->B->C->D->Prop):Prop|mk (x1:A)(x2:B)(x3:C)(x4:D)(h:p x1 x2 x3 x4)
inductive Ex5 {A:Sort a}{B:Sort b}{C:Sort c}{D:Sort d}{E:Sort e}(p:A->B->C->D->E->Prop):Prop|mk (x1:A)(x2:B)(x3:C)(x4:D)(x5:E)(h:p x1 x2 x3 x4 x5)
inductive Ex6 {A:Sort a}{B:Sort b}{C:Sort c}{D:Sort d}{E:Sort e}{F:Sort f}(p:A->B->C->D->E->F->Prop):Prop|mk (x1:A)(x2:B)(x3:C)(x4:D)(x5:E)(x6:F)(h:p x1 x2 x3 x4 x5 x6)
end L2
local macro_rules|`(∃ $q:explicitBinders, $b)=>do{let s:=q.raw[0];let u:=fun (v:Array Lean.Syntax)(t:Option Lean.Syntax)=>v.map fun i=>(i[0],t);let L:=if s.getKind==``Lean.unbracketedExplicitBinders then u s[0].getArgs (if s[1].isNone then none else some s[1][1]) else s.getArgs.flatMap fun g=>u g[1].getArgs (some g[3]);unless 2<=L.size do{Lean.Macro.throwUnsupported};let(r,_)←L.foldrM (init:=(b,L.size)) fun(x,t)(r,k)=>do{let f:Lean.Term←(match x.isIdent,t with|true,some t=>`(fun $(⟨x⟩):ident:$(⟨t⟩)=>$r)|true,none=>`(fun $(⟨x⟩):ident=>$r)|_,some t=>`(fun _:$(⟨t⟩)=>$r)|_,none=>`(fun _=>$r));let m:=min 6 (L.size-(k-1));let n:=if m==1 then `Exists else Lean.Name.str `L2 s!"Ex{m}";let g:Lean.Term←(if (k-1)%6==0 then`($(Lean.mkCIdent n) $f) else pure f);return(g,k-1)};return r}
namespace Qk38
open PySem L2 PyProof.Rows
abbrev kQQ (K:QF)(a b:Addr):Prop:=PySem.W.kitOne K (.ref a) (.ref b)=some false
abbrev kQX (K:QF)(a:Addr):Prop:=PySem.W.excIn K a [.type "ValueError", .type "Exception", .type "BaseException", .type "object"] "ValueError.__new__" = true
variable {f Yi C c Zm:Addr}{fd:FuncData}{α:Type}{N j i k b y d n t a:Nat}{ps r T al cs:QG}{p:Nat->Nat}{ls:QB}{x m u l sc:Int}{H H' G:Hp}{kvs:QD}{v:V}{ts:QA}{z ch:Nat->Bool}{dn g:QX}{q:Str×Int}{K:QF}{mg:QN}{base h:Heap}
def top (i:Nat):Stmt:=PySem.Challenge.pw_bendfronts_k38_partners_told.main.body.getD i (.Pass ⟨0,0,0,0⟩)
section
variable {P:Program}{w:World}{K:QF}{mg:QN}{base:Heap}
inductive UC(vs:QH)(H:Hp)(Q:VK)(_E:XK):Prop|mk(b:Addr)(m:Int)(_:vs = [.ref b,.int m])(_:Bag H b)(_:1<=m)(_:m<1073741824)(_:∀(d:Int)(H':Hp),0<=d->d<m->Bag H' b->Y5 b H H'->Q (.int d) H')
abbrev Bg:Stmt:=top 47
theorem Fh:Zw ["_law_bag_here", "_law_many", "_law_digit"] nJ (Zj Bg):={}
theorem Zm1 (F:JD K "_law_take" "_law_take" Bg f fd):Yc P w K mg base JZ 1 f fd nJ UC:=by
 refine F.ok1 Fh fun J A outer s H vs Q E S h=>?_;obtain⟨b,m,rfl,⟨g,r,hg,hb⟩,h1,h2,k⟩:=h;refine⟨_,(Zc (ZP (Zu Lk (Zy (Zl (K:=K)) (pv 0) Ze (fun _ _=>rfl)) Ze (Zt _)) (Zc (Zz (i:=2) Fh.nd (Zk Ug (Zy (Zl (K:=K)) (pv 0) Ze (fun _ _=>rfl)) (pv 1)))
  (Zc (Yz (Zk DM (Zy (Zl (K:=K)) (pv 0) Ze (fun _ _=>rfl)) (pv 1)) (YI (pv 0) Ze set_list))
  (Zf (Zv (pv 2))))) ZF)
  (Zc (Yz (Zk Ug (Zk ZC (Zk Wn (Zy (Zl (K:=K)) (pv 0) Ze (fun _ _=>rfl)) Ze) Ze) Ze) (YI (pv 0) Ze set_list))
  (Zf (Zv (Zk Ug (Zk Ug (Zk CD (Zk DM (Zy (Zl (K:=K)) (pv 0) Ze (fun _ _=>rfl)) Ze) Ze) Ze) (pv 1)))))),?_⟩
 refine⟨_,rfl,b,_,_,_,rfl,rfl,Zr.of hb,Zn (j:=0) rfl,_,_,rfl,rfl,_,rfl,?_⟩;refine Z7 (fun I=>?_) (fun I=>?_)
 ·have O:0<g:=kI I;refine⟨_,rfl,b,_,_,_,rfl,rfl,Zr.of hb,Zn (j:=0) rfl,_,rfl,_,_,rfl,rfl,(by omega:0<m),?_⟩;refine⟨_,rfl,b,_,_,_,rfl,rfl,Zr.of hb,Zn (j:=0) rfl,_,rfl,_,_,rfl,rfl,⟨by omega,by omega⟩,_,rfl,b,_,_,0,rfl,rfl,hb,rfl,?_⟩;refine⟨_,rfl,k _ _ (Xh _ (by omega)) (qQ _ (by omega)) ⟨g / m,r,Int.ediv_nonneg (by omega) (by omega),Zd⟩ Y5.upd⟩
 ·refine⟨_,rfl,b,_,_,_,rfl,rfl,Zr.of hb,Zn (j:=1) rfl,_,_,rfl,rfl,.inr ⟨by decide,by decide⟩,_,_,rfl,rfl,_,_,rfl,rfl,(show (0:Int)<2147483647 by decide),_,rfl,b,_,_,1,rfl,rfl,hb,rfl,?_⟩;have U:0<=(r*48271+11) % 2147483647:=Xh _ (by decide);have V:(r*48271+11) % 2147483647<2147483647:=qQ _ (by decide);refine⟨_,rfl,b,_,_,_,rfl,rfl,Zr.of Zd,Zn (j:=1) rfl,_,_,rfl,rfl,⟨by decide,by decide⟩,_,_,rfl,rfl,⟨by decide,by decide,by omega⟩,_,_,rfl,rfl,(show (0:Int)<2147483629 by decide),_,rfl,_,_,rfl,rfl,(by omega:0<m),?_⟩;exact k _ _ (Xh _ (by omega)) (qQ _ (by omega)) ⟨g,_,hg,Zd⟩ Y5.upd
inductive Fi(K:QF)(vs:QH)(H:Hp)(Q:VK)(_E:XK):Prop|mk(a:Addr)(i:Int)(ns:QG)(_:vs = [.ref a,.int i])(_:Zr K H a (ns.map V.int))(_:0<=i)(_:i<1000)(_:∀(l:Addr)(H':Hp),H l=none->Zh H H'->Bag H' l->Q (.ref l) H')
abbrev Bh:Stmt:=top 46
theorem We:Zw ["_law_script", "_law_at", "_law_cell", "_law_great", "_law_primes"] ["_law_script", "_law_at"] (Zj Bh):={}
theorem Zpe (F:JD K "_law_bag" "_law_bag" Bh f fd)(Yl:mg "len" = none)(bD:mg "abs" = none):Yc P w K mg base JZ 1 f fd ["_law_script", "_law_at"] (Fi K):=by
 refine F.ok1 We fun aB A outer s H vs Q E hr h=>?_;obtain⟨a,i,ns,rfl,hS,h0,h1,k⟩:=h;refine⟨_,(Zc (Zz (i:=2) We.nd Ze)
  (Zc (ZP (Zu W9 (pv 1) (Zs (Yq (K:=K)) (by rfl) Yl KR (Za (pv 0) Zb)) (Zt _)) (Zf (Zz (i:=2) We.nd (Zy (Zl (K:=K)) (pv 0) (pv 1) (fun _ _=>rfl)))) ZF)
  (Zc (Zz (i:=3) We.nd Ze)
  (Zc (ZP (Zu Pb (Zs CG (by rfl) bD boot_abs (Za (pv 2) Zb)) (Zk CD Ze Ze) (Zt _)) (Zf (Zz (i:=3) We.nd (Zs CG (by rfl) bD boot_abs (Za (pv 2) Zb)))) ZF)
  (Zc (Zz (i:=4) We.nd (Zx (Za Ze (Za Ze (Za Ze (Za Ze (Za Ze (Za Ze (Za Ze (Za Ze Zb))))))))))
  (Zf (Zv (Zx (Za (pv 3) (Za (Zk Ug (Zk CD (Zk ZC (Zk ZC (Zk Ug (pv 2) Ze) (Zk Wn Ze (pv 1))) Ze) Ze) (Zy (Zl (K:=K)) (pv 4) (Zk Ug (pv 1) Ze) (fun _ _=>rfl))) Zb)))))))))),?_⟩
 refine⟨_,rfl,_,rfl,a,_,rfl,.inl hS,_,_,rfl,rfl,_,rfl,?_⟩;have last:∀(c:Int),0<=c % 2147483647/\c % 2147483647<2147483647:=fun c=>⟨Xh _ (by decide),qQ _ (by decide)⟩;have e3:0<=i % 8:=Xh _ (by decide);have e4:i % 8<8:=qQ _ (by decide);obtain⟨j,Y⟩:∃j:Nat,i % 8=(j:Int):=⟨(i % 8).toNat,by omega⟩;have Z:j<8:=by omega
 obtain⟨q,hq,S⟩:∃q:Int,([V.int 2147483629,.int 2147483587,.int 2147483579,.int 2147483563,.int 2147483549,.int 2147483543,.int 2147483497,.int 2147483489]:QH)[j]? = some (.int q)/\0<q:=by
  match j,Z with
  | 0,_=>exact⟨_,rfl,by decide⟩
  | 1,_=>exact⟨_,rfl,by decide⟩
  | 2,_=>exact⟨_,rfl,by decide⟩
  | 3,_=>exact⟨_,rfl,by decide⟩
  | 4,_=>exact⟨_,rfl,by decide⟩
  | 5,_=>exact⟨_,rfl,by decide⟩
  | 6,_=>exact⟨_,rfl,by decide⟩
  | 7,_=>exact⟨_,rfl,by decide⟩
 have two:∀(c:Int)(B:Prop),B->(c=0 ∨ ∃j:Nat,i=(j:Int)/\ns[j]? = some c)->B:=fun _ _ b _=>b;refine Z7 (fun U=>?_) (fun U=>?_)
 ·have aZ:i<((ns.map V.int).length:Int):=kI U;rw[ke] at aZ;obtain⟨n,hn⟩:∃n:Nat,i=(n:Int):=⟨i.toNat,by omega⟩;have cy:n<ns.length:=by omega
  refine⟨_,rfl,_,rfl,a,_,_,_,rfl,rfl,hS,(by rw[hn];exact Zn (v:=V.int ns[n]) (by simp[cy])),?_⟩;refine⟨_,rfl,_,rfl,_,_,rfl,rfl,⟨by decide,by decide,by decide⟩,_,_,rfl,rfl,_,rfl,?_⟩;refine Z7 (fun U=>?_) (fun U=>?_)
  ·refine⟨_,rfl,_,rfl,?_⟩;have l0:=last ns[n];refine⟨(by show 8<=sizeLine;decide),fun W I=>?_⟩;refine⟨_,rfl,_,rfl,_,_,rfl,rfl,(show (0:Int)<2147483647 by decide),_,rfl,_,_,rfl,rfl,.inl ⟨by decide,by decide⟩,_,_,rfl,rfl,_,_,rfl,rfl,_,_,rfl,rfl,⟨by decide,by decide,by omega⟩,_,rfl,_,rfl,_,_,rfl,rfl,(show (0:Int)<8 by decide),W,_,_,_,rfl,rfl,Zr.of Zd,(by rw[Y];exact Zn hq),_,_,rfl,rfl,S,sz2,fun l O=>?_⟩;have J:H l=none:=(Zh.laid I).free O;exact k l _ J ((Zh.laid I).step O) ⟨_,_,(by split<;>omega),Zd⟩
  ·have l0:=last ns[n];refine⟨(by show 8<=sizeLine;decide),fun W I=>?_⟩;refine⟨_,rfl,_,rfl,_,_,rfl,rfl,(show (0:Int)<2147483647 by decide),_,rfl,_,_,rfl,rfl,.inl ⟨by decide,by decide⟩,_,_,rfl,rfl,_,_,rfl,rfl,_,_,rfl,rfl,⟨by decide,by decide,by omega⟩,_,rfl,_,rfl,_,_,rfl,rfl,(show (0:Int)<8 by decide),W,_,_,_,rfl,rfl,Zr.of Zd,(by rw[Y];exact Zn hq),_,_,rfl,rfl,S,sz2,fun l O=>?_⟩;have J:H l=none:=(Zh.laid I).free O;exact k l _ J ((Zh.laid I).step O) ⟨0,_,qV _,Zd⟩
 ·refine⟨_,rfl,_,rfl,_,_,rfl,rfl,⟨by decide,by decide,by decide⟩,_,_,rfl,rfl,_,rfl,?_⟩;refine Z7 (fun U=>?_) (fun U=>?_)
  ·exact absurd U (by decide)
  ·have l0:=last 0;refine⟨(by show 8<=sizeLine;decide),fun W I=>?_⟩;refine⟨_,rfl,_,rfl,_,_,rfl,rfl,(show (0:Int)<2147483647 by decide),_,rfl,_,_,rfl,rfl,.inl ⟨by decide,by decide⟩,_,_,rfl,rfl,_,_,rfl,rfl,_,_,rfl,rfl,⟨by decide,by decide,by omega⟩,_,rfl,_,rfl,_,_,rfl,rfl,(show (0:Int)<8 by decide),W,_,_,_,rfl,rfl,Zr.of Zd,(by rw[Y];exact Zn hq),_,_,rfl,rfl,S,sz2,fun l O=>?_⟩;have J:H l=none:=(Zh.laid I).free O;exact k l _ J ((Zh.laid I).step O) ⟨0,_,qV _,Zd⟩
def nX (ls:QB):Nat:=ls.countP fun p=>decide (p.1=("cross" : Str))
theorem Wt (a b:QB):nX (a++b)=nX a+nX b:=Lp
theorem ZmQ (a:QB)(k:Int):nX (a ++ [(("born" : Str),k)])=nX a:=by rw[Wt];rfl
theorem Fj (a:QB)(k:Int):nX (a ++ [(("end" : Str),k)])=nX a:=by rw[Wt];rfl
theorem Cf (a:QB)(k:Int):nX (a ++ [(("cross" : Str),k)])=nX a+1:=by rw[Wt];rfl
inductive Fl(lo:Int)(vs:QH)(H:Hp)(Q:VK)(_E:XK):Prop|mk(b:Addr)(m n:Int)(_:vs = [.ref b,.int m,.int n])(_:Bag H b)(_:1<=m)(_:m<1000)(_:0<=n)(_:n<1000)(_:∀(l:Addr)(H':Hp)(ls:QB),H l=none->Bag H' b->Y5 b H H'->Drw H' l ls->(nX ls:Int)<=n->Q (.ref l) H')
inductive Cg(vs:QH)(H:Hp)(Q:VK)(_E:XK):Prop|mk(b:Addr)(n:Int)(_:vs = [.ref b,.int n])(_:Bag H b)(_:0<=n)(_:n<20)(_:∀(l:Addr)(H':Hp)(ls:QB),H l=none->Bag H' b->Y5 b H H'->Drw H' l ls->(nX ls:Int)<=n->Q (.ref l) H')
abbrev GZ:Stmt:=top 48
theorem ZR:Zw ["_law_bag_here", "_law_births", "_law_most", "_law_letters", "_law_many", "_law_left", "_law_crosses", "_law_turn", "_law_way"] nU (Zj GZ):={}
theorem Zng (F:JD K "_law_drawing" "_law_drawing" GZ f fd)(Zq:Jk P w K mg base 1 "_law_take" nJ UC)(ZM:mg "range" = none):
  Yc P w K mg base JZ 2 f fd nU (Fl 0):=by
 refine F.ok1 ZR fun aB A outer s H vs Q E hr h=>?_;obtain⟨b,m,n,rfl,aP,m1,m2,n1,n2,k⟩:=h;refine⟨_,(Zc (Zz (i:=3) ZR.nd (Zx Zb))
  (Zc (Zz (i:=4) ZR.nd Ze)
  (Zc (Zz (i:=5) ZR.nd (Zk ZC Ze (Zp Zq hr (Za (pv 0) (Za (pv 1) Zb)))))
  (Zc (Zz (i:=6) ZR.nd (Zp Zq hr (Za (pv 0) (Za (Zk ZC (pv 2) Ze) Zb))))
  (Zc (Yr Ka rfl (YA (by rfl) ZM (Za Ze Zb)) (ZT (i:=7) ZR.nd) (Zc (Zz (i:=8) ZR.nd (Zp Zq hr (Za (pv 0) (Za Ze Zb))))
  (Zf (ZP (PW.pt (UE (Zu Lk (pv 5) Ze (Zt _)) (UE (Zu W9 (pv 4) Ze (Zt _)) (LR (PW.pt (MX (Zu Yp (pv 4) Ze (Zt _)) (LS (Zu Yp (pv 8) Ze (Zt _))))))))) (Zc (ZY (Yd (K:=K) rfl (Yw kJ kU kW ZL (pv 3) (Za (ZN (Za ZJ (Za (Zp Zq hr (Za (pv 0) (Za (Zk ZC (pv 4) Ze) Zb))) Zb))) Zb))))
  (Zc (Zz (i:=4) ZR.nd (Zk ZC (pv 4) Ze))
  (Zf (Zz (i:=5) ZR.nd (Zk Y0 (pv 5) Ze))))) (Zf (ZP (PW.pt (UE (Zu Lk (pv 4) Ze (Zt _)) (LR (Zu Yp (pv 8) Ze (Zt _))))) (Zc (ZY (Yd (K:=K) rfl (Yw kJ kU kW ZL (pv 3) (Za (ZN (Za ZJ (Za (Zp Zq hr (Za (pv 0) (Za (Zk Y0 (pv 4) Ze) Zb))) Zb))) Zb))))
  (Zf (Zz (i:=4) ZR.nd (Zk Y0 (pv 4) Ze)))) (Zf (ZP (PW.pt (UE (Zu Lk (pv 4) Ze (Zt _)) (LR (Zu Lk (pv 6) Ze (Zt _))))) (Zc (ZY (Yd (K:=K) rfl (Yw kJ kU kW ZL (pv 3) (Za (ZN (Za ZJ (Za (Zp Zq hr (Za (pv 0) (Za (Zk Y0 (pv 4) Ze) Zb))) Zb))) Zb))))
  (Zf (Zz (i:=6) ZR.nd (Zk Y0 (pv 6) Ze)))) ZF))))))))
  (Zc (Cz Ka (Zu Lk (pv 4) Ze (Zt _)) (Zc (ZY (Yd (K:=K) rfl (Yw kJ kU kW ZL (pv 3) (Za (ZN (Za ZJ (Za (Zp Zq hr (Za (pv 0) (Za (Zk Y0 (pv 4) Ze) Zb))) Zb))) Zb))))
  (Zf (Zz (i:=4) ZR.nd (Zk Y0 (pv 4) Ze)))))
  (Zf (Zv (pv 3))))))))),?_⟩
 refine⟨sz0,fun l hl=>?_⟩;obtain⟨g0,r0,iy,cO⟩:=id aP;have O:l≠b:=(Zg cO hl).symm;have iz:Bag (upd H l (.lst [])) b:=⟨g0,r0,iy,by rw[Zi (KA O)];exact cO⟩;refine⟨_,rfl,_,rfl,b,m,rfl,iz,m1,by lia,fun d1 H1 _ _ af f1=>?_⟩;refine⟨_,_,rfl,rfl,?_⟩;refine⟨_,rfl,_,rfl,_,_,rfl,rfl,b,_,rfl,af,by lia,by lia,fun d2 H2 cz dA bE f2=>?_⟩;have aa:H2 l=some (.lst []):=f2 l _ (f1 l _ Zd O) O;have bQ:Y5 b H H2:=fun c o e nb=>f2 c o (f1 c o (by rw[Zi (Zg e hl)];exact e) nb) nb;refine⟨30,rfl,by decide,by decide,Jl (n:=30) (fun i σ H'=>∃(xs:QH)(ls:QB)(c:Nat)(lf cr:Int)(tv wv:QI),σ = [some (.ref b),some (.int m),some (.int n),some (.ref l),some (.int (2*(c:Int))),some (.int lf),some (.int cr),tv,wv]/\c<=4/\Bag H' b/\Y5 b H H'/\H' l=some (.lst xs)/\ZI H' xs ls/\Wk ls (2*(c:Int))/\ls.length<=i/\(nX ls:Int)+cr<=n/\0<=cr)
  ⟨[],[],0,_,_,none,none,rfl,by decide,bE,bQ,aa,.nil,Wk.nil0,km _,(by show ((0:Nat):Int)+d2<=n;lia),cz⟩ ?_ ?_⟩
 ·rintro i σ H3 hi ⟨xs,ls,c,lf,cr,tv,wv,rfl,hc,ag,cm,jA,hL,hW,aA,hx,gO⟩;have aF:xs.length<sizeLine:=by
   rw[hL.len];exact ZD (by lia)
  refine⟨_,rfl,b,8,rfl,ag,by decide,by decide,fun wy H4 _ _ I f4=>?_⟩;have J:H4 l=some (.lst xs):=f4 l _ jA O;have U:Y5 b H H4:=cm.trans f4;have S:ZI H4 xs ls:=hL.frm f4 ag;dsimp only[Li];refine Pt (CP (β:=decide (0<lf)) (fun Q q=>⟨_,rfl,_,_,rfl,rfl,_,rfl,q⟩) fun _=>CP (β:=decide (2*(c:Int)<7)) (fun Q q=>⟨_,rfl,_,_,rfl,rfl,_,rfl,q⟩) fun _=>Vb (fun Q q=>⟨_,rfl,rfl,_,rfl,q⟩) fun _=>(fun Q q=>⟨_,rfl,rfl,_,rfl,q⟩)) (fun Z=>?_) (fun _=>?_)
  ·
   have bd:2*(c:Int)<7:=by simp only[Kc,Km] at Z;exact Z.2.1
   refine⟨_,rfl,.inl ⟨rfl,_,Zr.of J⟩,_,rfl,_,rfl,_,_,rfl,rfl,b,_,rfl,I,by lia,by lia,fun d H5 W gP Y f5=>⟨sz2,fun t ht=>?_⟩⟩;obtain⟨a1,a2,a3,a4,a5⟩:=Gd "born" d U I J S O hl f5 Y ht;refine⟨l,_,_,rfl,rfl,a1,aF,_,rfl,_,_,rfl,rfl,_,rfl,_,_,rfl,rfl,?_⟩;refine⟨xs ++ [.ref t],ls ++ [((("born" : Str),d):Str×Int)],c+1,lf-1,cr,some (.int (0+(i:Int))),some (.int wy),?_,by lia,a2,a3,a4,a5,?_,by rw[ki,Ke];lia,by rw[ZmQ];exact hx,gO⟩
   ·have e:2*((c+1:Nat):Int)=2*(c:Int)+2:=by lia
    rw[e];rfl
   ·have e:2*((c+1:Nat):Int)=2*(c:Int)+2:=by lia
    rw[e];exact Wk.born hW W (by lia)
  ·refine Pt (CP (β:=decide (2<2*(c:Int))) (fun Q q=>⟨_,rfl,_,_,rfl,rfl,_,rfl,q⟩) fun _=>(fun Q q=>⟨_,rfl,rfl,_,rfl,q⟩)) (fun Z=>?_) (fun _=>?_)
   ·
    have bd:2<2*(c:Int):=by simp only[Kc,Km] at Z;exact Z.1
    refine⟨_,rfl,.inl ⟨rfl,_,Zr.of J⟩,_,rfl,_,rfl,_,_,rfl,rfl,b,_,rfl,I,by lia,by lia,fun d H5 W gP Y f5=>⟨sz2,fun t ht=>?_⟩⟩;obtain⟨a1,a2,a3,a4,a5⟩:=Gd "end" d U I J S O hl f5 Y ht;refine⟨l,_,_,rfl,rfl,a1,aF,_,rfl,_,_,rfl,rfl,?_⟩;have e:2*((c-1:Nat):Int)=2*(c:Int)-2:=by lia
    refine⟨xs ++ [.ref t],ls ++ [((("end" : Str),d):Str×Int)],c-1,lf,cr,some (.int (0+(i:Int))),some (.int wy),?_,by lia,a2,a3,a4,a5,?_,by rw[ki,Ke];lia,by rw[Fj];exact hx,gO⟩
    ·rw[e];rfl
    ·rw[e];exact Wk.fin hW W (by lia)
   ·refine Pt (CP (β:=decide (1<2*(c:Int))) (fun Q q=>⟨_,rfl,_,_,rfl,rfl,_,rfl,q⟩) fun _=>(fun Q q=>⟨_,rfl,_,_,rfl,rfl,_,rfl,q⟩)) (fun Z=>?_) (fun _=>?_)
    ·
     have bd:1<2*(c:Int):=by simp only[Kc,Km] at Z;exact Z.1
     have zu:0<cr:=by simp only[Kc,Km] at Z;exact Z.2
     refine⟨_,rfl,.inl ⟨rfl,_,Zr.of J⟩,_,rfl,_,rfl,_,_,rfl,rfl,b,_,rfl,I,by lia,by lia,fun d H5 W gP Y f5=>⟨sz2,fun t ht=>?_⟩⟩;obtain⟨a1,a2,a3,a4,a5⟩:=Gd "cross" d U I J S O hl f5 Y ht;refine⟨l,_,_,rfl,rfl,a1,aF,_,rfl,_,_,rfl,rfl,?_⟩;exact⟨xs ++ [.ref t],ls ++ [((("cross" : Str),d):Str×Int)],c,_,_,_,_,rfl,hc,a2,a3,a4,a5,Wk.cross hW W (by lia),by rw[ki,Ke];lia,by rw[Cf];lia,by lia⟩
    ·exact⟨xs,ls,c,_,_,_,_,rfl,hc,I,U,J,S,hW,by lia,hx,gO⟩
 ·
  rintro σ H3 ⟨xs,ls,c,lf,cr,tv,wv,rfl,hc,ag,cm,jA,hL,hW,aA,hx,gO⟩;refine EF (fun σ H'=>∃(xs:QH)(ls:QB)(c:Nat),σ = [some (.ref b),some (.int m),some (.int n),some (.ref l),some (.int (2*(c:Int))),some (.int lf),some (.int cr),tv,wv]/\c<=4/\Bag H' b/\Y5 b H H'/\H' l=some (.lst xs)/\ZI H' xs ls/\Wk ls (2*(c:Int))/\ls.length+c<=34/\(nX ls:Int)<=n)
   (fun(σ:L2.St) _=>match σ[4]? with | some (some (V.int m))=>m.toNat | _=>0) ⟨xs,ls,c,rfl,hc,ag,cm,jA,hL,hW,by lia,by lia⟩ ?_ ?_
  ·rintro σ H4 ⟨xs,ls,c,rfl,hc,I,U,J,S,hW,aA,hx⟩;have aF:xs.length<sizeLine:=by
    rw[S.len];exact ZD (by lia)
   refine⟨_,rfl,_,_,rfl,rfl,_,rfl,?_⟩;refine Z7 (fun Z=>?_) (fun Z=>?_)
   ·have bd:0<2*(c:Int):=kI Z;refine⟨_,rfl,.inl ⟨rfl,_,Zr.of J⟩,_,rfl,_,rfl,_,_,rfl,rfl,b,_,rfl,I,by lia,by lia,fun d H5 W gP Y f5=>⟨sz2,fun t ht=>?_⟩⟩;obtain⟨a1,a2,a3,a4,a5⟩:=Gd "end" d U I J S O hl f5 Y ht;refine⟨l,_,_,rfl,rfl,a1,aF,_,rfl,_,_,rfl,rfl,?_⟩;have e:2*((c-1:Nat):Int)=2*(c:Int)-2:=by lia
    refine⟨⟨xs ++ [.ref t],ls ++ [((("end" : Str),d):Str×Int)],c-1,?_,by lia,a2,a3,a4,a5,?_,by rw[ki,Ke];lia,by rw[Fj];exact hx⟩,?_⟩
    ·rw[e];rfl
    ·rw[e];exact Wk.fin hW W (by lia)
    ·show (2*(c:Int)-2).toNat<(2*(c:Int)).toNat;lia
   ·have bd:¬ 0<2*(c:Int):=fun z=>Z (kH z);have uU:c=0:=by lia
    subst uU;refine⟨_,rfl,k l H4 ls hl I U ⟨xs,J,S,by simpa using hW,by lia⟩ hx⟩
  ·rintro σ H Q Q' f ⟨v,e,i,j,e1,e2,kk,e3,q⟩;exact⟨v,e,i,j,e1,e2,kk,e3,f _ _ q⟩
abbrev Bi:Stmt:=top 49
theorem YQ:Zw ["_law_bag_here", "_law_most", "_law_births", "_law_letters", "_law_turn", "_law_k"] nI (Zj Bi):={}
theorem Zof (F:JD K "_law_plat" "_law_plat" Bi f fd)(Zq:Jk P w K mg base 1 "_law_take" nJ UC)(ZM:mg "range" = none):
  Yc P w K mg base JZ 2 f fd nI Cg:=by
 refine F.ok1 YQ fun aB A outer s H vs Q E hr h=>?_;obtain⟨b,n,rfl,aP,n1,n2,k⟩:=h;refine⟨_,(Zc (Zz (i:=2) YQ.nd (Zk ZC Ze (Zp Zq hr (Za (pv 0) (Za Ze Zb)))))
  (Zc (L0 (i:=3) YQ.nd rfl (.inl rfl) (Ls:=["_law_k"]) (Fs:=[]) (fi:=[]) YQ.lc rfl (YA (by rfl) ZM (Za (pv 2) Zb)) (fun cl C s3 H3 ex=>⟨(YC (i:=0)),YB,(ZN (Za ZJ (Za (Zk Wn Ze (pv 0)) Zb)))⟩))
  (Zc (Yr Ka rfl (YA (by rfl) ZM (Za (Zp Zq hr (Za (pv 0) (Za (Zk ZC (pv 1) Ze) Zb))) Zb)) (ZT (i:=4) YQ.nd) (Zc (Zz (i:=5) YQ.nd (Zp Zq hr (Za (pv 0) (Za (Zk Y0 (Zk Wn Ze (pv 2)) Ze) Zb))))
  (Zc (ZP (PW.pt (UE (Zu Lk (pv 2) Ze (Zt _)) (LR (Zu Yp (Zp Zq hr (Za (pv 0) (Za Ze Zb))) Ze (Zt _))))) (Zf (Zz (i:=5) YQ.nd (Zk ZC (Zk Wn Ze (Zk Ug (Zk DM (pv 5) Ze) (Zk Y0 (pv 2) Ze))) Ze))) ZF)
  (Zf (ZY (Yd (K:=K) rfl (Yw kJ kU kW ZL (pv 3) (Za (ZN (Za ZJ (Za (pv 5) Zb))) Zb))))))))
  (Zf (Zv (Zk YX (pv 3) (WI (Ls:=["_law_k"]) (Fs:=[]) (fi:=[]) YQ.lc rfl (YA (by rfl) ZM (Za (pv 2) Zb)) (fun cl C s3 H3 ex=>⟨(YC (i:=0)),YB,(ZN (Za ZJ (Za Ze Zb)))⟩)))))))),?_⟩
 refine⟨_,rfl,b,3,rfl,aP,by decide,by decide,fun d H1 jB gP af f1=>?_⟩;refine⟨_,_,rfl,rfl,?_⟩;have ah:1<=(1+d).toNat:=by lia
 have aQ:(1+d).toNat<=3:=by lia
 refine⟨_,rfl,_,rfl,by lia,by lia,CO (n:=(1+d).toNat) (Kv (ZD (by lia))) (fun i ys H'=>Zh H1 H'/\ZI H' ys ((List.range i).map fun(j:Nat)=>(("born", 2*(j:Int)):Str×Int))) ⟨Zh.refl _,.nil⟩
  (fun i ys H' p=>by rw[p.2.len];simp) (fun i ys H' hi p=>?_) (fun ys H2 p l hl=>?_)⟩
 ·refine lcG ?_;refine⟨_,rfl,_,_,rfl,rfl,.inl ⟨by decide,by decide⟩,sz2,fun t O=>⟨p.1.step O,?_⟩⟩;rw[KN,kP];have e:(2*(0+(i:Int)))=2*(i:Int):=by lia
  refine ZI.snoc (p.2.same (Zh.laid O)) ?_;rw[<- e];exact Zd
 ·
  obtain⟨sm,jC⟩:=p;obtain⟨g0,r0,iy,cO⟩:=id af;have oH:H2 b=some (.lst [.int g0,.int r0]):=sm b _ cO;have I:l≠b:=(Zg oH hl).symm;have bE:Bag (upd H2 l (.lst ys)) b:=⟨g0,r0,iy,by rw[Zi (KA I)];exact oH⟩;have jD:H l=none:=f1.free af (sm.free hl);have bQ:Y5 b H (upd H2 l (.lst ys)):=(f1.trans sm.frm).new hl;have jE:ZI (upd H2 l (.lst ys)) ys ((List.range (1+d).toNat).map fun(j:Nat)=>(("born", 2*(j:Int)):Str×Int)):=jC.same (Zh.laid hl);refine⟨_,rfl,_,rfl,_,_,rfl,rfl,b,_,rfl,bE,by lia,by lia,fun d2 H3 bf zw ag f3=>?_⟩;refine⟨_,rfl,by lia,by lia,Jl (n:=d2.toNat) (fun i σ H'=>∃(xs:QH)(ls:QB)(tv kv:QI),σ = [some (.ref b),some (.int n),some (.int (1+d)),some (.ref l),tv,kv]/\Bag H' b/\Y5 b H H'/\H' l=some (.lst xs)/\ZI H' xs ls/\Wk ls (2*((1+d).toNat:Int))/\ls.length<=3+i/\nX ls<=i)
   ⟨ys,_,none,none,rfl,ag,bQ.trans f3,f3 l _ Zd I,jE.frm f3 bE,Sq _,by rw[ke,qj];lia,by unfold nX;rw[List.countP_map];refine Mf (MZ.mpr fun _ _=>by simp;decide)⟩ ?_ ?_⟩
  ·rintro i σ H4 hi ⟨xs,ls,tv,kv,rfl,S,V,jF,U,hW,aA,hx⟩;have aF:xs.length<sizeLine:=by
    rw[U.len];exact ZD (by lia)
   refine⟨_,rfl,_,rfl,_,_,rfl,rfl,.inl ⟨by decide,by decide⟩,_,_,rfl,rfl,b,_,rfl,S,by lia,by lia,fun k1 H5 zx im W f5=>?_⟩;have J:H5 l=some (.lst xs):=f5 l _ jF I;have bK:Y5 b H H5:=V.trans f5;have gQ:ZI H5 xs ls:=U.frm f5 S;refine⟨_,rfl,_,_,rfl,rfl,_,rfl,?_⟩;refine Z7 (fun hp=>?_) (fun hp=>?_)
   ·have bd:1<1+d:=kI hp;refine⟨_,rfl,b,2,rfl,W,by decide,by decide,fun d3 H6 _ _ Y f6=>⟨rfl,_,rfl,?_⟩⟩;have Z:H6 l=some (.lst xs):=f6 l _ J I;have oJ:Y5 b H H6:=bK.trans f6;have gR:ZI H6 xs ls:=gQ.frm f6 W;refine Z7 (fun hq=>?_) (fun hq=>?_)
    ·refine⟨_,rfl,_,_,rfl,rfl,⟨by decide,by decide⟩,_,rfl,_,_,rfl,rfl,_,_,rfl,rfl,(show (0:Int)<1+d-1 by lia),_,_,rfl,rfl,.inl ⟨by decide,by decide⟩,_,_,rfl,rfl,?_⟩;have z0:0<=k1 / 2 % (1+d-1):=Xh _ (by lia);have z1:k1 / 2 % (1+d-1)<1+d-1:=qQ _ (by lia);refine⟨_,rfl,.inl ⟨rfl,_,Zr.of Z⟩,_,rfl,sz2,fun t O=>?_⟩;obtain⟨a1,a2,a3,a4,a5⟩:=Gd "cross" (2*(k1 / 2 % (1+d-1))+1) oJ Y Z gR I jD (Y5.refl b H6) Y O;refine⟨l,_,_,rfl,rfl,a1,aF,?_⟩;exact⟨xs ++ [.ref t],_,_,_,rfl,a2,a3,a4,a5,Wk.cross hW (by lia) (by lia),by rw[ki,Ke];lia,by rw[Cf];lia⟩
    ·refine⟨_,rfl,.inl ⟨rfl,_,Zr.of Z⟩,_,rfl,sz2,fun t O=>?_⟩;obtain⟨a1,a2,a3,a4,a5⟩:=Gd "cross" k1 oJ Y Z gR I jD (Y5.refl b H6) Y O;refine⟨l,_,_,rfl,rfl,a1,aF,?_⟩;exact⟨xs ++ [.ref t],_,_,_,rfl,a2,a3,a4,a5,Wk.cross hW (by lia) (by lia),by rw[ki,Ke];lia,by rw[Cf];lia⟩
   ·refine⟨_,rfl,.inl ⟨rfl,_,Zr.of J⟩,_,rfl,sz2,fun t O=>?_⟩;obtain⟨a1,a2,a3,a4,a5⟩:=Gd "cross" k1 bK W J gQ I jD (Y5.refl b H5) W O;refine⟨l,_,_,rfl,rfl,a1,aF,?_⟩;exact⟨xs ++ [.ref t],_,_,_,rfl,a2,a3,a4,a5,Wk.cross hW (by lia) (by lia),by rw[ki,Ke];lia,by rw[Cf];lia⟩
  ·rintro σ H4 ⟨xs,ls,tv,kv,rfl,S,V,jF,U,hW,aA,hx⟩;refine⟨_,rfl,_,rfl,_,rfl,by lia,by lia,CO (n:=(1+d).toNat) (Kv (ZD (by lia))) (fun i ys H'=>Zh H4 H'/\ZI H' ys (List.replicate i ((("end" : Str),0):Str×Int))) ⟨Zh.refl _,.nil⟩
    (fun i ys H' p=>by rw[p.2.len];simp) (fun i ys H' hi p=>?_) (fun zs H5 p D hD=>?_)⟩
   ·refine lcG ?_;refine⟨sz2,fun t O=>⟨p.1.step O,?_⟩⟩;rw[Xl];exact ZI.snoc (p.2.same (Zh.laid O)) Zd
   ·obtain⟨jG,hZ⟩:=p;have J:H5 l=some (.lst xs):=jG l _ jF;have uV:=hZ.len;rw[Kz] at uV;have zy:=U.len;refine⟨l,D,xs,zs,rfl,rfl,(by rw[Zi (Zg J hD)];exact J),Zd,Kv (ZD (by lia)),fun p hp=>?_⟩;have jH:Zh H4 (upd (upd H5 D (.lst zs)) p (.lst (xs++zs))):=(jG.step hD).step hp;have uW:H p=none:=V.free S ((jG.step hD).free hp);obtain⟨g4,r4,uX,uY⟩:=id S;refine k p _ (ls++List.replicate (1+d).toNat ((("end" : Str),0):Str×Int)) uW ⟨g4,r4,uX,jH b _ uY⟩ (V.trans jH.frm) ⟨xs++zs,Zd,?_,?_,?_⟩ (by
     rw[Wt];have:nX (List.replicate (1+d).toNat ((("end" : Str),0):Str×Int))=0:=MZ.mpr fun a ha=>by rw[(List.mem_replicate.mp ha).2];decide
     lia)
    ·exact(U.same jH).append (hZ.same ((Zh.laid hD).step hp))
    ·have:=CQ _ hW (1+d).toNat (km _);simpa using this
    ·rw[ki,Kz];lia
abbrev Bj:Stmt:=top 50
theorem ZgF:Zw nI nI (Zj Bj):={}
theorem Zp2 (F:JD K "_law_any" "_law_any" Bj f fd)(Zq:Jk P w K mg base 1 "_law_take" nJ UC)(Wi:Jk P w K mg base 2 "_law_plat" nI Cg)
  (Ud:Jk P w K mg base 2 "_law_drawing" nU (Fl 0)):Yc P w K mg base JZ 3 f fd nI Cg:=by
 refine F.ok1 ZgF fun aB A outer s H vs Q E U h=>?_;obtain⟨b,n,rfl,O,Z,n2,k⟩:=h;refine⟨_,(Zc (ZP (Zu Yp (Zp Zq U (Za (pv 0) (Za Ze Zb))) Ze (Zt _)) (Zf (Zv (Zp Wi U (Za (pv 0) (Za (pv 1) Zb))))) ZF)
  (Zf (Zv (Zp Ud U (Za (pv 0) (Za Ze (Za (pv 1) Zb))))))),?_⟩
 refine⟨_,rfl,b,3,rfl,O,by decide,by decide,fun d H1 _ _ I S=>⟨rfl,_,rfl,?_⟩⟩;refine Z7 (fun _=>?_) (fun _=>?_)
 ·exact⟨_,rfl,_,rfl,b,n,rfl,I,Z,n2,fun l H2 ls V J W Y nx=>k l H2 ls (S.free I V) J (S.trans W) Y nx⟩
 ·exact⟨_,rfl,_,rfl,b,4,n,rfl,I,by decide,by decide,Z,by lia,fun l H2 ls V J W Y nx=>k l H2 ls (S.free I V) J (S.trans W) Y nx⟩
abbrev Bk:Stmt:=top 19
theorem J0:Zw ["drawing", "rows", "born", "kind", "k", "row"] nC (Zj Bk):={}
theorem ZhI (F:JD K "threads" "threads" Bk f fd)(Ya:mg "list" = none):Yc P w K mg base JZ 1 f fd nC Dv:=by
 refine F.ok1 J0 fun aB A outer s H vs Q E hr h=>?_;obtain⟨l,xs,ls,rfl,hl,hL,aA,hW,k⟩:=h;refine⟨_,(Zc (Zz (i:=1) J0.nd (Zx (Za (Zx Zb) Zb)))
  (Zc (Zz (i:=2) J0.nd Ze)
  (Zc (Yr Ka rfl (ZU (K:=K) rfl (pv 0)) (Z8 (K:=K) (n:=2) rfl rfl (Zo (ZT (i:=3) J0.nd) (Zo (ZT (i:=4) J0.nd) ZV))) (Zc (Zz (i:=5) J0.nd (ZZ (YY (K:=K)) (by rfl) Ya Xi (Za (Zy (Zl (K:=K)) (pv 1) (UY WO Ze) (fun _ _=>rfl)) Zb)))
  (Zc (ZP (Zu Yp (pv 3) ZJ (Zt _)) (Zc (Yz (Zx (Za (pv 2) (Za (Zk ZC (pv 2) Ze) Zb))) (Vf (pv 5) (ZQ (pv 4)) (ZQ (pv 4))))
  (Zf (RB (i:=2) J0.nd rfl (.inl rfl) Ze Er))) (Zf (ZP (Zu Yp (pv 3) ZJ (Zt _)) (Zf (Yz (ZN (Za (Zy (Zl (K:=K)) (pv 5) (Zk ZC (pv 4) Ze) (fun _ _=>rfl)) (Za (Zy (Zl (K:=K)) (pv 5) (pv 4) (fun _ _=>rfl)) Zb))) (Z8 (K:=K) (n:=2) rfl rfl (Zo (YI (pv 5) (pv 4) set_list) (Zo (YI (pv 5) (Zk ZC (pv 4) Ze) set_list) ZV))))) (Zf (Vk (pv 5) (ZQ (pv 4)) (ZQ (Zk ZC (pv 4) Ze)))))))
  (Zf (ZY (Yd (K:=K) rfl (Yw kJ kU kW ZL (pv 1) (Za (pv 5) Zb))))))))
  (Zf (Zv (pv 1)))))),?_⟩
 have aF:=hL.len;refine⟨sz0,fun e0 bf=>⟨sz1,fun R hR=>?_⟩⟩;have Z:H R=none:=(Zh.laid bf).free hR;have eP:e0≠R:=Zg (Zd (H:=H) (a:=e0) (o:=.lst [])) hR;have eQ:Zh H (upd (upd H e0 (.lst [])) R (.lst [.ref e0])):=(Zh.laid bf).step hR;refine⟨_,rfl,l,rfl,⟨_,Zr.of (eQ l _ hl)⟩,JA (K:=K) (a:=l) (xs:=xs) (fun i σ H'=>∃(ys:QH)(v3 v4 v5:QI),σ = [some (.ref l),some (.ref R),some (.int (rb (ls.take i)).2),v3,v4,v5]/\Zh H H'/\H' R=some (.lst ys)/\YR H' ys (rowsOf ls (i+1))/\(∀t,V.ref t∈ys->H t=none/\t≠R)/\ys.Nodup)
  ⟨[.ref e0],none,none,none,rfl,eQ,Zd,?_,?_,by simp⟩ (fun i σ H' _ ⟨_,_,_,_,_,sm,_⟩=>Zr.of (sm l _ hl)) ?_ ?_⟩
 ·refine Paired.cons ⟨e0,rfl,?_⟩ .nil;rw[Zi eP,Zd];rfl
 ·intro t ht;have:t=e0:=V.ref.inj (kR.mp ht);subst this;exact⟨bf,eP⟩
 ·rintro i x σ H' hx ⟨ys,v3,v4,v5,rfl,sm,W,rv,ap,nd⟩;obtain⟨⟨qx,J⟩,tl,hq,rfl,gS⟩:=hL.get hx;have cP:=sm tl _ gS;have hi:i<ls.length:=(kC.mp hq).1;obtain⟨Y,a8⟩:=Du hW hq;have eS:=rv;rw[Px] at eS;obtain⟨I,t,rfl,ht⟩:=eS.last;have cQ:(I ++ [V.ref t]).length<sizeLine:=by
   rw[rv.len];unfold rowsOf;rw[ke,qj];exact ZD (by lia)
  have rl:((rb (ls.take i)).1.map V.int).length=(rb (ls.take i)).1.length:=ke _;obtain⟨m,hm⟩:=GD hW i;have r8:(rb (ls.take i)).1.length<=900:=by have z1:=LD hm;have z2:=L6 hm;rw[kK] at z2;lia
  refine⟨tl,_,rfl,Y9.of cP,rfl,_,_,rfl,_,_,rfl,rfl,?_⟩;refine⟨_,rfl,1,rfl,R,_,_,_,rfl,rfl,Zr.of W,UO _ _,t,_,rfl,.inl (Zr.of ht),fun w hw=>?_⟩;have O:w≠R:=(Zg W hw).symm;refine⟨_,rfl,rfl,_,rfl,?_⟩;rcases a8 with⟨e,b0,b1⟩ | ⟨e,b0,b1⟩ | ⟨e,b0,b1⟩
  ·have e:qx = "born" := e;subst e;refine Z7 (fun _=>?_) (fun hn=>absurd (by simp) hn);refine⟨_,rfl,_,rfl,_,_,rfl,rfl,sz2,fun nl cy=>?_⟩;have dB:w≠nl:=Zg (Zd (H:=H') (a:=w)) cy;refine⟨_,rfl,_,rfl,_,rfl,_,rfl,_,rfl,w,nl,_,_,J,J,rfl,rfl,rfl,rfl,(by rw[Zi dB];exact Zd),Zd,dB,b0,qV _,(by rw[rl];exact b1),(by rw[rl];exact Kv (ZD (by show _+2<=1000;lia))),?_⟩;refine⟨_,rfl,_,_,rfl,rfl,?_⟩;have S:(upd (upd (upd H' w (.lst ((rb (ls.take i)).1.map V.int))) nl (.lst [.int (rb (ls.take i)).2,.int ((rb (ls.take i)).2+1)])) w (.lst (((rb (ls.take i)).1.map V.int).take J.toNat ++ [.int (rb (ls.take i)).2,.int ((rb (ls.take i)).2+1)]++((rb (ls.take i)).1.map V.int).drop J.toNat))) R=some (.lst (I ++ [.ref t])):=by
    rw[Zi (KA O)];exact(Zh.laid cy) R _ ((Zh.laid hw) R _ W)
   refine⟨_,rfl,.inl ⟨rfl,_,Zr.of S⟩,_,rfl,R,_,_,rfl,rfl,S,cQ,?_⟩;obtain⟨z1,z2,z3,z4⟩:=GP (G:=upd (upd (upd (upd H' w (.lst ((rb (ls.take i)).1.map V.int))) nl (.lst [.int (rb (ls.take i)).2,.int ((rb (ls.take i)).2+1)])) w (.lst (((rb (ls.take i)).1.map V.int).take J.toNat ++ [.int (rb (ls.take i)).2,.int ((rb (ls.take i)).2+1)]++((rb (ls.take i)).1.map V.int).drop J.toNat))) R (.lst ((I ++ [.ref t]) ++ [.ref w]))) Z sm rv ap nd hw O (fun c o e n=>by
     rw[Zi n,Zi (Zg e hw)];exact(Zh.laid cy) c _ ((Zh.laid hw) c _ e)) (by
     rw[Zi O,Zd,Y,YJ,Gb];simp[kP,qT,qG])
   refine⟨I ++ [.ref t] ++ [.ref w],some (.str "born"),some (.int J),some (.ref w),?_,z1,Zd,z2,z3,z4⟩;rw[Y,YJ,Gb];rfl
  ·have e:qx = "cross" := e;subst e;refine Z7 (fun hn=>absurd (V.str.inj (kI hn)) nb1) (fun _=>?_);refine⟨_,rfl,rfl,_,rfl,?_⟩;refine Z7 (fun _=>?_) (fun hn=>absurd (by simp) hn);obtain⟨U,rfl⟩:=kF b0;have k1:U+1<(rb (ls.take i)).1.length:=by have b1:(U:Int)+1<_:=b1;lia
   have ec:((U:Int)+1)=((U+1:Nat):Int):=by lia
   have a1:atI ((rb (ls.take i)).1.map V.int) ((U:Int)+1)=some (V.int ((rb (ls.take i)).1.getD (U+1) 0)):=by rw[ec];exact Zn (map_getD _ k1)
   have a0:atI ((rb (ls.take i)).1.map V.int) (U:Int)=some (V.int ((rb (ls.take i)).1.getD U 0)):=Zn (map_getD _ (by lia));refine⟨_,rfl,_,rfl,_,_,rfl,rfl,w,_,_,_,rfl,rfl,Zr.of Zd,a1,_,rfl,_,rfl,w,_,_,_,rfl,rfl,Zr.of Zd,a0,sz2,fun tt bF=>?_⟩;have jI:w≠tt:=Zg (Zd (H:=H') (a:=w)) bF;refine⟨tt,_,rfl,Y9.of Zd,rfl,_,_,rfl,_,rfl,_,rfl,w,_,_,U,rfl,rfl,(by rw[Zi jI];exact Zd),(by rw[rl];exact Jh (by lia)),?_⟩;refine⟨_,_,rfl,_,rfl,_,rfl,_,_,rfl,rfl,w,_,_,U+1,rfl,rfl,Zd,(by rw[KQ,rl,ec];exact Jh k1),rfl,?_⟩;rw[JF,Sy];have S:(upd (upd (upd H' w (.lst ((rb (ls.take i)).1.map V.int))) tt (.tup [.int ((rb (ls.take i)).1.getD (U+1) 0),.int ((rb (ls.take i)).1.getD U 0)])) w (.lst ((Um (rb (ls.take i)).1 U).map V.int))) R=some (.lst (I ++ [.ref t])):=by rw[Zi (KA O)];exact(Zh.laid bF) R _ ((Zh.laid hw) R _ W)
   refine⟨_,rfl,.inl ⟨rfl,_,Zr.of S⟩,_,rfl,R,_,_,rfl,rfl,S,cQ,?_⟩;obtain⟨z1,z2,z3,z4⟩:=GP (G:=upd (upd (upd (upd H' w (.lst ((rb (ls.take i)).1.map V.int))) tt (.tup [.int ((rb (ls.take i)).1.getD (U+1) 0),.int ((rb (ls.take i)).1.getD U 0)])) w (.lst ((Um (rb (ls.take i)).1 U).map V.int))) R (.lst ((I ++ [.ref t]) ++ [.ref w]))) Z sm rv ap nd hw O (fun c o e n=>by
     rw[Zi n,Zi (Zg e hw)];exact(Zh.laid bF) c _ ((Zh.laid hw) c _ e)) (by
     rw[Zi O,Zd,Y,YJ,Wc];rfl)
   refine⟨I ++ [.ref t] ++ [.ref w],some (.str "cross"),some (.int U),some (.ref w),?_,z1,Zd,z2,z3,z4⟩;rw[Y,YJ,Wc];rfl
  ·have e:qx = "end" := e;subst e;refine Z7 (fun hn=>absurd (V.str.inj (kI hn)) nb2) (fun _=>?_);refine⟨_,rfl,rfl,_,rfl,?_⟩;refine Z7 (fun hn=>absurd (V.str.inj (kI hn)) nb3) (fun _=>?_);have jJ:J+1<((rb (ls.take i)).1.length:Int):=b1;refine⟨_,rfl,_,rfl,_,rfl,_,rfl,_,_,rfl,rfl,_,rfl,w,_,J,J+2,rfl,rfl,rfl,Zd,b0,by lia,(by rw[rl];lia),?_⟩;rw[JF];have S:(upd H' w (.lst (((rb (ls.take i)).1.map V.int).take J.toNat++((rb (ls.take i)).1.map V.int).drop (J+2).toNat))) R=some (.lst (I ++ [.ref t])):=(Zh.laid hw) R _ W;refine⟨_,rfl,.inl ⟨rfl,_,Zr.of S⟩,_,rfl,R,_,_,rfl,rfl,S,cQ,?_⟩;have e2:(J+2).toNat=J.toNat+2:=by have jK:0<=J:=b0;lia
   obtain⟨z1,z2,z3,z4⟩:=GP (G:=upd (upd H' w (.lst (((rb (ls.take i)).1.map V.int).take J.toNat++((rb (ls.take i)).1.map V.int).drop (J+2).toNat))) R (.lst ((I ++ [.ref t]) ++ [.ref w]))) Z sm rv ap nd hw O (fun c o e n=>by
     rw[Zi n];exact(Zh.laid hw) c _ e) (by
     rw[Zi O,Zd,Y,YJ,Ur,e2,kP,qT,qG])
   refine⟨I ++ [.ref t] ++ [.ref w],some (.str "end"),some (.int J),some (.ref w),?_,z1,Zd,z2,z3,z4⟩;rw[Y,YJ,Ur];rfl
 ·rintro σ H' ⟨ys,v3,v4,v5,rfl,sm,W,rv,ap,nd⟩;rw[aF] at rv;exact⟨_,rfl,k R H' ys Z sm W rv ap nd⟩
abbrev Bl:Stmt:=top 51
theorem Jc:Zw ["_law_drawing_here", "_law_rows_here", "_law_born", "_law_word", "_law_k", "_law_row"] nF (Zj Bl):={}
theorem Znv (F:JD K "_law_rows" "_law_rows" Bl f fd)(Ya:mg "list" = none):Yc P w K mg base JZ 1 f fd nF Dv:=by
 refine F.ok1 Jc fun aB A outer s H vs Q E hr h=>?_;obtain⟨l,xs,ls,rfl,hl,hL,aA,hW,k⟩:=h;refine⟨_,(Zc (Zz (i:=1) Jc.nd (Zx (Za (Zx Zb) Zb)))
  (Zc (Zz (i:=2) Jc.nd Ze)
  (Zc (Yr Ka rfl (ZU (K:=K) rfl (pv 0)) (Z8 (K:=K) (n:=2) rfl rfl (Zo (ZT (i:=3) Jc.nd) (Zo (ZT (i:=4) Jc.nd) ZV))) (Zc (Zz (i:=5) Jc.nd (ZZ (YY (K:=K)) (by rfl) Ya Xi (Za (Zy (Zl (K:=K)) (pv 1) (UY WO Ze) (fun _ _=>rfl)) Zb)))
  (Zc (ZP (Zu Yp (pv 3) ZJ (Zt _)) (Zc (ZY (Yd (K:=K) rfl (Yw kJ NP NQ Sw (pv 5) (Za (pv 4) (Za (Zk ZC (pv 2) Ze) Zb)))))
  (Zc (ZY (Yd (K:=K) rfl (Yw kJ NP NQ Sw (pv 5) (Za (pv 4) (Za (pv 2) Zb)))))
  (Zf (Zz (i:=2) Jc.nd (Zk ZC (pv 2) Ze))))) (Zf (ZP (Zu Yp (pv 3) ZJ (Zt _)) (Zf (Yz (ZN (Za (Zy (Zl (K:=K)) (pv 5) (Zk ZC (pv 4) Ze) (fun _ _=>rfl)) (Za (Zy (Zl (K:=K)) (pv 5) (pv 4) (fun _ _=>rfl)) Zb))) (Z8 (K:=K) (n:=2) rfl rfl (Zo (YI (pv 5) (pv 4) set_list) (Zo (YI (pv 5) (Zk ZC (pv 4) Ze) set_list) ZV))))) (Zc (ZY (Yd (K:=K) rfl (Yw kJ Tv Tw Pj (pv 5) (Za (pv 4) Zb))))
  (Zf (ZY (Yd (K:=K) rfl (Yw kJ Tv Tw Pj (pv 5) (Za (pv 4) Zb)))))))))
  (Zf (ZY (Yd (K:=K) rfl (Yw kJ kU kW ZL (pv 1) (Za (pv 5) Zb))))))))
  (Zf (Zv (pv 1)))))),?_⟩
 have aF:=hL.len;refine⟨sz0,fun e0 bf=>⟨sz1,fun R hR=>?_⟩⟩;have gT:H R=none:=(Zh.laid bf).free hR;have eP:e0≠R:=Zg (Zd (H:=H) (a:=e0) (o:=.lst [])) hR;have eQ:Zh H (upd (upd H e0 (.lst [])) R (.lst [.ref e0])):=(Zh.laid bf).step hR;refine⟨_,rfl,l,rfl,⟨_,Zr.of (eQ l _ hl)⟩,JA (K:=K) (a:=l) (xs:=xs) (fun i σ H'=>∃(ys:QH)(v3 v4 v5:QI),σ = [some (.ref l),some (.ref R),some (.int (rb (ls.take i)).2),v3,v4,v5]/\Zh H H'/\H' R=some (.lst ys)/\YR H' ys (rowsOf ls (i+1))/\(∀t,V.ref t∈ys->H t=none/\t≠R)/\ys.Nodup)
  ⟨[.ref e0],none,none,none,rfl,eQ,Zd,?_,?_,by simp⟩ (fun i σ H' _ ⟨_,_,_,_,_,sm,_⟩=>Zr.of (sm l _ hl)) ?_ ?_⟩
 ·refine Paired.cons ⟨e0,rfl,?_⟩ .nil;rw[Zi eP,Zd];rfl
 ·intro t ht;have:t=e0:=V.ref.inj (kR.mp ht);subst this;exact⟨bf,eP⟩
 ·rintro i x σ H' hx ⟨ys,v3,v4,v5,rfl,sm,S,rv,ap,nd⟩;obtain⟨⟨qx,Y⟩,tl,hq,rfl,gS⟩:=hL.get hx;have cP:=sm tl _ gS;have hi:i<ls.length:=(kC.mp hq).1;obtain⟨W,a8⟩:=Du hW hq;have eS:=rv;rw[Px] at eS;obtain⟨J,t,rfl,ht⟩:=eS.last;have cQ:(J ++ [V.ref t]).length<sizeLine:=by
   rw[rv.len];unfold rowsOf;rw[ke,qj];exact ZD (by lia)
  have Z:((rb (ls.take i)).1.map V.int).length=(rb (ls.take i)).1.length:=ke _;obtain⟨m,hm⟩:=GD hW i;have r8:(rb (ls.take i)).1.length<=900:=by have z1:=LD hm;have z2:=L6 hm;rw[kK] at z2;lia
  refine⟨tl,_,rfl,Y9.of cP,rfl,_,_,rfl,_,_,rfl,rfl,?_⟩;refine⟨_,rfl,1,rfl,R,_,_,_,rfl,rfl,Zr.of S,UO _ _,t,_,rfl,.inl (Zr.of ht),fun w hw=>?_⟩;have U:w≠R:=(Zg S hw).symm;refine⟨_,rfl,rfl,_,rfl,?_⟩;rcases a8 with⟨e,b0,b1⟩ | ⟨e,b0,b1⟩ | ⟨e,b0,b1⟩
  ·have e:qx = "born" := e;subst e;refine Z7 (fun _=>?_) (fun hn=>absurd (by simp) hn);have jK:0<=Y:=b0;have jJ:Y<=((rb (ls.take i)).1.length:Int):=b1;refine⟨_,rfl,.inl ⟨rfl,_,Zr.of Zd⟩,_,rfl,_,rfl,_,_,rfl,rfl,w,_,Y,_,rfl,rfl,Zd,jK,(by rw[Z];exact jJ),(by rw[Z];exact ZD (by lia)),(by rw[Z];lia),?_⟩;have jL:(((rb (ls.take i)).1.map V.int).take Y.toNat++V.int ((rb (ls.take i)).2+1)::((rb (ls.take i)).1.map V.int).drop Y.toNat).length=(rb (ls.take i)).1.length+1:=by
    rw[ki,Kk,kK,Kr,Z];lia
   refine⟨_,rfl,.inl ⟨rfl,_,Zr.of Zd⟩,_,rfl,_,rfl,w,_,Y,_,rfl,rfl,Zd,jK,(by rw[jL];lia),(by rw[jL];exact ZD (by lia)),(by rw[jL];lia),?_⟩;refine⟨_,rfl,_,_,rfl,rfl,?_⟩;rw[JF,JF,Vm _ _ _ _ (by rw[Z];lia)];have O:(upd H' w (.lst (((rb (ls.take i)).1.map V.int).take Y.toNat ++ [.int (rb (ls.take i)).2,.int ((rb (ls.take i)).2+1)]++((rb (ls.take i)).1.map V.int).drop Y.toNat))) R=some (.lst (J ++ [.ref t])):=(Zh.laid hw) R _ S;refine⟨_,rfl,.inl ⟨rfl,_,Zr.of O⟩,_,rfl,R,_,_,rfl,rfl,O,cQ,?_⟩;obtain⟨z1,z2,z3,z4⟩:=GP (G:=upd (upd H' w (.lst (((rb (ls.take i)).1.map V.int).take Y.toNat ++ [.int (rb (ls.take i)).2,.int ((rb (ls.take i)).2+1)]++((rb (ls.take i)).1.map V.int).drop Y.toNat))) R (.lst ((J ++ [.ref t]) ++ [.ref w]))) gT sm rv ap nd hw U (fun c o e n=>by
     rw[Zi n];exact(Zh.laid hw) c _ e) (by
     rw[Zi U,Zd,W,YJ,Gb];simp[kP,qT,qG])
   refine⟨J ++ [.ref t] ++ [.ref w],some (.str "born"),some (.int Y),some (.ref w),?_,z1,Zd,z2,z3,z4⟩;rw[W,YJ,Gb];rfl
  ·have e:qx = "cross" := e;subst e;refine Z7 (fun hn=>absurd (V.str.inj (kI hn)) nb1) (fun _=>?_);refine⟨_,rfl,rfl,_,rfl,?_⟩;refine Z7 (fun _=>?_) (fun hn=>absurd (by simp) hn);obtain⟨I,rfl⟩:=kF b0;have k1:I+1<(rb (ls.take i)).1.length:=by have b1:(I:Int)+1<_:=b1;lia
   have ec:((I:Int)+1)=((I+1:Nat):Int):=by lia
   have a1:atI ((rb (ls.take i)).1.map V.int) ((I:Int)+1)=some (V.int ((rb (ls.take i)).1.getD (I+1) 0)):=by rw[ec];exact Zn (map_getD _ k1)
   have a0:atI ((rb (ls.take i)).1.map V.int) (I:Int)=some (V.int ((rb (ls.take i)).1.getD I 0)):=Zn (map_getD _ (by lia));refine⟨_,rfl,_,rfl,_,_,rfl,rfl,w,_,_,_,rfl,rfl,Zr.of Zd,a1,_,rfl,_,rfl,w,_,_,_,rfl,rfl,Zr.of Zd,a0,sz2,fun tt bF=>?_⟩;have jI:w≠tt:=Zg (Zd (H:=H') (a:=w)) bF;refine⟨tt,_,rfl,Y9.of Zd,rfl,_,_,rfl,_,rfl,_,rfl,w,_,_,I,rfl,rfl,(by rw[Zi jI];exact Zd),(by rw[Z];exact Jh (by lia)),?_⟩;refine⟨_,_,rfl,_,rfl,_,rfl,_,_,rfl,rfl,w,_,_,I+1,rfl,rfl,Zd,(by rw[KQ,Z,ec];exact Jh k1),rfl,?_⟩;rw[JF,Sy];have O:(upd (upd (upd H' w (.lst ((rb (ls.take i)).1.map V.int))) tt (.tup [.int ((rb (ls.take i)).1.getD (I+1) 0),.int ((rb (ls.take i)).1.getD I 0)])) w (.lst ((Um (rb (ls.take i)).1 I).map V.int))) R=some (.lst (J ++ [.ref t])):=by rw[Zi (KA U)];exact(Zh.laid bF) R _ ((Zh.laid hw) R _ S)
   refine⟨_,rfl,.inl ⟨rfl,_,Zr.of O⟩,_,rfl,R,_,_,rfl,rfl,O,cQ,?_⟩;obtain⟨z1,z2,z3,z4⟩:=GP (G:=upd (upd (upd (upd H' w (.lst ((rb (ls.take i)).1.map V.int))) tt (.tup [.int ((rb (ls.take i)).1.getD (I+1) 0),.int ((rb (ls.take i)).1.getD I 0)])) w (.lst ((Um (rb (ls.take i)).1 I).map V.int))) R (.lst ((J ++ [.ref t]) ++ [.ref w]))) gT sm rv ap nd hw U (fun c o e n=>by
     rw[Zi n,Zi (Zg e hw)];exact(Zh.laid bF) c _ ((Zh.laid hw) c _ e)) (by
     rw[Zi U,Zd,W,YJ,Wc];rfl)
   refine⟨J ++ [.ref t] ++ [.ref w],some (.str "cross"),some (.int I),some (.ref w),?_,z1,Zd,z2,z3,z4⟩;rw[W,YJ,Wc];rfl
  ·have e:qx = "end" := e;subst e;refine Z7 (fun hn=>absurd (V.str.inj (kI hn)) nb2) (fun _=>?_);refine⟨_,rfl,rfl,_,rfl,?_⟩;refine Z7 (fun hn=>absurd (V.str.inj (kI hn)) nb3) (fun _=>?_);have jJ:Y+1<((rb (ls.take i)).1.length:Int):=b1;obtain⟨I,rfl⟩:=kF b0;have k1:I+1<(rb (ls.take i)).1.length:=by lia
   have l1:(((rb (ls.take i)).1.map V.int).eraseIdx I).length=(rb (ls.take i)).1.length-1:=by rw[Np (by rw[Z];lia),Z]
   refine⟨_,rfl,.inl ⟨rfl,_,Zr.of Zd⟩,_,rfl,w,_,_,I,_,rfl,rfl,Zd,by lia,by lia,(by rw[Z];exact Sz (by lia)),map_getD _ (by lia),?_⟩;obtain⟨y2,uZ⟩:∃y2,(((rb (ls.take i)).1.map V.int).eraseIdx I)[I]? = some y2:=⟨_,ko (by rw[l1];lia)⟩;refine⟨_,rfl,.inl ⟨rfl,_,Zr.of Zd⟩,_,rfl,w,_,_,I,_,rfl,rfl,Zd,by lia,by lia,(by rw[l1];exact Sz (by lia)),uZ,?_⟩;rw[JF,JF,Vn];have O:(upd H' w (.lst (((rb (ls.take i)).1.map V.int).take I++((rb (ls.take i)).1.map V.int).drop (I+2)))) R=some (.lst (J ++ [.ref t])):=(Zh.laid hw) R _ S;refine⟨_,rfl,.inl ⟨rfl,_,Zr.of O⟩,_,rfl,R,_,_,rfl,rfl,O,cQ,?_⟩;obtain⟨z1,z2,z3,z4⟩:=GP (G:=upd (upd H' w (.lst (((rb (ls.take i)).1.map V.int).take I++((rb (ls.take i)).1.map V.int).drop (I+2)))) R (.lst ((J ++ [.ref t]) ++ [.ref w]))) gT sm rv ap nd hw U (fun c o e n=>by
     rw[Zi n];exact(Zh.laid hw) c _ e) (by
     rw[Zi U,Zd,W,YJ,Ur,kM,kP,qT,qG])
   refine⟨J ++ [.ref t] ++ [.ref w],some (.str "end"),some (.int I),some (.ref w),?_,z1,Zd,z2,z3,z4⟩;rw[W,YJ,Ur];rfl
 ·rintro σ H' ⟨ys,v3,v4,v5,rfl,sm,S,rv,ap,nd⟩;rw[aF] at rv;exact⟨_,rfl,k R H' ys gT sm S rv ap nd⟩
inductive Ly(pr:Str->Bool)(vs:QH)(H:Hp)(Q:VK)(_E:XK):Prop|mk(l:Addr)(xs:QH)(ls:QB)(_:vs = [.ref l])(_:H l=some (.lst xs))(_:ZI H xs ls)(_:ls.length<=60)(_:∀p∈ls,Kd p.1)(_:∀(p:Addr)(H':Hp),H p=none->Zh H H'->H' p=some (.lst ((Ym ls pr ls.length).map V.int))->Q (.ref p) H')
inductive Bm(vs:QH)(H:Hp)(Q:VK)(_E:XK):Prop|mk(l:Addr)(kd:Str)(xs:QH)(ls:QB)(_:vs = [.ref l,.str kd])(_:H l=some (.lst xs))(_:ZI H xs ls)(_:ls.length<=60)(_:∀(p:Addr)(H':Hp),H p=none->Zh H H'->H' p=some (.lst ((Ym ls (fun x=>decide (x=kd)) ls.length).map V.int))->Q (.ref p) H')
abbrev Bn:Stmt:=top 2
theorem Fm:Zw ["drawing", "kind"] ["drawing", "kind"] (Zj Bn):={}
theorem Zh0 (F:JD K "letters_of" "letters_of" Bn f fd)(ZE:mg "enumerate" = none):Yc P w K mg base JZ 1 f fd ["drawing", "kind"] Bm:=by
 refine F.ok1 Fm fun aB A outer s H vs Q E hr h=>?_;obtain⟨l,kd,xs,ls,rfl,U,W,Y,k⟩:=h;refine⟨_,(Zf (Zv (WI (Ls:=["t", "letter"]) (Fs:=["kind"]) (fi:=[1]) Fm.lc rfl (Ws (K:=K) rfl (by rfl) ZE (Za (pv 0) Zb)) (fun cl C s3 H3 ex=>⟨(Z8 (K:=K) (n:=2) rfl rfl (Zo (YC (i:=0)) (Zo (YC (i:=1)) ZV))),(Dr (Zu Yp (Zy (Ys (K:=K)) (pv 1) Ze (fun _ _=>rfl)) (pv 2) (Zt _))),(pv 0)⟩)))),?_⟩;have I:=W.len;refine⟨_,rfl,l,rfl,⟨_,Zr.of U⟩,So (xs:=xs) (Kv (ZD (by lia))) (fun i ys H'=>Zh H H'/\ys=(Ym ls (fun x=>decide (x=kd)) i).map V.int) ⟨Zh.refl _,rfl⟩
  (fun i ys H' p=>by rw[p.2,ke];exact WE _ _ _) (fun i ys H' p=>Zr.of (p.1 l _ U)) (fun i x p ys H' hx pv J=>?_) (fun ys H' pv D Z=>?_)⟩
 ·obtain⟨sm,rfl⟩:=pv;obtain⟨q,t,hq,rfl,ht⟩:=W.get hx;have O:(upd H' p (.tup [.int i,.ref t])) t=some (.tup [.str q.1,.int q.2]):=by rw[Zi (Zg (sm t _ ht) J)];exact sm t _ ht
  refine⟨p,_,rfl,Y9.of Zd,rfl,_,_,rfl,_,_,rfl,rfl,?_⟩;refine⟨_,rfl,t,_,_,_,rfl,rfl,Y9.of O,Zn (j:=0) rfl,_,rfl,rfl,_,rfl,?_⟩;refine Z7 (fun S=>?_) (fun S=>?_)
  ·have e:q.1=kd:=V.str.inj (kI S);exact⟨_,rfl,sm.step J,Sr hq (by simpa using e)⟩
  ·have e:¬q.1=kd:=fun z=>S (kH (Kx V.str z));exact⟨sm.step J,Ss hq (by simpa using e)⟩
 ·obtain⟨sm,rfl⟩:=pv;rw[I];exact k D _ (sm.free Z) (sm.step Z) Zd
abbrev Bo:Stmt:=top 4
theorem ZiD:Zw nC nC (Zj Bo):={}
theorem Znk (F:JD K "ends_of" "ends_of" Bo f fd)(JM:Jk P w K mg base 1 "letters_of" ["drawing", "kind"] Bm):Yc P w K mg base JZ 2 f fd nC (Ly fun x=>decide (x = "end")):=by refine F.ok1 ZiD fun J A outer s H vs Q E O h=>?_;obtain⟨l,xs,ls,rfl,S,U,I,_,k⟩:=h;refine⟨_,(Zf (Zv (Zp JM O (Za (pv 0) (Za ZJ Zb))))),?_⟩;exact⟨_,rfl,l,_,xs,ls,rfl,S,U,I,k⟩
abbrev Bp:Stmt:=top 5
theorem Fn:Zw nC nC (Zj Bp):={}
theorem Zk0 (F:JD K "names_of" "names_of" Bp f fd)(ZE:mg "enumerate" = none):Yc P w K mg base JZ 1 f fd nC (Ly fun x=>!decide (x = "born")):=by
 refine F.ok1 Fn fun aB A outer s H vs Q E hr h=>?_;obtain⟨l,xs,ls,rfl,U,W,Y,_,k⟩:=h;refine⟨_,(Zf (Zv (WI (Ls:=["t", "letter"]) (Fs:=[]) (fi:=[]) Fn.lc rfl (Ws (K:=K) rfl (by rfl) ZE (Za (pv 0) Zb)) (fun cl C s3 H3 ex=>⟨(Z8 (K:=K) (n:=2) rfl rfl (Zo (YC (i:=0)) (Zo (YC (i:=1)) ZV))),(Dr (Zu LB (Zy (Ys (K:=K)) (pv 1) Ze (fun _ _=>rfl)) ZJ (Zt _))),(pv 0)⟩)))),?_⟩;have I:=W.len;refine⟨_,rfl,l,rfl,⟨_,Zr.of U⟩,So (xs:=xs) (Kv (ZD (by lia))) (fun i ys H'=>Zh H H'/\ys=(Ym ls (fun x=>!decide (x = "born")) i).map V.int) ⟨Zh.refl _,rfl⟩
  (fun i ys H' p=>by rw[p.2,ke];exact WE _ _ _) (fun i ys H' p=>Zr.of (p.1 l _ U)) (fun i x p ys H' hx pv J=>?_) (fun ys H' pv D Z=>?_)⟩
 ·obtain⟨sm,rfl⟩:=pv;obtain⟨q,t,hq,rfl,ht⟩:=W.get hx;have O:(upd H' p (.tup [.int i,.ref t])) t=some (.tup [.str q.1,.int q.2]):=by rw[Zi (Zg (sm t _ ht) J)];exact sm t _ ht
  refine⟨p,_,rfl,Y9.of Zd,rfl,_,_,rfl,_,_,rfl,rfl,?_⟩;refine⟨_,rfl,t,_,_,_,rfl,rfl,Y9.of O,Zn (j:=0) rfl,rfl,_,rfl,?_⟩;refine Z7 (fun S=>?_) (fun S=>?_)
  ·have e:¬q.1 = "born" := fun z=>by
    have:(!decide (V.str q.1=V.str "born"))=true:=S;rw[kH (Kx V.str z)] at this;cases this
   exact⟨_,rfl,sm.step J,Sr hq (by simpa using e)⟩
  ·have e:q.1 = "born" := by
    by_cases z:q.1 = "born"
    ·exact z
    ·exact absurd (show (!decide (V.str q.1=V.str "born"))=true by rw[Kh (fun y=>z (V.str.inj y))];rfl) S
   exact⟨sm.step J,Ss hq (by simpa using e)⟩
 ·obtain⟨sm,rfl⟩:=pv;rw[I];exact k D _ (sm.free Z) (sm.step Z) Zd
theorem Fo {H:Hp}:∀{xs:QH}{ls:QB}{i:Nat}{q:Str×Int},ZI H xs ls->ls[i]? = some q -> ∃t,xs[i]? = some (.ref t)/\H t=some (.tup [.str q.1,.int q.2])
 | _,_,_,_,.nil,e=>by simp at e
 | _,_,0,_,.cons ⟨t,e1,q⟩ _,e=>by simp at e;subst e;exact⟨t,by simp[e1],q⟩
 | _,_,i+1,q,.cons _ r,e=>by obtain⟨t,h1,h2⟩:=Fo (i:=i) (q:=q) r (by simpa using e);exact⟨t,by simpa using h1,h2⟩
inductive Bq(vs:QH)(H:Hp)(Q:VK)(_E:XK):Prop|mk(l n:Addr)(xs:QH)(ls:QB)(ns:QG)(_:vs = [.ref l,.ref n])(_:H l=some (.lst xs))(_:ZI H xs ls)(_:ls.length<=60)(_:Wk ls 0)(_:H n=some (.lst (ns.map V.int)))(_:ns.length<=60)(_:∀t∈ns,0<=t /\ ∃q,ls[t.toNat]? = some q/\q.1 ≠ "born")(_:∀(p:Addr)(H':Hp)(ys:QH),H p=none->Zh H H'->H' p=some (.lst ys)->JS H' ys (ns.map fun t=>YK ls t.toNat)->Q (.ref p) H')
abbrev Ux:Stmt:=top 20
theorem Jy:Zw ["drawing", "numbers", "rows", "found", "t", "k"] ["drawing", "numbers"] (Zj Ux):={}
theorem ZlN (F:JD K "pairs_ahead" "pairs_ahead" Ux f fd)(jM:Jk P w K mg base 1 "threads" nC Dv):Yc P w K mg base JZ 2 f fd ["drawing", "numbers"] Bq:=by
 refine F.ok1 Jy fun aB A outer s H vs Q E hr h=>?_;obtain⟨l,n,xs,ls,ns,rfl,hl,hL,S,hW,hn,cy,jN,k⟩:=h;refine⟨_,(Zc (Zz (i:=2) Jy.nd (Zp jM hr (Za (pv 0) Zb)))
  (Zc (Zz (i:=3) Jy.nd (Zx Zb))
  (Zc (Yr Ka rfl (ZU (K:=K) rfl (pv 1)) (ZT (i:=4) Jy.nd) (Zc (Zz (i:=5) Jy.nd (Zy (Ys (K:=K)) (Zy (Zl (K:=K)) (pv 0) (pv 4) (fun _ _=>rfl)) Ze (fun _ _=>rfl)))
  (Zf (ZY (Yd (K:=K) rfl (Yw kJ kU kW ZL (pv 3) (Za (ZN (Za (Zy (Zl (K:=K)) (Zy (Zl (K:=K)) (pv 2) (pv 4) (fun _ _=>rfl)) (pv 5) (fun _ _=>rfl)) (Za (Zy (Zl (K:=K)) (Zy (Zl (K:=K)) (pv 2) (pv 4) (fun _ _=>rfl)) (Zk ZC (pv 5) Ze) (fun _ _=>rfl)) Zb))) Zb)))))))
  (Zf (Zv (pv 3)))))),?_⟩
 refine⟨_,rfl,l,xs,ls,rfl,hl,hL,S,hW,fun R H1 ys fR U eR rv ap nd=>?_⟩;refine⟨sz0,fun W I=>?_⟩;have cR:=U l _ hl;have bh:=hL.same U;have Y:=U n _ hn;refine⟨_,rfl,n,rfl,⟨_,Zr.of ((Zh.laid I) n _ Y)⟩,JA (K:=K) (a:=n) (xs:=ns.map V.int) (fun i σ H'=>∃(zs:QH)(v4 v5:QI),σ = [some (.ref l),some (.ref n),some (.ref R),some (.ref W),v4,v5]/\Zh H1 H'/\H' W=some (.lst zs)/\JS H' zs ((ns.take i).map fun t=>YK ls t.toNat))
  ⟨[],none,none,rfl,Zh.laid I,Zd,.nil⟩ (fun i σ H' _ ⟨_,_,_,_,sm,_⟩=>Zr.of (sm n _ Y)) ?_ ?_⟩
 ·rintro i x σ H' hx ⟨zs,v4,v5,rfl,sm,O,pv⟩;obtain⟨t,ht,rfl⟩:=W0 hx;obtain⟨t0,⟨qx,qk⟩,hq,hb⟩:=jN t (kT ht);obtain⟨tn,rfl⟩:=kF t0;rw[kM] at hq;have gS:tn<ls.length:=(kC.mp hq).1;obtain⟨k0,k1,pe⟩:=DX hW hq hb;obtain⟨kn,rfl⟩:=kF (show 0<=qk from k0);simp only[kM] at k1 pe;obtain⟨ta,ax,aO⟩:=Fo bh hq;obtain⟨ra,Z,bi⟩:=rv.at (CZ ls (i:=tn) (n:=ls.length+1) (by lia));have e1:((kn:Int)+1)=((kn+1:Nat):Int):=by lia
  refine⟨_,rfl,_,rfl,l,_,_,_,rfl,rfl,Zr.of (sm l _ cR),Zn ax,ta,_,_,_,rfl,rfl,Y9.of (sm ta _ aO),Zn (j:=1) rfl,?_⟩;refine⟨_,rfl,.inl ⟨rfl,_,Zr.of O⟩,_,rfl,_,rfl,R,_,_,_,rfl,rfl,Zr.of (sm R _ eR),Zn Z,_,rfl,ra,_,_,_,rfl,rfl,Zr.of (sm ra _ bi),Zn (map_getD _ (by lia)),?_⟩;refine⟨_,rfl,_,rfl,R,_,_,_,rfl,rfl,Zr.of (sm R _ eR),Zn Z,_,rfl,_,_,rfl,rfl,ra,_,_,_,rfl,rfl,Zr.of (sm ra _ bi),(by rw[e1];exact Zn (map_getD _ k1)),sz2,fun tt J=>?_⟩;have eU:W≠tt:=Zg O J;have zl:zs.length<sizeLine:=by rw[pv.len,ke,kK];exact ZD (by lia)
  refine⟨W,_,_,rfl,rfl,(by rw[Zi eU];exact O),zl,?_⟩;refine⟨zs ++ [.ref tt],some (.int tn),some (.int kn),rfl,(sm.step J).put I,Zd,?_⟩;rw[Jm _ ht];refine JS.snoc (pv.mono fun a p e=>?_) ?_
  ·rw[Zi (LQ e O (by intro z;cases z)),Zi (Zg e J)];exact e
  ·rw[Zi (KA eU),Zd,kM,pe]
 ·rintro σ H' ⟨zs,v4,v5,rfl,sm,O,pv⟩;refine⟨_,rfl,k W H' zs (U.free I) (U.trans sm) O ?_⟩;rw[ke,kL (km _)] at pv;exact pv
inductive Br(vs:QH)(H:Hp)(Q:VK)(_E:XK):Prop|mk(l:Addr)(xs:QH)(ls:QB)(_:vs = [.ref l])(_:H l=some (.lst xs))(_:ZI H xs ls)(_:ls.length<=60)(_:Wk ls 0)(_:∀(p:Addr)(H':Hp)(ys:QH),H p=none->Zh H H'->H' p=some (.lst ys)->JS H' ys (Jb ls)->Q (.ref p) H')
abbrev Bs:Stmt:=top 21
theorem Zgu:Zw nC nC (Zj Bs):={}
theorem ZfE (F:JD K "end_pairs" "end_pairs" Bs f fd)(Jo:Jk P w K mg base 2 "pairs_ahead" ["drawing", "numbers"] Bq)(JG:Jk P w K mg base 2 "ends_of" nC (Ly fun x=>decide (x = "end"))):Yc P w K mg base JZ 3 f fd nC Br:=by refine F.ok1 Zgu fun W A outer s H vs Q E O h=>?_;obtain⟨l,xs,ls,rfl,S,U,I,V,k⟩:=h;refine⟨_,(Zf (Zv (Zp Jo O (Za (pv 0) (Za (Zp JG O (Za (pv 0) Zb)) Zb))))),?_⟩;refine⟨_,rfl,_,rfl,l,xs,ls,rfl,S,U,I,V.kd,fun n H1 hn J Y=>?_⟩;refine⟨l,n,xs,ls,Ym ls UP ls.length,rfl,J l _ S,U.same J,I,V,Y,Kb (WE _ _ _) I,fun t Z=>?_,fun p H2 ys hp s2 e2 pv=>k p H2 ys (J.free hp) (J.trans s2) e2 pv⟩;obtain⟨a,_,q,hq,z⟩:=SV Z;refine⟨a,q,hq,fun z2=>?_⟩;have z:q.1 = "end" := kI z;rw[z2] at z;exact nb2 z.symm
inductive Bt(vs:QH)(H:Hp)(Q:VK)(_E:XK):Prop|mk(x:Int)(_:vs = [.int x])(_:0<=x)(_:Q (.int (bw x)) H)
abbrev Bu:Stmt:=top 22
theorem ZfI:Zw ["thread"] ["thread"] (Zj Bu):={}
theorem ZrO (F:JD K "born_with" "born_with" Bu f fd):Yc P w K mg base JZ 1 f fd ["thread"] Bt:=by refine F.ok1 ZfI fun I A outer s H vs Q E J h=>?_;obtain⟨x,rfl,h0,k⟩:=h;refine⟨_,(Zf (Zv (Zk EK (pv 0) Ze))),?_⟩;refine⟨_,rfl,_,_,rfl,rfl,?_⟩;show Q (.int (Builtin.bitXor x 1)) H;rw[VC h0];exact k
def tab {α:Type}(N:Nat)(g:Int -> α):List α:=(List.range N).map fun(x:Nat)=>g (x:Int)
theorem GC (N:Nat)(g:Int -> α):(tab N g).length=N:=by simp[tab]
theorem Io (g:Int -> α)(h:j<N):(tab N g)[j]? = some (g (j:Int)):=by unfold tab;rw[kE];simp[h]
theorem Jn {g g':Int -> α}(h:∀x:Int,0<=x->x<(N:Int)->g x=g' x):tab N g=tab N g':=by unfold tab;refine M0 fun x F=>?_;have:=Ku.mp F;exact h x (by lia) (by lia)
theorem Ci (g:Int -> α)(j:Nat)(v:α):(tab N g).set j v=tab N (fun x=>if x=(j:Int) then v else g x):=by
 apply XI;intro i;rw[qm,GC];by_cases hi:i<N
 ·rw[Io _ hi,Io _ hi];by_cases e:j=i
  ·subst e;simp[hi]
  ·rw[kh e,kh (by lia)]
 ·rw[show (tab N g)[i]? = none from Ny.mpr (by rw[GC];lia),show (tab N (fun x=>if x=(j:Int) then v else g x))[i]? = none from Ny.mpr (by rw[GC];lia)];by_cases e:j=i
  ·subst e;rw[kj rfl,kh hi]
  ·rw[kh e]
theorem Cj {β:Type}(N:Nat)(g:Int -> α)(f:α -> β):(tab N g).map f=tab N (fun x=>f (g x)):=by unfold tab;rw[T8];rfl
theorem DE (N:Nat)(v:α):(List.replicate N [v]).flatten=tab N (fun _=>v):=by
 unfold tab
 induction N with
 | zero=>rfl
 | succ n ih=>rw[Xl,qY,ih,KN,kP];simp
theorem Bv:∀{ps:QL}{u l x:Int},u∉ZK ps->l∉ZK ps->u≠l->JB (ps ++ [(u,l)]) x=if x=l then u else if x=u then l else JB ps x
 | [],u,l,x,_,_,ne=>by
  simp only[Xz,JB];by_cases h1:x=u
  ·subst h1;simp[ne]
  ·simp[h1]
 | p::r,u,l,x,hu,hl,ne=>by
  have e:ZK (p::r)=p.1::p.2::ZK r:=by simp[ZK]
  rw[e] at hu hl;simp only[kQ,not_or] at hu hl;have F:=Bv (x:=x) hu.2.2 hl.2.2 ne;simp only[NX,JB,F];by_cases h1:x=p.1
  ·subst h1;simp[KA hu.1,KA hl.1]
  ·by_cases h2:x=p.2
   ·subst h2;simp[h1,KA hu.2.1,KA hl.2.1]
   ·simp[h1,h2]
theorem ZhV {ps:QL}{p:Int×Int}(h:ps[i]? = some p):ZK (ps.take (i+1))=ZK (ps.take i) ++ [p.1,p.2]:=by rw[Ki,h,Ji];simp[ZK]
theorem ZlG {ps:QL}(nd:(ZK ps).Nodup){p:Int×Int}(h:ps[i]? = some p):p.1∉ZK (ps.take i)/\p.2∉ZK (ps.take i)/\p.1≠p.2:=by have e:ps=ps.take (i+1)++ps.drop (i+1):=(KP _ _).symm;rw[e,Ji,ZhV h] at nd;have nd:=(qB.mp nd).1;obtain⟨_,I,F⟩:=qB.mp nd;refine⟨fun z=>F _ z _ (by simp) rfl,fun z=>F _ z _ (by simp) rfl,?_⟩;have:=KL.mp I;simpa using this.1
theorem Fp (F:Wk ls 0){p:Int×Int}(h:p∈Jb ls):(0<=p.1/\p.1<(Jp ls:Int))/\(0<=p.2/\p.2<(Jp ls:Int)):=
 ⟨YV.mp ((W8 F).mem_iff.mp (KO.mpr ⟨p,h,by simp⟩)),YV.mp ((W8 F).mem_iff.mp (KO.mpr ⟨p,h,by simp⟩))⟩
theorem Fq (F:Wk ls 0):(ZK (Jb ls)).Nodup:=(W8 F).nodup_iff.mpr (GQ _)
inductive Ft(vs:QH)(H:Hp)(Q:VK)(_E:XK):Prop|mk(l:Addr)(xs:QH)(ls:QB)(_:vs = [.ref l])(_:H l=some (.lst xs))(_:ZI H xs ls)(_:ls.length<=60)(_:Wk ls 0)(_:∀(p:Addr)(H':Hp),H p=none->Zh H H'->H' p=some (.lst ((tab (Jp ls) (JB (Jb ls))).map V.int))->Q (.ref p) H')
abbrev Bw:Stmt:=top 23
theorem Wx:Zw ["drawing", "pairs", "mates", "upper", "lower"] nC (Zj Bw):={}
theorem Zlo (F:JD K "end_mates" "end_mates" Bw f fd)(Wj:Jk P w K mg base 3 "end_pairs" nC Br)(Yl:mg "len" = none):Yc P w K mg base JZ 4 f fd nC Ft:=by
 refine F.ok1 Wx fun aB A outer s H vs Q E hr h=>?_;obtain⟨l,xs,ls,rfl,hl,hL,I,hW,k⟩:=h;refine⟨_,(Zc (Zz (i:=1) Wx.nd (Zp Wj hr (Za (pv 0) Zb)))
  (Zc (Zz (i:=2) Wx.nd (Zk LW (Zx (Za Ze Zb)) (Zk Wn Ze (Zs (Yq (K:=K)) (by rfl) Yl KR (Za (pv 1) Zb)))))
  (Zc (Yr Ka rfl (ZU (K:=K) rfl (pv 1)) (Z8 (K:=K) (n:=2) rfl rfl (Zo (ZT (i:=3) Wx.nd) (Zo (ZT (i:=4) Wx.nd) ZV))) (Zc (Yz (pv 4) (YI (pv 2) (pv 3) set_list))
  (Zf (Yz (pv 3) (YI (pv 2) (pv 4) set_list)))))
  (Zf (Zv (pv 2)))))),?_⟩
 refine⟨_,rfl,l,xs,ls,rfl,hl,hL,I,hW,fun J H1 ys fp s1 ep pv=>?_⟩;have ac:=WM I;have yl:2*ys.length=Jp ls:=by rw[pv.len];rfl
 refine⟨sz1,fun l0 O=>?_⟩;have u4:=(Zh.laid (o:=.lst [.int 0]) O) J _ ep;refine⟨_,rfl,J,_,rfl,.inl (Zr.of u4),_,_,rfl,rfl,.inl ⟨by decide,by decide⟩,?_⟩;have e2:((2:Int)*(ys.length:Int))=((Jp ls:Nat):Int):=by lia
 refine⟨l0,_,_,rfl,rfl,Zd,by lia,by lia,?_,fun mA U=>?_⟩
 ·rw[e2];show 1*_<=sizeLine;exact Kv (ZD (by lia))
 have S:H1 mA=none:=(Zh.laid O).free U;have W:Zh H1 (upd (upd H1 l0 (.lst [.int 0])) mA (.lst (List.replicate ((2:Int)*(ys.length:Int)).toNat [V.int 0]).flatten)):=(Zh.laid O).step U;refine⟨_,rfl,J,rfl,⟨_,Zr.of (W J _ ep)⟩,JA (K:=K) (a:=J) (xs:=ys) (fun i σ H'=>∃(v3 v4:QI),σ = [some (.ref l),some (.ref J),some (.ref mA),v3,v4]/\Zh H1 H'/\H' mA=some (.lst ((tab (Jp ls) (JB ((Jb ls).take i))).map V.int)))
  ⟨none,none,rfl,W,?_⟩ (fun i σ H' _ ⟨_,_,_,sm,_⟩=>Zr.of (sm J _ ep)) ?_ ?_⟩
 ·rw[Zd,e2,kM,DE,Cj];rfl
 ·rintro i x σ H' hx ⟨v3,v4,rfl,sm,Z⟩;obtain⟨p,t,hp,rfl,ht⟩:=pv.get hx;obtain⟨u,lw⟩:=p;obtain⟨⟨d1,d2⟩,d3,d4⟩:=Fp hW (kT hp);obtain⟨n1,n2,n3⟩:=ZlG (Fq hW) hp;obtain⟨un,rfl⟩:=kF (show 0<=u from d1);obtain⟨Y,rfl⟩:=kF (show 0<=lw from d3);have d2:(un:Int)<_:=d2;have d4:(Y:Int)<_:=d4;refine⟨t,_,rfl,Y9.of (sm t _ ht),rfl,_,_,rfl,_,_,rfl,rfl,?_⟩;refine⟨_,rfl,_,rfl,_,rfl,mA,_,_,un,rfl,rfl,Z,(by rw[ke,GC];exact Jh (by lia)),?_⟩;refine⟨_,rfl,_,rfl,_,rfl,mA,_,_,Y,rfl,rfl,Zd,(by rw[KQ,ke,GC];exact Jh (by lia)),?_⟩;refine⟨some (.int un),some (.int Y),rfl,(sm.put S).put S,?_⟩;rw[Zd,<- qZ,<- qZ,Ci,Ci,Ki,hp];congr 2;refine Kx (List.map V.int) (Jn fun x _ _=>?_);rw[show (some ((un:Int),(Y:Int))).toList = [((un:Int),(Y:Int))] from rfl,Bv n1 n2 n3]
 ·rintro σ H' ⟨v3,v4,rfl,sm,Z⟩;refine⟨_,rfl,k mA H' (s1.free S) (s1.trans sm) ?_⟩;rw[pv.len,kL (km _)] at Z;exact Z
theorem DF (m:QX)(h0:0<=x)(h1:x<(N:Int)):atI ((tab N m).map V.int) x=some (V.int (m x)):=by obtain⟨n,rfl⟩:=kF h0;refine Zn ?_;rw[kE,Io _ (by lia)];rfl
inductive Fu(vs:QH)(H:Hp)(Q:VK)(_E:XK):Prop|mk(f:Int)(mA:Addr)(m:QX)(N:Nat)(_:vs = [.int f,.ref mA])(_:H mA=some (.lst ((tab N m).map V.int)))(_:Wa m N)(_:N<=200)(_:0<=f)(_:f<(N:Int))(_:∀(p:Addr)(H':Hp)(T:QG),H p=none->Zh H H'->H' p=some (.lst (T.map V.int))->Jq m f T->Q (.ref p) H')
abbrev Bx:Stmt:=top 24
theorem U9:Zw ["first", "mates", "tour", "onward"] ["first", "mates"] (Zj Bx):={}
theorem ZnI (F:JD K "tour_from" "tour_from" Bx f fd)(Jz:Jk P w K mg base 1 "born_with" ["thread"] Bt):Yc P w K mg base JZ 2 f fd ["first", "mates"] Fu:=by
 refine F.ok1 U9 fun aB A outer s H vs Q E hr h=>?_;obtain⟨f,mA,m,N,rfl,hm,M,hN,h0,h1,k⟩:=h;refine⟨_,(Zc (Zz (i:=2) U9.nd (Zx (Za (pv 0) (Za (Zy (Zl (K:=K)) (pv 1) (pv 0) (fun _ _=>rfl)) Zb))))
  (Zc (Cz Ka (Zu LB (Zp Jz hr (Za (Zy (Zl (K:=K)) (pv 2) (UY WO Ze) (fun _ _=>rfl)) Zb)) (pv 0) (Zt _)) (Zc (Zz (i:=3) U9.nd (Zp Jz hr (Za (Zy (Zl (K:=K)) (pv 2) (UY WO Ze) (fun _ _=>rfl)) Zb)))
  (Zc (ZY (Yd (K:=K) rfl (Yw kJ kU kW ZL (pv 2) (Za (pv 3) Zb))))
  (Zf (ZY (Yd (K:=K) rfl (Yw kJ kU kW ZL (pv 2) (Za (Zy (Zl (K:=K)) (pv 1) (pv 3) (fun _ _=>rfl)) Zb))))))))
  (Zf (Zv (pv 2))))),?_⟩
 have dom:=YL M h0 h1;have J:∀i,0<=m (gt m f i)/\m (gt m f i)<N:=fun i=>⟨M.lo _ (dom i).1 (dom i).2,M.hi _ (dom i).1 (dom i).2⟩;have ol:∀i,(Gh m f (i+1)).map V.int=((Gh m f i).map V.int ++ [V.int (gt m f i)]) ++ [V.int (m (gt m f i))]:=fun i=>by simp[Gh]
 refine⟨_,rfl,_,rfl,_,rfl,mA,_,_,_,rfl,rfl,Zr.of hm,DF m h0 h1,sz2,fun tA I=>?_⟩;refine⟨fun mm σ H'=>∃(i:Nat)(Y:QI),mm+i=N /\ σ = [some (.int f),some (.ref mA),some (.ref tA),Y]/\Zh H H'/\H' tA=some (.lst ((Gh m f (i+1)).map V.int))/\(∀j,1<=j->j<i+1->gt m f j≠f),
  ⟨N,0,none,rfl,rfl,Zh.laid I,Zd,fun j a b=>by lia⟩,?_⟩
 rintro mm σ H' ⟨i,Y,hi,rfl,sm,S,nf⟩;have eV:=UQ M h0 h1 nf;refine⟨_,rfl,1,rfl,tA,_,_,V.int (m (gt m f i)),rfl,rfl,Zr.of S,(by rw[ol];exact UO _ _),_,rfl,(J i).1,_,rfl,rfl,_,rfl,?_⟩;refine Z7 (fun O=>?_) (fun O=>?_)
 ·have ne:gt m f (i+1)≠f:=fun z=>by
   have O:(!decide (V.int (bw (m (gt m f i)))=V.int f))=true:=O;rw[kH (show V.int (bw (m (gt m f i)))=V.int f from Kx V.int z)] at O;cases O
  have U:∀j,1<=j->j<i+2->gt m f j≠f:=fun j a b=>by
   by_cases e:j=i+1
   ·rw[e];exact ne
   ·exact nf j a (by lia)
  have Z:=UQ M h0 h1 U;refine⟨fun W aH=>∃Y:QI,W = [some (.int f),some (.ref mA),some (.ref tA),Y]/\Zh H aH/\aH tA=some (.lst ((Gh m f (i+2)).map V.int)),fun W aH ⟨v,e,a,b⟩=>⟨mm-1,by lia,i+1,v,by lia,e,a,b,U⟩,?_⟩;refine⟨_,rfl,1,rfl,tA,_,_,V.int (m (gt m f i)),rfl,rfl,Zr.of S,(by rw[ol];exact UO _ _),_,rfl,(J i).1,?_⟩;refine⟨_,rfl,.inl ⟨rfl,_,Zr.of S⟩,_,rfl,tA,_,_,rfl,rfl,S,(by rw[ke,W6];exact ZD (by lia)),?_⟩;have u5:tA≠mA:=fun z=>by rw[z,hm] at I;cases I
  refine⟨_,rfl,.inl ⟨rfl,_,Zr.of Zd⟩,_,rfl,_,rfl,mA,_,_,_,rfl,rfl,Zr.of (by rw[Zi (KA u5)];exact sm mA _ hm),DF m (dom (i+1)).1 (dom (i+1)).2,tA,_,_,rfl,rfl,Zd,(by rw[ki,ke,W6];exact ZD (by show _+1<=1000;lia)),?_⟩;refine⟨_,rfl,(sm.put I).put I,?_⟩;rw[Zd,ol (i+1)];rfl
 ·have e:gt m f (i+1)=f:=by
   by_cases z:gt m f (i+1)=f
   ·exact z
   ·exact absurd (show (!decide (V.int (gt m f (i+1))=V.int f))=true by rw[Kh (fun y=>z (V.int.inj y))];rfl) O
  exact⟨_,rfl,k tA H' (Gh m f (i+1)) I sm S ⟨i+1,by lia,e,nf,rfl⟩⟩
inductive Bz(vs:QH)(H:Hp)(Q:VK)(_E:XK):Prop|mk(l:Addr)(xs:QH)(ls:QB)(_:vs = [.ref l])(_:H l=some (.lst xs))(_:ZI H xs ls)(_:ls.length<=60)(_:Wk ls 0)(_:∀(p:Addr)(H':Hp)(ys:QH)(ts:QA),H p=none->Zh H H'->H' p=some (.lst ys)->YR H' ys ts->(∀t,V.ref t∈ys->H t=none)->UK (JB (Jb ls)) (Jp ls) ts->Q (.ref p) H')
theorem Fv (g:Int->V)(h0:0<=x)(h1:x<(N:Int)):atI (tab N g) x=some (g x):=by obtain⟨n,rfl⟩:=kF h0;exact Zn (Io _ (by lia))
abbrev BA:Stmt:=top 25
theorem G8:Zw ["drawing", "mates", "gone", "found", "first", "tour", "thread"] nC (Zj BA):={}
theorem Zmf (F:JD K "tours" "tours" BA f fd)(jO:Jk P w K mg base 4 "end_mates" nC Ft)(jP:Jk P w K mg base 2 "tour_from" ["first", "mates"] Fu)(Yl:mg "len" = none)(ZM:mg "range" = none):Yc P w K mg base JZ 5 f fd nC Bz:=by
 refine F.ok1 G8 fun aB A outer s H vs Q E hr h=>?_;obtain⟨l,xs,ls,rfl,hl,hL,Y,hW,k⟩:=h;have ac:=WM Y;have M:=WQ hW;generalize u6:JB (Jb ls)=m at *;generalize bz:Jp ls=N at *;refine⟨_,(Zc (Zz (i:=1) G8.nd (Zp jO hr (Za (pv 0) Zb)))
  (Zc (Zz (i:=2) G8.nd (Zk LW (Zx (Za Wf Zb)) (Zs (Yq (K:=K)) (by rfl) Yl KR (Za (pv 1) Zb))))
  (Zc (Zz (i:=3) G8.nd (Zx Zb))
  (Zc (Yr Ka rfl (YA (by rfl) ZM (Za (Zs (Yq (K:=K)) (by rfl) Yl KR (Za (pv 1) Zb)) Zb)) (ZT (i:=4) G8.nd) (Zf (ZP (J4 (JC (Zy (Zl (K:=K)) (pv 2) (pv 4) (fun _ _=>rfl)))) (Zc (Zz (i:=5) G8.nd (Zp jP hr (Za (pv 4) (Za (pv 1) Zb))))
  (Zc (Yr Ka rfl (ZU (K:=K) rfl (pv 5)) (ZT (i:=6) G8.nd) (Zf (Yz Wf (YI (pv 2) (pv 6) set_list))))
  (Zf (ZY (Yd (K:=K) rfl (Yw kJ kU kW ZL (pv 3) (Za (pv 5) Zb))))))) ZF)))
  (Zf (Zv (pv 3))))))),?_⟩
 refine⟨_,rfl,l,xs,ls,rfl,hl,hL,Y,hW,fun mA H1 fm s1 em=>?_⟩;rw[u6,bz] at em;refine⟨sz1,fun l0 aX=>?_⟩;refine⟨_,rfl,mA,_,rfl,.inl (Zr.of ((Zh.laid aX) mA _ em)),?_⟩;have el:((((tab N m).map V.int).length:Nat):Int)=((N:Nat):Int):=by rw[ke,GC]
 rw[el];refine⟨l0,_,_,rfl,rfl,Zd,by lia,by lia,(by show 1*_<=sizeLine;exact Kv (ZD (by lia))),fun I hgA=>?_⟩;obtain⟨H2,jQ⟩:∃H2,H2=upd (upd H1 l0 (.lst [.bl false])) I (.lst (List.replicate ((N:Nat):Int).toNat [V.bl false]).flatten):=⟨_,rfl⟩;rw[<- jQ];have dC:Zh H1 H2:=by rw[jQ];exact(Zh.laid aX).step hgA
 have u8:H1 I=none:=(Zh.laid aX).free hgA;have oK:H2 I=some (.lst (tab N fun _=>V.bl false)):=by rw[jQ,Zd,kM,DE]
 refine⟨sz0,fun J U=>?_⟩;have gU:H1 J=none:=dC.free U;have eY:I≠J:=Zg oK U;refine⟨_,rfl,mA,_,rfl,.inl (Zr.of ((dC.step U) mA _ em)),((N:Nat):Int),Kx (fun z=>[V.int z]) el,by lia,by lia,Jl (n:=((N:Nat):Int).toNat) (fun i σ H'=>∃(ys:QH)(ts:QA)(v4 v5 Z:QI),σ = [some (.ref l),some (.ref mA),some (.ref I),some (.ref J),v4,v5,Z]/\Zh H1 H'/\H' I=some (.lst (tab N fun x=>V.bl (decide (x∈ts.flatten))))/\H' J=some (.lst ys)/\YR H' ys ts/\UK m i ts/\(∀t,V.ref t∈ys->t≠I/\t≠J/\H1 t=none))
  ⟨[],[],none,none,none,rfl,dC.step U,?_,Zd,.nil,.nil,fun t O=>by cases O⟩ ?_ ?_⟩
 ·rw[Zi eY,oK];exact Kx (fun z=>some (HO.lst z)) (Jn fun x _ _=>by simp)
 ·rintro i σ H' hi ⟨ys,ts,v4,v5,Z,rfl,sm,hg,hf,rv,tr,ap⟩;rw[kM] at hi;have e0:(0:Int)+(i:Int)=(i:Int):=Int.zero_add _;have good:=tr.good M (by lia);refine⟨_,rfl,_,rfl,I,_,_,_,rfl,rfl,Zr.of hg,Fv _ (by lia) (by lia),_,rfl,?_⟩;rw[e0];by_cases W:(i:Int)∈ts.flatten
  ·rw[kH W];refine YD ?_;exact⟨ys,ts,_,v5,Z,rfl,sm,hg,hf,rv,tr.skip W,ap⟩
  ·rw[Kh W];refine JU ?_;refine⟨_,rfl,_,rfl,_,mA,m,N,rfl,sm mA _ em,M,by lia,by lia,by lia,fun tA H3 T jR s3 eT dD=>?_⟩;have jS:=dD.dom M (by lia) (by lia);have u9:=dD.len M (by lia) (by lia);have jT:tA≠I:=(Zg hg jR).symm;have oM:tA≠J:=(Zg hf jR).symm;refine⟨_,rfl,tA,rfl,⟨_,Zr.of eT⟩,JA (K:=K) (a:=tA) (xs:=T.map V.int) (fun j σ aH=>∃Z:QI,σ = [some (.ref l),some (.ref mA),some (.ref I),some (.ref J),some (.int (i:Int)),some (.ref tA),Z]/\Y5 I H3 aH/\aH I=some (.lst (tab N fun x=>V.bl (decide (x∈ts.flatten∨x∈T.take j)))))
    ⟨_,rfl,Y5.refl _ _,?_⟩ (fun j σ aH _ ⟨_,_,fr,_⟩=>Zr.of (fr tA _ eT jT)) ?_ ?_⟩
   ·rw[s3 I _ hg];exact Kx (fun z=>some (HO.lst z)) (Jn fun x _ _=>by simp)
   ·rintro j x σ aH hx ⟨Z,rfl,fr,S⟩;obtain⟨t,O,rfl⟩:=W0 hx;obtain⟨d0,d1⟩:=jS t (kT O);obtain⟨tn,rfl⟩:=kF d0;refine⟨_,rfl,_,rfl,I,_,_,tn,rfl,rfl,S,(by rw[GC];exact Jh (by lia)),?_⟩;refine⟨_,rfl,fr.trans Y5.upd,?_⟩;rw[Zd,Ci];refine Kx (fun z=>some (HO.lst z)) (Jn fun x _ _=>?_);rw[Ki,O];by_cases e:x=(tn:Int)
    ·rw[kj e];congr 1;exact(kH (.inr (by rw[e];simp))).symm
    ·rw[kh e];congr 1;exact qP.mpr (by simp[e])
   ·rintro σ aH ⟨Z,rfl,fr,S⟩;have ad:=fr J _ (s3 J _ hf) (KA eY);refine⟨_,rfl,.inl ⟨rfl,_,Zr.of ad⟩,_,rfl,J,_,_,rfl,rfl,ad,(by rw[rv.len];have:=tr.len M (by lia);exact ZD (by lia)),?_⟩;have keep:∀c o,H' c=some o->c≠I->c≠J->(upd aH J (.lst (ys ++ [.ref tA]))) c=some o:=fun c o e n1 n2=>by
     rw[Zi n2];exact fr c o (s3 c o e) n1
    refine⟨ys ++ [.ref tA],ts ++ [T],_,_,_,rfl,fun c o e=>keep c o (sm c o e) (Zg e u8) (Zg e gU),?_,Zd,?_,tr.add W dD,fun t O=>?_⟩
    ·rw[Zi eY,S,ke,kL (km _)];refine Kx (fun z=>some (HO.lst z)) (Jn fun x _ _=>?_);congr 1;exact qP.mpr (by rw[qY];simp)
    ·refine YR.snoc (rv.mono fun t o O e=>keep t o e (ap t O).1 (ap t O).2.1) ?_;rw[Zi oM];exact fr tA _ eT jT
    ·rcases Kg.mp O with z | z
     ·exact ap t z
     ·have:t=tA:=V.ref.inj (kR.mp z);subst this;exact⟨jT,oM,sm.free jR⟩
 ·rintro σ H' ⟨ys,ts,v4,v5,Z,rfl,sm,hg,hf,rv,tr,ap⟩;rw[kM] at tr;exact⟨_,rfl,k J H' ys ts (s1.free gU) (s1.trans sm) hf rv (fun t O=>s1.free (ap t O).2.2) tr⟩
def Yg (ps:QL)(x:Int):Int:=if x∈ps.map (·.1) then 1 else -1
inductive DV (H:Hp):List (Key×V)->List (Int×Int)->Prop
 | nil:DV H [] []
 | snoc {kvs:QD}{ps:QL}{u l:Int}{a b:Addr}:DV H kvs ps->H a=some (.tup [.int l,.int 1])->H b=some (.tup [.int u,.int (-1)])->DV H (kvs ++ [(Sum.inl u,.ref a),(Sum.inl l,.ref b)]) (ps ++ [(u,l)])
theorem DV.mono (h:∀t p,H t=some (.tup p)->H' t=some (.tup p)){ps:QL}(d:DV H kvs ps):DV H' kvs ps:=by
 induction d with
 | nil=>exact .nil
 | snoc _ ea eb ih=>exact .snoc ih (h _ _ ea) (h _ _ eb)
theorem DV.keys {ps:QL}(d:DV H kvs ps):kvs.map (·.1)=(ZK ps).map Sum.inl:=by
 induction d with
 | nil=>rfl
 | snoc _ _ _ ih=>rw[kP,ih,Ji,kP];rfl
theorem DV.len {ps:QL}(d:DV H kvs ps):kvs.length=2*ps.length:=by have:=Kx List.length d.keys;simpa [UW] using this
theorem Fw {k:Key}(h:k∉kvs.map (·.1)):putK kvs k v=kvs ++ [(k,v)]:=by unfold putK;rw[kh];intro z;rw[List.any_eq_true] at z;obtain⟨p,F,e⟩:=z;exact h (Kw.mpr ⟨p,F,kI e⟩)
theorem Fx {k:Key}(h:k∉kvs.map (·.1)):(kvs.find? fun F=>decide (F.1=k))=none:=by rw[List.find?_eq_none];intro p I z;exact h (Kw.mpr ⟨p,I,kI z⟩)
theorem Ip {ps:QL}(d:DV H kvs ps)(h:x∉ZK ps):(Sum.inl x:Key)∉kvs.map (·.1):=by rw[d.keys];intro z;obtain⟨y,F,e⟩:=Kw.mp z;cases e;exact h F
theorem DV.look {ps:QL}(d:DV H kvs ps):(ZK ps).Nodup -> ∀x∈ZK ps,∃a,JW kvs (Sum.inl x)=some (.ref a)/\H a=some (.tup [.int (JB ps x),.int (Yg ps x)]):=by
 induction d with
 | nil=>intro _ x F;cases F
 | @snoc kvs ps u l a b d ea eb ih=>
  intro nd x F;rw[Ji] at nd F;have V:ZK [(u,l)] = [u,l]:=by simp[ZK]
  rw[V] at nd F;obtain⟨W,Y,S⟩:=qB.mp nd;have O:u∉ZK ps:=fun z=>S u z u (by simp) rfl;have J:l∉ZK ps:=fun z=>S l z l (by simp) rfl;have ne:u≠l:=by have:=(KL.mp Y).1;simpa using this
  rw[Bv O J ne];have dn:Yg (ps ++ [(u,l)]) x=if x=u then 1 else Yg ps x:=by
   unfold Yg;rw[kP];by_cases e:x=u
   ·simp[e]
   ·rw[kh e];by_cases q:x∈ps.map (·.1)
    ·rw[kj q,kj (K9 _ q)]
    ·rw[kh q,kh (fun z=>(Kg.mp z).elim q (fun z=>e (by simpa using z)))]
  rw[dn];rcases Kg.mp F with z | z
  ·obtain⟨c,I,Z⟩:=ih W x z;have U:x≠u:=fun e=>O (e ▸ z);have e2:x≠l:=fun e=>J (e ▸ z);refine⟨c,?_,?_⟩
   ·unfold JW at I ⊢;rw[NJ];cases q:(kvs.find? fun kv=>decide (kv.1=Sum.inl x)) with
    | none=>rw[q] at I;cases I
    | some y=>rw[q] at I;exact I
   ·rw[kh e2,kh U,kh U];exact Z
  ·have z:x=u∨x=l:=by simpa using z
   rcases z with e | e
   ·subst e;refine⟨a,?_,?_⟩
    ·unfold JW;rw[NJ,Fx (Ip d O)];simp
    ·rw[kh ne,kj rfl,kj rfl];exact ea
   ·subst e;refine⟨b,?_,?_⟩
    ·unfold JW;rw[NJ,Fx (Ip d J)];have:¬((Sum.inl u:Key)=Sum.inl x):=fun z=>ne (by cases z;rfl);simp[this]
    ·have:Yg ps x = -1:=by
      unfold Yg;rw[kh];intro z;obtain⟨p,hp,e⟩:=Kw.mp z;exact J (KO.mpr ⟨p,hp,by simp[e]⟩)
     rw[kj rfl,kh (KA ne),this];exact eb
theorem few {ls:QB}(J:Wk ls 0):∀i,i<=ls.length->(rb (ls.take i)).2+2*((JE ls i).length:Int)<=2*(i:Int)
 | 0,_=>by simp[JE,Ym,rb]
 | i+1,hi=>by
  have U:=few J i (by lia);have O:ls[i]? = some ls[i]:=by simp[show i<ls.length by lia]
  obtain⟨tk,c⟩:=Du J O;rw[GN,tk,YJ];have S:∀pr:Str->Bool,isK ls pr i=pr ls[i].1:=fun pr=>by unfold isK;rw[O];cases h:pr ls[i].1<;>simp[h]
  rw[S];generalize ls[i]=p at c;obtain⟨I,pk⟩:=p;rcases c with⟨e,_⟩ | ⟨e,_⟩ | ⟨e,_⟩
  ·have e:I = "born" := e;subst e;have F:UP "born" = false:=by unfold UP;decide +kernel
   rw[Gb,F];simp only[qO,XM,KY];lia
  ·have e:I = "cross" := e;subst e;have F:UP "cross" = false:=by unfold UP;decide +kernel
   rw[Wc,F];simp only[qO,XM,KY];lia
  ·have e:I = "end" := e;subst e;have F:UP "end" = true:=by unfold UP;simp
   rw[Ur,F];simp only[TF,ki,Ke];lia
theorem Fy (F:Wk ls 0):Jp ls<=ls.length:=by
 have h:=few F ls.length (km _);obtain⟨O,S,I⟩:=DT F ls.length (km _);have e:rowAt ls ls.length = []:=by unfold rowAt;rw[kL (km _)];have:=LD F;exact qw.mp (by lia)
 rw[e,Xz] at I;have J:=I.length_eq;rw[U2,UW] at J;show 2*(JE ls ls.length).length<=_;lia
theorem BB:∀n,(N1 n).Pairwise (· < ·)
 | 0=>by simp[N1]
 | n+1=>by
  unfold N1;rw[KN,kP,MO];refine⟨BB n,by simp,fun a ha b hb=>?_⟩;have h1:=(YV (n:=n)).mp ha;have:b=(n:Int):=by simpa using hb
  lia
def Up (N:Nat)(ts:QA):QG:=(N1 N).filter fun x=>decide (x∉ts.flatten)
theorem BC :x∈Up N ts ↔ (0<=x/\x<(N:Int))/\x∉ts.flatten:=by unfold Up;rw[Mq,YV];simp
theorem Fz {f:Int}(e:Up N ts=f::r):(0<=f/\f<(N:Int))/\f∉ts.flatten /\ ∀j:Nat,(j:Int)<f->(j:Int)∈ts.flatten:=by
 have J:f∈Up N ts:=by rw[e];exact kS
 obtain⟨d,n⟩:=BC.mp J;refine⟨d,n,fun j O=>?_⟩;by_cases z:(j:Int)∈ts.flatten
 ·exact z
 ·have F:(j:Int)∈Up N ts:=BC.mpr ⟨⟨by lia,by lia⟩,z⟩;have I:(Up N ts).Pairwise (· < ·):=(BB N).filter _;rw[e] at F I;rcases kQ.mp F with y | y
  ·lia
  ·have:=(qd.mp I).1 _ y;lia
theorem FA :Up N (ts ++ [T])=(Up N ts).filter fun x=>decide (x∉T):=by unfold Up;rw[List.filter_filter];refine List.filter_congr fun x _=>?_;rw[qY];by_cases h1:x∈T<;>by_cases h2:x∈ts.flatten<;>simp[h1,h2]
theorem ZnK {f:Int}(e:Up N ts=f::r)(h:f∈T):(Up N (ts ++ [T])).length<(Up N ts).length:=by rw[FA,e,List.filter_cons,kh (by simpa using h)];have:=XG (fun x=>decide (x∉T)) r;simp only[Kk];lia
theorem Zpy {m:QX}(e:Up N ts = [])(F:UK m i ts)(hi:i<=N):UK m N ts:=by
 have:=F.jump (N-i) fun j a b=>by
  by_cases z:(j:Int)∈ts.flatten
  ·exact z
  ·have:(j:Int)∈Up N ts:=BC.mpr ⟨⟨by lia,by lia⟩,z⟩;rw[e] at this;cases this
 rwa [show i+(N-i)=N by lia] at this
theorem Znm {m:QX}{f:Int}(e:Up N ts=f::r)(I:UK m i ts)(hi:i<=N)(F:Jq m f T):∃j:Nat,j<=N/\UK m j (ts ++ [T]):=by
 obtain⟨⟨J,S⟩,n,lo⟩:=Fz e;obtain⟨fn,rfl⟩:=kF J;have O:i<=fn:=by refine NV fun z=>n (I.mem fn z)
 have:=I.jump (fn-i) fun j a b=>lo j (by lia);rw[show i+(fn-i)=fn by lia] at this;exact⟨fn+1,by lia,this.add n F⟩
def ev2 (y:Int):Int:=if y % 2=0 then 1 else -1
theorem Zo8 (y:Int):y+ev2 y=bw y:=by unfold ev2 bw;split<;>lia
def fl (dn:QX):List Int->Int
 | x::y::r=>dn x+ev2 y+fl dn r
 | _=>0
theorem BD (dn:QX)(x y:Int):∀(n:Nat)(A:QG),A.length=2*n->fl dn (A ++ [x,y])=fl dn A+dn x+ev2 y
 | 0,A,h=>by
  have:A = []:=qw.mp (by lia);subst this;simp[fl]
 | n+1,[],h=>by simp at h
 | n+1,[a],h=>by simp at h;lia
 | n+1,a::b::r,h=>by have F:=BD dn x y n r (by simp at h;lia);simp only[NX,fl,F];lia
theorem Zo9 (dn m:QX)(f:Int)(i:Nat):fl dn (Gh m f (i+1))=fl dn (Gh m f i)+dn (gt m f i)+ev2 (m (gt m f i)):=BD dn _ _ i _ (W6 m f i)
def LM (i:Int):Int:=if i<0 then -i else i
def WV (z:Addr)(dn:QX)(H:Hp)(ys:QH)(ts:QA):Prop:=Paired (fun v (T:QG)=>∃a g,v=V.ref a/\H a=some (.tup [.ref g,.int (LM (fl dn T) / 2)])/\H g=some (.lst (T.map V.int))/\g≠z) ys ts
theorem WV.mono {z:Addr}{dn:QX}{H H':Hp}(h:∀c o,c≠z->H c=some o->H' c=some o)(hz:∃xs,H z=some (.lst xs)):∀{ys:QH}{ts:QA},WV z dn H ys ts->WV z dn H' ys ts
 | _,_,.nil=>.nil
 | _,_,.cons ⟨a,g,e,ha,hg,n⟩ r=>.cons ⟨a,g,e,h a _ (fun y=>by obtain⟨xs,hz⟩:=hz;rw[y,hz] at ha;cases ha) ha,h g _ n hg,n⟩ (WV.mono h hz r)
theorem WV.same {z:Addr}{dn:QX}{H H':Hp}(s:Zh H H'):∀{ys:QH}{ts:QA},WV z dn H ys ts->WV z dn H' ys ts
 | _,_,.nil=>.nil
 | _,_,.cons ⟨a,g,e,ha,hg,n⟩ r=>.cons ⟨a,g,e,s a _ ha,s g _ hg,n⟩ (WV.same s r)
theorem WV.len {z:Addr}{ys:QH}(h:WV z dn H ys ts):ys.length=ts.length:=qp h
theorem BE (h:k+1<r.length):J5 (r.map V.int) (some (k:Int)) (some ((k:Int)+2)) = [V.int (r.getD k 0),V.int (r.getD (k+1) 0)]:=by
 have F:HT.JH (r.map V.int).length 0 (some (k:Int))=k:=by rw[HT.Dp,ke];omega
 have I:HT.JH (r.map V.int).length (r.map V.int).length (some ((k:Int)+2))=k+2:=by rw[show (k:Int)+2=((k+2:Nat):Int) by omega,HT.Dp,ke];omega
 unfold J5;rw[F,I,show k+2-k=2 by omega,<- qG,<- qT];have c:=CY r k h;have O:(r.take k).length=k:=by rw[kK];omega
 have J:r.drop k = [r.getD k 0,r.getD (k+1) 0]++r.drop (k+2):=by
  conv=>lhs;rw[c]
  rw[Kl,List.drop_append_of_le_length (by omega),qo (by omega),Xz]
 rw[J];simp
theorem FC (y:Int):atI [V.int 1,V.int (-1)] (y % 2)=some (V.int (ev2 y)):=by
 unfold ev2;rcases Int.emod_two_eq y with e | e<;>rw[e]
 ·exact Zn (j:=0) rfl
 ·exact Zn (j:=1) rfl
inductive FD(vs:QH)(H:Hp)(Q:VK)(_E:XK):Prop|mk(l:Addr)(xs:QH)(ls:QB)(_:vs = [.ref l])(_:H l=some (.lst xs))(_:ZI H xs ls)(_:ls.length<=60)(_:Wk ls 0)(_:∀(p:Addr)(H':Hp)(ys:QH)(ts:QA),H p=none->Zh H H'->H' p=some (.lst ys)->WV p (Yg (Jb ls)) H' ys ts->UK (JB (Jb ls)) (Jp ls) ts->Q (.ref p) H')
abbrev BF:Stmt:=top 52
theorem ZH:Zw ["_law_drawing_here", "_law_rows_here", "_law_mates", "_law_t", "_law_letter", "_law_upper", "_law_lower", "_law_found", "_law_left", "_law_gone", "_law_fall", "_law_here", "_law_there", "_law_down"] nF (Zj BF):={}
theorem Zlr (F:JD K "_law_walks" "_law_walks" BF f fd)(YS:Jk P w K mg base 1 "_law_rows" nF Dv)(ZE:mg "enumerate" = none)(YT:mg "sorted" = none)(bD:mg "abs" = none):Yc P w K mg base JZ 2 f fd nF FD:=by
 refine F.ok1 ZH fun aB A outer s H vs Q E hr h=>?_;obtain⟨l,xs,ls,rfl,hl,hL,aA,hW,k⟩:=h;have aF:=hL.len;have ua:=Fy hW;have M:=WQ hW;have nd:=Fq hW;have pm:=W8 hW;refine⟨_,(Zc (Zz (i:=1) ZH.nd (Zp YS hr (Za (pv 0) Zb)))
  (Zc (Zz (i:=2) ZH.nd Vv)
  (Zc (Yr Ka rfl (Ws (K:=K) rfl (by rfl) ZE (Za (pv 0) Zb)) (Z8 (K:=K) (n:=2) rfl rfl (Zo (ZT (i:=3) ZH.nd) (Zo (ZT (i:=4) ZH.nd) ZV))) (Zf (ZP (Zu Yp (Zy (Ys (K:=K)) (pv 4) Ze (fun _ _=>rfl)) ZJ (Zt _)) (Zc (Yz (ZW (Yf (K:=K)) (Zy (Zl (K:=K)) (pv 1) (pv 3) (fun _ _=>rfl)) (ZQ (Zy (Ys (K:=K)) (pv 4) Ze (fun _ _=>rfl))) (ZQ (Zk ZC (Zy (Ys (K:=K)) (pv 4) Ze (fun _ _=>rfl)) Ze))) (CV (K:=K) (n:=2) rfl rfl (Zo (ZT (i:=5) ZH.nd) (Zo (ZT (i:=6) ZH.nd) ZV))))
  (Zf (Yz (ZN (Za (ZN (Za (pv 6) (Za Ze Zb))) (Za (ZN (Za (pv 5) (Za (UY WO Ze) Zb))) Zb))) (Z8 (K:=K) (n:=2) rfl rfl (Zo (YI (pv 2) (pv 5) (set_dict (Gg hr))) (Zo (YI (pv 2) (pv 6) (set_dict (Gg hr))) ZV)))))) ZF)))
  (Zc (Zz (i:=7) ZH.nd (Zx Zb))
  (Zc (Zz (i:=8) ZH.nd (Zs (Vx rfl) (by rfl) YT TQ (Za (pv 2) Zb)))
  (Zc (Cz Ka (Zu (SS (K:=K) rfl hr.units) (pv 8) (Zx Zb) (Zt _)) (Zc (LV (i:=9) ZH.nd rfl (Or.inr rfl) (Zx Zb))
  (Zc (Zz (i:=10) ZH.nd Ze)
  (Zc (Zz (i:=11) ZH.nd (Zy (Zl (K:=K)) (pv 8) Ze (fun _ _=>rfl)))
  (Zc (Cz Ka (Zu (SU (K:=K)) (pv 11) (pv 9) rfl) (Zc (Yz (Zy (Dz (Gg hr)) (pv 2) (pv 11) (fun _ _=>rfl)) (Z8 (K:=K) (n:=2) rfl rfl (Zo (ZT (i:=12) ZH.nd) (Zo (ZT (i:=13) ZH.nd) ZV))))
  (Zc (LV (i:=9) ZH.nd rfl (Or.inr rfl) (Zk YX (pv 9) (Zx (Za (pv 11) (Za (pv 12) Zb)))))
  (Zc (Zz (i:=10) ZH.nd (Zk ZC (Zk ZC (pv 10) (pv 13)) (Zy (Zl (K:=K)) (Zx (Za Ze (Za (UY WO Ze) Zb))) (Zk Ug (pv 12) Ze) (fun _ _=>rfl))))
  (Zf (Zz (i:=11) ZH.nd (Zk ZC (pv 12) (Zy (Zl (K:=K)) (Zx (Za Ze (Za (UY WO Ze) Zb))) (Zk Ug (pv 12) Ze) (fun _ _=>rfl)))))))))
  (Zc (ZY (Yd (K:=K) rfl (Yw kJ kU kW ZL (pv 7) (Za (ZN (Za (pv 9) (Za (Zk DM (Zs CG (by rfl) bD boot_abs (Za (pv 10) Zb)) Ze) Zb))) Zb))))
  (Zf (L0 (i:=8) ZH.nd rfl (.inl rfl) (Ls:=["_law_thread"]) (Fs:=["_law_gone"]) (fi:=[9]) ZH.lc rfl (ZU (K:=K) rfl (pv 8)) (fun cl C s3 H3 ex=>⟨(YC (i:=0)),(Dr (Zu (SU (K:=K)) (pv 0) (pv 1) rfl)),(pv 0)⟩)))))))))
  (Zf (Zv (pv 7))))))))),?_⟩
 refine⟨_,rfl,l,xs,ls,rfl,hl,hL,aA,hW,fun R H1 ys fR s1 eR rv ap oN=>?_⟩;refine fun Y bG=>?_;have ub:H Y=none:=s1.free bG;have cR:=s1 l _ hl;have bh:=hL.same s1;refine⟨_,rfl,l,rfl,⟨_,Zr.of ((Zh.laid bG) l _ cR)⟩,L5 (K:=K) (a:=l) (xs:=xs) (fun i σ H'=>∃(kvs:QD)(v3 v4 v5 v6:QI),σ = [some (.ref l),some (.ref R),some (.ref Y),v3,v4,v5,v6,none,none,none,none,none,none,none]/\Zh H1 H'/\H' Y=some (.dK kvs)/\DV H' kvs (JE ls i))
  ⟨[],none,none,none,none,rfl,Zh.laid bG,Zd,.nil⟩ (fun i σ H' _ ⟨_,_,_,_,_,_,sm,_⟩=>Zr.of (sm l _ cR)) ?_ ?_⟩
 ·rintro i x p σ H' hx ⟨kvs,v3,v4,v5,v6,rfl,sm,hd,dv⟩ hp;obtain⟨⟨qx,qk⟩,ta,hq,rfl,aO⟩:=bh.get hx;have aM:=(sm.step (o:=.tup [.int i,.ref ta]) hp) ta _ aO;obtain⟨G0,bH⟩:∃G0,G0=upd H' p (.tup [.int i,.ref ta]):=⟨_,rfl⟩;have sp:Zh H' G0:=by rw[bH];exact Zh.laid hp
  have gV:Zh H1 G0:=sm.trans sp;have jB:=sp Y _ hd;have kk:isK ls UP i=UP qx:=by unfold isK;rw[hq];cases h:UP qx<;>simp[h]
  refine⟨p,_,rfl,Y9.of Zd,rfl,_,_,rfl,_,_,rfl,rfl,?_⟩;rw[<- bH] at aM ⊢;refine⟨_,rfl,ta,_,_,_,rfl,rfl,Y9.of aM,Zn (j:=0) rfl,rfl,_,rfl,?_⟩;refine Z7 (fun hc=>?_) (fun hc=>?_)
  ·have e:qx = "end" := V.str.inj (kI hc);subst e;obtain⟨k0,k1,pe⟩:=DX hW hq (fun z=>nb2 z);obtain⟨kn,rfl⟩:=kF (show 0<=qk from k0);simp only[kM] at k1 pe;have hi:i<ls.length:=(kC.mp hq).1;obtain⟨ra,eZ,bi⟩:=rv.at (CZ ls (i:=i) (n:=ls.length+1) (by lia));have ei:isK ls UP i=true:=by rw[kk];unfold UP;simp
   have pin:YK ls i∈Jb ls:=Kw.mpr ⟨(i:Int),by unfold Ym;exact KZ.mpr ⟨i,Ku.mpr hi,by rw[kj ei]⟩,by simp⟩
   have es:JE ls (i+1)=JE ls i ++ [YK ls i]:=by rw[GN,kj ei]
   obtain⟨u,hu⟩:∃u,u=(rowAt ls i).getD kn 0:=⟨_,rfl⟩;obtain⟨w,hw⟩:∃w,w=(rowAt ls i).getD (kn+1) 0:=⟨_,rfl⟩;rw[<- hu,<- hw] at pe;have jU:(ZK (JE ls (i+1))).Nodup:=by
    have e:Ym ls UP (i+1) <+: Ym ls UP ls.length:=by
     have:∀d,Ym ls UP (i+1) <+: Ym ls UP (i+1+d):=by
      intro d
      induction d with
      | zero=>exact List.prefix_refl _
      | succ d ih=>
       refine ih.trans ?_;show _ <+: Ym ls UP (i+1+d+1);rw[GO];exact List.prefix_append _ _
     have:=this (ls.length-(i+1))
     rwa [show i+1+(ls.length-(i+1))=ls.length by lia] at this
    obtain⟨r,e⟩:=e;have:Jb ls=JE ls (i+1)++r.map (fun t=>YK ls t.toNat):=by unfold Jb JE;rw[<- e,kP]
    rw[this,Ji] at nd;exact(qB.mp nd).1
   rw[es,Ji,pe] at jU;have ef:ZK [(u,w)] = [u,w]:=by simp[ZK]
   rw[ef] at jU;obtain⟨n1,n2,n3⟩:=qB.mp jU;have nu:u∉ZK (JE ls i):=fun z=>n3 u z u (by simp) rfl;have nw:w∉ZK (JE ls i):=fun z=>n3 w z w (by simp) rfl;have uc:u≠w:=by have:=(KL.mp n2).1;simpa using this
   have e2:((JE ls i).length)<=60:=by unfold JE;rw[ke];exact Kb (WE _ _ _) (by lia)
   refine⟨_,rfl,_,rfl,R,_,_,_,rfl,rfl,Zr.of (gV R _ eR),Zn eZ,_,rfl,ta,_,_,_,rfl,rfl,Y9.of aM,Zn (j:=1) rfl,_,rfl,_,rfl,ta,_,_,_,rfl,rfl,Y9.of aM,Zn (j:=1) rfl,_,_,rfl,rfl,_,rfl,ra,_,rfl,Zr.of (gV ra _ bi),fun cA bI=>?_⟩;rw[BE k1,<- hu,<- hw];refine⟨cA,_,rfl,Zr.of Zd,rfl,_,_,rfl,_,_,rfl,rfl,?_⟩;obtain⟨G1,bj⟩:∃G1,G1=upd G0 cA (.lst [.int u,.int w]):=⟨_,rfl⟩;have dE:Zh G0 G1:=by rw[bj];exact Zh.laid bI
   rw[<- bj];refine⟨_,rfl,sz2,fun t1 ue=>?_⟩;obtain⟨G2,jV⟩:∃G2,G2=upd G1 t1 (.tup [.int w,.int 1]):=⟨_,rfl⟩;have cS:Zh G1 G2:=by rw[jV];exact Zh.laid ue
   have uf:G2 t1=some (.tup [.int w,.int 1]):=by rw[jV];exact Zd
   rw[<- jV];refine⟨_,rfl,1,rfl,sz2,fun t2 ug=>?_⟩;obtain⟨G3,jW⟩:∃G3,G3=upd G2 t2 (.tup [.int u,.int (-1)]):=⟨_,rfl⟩;have oO:Zh G2 G3:=by rw[jW];exact Zh.laid ug
   have uh:G3 t2=some (.tup [.int u,.int (-1)]):=by rw[jW];exact Zd
   rw[<- jW];refine⟨sz2,fun t3 ui=>?_⟩;obtain⟨G4,jX⟩:∃G4,G4=upd G3 t3 (.tup [.ref t1,.ref t2]):=⟨_,rfl⟩;have jY:Zh G3 G4:=by rw[jX];exact Zh.laid ui
   have uj:G4 t3=some (.tup [.ref t1,.ref t2]):=by rw[jX];exact Zd
   rw[<- jX];have cU:Zh G0 G4:=((dE.trans cS).trans oO).trans jY;have gW:=cU Y _ jB;have kl:kvs.length<sizeLine:=by rw[dv.len];exact ZD (by lia)
   have o1:(Sum.inl u:Key)∉kvs.map (·.1):=Ip dv nu;have p1:putK kvs (Sum.inl u) (.ref t1)=kvs ++ [(Sum.inl u,.ref t1)]:=Fw o1;have o2:(Sum.inl w:Key)∉(kvs ++ [((Sum.inl u:Key),V.ref t1)]).map (·.1):=by
    rw[kP];intro z;rcases Kg.mp z with z | z
    ·exact Ip dv nw z
    ·have:(Sum.inl w:Key)=Sum.inl u:=by simpa using z
     cases this;exact uc rfl
   have p2:putK (kvs ++ [((Sum.inl u:Key),V.ref t1)]) (Sum.inl w) (.ref t2)=kvs ++ [((Sum.inl u:Key),V.ref t1),(Sum.inl w,.ref t2)]:=by rw[Fw o2];simp
   refine⟨t3,_,rfl,Y9.of uj,rfl,_,_,rfl,_,rfl,_,rfl,Y,_,rfl,LF.k (k:=Sum.inl u) gW kl,?_⟩;rw[p1];refine⟨_,_,rfl,_,rfl,_,rfl,Y,_,rfl,LF.k (k:=Sum.inl w) Zd (by rw[ki,dv.len];exact ZD (by show _+1<=1000;lia)),rfl,?_⟩;rw[p2,JF];refine⟨_,_,_,_,_,rfl,fun c o e=>?_,Zd,?_⟩
   ·rw[Zi (Zg e bG)];exact cU c o (gV c o e)
   ·rw[es,pe];have tk:∀t q,G4 t=some (.tup q)->(upd G4 Y (.dK (kvs ++ [((Sum.inl u:Key),V.ref t1),(Sum.inl w,.ref t2)]))) t=some (.tup q):=fun t q e=>by
     rw[Zi (LQ e gW (by intro z;cases z))];exact e
    exact DV.snoc (dv.mono fun t q e=>tk t q (cU t _ (sp t _ e))) (tk _ _ (jY t1 _ (oO t1 _ uf))) (tk _ _ (jY t2 _ uh))
  ·have e:¬qx = "end" := fun z=>hc (kH (Kx V.str z));have ei:isK ls UP i=false:=by rw[kk];unfold UP;simp[e]
   have es:JE ls (i+1)=JE ls i:=by rw[GN,ei];simp
   refine⟨kvs,_,_,_,_,rfl,gV,jB,?_⟩;rw[es];exact dv.mono fun t q e=>sp t _ e
 ·rintro σ H2 ⟨kvs,v3,v4,v5,v6,rfl,uk,cN,jZ⟩;rw[aF] at jZ;have e9:Zh H H2:=s1.trans uk;refine⟨sz0,fun J eg=>?_⟩;have zz:Y≠J:=Zg cN eg;refine⟨_,rfl,Y,kvs,ZK (Jb ls),rfl,(Zh.laid eg) Y _ cN,jZ.keys,(by rw[UW];show Jp ls<64;lia),fun lA ns oP ez fA=>?_⟩;have ul:ns=N1 (Jp ls):=CS (ez.trans pm) fA ((BB _).imp fun h=>Int.le_of_lt h);subst ul;have oQ:lA≠J:=(Zg (Zd (H:=H2) (a:=J) (o:=.lst [])) oP).symm;generalize gX:JB (Jb ls)=m at *;generalize um:Yg (Jb ls)=dn at *;generalize hnn:Jp ls=N at *;have j7:∀(G:Hp),Zh H2 G -> ∀x:Int,0<=x->x<(N:Int) -> ∃a,Mc G Y (.int x) (some (.ref a))/\G a=some (.tup [.int (m x),.int (dn x)]):=fun G sG x x0 x1=>by
   obtain⟨a,hv,ha⟩:=jZ.look nd x (pm.mem_iff.mpr (YV.mpr ⟨x0,x1⟩));have:=Mc.k (k:=Sum.inl x) (sG Y _ cN);rw[hv] at this;have e1:JB (JE ls ls.length)=m:=gX;have e2:Yg (JE ls ls.length)=dn:=um;rw[e1,e2] at ha;exact⟨a,this,sG a _ ha⟩
  refine⟨fun mm σ H'=>∃(ts:QA)(ys:QH)(i:Nat)(U:Addr)(v9 a9 dG O S:QI),mm=(Up N ts).length /\ σ = [some (.ref l),some (.ref R),some (.ref Y),v3,v4,v5,v6,some (.ref J),some (.ref U),v9,a9,dG,O,S]/\Zh H2 H'/\H' J=some (.lst ys)/\H' U=some (.lst ((Up N ts).map V.int))/\U≠J/\WV J dn H' ys ts/\UK m i ts/\i<=N,
   ⟨_,[],[],0,lA,none,none,none,none,none,rfl,rfl,(Zh.laid eg).step oP,?_,?_,oQ,.nil,.nil,Kn _⟩,?_⟩
  ·rw[Zi (KA oQ),Zd]
  ·rw[Zd];congr 3;unfold Up;rw[List.filter_eq_self.mpr];intro x _;simp
  rintro mm σ H' ⟨ts,ys,i,U,v9,a9,dG,O,S,rfl,rfl,sm,hf,cV,oR,wv,tr,hi⟩;refine⟨_,rfl,sz0,fun nA uo=>?_⟩;obtain⟨G0,bH⟩:∃G0,G0=upd H' nA (.lst []):=⟨_,rfl⟩;have s0:Zh H' G0:=by rw[bH];exact Zh.laid uo
  rw[<- bH];refine⟨U,nA,_,rfl,rfl,Zr.of (s0 U _ cV),Zr.of (by rw[bH];exact Zd),_,rfl,?_⟩;cases elf:Up N ts with
  | nil=>
   refine YD ?_;refine⟨_,rfl,k J G0 ys ts (e9.free eg) (e9.trans (sm.trans s0)) (s0 J _ hf) (wv.same s0) (Zpy elf tr hi)⟩
  | cons I rest=>
   refine JU ?_;obtain⟨⟨Z,ay⟩,f0n,f0l⟩:=Fz elf;have dom:=YL M Z ay;refine⟨fun aD aH=>∃(dH:QA)(ys:QH)(i:Nat)(U:Addr)(v9 a9 dG O S:QI),(Up N dH).length<(I::rest).length /\ aD = [some (.ref l),some (.ref R),some (.ref Y),v3,v4,v5,v6,some (.ref J),some (.ref U),v9,a9,dG,O,S]/\Zh H2 aH/\aH J=some (.lst ys)/\aH U=some (.lst ((Up N dH).map V.int))/\U≠J/\WV J dn aH ys dH/\UK m i dH/\i<=N,
    fun aD aH ⟨dH,ys,i,U,v9,a9,dG,O,S,a,b⟩=>⟨_,a,dH,ys,i,U,v9,a9,dG,O,S,rfl,b⟩,?_⟩
   refine⟨sz0,fun gA hgA=>?_⟩;have oS:Zh H' (upd G0 gA (.lst [])):=s0.step hgA;have eY:gA≠J:=(Zg (s0 J _ hf) hgA).symm;refine⟨_,rfl,U,_,_,V.int I,rfl,rfl,Zr.of (oS U _ cV),Zn (j:=0) (by rw[elf];rfl),?_⟩;refine⟨fun m2 σ aH=>∃(j:Nat)(g:Addr)(O S:QI),m2+j=N+1 /\ σ = [some (.ref l),some (.ref R),some (.ref Y),v3,v4,v5,v6,some (.ref J),some (.ref U),some (.ref g),some (.int (fl dn (Gh m I j))),some (.int (gt m I j)),O,S]/\Zh H' aH/\aH g=some (.lst ((Gh m I j).map V.int))/\g≠J/\(∀q,1<=q->q<j->gt m I q≠I),
    ⟨N+1,0,gA,O,S,rfl,rfl,oS,Zd,eY,fun q a b=>by lia⟩,?_⟩
   rintro m2 σ aH ⟨j,g,w12,w13,hj,rfl,W,hg,j8,nf⟩;have eV:=UQ M Z ay nf;have oU:Zh H2 aH:=sm.trans W;refine⟨_,rfl,_,rfl,g,_,rfl,.inl (Zr.of hg),rfl,Su _,_,rfl,?_⟩;show if (!inV (V.int (gt m I j)) ((Gh m I j).map V.int))=true then _ else _
   rw[DW];by_cases fB:gt m I j∈Gh m I j
   ·rw[kH fB];refine YD ?_;obtain⟨j1,ej⟩:=(SQ M Z ay nf).mp fB;have dD:Jq m I (Gh m I j):=⟨j,j1,ej,nf,rfl⟩;have ad:=W J _ hf;refine⟨_,rfl,.inl ⟨rfl,_,Zr.of ad⟩,_,rfl,_,rfl,_,rfl,_,_,rfl,rfl,⟨by decide,by decide⟩,sz2,fun tt bF=>?_⟩;have eU:J≠tt:=Zg ad bF;have yl:ys.length<sizeLine:=by rw[wv.len];have:=tr.len M (by lia);exact ZD (by lia)
    refine⟨J,_,_,rfl,rfl,(by rw[Zi eU];exact ad),yl,?_⟩;have K5:∀(o1 o2:HO) c o,aH c=some o->c≠J->(upd (upd aH tt o1) J o2) c=some o:=fun o1 o2 c o e n=>by rw[Zi n,Zi (Zg e bF)];exact e
    have fC:aH U=some (.lst ((I::rest).map V.int)):=by have:=W U _ cV;rw[elf] at this;exact this
    obtain⟨j2,up,ur⟩:=Znm elf tr hi dD;have ut:I∈Gh m I j:=dD.self;have less:=ZnK elf ut;rw[elf] at less;have uu:(I::rest).length<=120:=by rw[<- elf];unfold Up;refine Kb (XG _ _) ?_;rw[U2];lia
    refine⟨_,rfl,U,rfl,⟨_,Zr.of (K5 _ _ U _ fC oR)⟩,YZ (K:=K) (a:=U) (xs:=(I::rest).map V.int) (by rw[ke];exact Kv (ZD (by lia))) (fun i zs G=>((∀c o,aH c=some o->c≠J->G c=some o)/\G J=some (.lst (ys ++ [.ref tt]))/\G tt=some (.tup [.ref g,.int (LM (fl dn (Gh m I j)) / 2)]))/\zs=(((I::rest).take i).filter fun x=>decide (x∉Gh m I j)).map V.int)
     ⟨⟨fun c o e n=>K5 _ _ c o e n,Zd,by rw[Zi (KA eU),Zd];rfl⟩,by simp⟩ (fun i zs G p=>?_) (fun i zs G p=>Zr.of (p.1.1 U _ fC oR)) (fun i x zs G hx p=>?_) (fun zs G p D hD=>?_)⟩
    ·rw[p.2,ke];exact Kb (XG _ _) (by rw[kK];lia)
    ·obtain⟨kp,rfl⟩:=p;obtain⟨t,ht,rfl⟩:=W0 hx;have tk:((I::rest).take (i+1)).filter (fun x=>decide (x∉Gh m I j))=((I::rest).take i).filter (fun x=>decide (x∉Gh m I j))++(if t∈Gh m I j then[] else[t]):=by
      rw[Ki,ht,Lq];by_cases z:t∈Gh m I j<;>simp[z]
     refine⟨_,rfl,_,rfl,g,_,rfl,.inl (Zr.of (kp.1 g _ hg j8)),rfl,Su _,_,rfl,?_⟩;show if (!inV (V.int t) ((Gh m I j).map V.int))=true then _ else _
     rw[DW];by_cases z:t∈Gh m I j
     ·rw[kH z];refine YD ⟨kp,?_⟩;rw[tk,kj z,KY]
     ·rw[Kh z];refine JU ⟨_,rfl,kp,?_⟩;rw[tk,kh z,kP];rfl
    ·obtain⟨kp,rfl⟩:=p;have oV:D≠J:=(Zg kp.2.1 hD).symm;have kD:∀c o,aH c=some o->c≠J->(upd G D (.lst ((((I::rest).take ((I::rest).map V.int).length).filter fun x=>decide (x∉Gh m I j)).map V.int))) c=some o:=fun c o e n=>by
      have e2:=kp.1 c o e n;rw[Zi (Zg e2 hD)];exact e2
     refine⟨ts ++ [Gh m I j],ys ++ [.ref tt],j2,D,_,_,_,_,_,less,rfl,fun c o e=>kD c o (oU c o e) (Zg e eg),?_,?_,oV,?_,ur,up⟩
     ·rw[Zi (KA oV)];exact kp.2.1
     ·rw[Zd,FA,elf,ke,kL (km _)]
     ·refine Ti (wv.mono (fun c o n e=>kD c o (W c o e) n) ⟨_,hf⟩) ⟨tt,g,rfl,?_,kD g _ hg j8,j8⟩;rw[Zi (Zg kp.2.2 hD)];exact kp.2.2
   ·rw[Kh fB];refine JU ?_;have oW:∀q,1<=q->q<j+1->gt m I q≠I:=fun q a b e=>by
     by_cases z:q=j
     ·subst z;exact fB ((SQ M Z ay nf).mpr ⟨a,e⟩)
     ·exact nf q a (by lia) e
    have j9:=UQ M Z ay oW;refine⟨fun aD H3=>∃(g:Addr)(O S:QI),aD = [some (.ref l),some (.ref R),some (.ref Y),v3,v4,v5,v6,some (.ref J),some (.ref U),some (.ref g),some (.int (fl dn (Gh m I (j+1)))),some (.int (gt m I (j+1))),O,S]/\Zh H' H3/\H3 g=some (.lst ((Gh m I (j+1)).map V.int))/\g≠J,
     fun aD H3 ⟨g,a,b,e,h1,h2,h3⟩=>⟨m2-1,by lia,j+1,g,a,b,by lia,e,h1,h2,h3,oW⟩,?_⟩
    obtain⟨a,dg,ha⟩:=j7 aH oU (gt m I j) (dom j).1 (dom j).2;refine⟨_,rfl,_,rfl,Y,_,rfl,dg,?_⟩;refine⟨a,_,rfl,Y9.of ha,rfl,_,_,rfl,_,_,rfl,rfl,?_⟩;refine⟨_,rfl,_,rfl,_,rfl,sz2,fun b hb=>?_⟩;refine⟨g,b,_,_,rfl,rfl,(Zh.laid hb) g _ hg,Zd,(by rw[ke,W6];exact Kv (ZD (by show _+2<=1000;lia))),fun g' oX=>?_⟩;have s3:Zh aH (upd (upd aH b (.lst [.int (gt m I j),.int (m (gt m I j))])) g' (.lst ((Gh m I j).map V.int ++ [.int (gt m I j),.int (m (gt m I j))]))):=(Zh.laid hb).step oX;have uv:g'≠J:=(Zg ((Zh.laid (o:=.lst [.int (gt m I j),.int (m (gt m I j))]) hb) J _ (W J _ hf)) oX).symm;refine⟨_,rfl,_,rfl,_,_,rfl,rfl,1,rfl,sz2,fun c hc=>?_⟩;refine⟨_,rfl,_,_,rfl,rfl,(by show (0:Int)<2;decide),c,_,_,_,rfl,rfl,Zr.of Zd,FC _,_,_,rfl,rfl,?_⟩;refine⟨_,rfl,1,rfl,sz2,fun c2 aQ=>?_⟩;refine⟨_,rfl,_,_,rfl,rfl,(by show (0:Int)<2;decide),c2,_,_,_,rfl,rfl,Zr.of Zd,FC _,_,_,rfl,rfl,?_⟩;refine⟨g',some (.int (m (gt m I j))),some (.int (dn (gt m I j))),?_,((W.trans s3).step hc).step aQ,?_,uv⟩
    ·rw[Zo9,show gt m I (j+1)=m (gt m I j)+ev2 (m (gt m I j)) from(Zo8 _).symm];rfl
    ·have e1:=(Zh.laid (o:=.lst [.int 1,.int (-1)]) hc) g' _ Zd;have e2:=(Zh.laid (o:=.lst [.int 1,.int (-1)]) aQ) g' _ e1;refine e2.trans ?_;simp[Gh]
inductive BG(vs:QH)(H:Hp)(Q:VK)(_E:XK):Prop|mk(l:Addr)(xs:QH)(ls:QB)(_:vs = [.ref l])(_:H l=some (.lst xs))(_:ZI H xs ls)(_:ls.length<=60)(_:Wk ls 0)(_:∀(p:Addr)(H':Hp),H p=none->Zh H H'->H' p=some (.lst (tab (Jp ls) fun x=>V.bl (decide (x∈(Jb ls).map (·.1)))))->Q (.ref p) H')
abbrev WZ:Stmt:=top 26
theorem Js:Zw ["drawing", "uppers", "upper", "lower"] nC (Zj WZ):={}
theorem Zkd (F:JD K "uppers_at_ends" "uppers_at_ends" WZ f fd)(JG:Jk P w K mg base 2 "ends_of" nC (Ly fun x=>decide (x = "end")))(Wj:Jk P w K mg base 3 "end_pairs" nC Br)(Yl:mg "len" = none):Yc P w K mg base JZ 4 f fd nC BG:=by
 refine F.ok1 Js fun aB A outer s H vs Q E hr h=>?_;obtain⟨l,xs,ls,rfl,hl,hL,J,hW,k⟩:=h;have ac:=WM J;have nt:2*(Ym ls UP ls.length).length=Jp ls:=by unfold Jp Jb JE;rw[ke]
 refine⟨_,(Zc (Zz (i:=1) Js.nd (Zk LW (Zx (Za Wf Zb)) (Zk Wn Ze (Zs (Yq (K:=K)) (by rfl) Yl KR (Za (Zp JG hr (Za (pv 0) Zb)) Zb)))))
  (Zc (Yr Ka rfl (ZU (K:=K) rfl (Zp Wj hr (Za (pv 0) Zb))) (Z8 (K:=K) (n:=2) rfl rfl (Zo (ZT (i:=2) Js.nd) (Zo (ZT (i:=3) Js.nd) ZV))) (Zf (Yz Wf (YI (pv 1) (pv 2) set_list))))
  (Zf (Zv (pv 1))))),?_⟩
 refine⟨sz1,fun l0 aX=>?_⟩;have s0:Zh H (upd H l0 (.lst [.bl false])):=Zh.laid aX;refine⟨_,rfl,l,xs,ls,rfl,s0 l _ hl,hL.same s0,J,hW.kd,fun eA H1 fe s1 ee=>?_⟩;refine⟨eA,_,rfl,.inl (Zr.of ee),_,_,rfl,rfl,.inl ⟨by decide,by decide⟩,?_⟩;have el:((2:Int)*((((Ym ls (fun x=>decide (x = "end")) ls.length).map V.int).length:Nat):Int))=((Jp ls:Nat):Int):=by rw[ke];have:(Ym ls (fun x=>decide (x = "end")) ls.length).length=(Ym ls UP ls.length).length:=rfl;lia
 show Pl (V.ref l0) (V.int ((2:Int)*((((Ym ls (fun x=>decide (x = "end")) ls.length).map V.int).length:Nat):Int))) H1 _;rw[el];refine⟨l0,_,_,rfl,rfl,s1 l0 _ Zd,by lia,by lia,(by show 1*_<=sizeLine;exact Kv (ZD (by lia))),fun I Y=>?_⟩;obtain⟨H2,S⟩:∃H2,H2=upd H1 I (.lst (List.replicate ((Jp ls:Nat):Int).toNat [V.bl false]).flatten):=⟨_,rfl⟩;rw[<- S];have U:Zh H H2:=by rw[S];exact(s0.trans s1).step Y
 have Z:H I=none:=(s0.trans s1).free Y;have W:H2 I=some (.lst (tab (Jp ls) fun _=>V.bl false)):=by rw[S,Zd,kM,DE]
 refine⟨_,rfl,l,xs,ls,rfl,U l _ hl,hL.same U,J,hW,fun pA H3 ys fp s3 ep pv=>?_⟩;have uw:pA≠I:=(Zg W fp).symm;refine⟨pA,rfl,⟨_,Zr.of ep⟩,JA (K:=K) (a:=pA) (xs:=ys) (fun i σ H'=>∃(v2 v3:QI),σ = [some (.ref l),some (.ref I),v2,v3]/\Y5 I H3 H'/\H' I=some (.lst (tab (Jp ls) fun x=>V.bl (decide (x∈((Jb ls).take i).map (·.1))))))
  ⟨none,none,rfl,Y5.refl _ _,?_⟩ (fun i σ H' _ ⟨_,_,_,fr,_⟩=>Zr.of (fr pA _ ep uw)) ?_ ?_⟩
 ·rw[s3 I _ W];exact Kx (fun z=>some (HO.lst z)) (Jn fun x _ _=>by simp)
 ·rintro i x σ H' hx ⟨v2,v3,rfl,fr,O⟩;obtain⟨p,t,hp,rfl,ht⟩:=pv.get hx;obtain⟨u,lw⟩:=p;obtain⟨⟨d1,d2⟩,d3,d4⟩:=Fp hW (kT hp);obtain⟨un,rfl⟩:=kF (show 0<=u from d1);have d2:(un:Int)<_:=d2;have ux:t≠I:=LQ ht (s3 I _ W) (by intro z;cases z);refine⟨t,_,rfl,Y9.of (fr t _ ht ux),rfl,_,_,rfl,_,_,rfl,rfl,?_⟩;refine⟨_,rfl,_,rfl,I,_,_,un,rfl,rfl,O,(by rw[GC];exact Jh (by lia)),?_⟩;refine⟨_,_,rfl,fr.trans Y5.upd,?_⟩;rw[Zd,Ci,Jm (ns:=Jb ls) _ hp];refine Kx (fun z=>some (HO.lst z)) (Jn fun x _ _=>?_);by_cases e:x=(un:Int)
  ·rw[kj e];congr 1;exact(kH (by rw[e];simp)).symm
  ·rw[kh e];congr 1;exact qP.mpr (by simp[e])
 ·rintro σ H' ⟨v2,v3,rfl,fr,O⟩;refine⟨_,rfl,k I H' Z (fun c o e=>fr c o (s3 c o (U c o e)) (Zg e Z)) ?_⟩;rw[pv.len,kL (km _)] at O;exact O
def stA (dn:QX)(T:QG)(i:Nat):Int:=if i % 2=0 then dn (T.getD i 0) else ev2 (T.getD i 0)
theorem BH (dn:QX)(T:QG):∀n,2*n<=T.length->((List.range (2*n)).map (stA dn T)).sum=fl dn (T.take (2*n))
 | 0,_=>by simp[fl]
 | n+1,h=>by
  have F:=BH dn T n (by lia);have e:2*(n+1)=2*n+1+1:=by lia
  have h1:T[2*n]? = some (T.getD (2*n) 0):=by simp[show 2*n<T.length by lia]
  have h2:T[2*n+1]? = some (T.getD (2*n+1) 0):=by simp[show 2*n+1<T.length by lia]
  rw[e,KN,KN,Ki,Ki,h1,h2];have I:T.take (2*n)++(some (T.getD (2*n) 0)).toList++(some (T.getD (2*n+1) 0)).toList=T.take (2*n) ++ [T.getD (2*n) 0,T.getD (2*n+1) 0]:=by simp
  rw[I,BD dn _ _ n _ (by rw[kK];lia),<- F];have a1:stA dn T (2*n)=dn (T.getD (2*n) 0):=kj (by lia);have a2:stA dn T (2*n+1)=ev2 (T.getD (2*n+1) 0):=kh (by lia);rw[kP,kP,T1,T1];simp only[Ko,Me,NR,List.sum_nil,a1,a2];lia
inductive BI(vs:QH)(H:Hp)(Q:VK)(_E:XK):Prop|mk(tA uA:Addr)(T:QG)(N:Nat)(ps:QG)(n:Nat)(_:vs = [.ref tA,.ref uA])(_:H tA=some (.lst (T.map V.int)))(_:H uA=some (.lst (tab N fun x=>V.bl (decide (x∈ps)))))(_:T.length=2*n)(_:T.length<=200)(_:∀x∈T,0<=x/\x<(N:Int))(_:∀(p:Addr)(H':Hp)(ss:QG),H p=none->Zh H H'->H' p=some (.lst (ss.map V.int))->ss.sum=fl (fun x=>if x∈ps then 1 else -1) T->ss=(List.range T.length).map (stA (fun x=>if x∈ps then 1 else -1) T)->Q (.ref p) H')
abbrev BJ:Stmt:=top 27
theorem JV:Zw ["tour", "uppers", "steps", "at", "thread", "upper"] nM (Zj BJ):={}
theorem Zk9 (F:JD K "steps_down" "steps_down" BJ f fd)(Jz:Jk P w K mg base 1 "born_with" ["thread"] Bt)(ZE:mg "enumerate" = none):Yc P w K mg base JZ 2 f fd nM BI:=by
 refine F.ok1 JV fun aB A outer s H vs Q E hr h=>?_;obtain⟨tA,uA,T,N,ps,n,rfl,hT,hU,hn,aA,dom,k⟩:=h;obtain⟨dn,O⟩:∃dn:QX,dn=fun x=>if x∈ps then 1 else -1:=⟨_,rfl⟩
 rw[<- O] at k;refine⟨_,(Zc (Zz (i:=2) JV.nd (Zx Zb))
  (Zc (Yr Ka rfl (Ws (K:=K) rfl (by rfl) ZE (Za (pv 0) Zb)) (Z8 (K:=K) (n:=2) rfl rfl (Zo (ZT (i:=3) JV.nd) (Zo (ZT (i:=4) JV.nd) ZV))) (Zc (Zz (i:=5) JV.nd (Cw (RP (Zk EJ (pv 3) Ze) (fun _=>rfl)) (Yn W9 (pv 4) (Zp Jz hr (Za (pv 4) Zb)) (Zt _)) (Zy (Zl (K:=K)) (pv 1) (pv 4) (fun _ _=>rfl))))
  (Zf (ZY (Yd (K:=K) rfl (Yw kJ kU kW ZL (pv 2) (Za (Cw (JC (pv 5)) Ze (UY WO Ze)) Zb)))))))
  (Zf (Zv (pv 2))))),?_⟩
 refine⟨sz0,fun I J=>?_⟩;refine⟨_,rfl,tA,rfl,⟨_,Zr.of ((Zh.laid J) tA _ hT)⟩,L5 (K:=K) (a:=tA) (xs:=T.map V.int) (fun i σ H'=>∃(v3 v4 v5:QI),σ = [some (.ref tA),some (.ref uA),some (.ref I),v3,v4,v5]/\Zh H H'/\H' I=some (.lst (((List.range i).map (stA dn T)).map V.int)))
  ⟨none,none,none,rfl,Zh.laid J,Zd⟩ (fun i σ H' _ ⟨_,_,_,_,sm,_⟩=>Zr.of (sm tA _ hT)) ?_ ?_⟩
 ·rintro i x p σ H' hx ⟨v3,v4,v5,rfl,sm,hs⟩ hp;obtain⟨t,ht,rfl⟩:=W0 hx;have hi:i<T.length:=(kC.mp ht).1;obtain⟨d0,d1⟩:=dom t (kT ht);have td:T.getD i 0=t:=by simp[ht]
  obtain⟨G0,U⟩:∃G0,G0=upd H' p (.tup [.int i,.int t]):=⟨_,rfl⟩;have sp:Zh H' G0:=by rw[U];exact Zh.laid hp
  have ep:G0 p=some (.tup [.int i,.int t]):=by rw[U];exact Zd
  rw[<- U];have S:Zh H G0:=sm.trans sp;have l2:(((List.range i).map (stA dn T)).map V.int).length<sizeLine:=by rw[ke,ke,qj];exact ZD (by omega)
  have tail:∀v:Int,v=stA dn T i->(upd G0 I (.lst (((List.range i).map (stA dn T)).map V.int ++ [V.int v]))) I=some (.lst (((List.range (i+1)).map (stA dn T)).map V.int)):=fun v e=>by rw[Zd,KN,kP,kP,e];rfl
  have Y:Builtin.bitAnd (i:Int) 1=(i:Int) % 2:=VF (by omega);refine⟨p,_,rfl,Y9.of ep,rfl,_,_,rfl,_,_,rfl,rfl,?_⟩;refine⟨_,rfl,_,_,rfl,rfl,_,rfl,?_⟩;show if (Builtin.bitAnd (i:Int) 1 != 0)=true then _ else _
  rw[Y];refine Z7 (fun hc=>?_) (fun hc=>?_)
  ·have uy:¬i % 2=0:=fun z=>by
    rw[XQ] at hc;omega
   have W:stA dn T i=ev2 t:=by unfold stA;rw[kh uy,td]
   refine⟨_,rfl,_,rfl,_,rfl,d0,_,_,rfl,rfl,?_⟩;refine⟨_,rfl,.inl ⟨rfl,_,Zr.of (sp I _ hs)⟩,_,rfl,_,rfl,?_⟩;refine Z7 (fun hd=>?_) (fun hd=>?_)
   ·have e:(1:Int)=stA dn T i:=by
     have hd:t<bw t:=kI hd;rw[W];unfold ev2;unfold bw at hd;split at hd
     ·rw[kj (by assumption)]
     ·omega
    exact⟨I,_,_,rfl,rfl,sp I _ hs,l2,_,_,_,rfl,S.put J,tail _ e⟩
   ·have e:(-1:Int)=stA dn T i:=by
     have hd:¬t<bw t:=fun z=>hd (kH z);rw[W];unfold ev2;unfold bw at hd;split at hd
     ·omega
     ·rw[kh (by assumption)]
    exact⟨1,rfl,I,_,_,rfl,rfl,sp I _ hs,l2,_,_,_,rfl,S.put J,tail _ e⟩
  ·have Z:i % 2=0:=by
    by_cases z:i % 2=0
    ·exact z
    ·exact absurd (by rw[XQ];omega) hc
   have W:stA dn T i=dn t:=by unfold stA;rw[kj Z,td]
   rw[O] at W;refine⟨_,rfl,_,rfl,uA,_,_,_,rfl,rfl,Zr.of (S uA _ hU),Fv _ d0 d1,?_⟩;refine⟨_,rfl,.inl ⟨rfl,_,Zr.of (sp I _ hs)⟩,_,rfl,_,rfl,?_⟩;refine Z7 (fun hd=>?_) (fun hd=>?_)
   ·have e:(1:Int)=stA dn T i:=by
     rw[O,W];exact(kj (kI hd)).symm
    exact⟨I,_,_,rfl,rfl,sp I _ hs,l2,_,_,_,rfl,S.put J,tail _ e⟩
   ·have e:(-1:Int)=stA dn T i:=by
     rw[O,W];exact(kh (fun z=>hd (kH z))).symm
    exact⟨1,rfl,I,_,_,rfl,rfl,sp I _ hs,l2,_,_,_,rfl,S.put J,tail _ e⟩
 ·rintro σ H' ⟨v3,v4,v5,rfl,sm,hs⟩;rw[ke] at hs;refine⟨_,rfl,k I H' _ J sm hs ?_ (by rw[O])⟩;rw[hn,BH dn T n (by omega),kL (by omega)]
def N9 (dn:QX)(T:QG):Int:=LM (fl dn T) / 2
inductive FE(vs:QH)(H:Hp)(Q:VK)(_E:XK):Prop|mk(l:Addr)(xs:QH)(ls:QB)(_:vs = [.ref l])(_:H l=some (.lst xs))(_:ZI H xs ls)(_:ls.length<=60)(_:Wk ls 0)(_:∀(p:Addr)(H':Hp)(ts:QA),H p=none->Zh H H'->UK (JB (Jb ls)) (Jp ls) ts->H' p=some (.lst ((ts.map (N9 (Yg (Jb ls)))).map V.int))->Q (.ref p) H')
theorem Zkx {m:QX}(a:UK m i ts):∀T∈ts,∃n,T.length=2*n:=by
 induction a with
 | nil=>intro T h;cases h
 | add a h t ih=>
  intro T F;rcases Kg.mp F with z | z
  ·exact ih T z
  ·rw[kR.mp z];obtain⟨L,_,_,_,rfl⟩:=t;exact⟨L,W6 _ _ _⟩
 | skip a h ih=>exact ih
abbrev BK:Stmt:=top 28
theorem BL:Zw ["drawing", "uppers"] nC (Zj BK):={}
theorem Zk8 (F:JD K "turns" "turns" BK f fd)(YG:Jk P w K mg base 4 "uppers_at_ends" nC BG)(JN:Jk P w K mg base 2 "steps_down" nM BI)(dI:Jk P w K mg base 5 "tours" nC Bz)(bD:mg "abs" = none)(dJ:mg "sum" = none):Yc P w K mg base JZ 6 f fd nC FE:=by
 refine F.ok1 BL fun aB A outer s H vs Q E hr h=>?_;obtain⟨l,xs,ls,rfl,hl,hL,I,U,k⟩:=h;have ua:=Fy U;have M:=WQ U;refine⟨_,(Zc (LV (i:=1) BL.nd rfl (Or.inr rfl) (Zp YG hr (Za (pv 0) Zb)))
  (Zf (Zv (WI (Ls:=["tour"]) (Fs:=["uppers"]) (fi:=[1]) BL.lc rfl (ZU (K:=K) rfl (Zp dI hr (Za (pv 0) Zb))) (fun cl C s3 H3 ex=>⟨(YC (i:=0)),YB,(Zk DM (Zs CG (by rfl) bD boot_abs (Za (Zs (SX (K:=K) rfl rfl) (by rfl) dJ boot_sum (Za (Zp JN hr (Za (pv 0) (Za (pv 1) Zb))) Zb)) Zb)) Ze)⟩))))),?_⟩
 refine⟨_,rfl,l,xs,ls,rfl,hl,hL,I,U,fun uA H1 fu W eu=>?_⟩;refine⟨_,rfl,l,xs,ls,rfl,W l _ hl,hL.same W,I,U,fun J H2 ys ts ft s2 et rv ap Y=>?_⟩;have good:=Y.good M (qV _);have tl:=Y.len M (qV _);refine⟨J,rfl,⟨_,Zr.of et⟩,YZ (K:=K) (a:=J) (xs:=ys) (by rw[rv.len];exact Kv (ZD (by lia))) (fun i zs G=>Zh H2 G/\zs=((ts.take i).map (N9 (Yg (Jb ls)))).map V.int) ⟨Zh.refl _,rfl⟩ (fun i zs G p=>by rw[p.2,ke,ke,kK];lia) (fun i zs G p=>Zr.of (p.1 J _ et)) (fun i x zs G S p=>?_) (fun zs G p D hD=>?_)⟩
 ·obtain⟨O,rfl⟩:=p;obtain⟨q,T,Z,rfl,hq⟩:=rv.atX S;obtain⟨n,hn⟩:=Zkx Y T (kT Z);have uz:∀x∈T,x∈ts.flatten:=fun x S=>List.mem_flatten.mpr ⟨T,kT Z,S⟩;have sub:T.length<=ts.flatten.length:=by
   obtain⟨a,b,e⟩:=List.append_of_mem (kT Z);rw[e,qY,Xk,ki,ki];lia
  have fs:=Wb (Jp ls) ts.flatten good.1 good.2.1;refine lcG ?_;refine⟨_,rfl,_,rfl,q,uA,T,Jp ls,(Jb ls).map (·.1),n,rfl,O q _ hq,O uA _ (s2 uA _ eu),hn,by lia,fun x S=>good.2.1 x (uz x S),fun pA G1 ss fp sp ep es _=>?_⟩;refine⟨pA,_,rfl,Zr.of ep,_,rfl,_,_,rfl,rfl,⟨by decide,by decide⟩,O.trans sp,?_⟩;rw[Jm (ns:=ts) _ Z,kP];refine Kx (fun z=>_ ++ [V.int z]) ?_;show (if ss.sum<0 then -ss.sum else ss.sum) / 2=_;rw[es];rfl
 ·obtain⟨O,rfl⟩:=p;refine k D _ ts (W.free (s2.free (O.free hD))) ((W.trans (s2.trans O)).step hD) Y ?_;rw[Zd,rv.len,kL (km _)]
def hAt (dn:QX)(T:QG):Nat->Int
 | 0=>1
 | i+1=>hAt dn T i-stA dn T i
def plc (T:QG)(x:Int):Nat:=T.idxOf x
def hgt (dn:QX)(T:QG)(x:Int):Int:=hAt dn T (plc T x)
theorem FF (nd:T.Nodup)(hi:i<T.length):plc T T[i]=i:=by unfold plc;exact List.Nodup.idxOf_getElem nd i hi
theorem Zpr (nd:T.Nodup)(hi:i<T.length):hgt dn T T[i]=hAt dn T i:=by unfold hgt;rw[FF nd hi]
theorem FG (dn:QX)(T:QG):∀i,hAt dn T i=1-((List.range i).map (stA dn T)).sum
 | 0=>by simp[hAt]
 | i+1=>by rw[KN,kP,T1];show hAt dn T i-stA dn T i=_;rw[FG dn T i];simp;lia
theorem BM (m:QX)(f:Int):∀(L j:Nat),j<L->(Gh m f L)[2*j]? = some (gt m f j)/\(Gh m f L)[2*j+1]? = some (m (gt m f j))
 | 0,j,h=>by lia
 | L+1,j,h=>by
  have F:=W6 m f L;by_cases e:j=L
  ·subst e;constructor
   ·show (Gh m f j ++ [gt m f j,m (gt m f j)])[2*j]? = _;rw[Kq (by lia),F];simp
   ·show (Gh m f j ++ [gt m f j,m (gt m f j)])[2*j+1]? = _;rw[Kq (by lia),F];simp[show 2*j+1-2*j=1 by lia]
  ·obtain⟨a,b⟩:=BM m f L j (by lia);constructor
   ·show (Gh m f L++_)[2*j]? = _;rw[KG (by lia)];exact a
   ·show (Gh m f L++_)[2*j+1]? = _;rw[KG (by lia)];exact b
structure One (ps:QL)(N:Nat)(T:QG)(L:Nat):Prop where
 M:Wa (JB ps) N
 fl0:(ZK ps).Nodup
 T_is:T=Gh (JB ps) 0 L
 L1:1<=L
 back:gt (JB ps) 0 L=0
 nd:T.Nodup
 all:∀x:Int,0<=x->x<N->x∈T
 dom:∀x∈T,0<=x/\x<(N:Int)
 zero:fl (Yg ps) T=0
theorem Znx {ps:QL}{b:Int}(nd:(ZK ps).Nodup)(h:(u,l)∈ps)(h2:(l,b)∈ps):False:=by
 induction ps with
 | nil=>cases h
 | cons p r ih=>
  have e:ZK (p::r)=p.1::p.2::ZK r:=by simp[ZK]
  have fr:=nd;rw[e] at nd;obtain⟨J,F⟩:=KL.mp nd;obtain⟨O,I⟩:=KL.mp F;have inr:∀{a c:Int},(a,c)∈r->a∈ZK r/\c∈ZK r:=fun {a c} z=>⟨KO.mpr ⟨(a,c),z,by simp⟩,KO.mpr ⟨(a,c),z,by simp⟩⟩;rcases kQ.mp h with z | z
  ·rcases kQ.mp h2 with y | y
   ·subst z;have:(u,l)=(l,b):=y.symm;have S:u=l:=Kx Prod.fst this;exact PQ fr (kS) S
   ·subst z;exact O (inr y).1
  ·rcases kQ.mp h2 with y | y
   ·subst y;exact J (kX _ (inr z).2)
   ·exact ih I z y
namespace One
variable {ps:QL}{N:Nat}{T:QG}{L:Nat}
theorem len (o:One ps N T L):T.length=2*L:=by rw[o.T_is];exact W6 _ _ _
theorem at0 (o:One ps N T L)(h:j<L):T[2*j]? = some (gt (JB ps) 0 j):=by rw[o.T_is];exact(BM _ _ L j h).1
theorem at1 (o:One ps N T L)(h:j<L):T[2*j+1]? = some (JB ps (gt (JB ps) 0 j)):=by rw[o.T_is];exact(BM _ _ L j h).2
theorem hg (o:One ps N T L)(h:T[i]? = some x):hgt (Yg ps) T x=hAt (Yg ps) T i:=by obtain⟨hi,e⟩:=kC.mp h;rw[<- e];exact Zpr o.nd hi
theorem stE (o:One ps N T L)(h:j<L):hAt (Yg ps) T (2*j+1)=hAt (Yg ps) T (2*j)-Yg ps (gt (JB ps) 0 j):=by show hAt (Yg ps) T (2*j)-stA (Yg ps) T (2*j)=_;unfold stA;rw[kj (by lia)];have:=o.at0 h;simp[this]
theorem stO (o:One ps N T L)(h:j<L):hAt (Yg ps) T (2*j+2)=hAt (Yg ps) T (2*j+1)-ev2 (JB ps (gt (JB ps) 0 j)):=by show hAt (Yg ps) T (2*j+1)-stA (Yg ps) T (2*j+1)=_;unfold stA;rw[kh (by lia)];have:=o.at1 h;simp[this]
theorem Zsl (o:One ps N T L):hAt (Yg ps) T (2*L)=1:=by rw[FG];have:=BH (Yg ps) T L (by rw[o.len];exact km _);rw[this,kL (by rw[o.len];exact km _),o.zero];rfl
theorem on (o:One ps N T L)(h0:0<=x)(h1:x<N):∃j,j<L/\(x=gt (JB ps) 0 j∨x=JB ps (gt (JB ps) 0 j)):=by have:=o.all x h0 h1;rw[o.T_is] at this;exact Je.mp this
theorem pos (o:One ps N T L):(0:Int)<N:=by have:=o.at0 (j:=0) o.L1;have h:=o.dom _ (kT this);have e:gt (JB ps) 0 0=0:=rfl;rw[e] at h;exact h.2
theorem Iq (o:One ps N T L)(j:Nat):0<=gt (JB ps) 0 j/\gt (JB ps) 0 j<(N:Int):=YL o.M (by decide) o.pos j
theorem ends (o:One ps N T L)(h:(u,l)∈ps)(O:0<=u/\u<(N:Int)):hgt (Yg ps) T u=hgt (Yg ps) T l+1:=by
 obtain⟨S,U⟩:=DU o.fl0 h;have ne:=PQ o.fl0 h;have V:Yg ps u=1:=kj (Kw.mpr ⟨(u,l),h,rfl⟩);have dl:Yg ps l = -1:=by unfold Yg;rw[kh];intro z;obtain⟨⟨a,b⟩,I,e⟩:=Kw.mp z;have e:a=l:=e;subst e;have q:=(DU o.fl0 I).1;rw[U] at q;subst q;exact Znx o.fl0 h I
 obtain⟨j,F,c⟩:=o.on O.1 O.2;rcases c with c | c
 ·have J:=o.at0 F;have a1:=o.at1 F;rw[<- c] at J a1;rw[S] at a1;rw[o.hg J,o.hg a1,o.stE F,<- c,V];lia
 ·have J:=o.at0 F;have a1:=o.at1 F;have e:gt (JB ps) 0 j=l:=by
   have:=o.M.inv _ (o.Iq j).1 (o.Iq j).2;rw[<- c,S] at this;exact this.symm
  rw[e] at J;rw[<- c] at a1;rw[o.hg J,o.hg a1,o.stE F,e,dl];lia
theorem FH (o:One ps N T L)(h0:0<=x)(h1:x<N)(S:x % 2=0):hgt (Yg ps) T x=hgt (Yg ps) T (x+1)+1:=by
 have key:∀y:Int,(∃j,j<L/\y=JB ps (gt (JB ps) 0 j))->0<=y->hgt (Yg ps) T (bw y)=hgt (Yg ps) T y-ev2 y:=by
  rintro y ⟨j,I,e⟩ _;have a1:=o.at1 I;rw[<- e] at a1;rw[o.hg a1];have nx:gt (JB ps) 0 (j+1)=bw y:=by rw[e];rfl
  have st:=o.stO I;rw[<- e] at st;by_cases lt:j+1<L
  ·have a2:=o.at0 lt;rw[nx] at a2;rw[o.hg a2,<- st];rfl
  ·have V:j+1=L:=by omega
   have W:bw y=0:=by rw[<- nx,V];exact o.back
   have U:=o.at0 (j:=0) o.L1;have J:gt (JB ps) 0 0=0:=rfl;rw[J] at U;rw[W,o.hg U,<- st];have:=o.Zsl;rw[show 2*L=2*j+2 by omega] at this;rw[this];rfl
 have hb:bw x=x+1:=kj S;have F:bw (x+1)=x:=by rw[<- hb];exact LG x
 have h2:=SK o.M.ev h0 h1;rw[hb] at h2;obtain⟨j,I,c⟩:=o.on h2.1 h2.2;rcases c with c | c
 ·
  have O:∃i,i<L/\x=JB ps (gt (JB ps) 0 i):=by
   cases j with
   | zero=>
    have J:gt (JB ps) 0 0=0:=rfl;rw[J] at c;omega
   | succ i=>
    refine⟨i,by omega,?_⟩;have:gt (JB ps) 0 (i+1)=bw (JB ps (gt (JB ps) 0 i)):=rfl;rw[this] at c;rw[<- LG (JB ps (gt (JB ps) 0 i)),<- c,F]
  have q:=key x O h0;rw[hb] at q;have:ev2 x=1:=kj S;omega
 ·have q:=key (x+1) ⟨j,I,c⟩ h2.1;rw[F] at q;have:ev2 (x+1) = -1:=kh (by omega);omega
theorem h0 (o:One ps N T L):hgt (Yg ps) T 0=1:=by have F:=o.at0 (j:=0) o.L1;have I:gt (JB ps) 0 0=0:=rfl;rw[I] at F;rw[o.hg F];rfl
theorem h1 (o:One ps N T L):hgt (Yg ps) T 1=0:=by have:=o.FH (x:=0) (by decide) o.pos (by decide);rw[o.h0] at this;have e:(0:Int)+1=1:=rfl;rw[e] at this;lia
end One
theorem BN {m:QX}(h:UK m 0 ts):ts = []:=by cases h;rfl
theorem BO {m:QX}:∀{n:Nat}{ts:QA},UK m (n+1) ts -> ∃T r,ts=T::r/\Jq m 0 T
 | 0,ts,h=>by
  cases h with
  | add a b c=>rw[BN a];exact⟨_,[],rfl,c⟩
  | skip a b=>rw[BN a] at b;simp at b
 | n+1,ts,h=>by
  cases h with
  | add a b c=>
   obtain⟨T,r,e,t⟩:=BO a;rw[e];exact⟨T,_,rfl,t⟩
  | skip a b=>exact BO a
theorem Zpq (ps:QL)(x:Int):Yg ps x % 2=1:=by unfold Yg;split<;>decide
theorem ZnL (x:Int):ev2 x % 2=1:=by unfold ev2;split<;>decide
theorem FI (ps:QL):∀T:QG,fl (Yg ps) T % 2=0
 | []=>rfl
 | [_]=>rfl
 | x::y::r=>by have h:=FI ps r;have a:=Zpq ps x;have b:=ZnL y;show (Yg ps x+ev2 y+fl (Yg ps) r) % 2=0;omega
theorem sub_len:∀{l l':QG},l.Nodup->(∀x∈l,x∈l')->l.length<=l'.length
 | [],_,_,_=>Kn _
 | a::r,l',nd,h=>by obtain⟨I,nr⟩:=KL.mp nd;have J:=sub_len (l':=l'.erase a) nr fun x F=>(MS (fun z:x=a=>I (by rw[<- z];exact F))).mpr (h x (kX _ F));have ha:=h a kS;rw[Ta ha] at J;have:0<l'.length:=Mn ha;rw[Kk];lia
theorem FJ (O:Wk ls 0)(F:UK (JB (Jb ls)) (Jp ls) [T])(h0:N9 (Yg (Jb ls)) T=0):∃L,One (Jb ls) (Jp ls) T L/\T.length=Jp ls:=by
 have M:=WQ O;have I:(ZK (Jb ls)).Nodup:=(W8 O).symm.nodup (GQ _);cases e:Jp ls with
 | zero=>rw[e] at F;exact absurd (BN F) (by simp)
 | succ n=>
  rw[e] at F M;obtain⟨T',r,q,t⟩:=BO F;cases q;have J:(0:Int)<((n+1:Nat):Int):=by lia
  obtain⟨L,L1,bk,V,rfl⟩:=id t;have nd:=t.nodup M (by decide) J;have all:∀x:Int,0<=x->x<((n+1:Nat):Int)->x∈Gh (JB (Jb ls)) 0 L:=fun x U W=>by obtain⟨k,rfl⟩:=kF U;simpa using F.mem k (by lia)
  refine⟨L,⟨M,I,rfl,L1,bk,nd,all,t.dom M (by decide) J,?_⟩,?_⟩
  ·have:=FI (Jb ls) (Gh (JB (Jb ls)) 0 L);unfold N9 LM at h0;split at h0<;>lia
  ·have a:=t.len M (by decide) J;have b:n+1<=(Gh (JB (Jb ls)) 0 L).length:=by
    have sub:∀x∈N1 (n+1),x∈Gh (JB (Jb ls)) 0 L:=fun x S=>all x (YV.mp S).1 (YV.mp S).2;have:=sub_len (GQ (n+1)) sub
    rwa [U2] at this
   lia
inductive FK(vs:QH)(H:Hp)(Q:VK)(_E:XK):Prop|mk(tA uA:Addr)(T:QG)(ps:QL)(N L:Nat)(_:vs = [.ref tA,.ref uA])(_:H tA=some (.lst (T.map V.int)))(_:H uA=some (.lst (tab N fun x=>V.bl (decide (x∈ps.map (·.1))))))(_:One ps N T L)(_:T.length=N)(_:N<=120)(_:∀(p:Addr)(H':Hp),H p=none->Zh H H'->H' p=some (.lst (tab N fun x=>V.int (hgt (Yg ps) T x)))->Q (.ref p) H')
abbrev Gq:Stmt:=top 30
theorem YH:Zw ["tour", "uppers", "heights", "height", "thread", "step"] nM (Zj Gq):={}
theorem ZqY (F:JD K "heights_along" "heights_along" Gq f fd)(JN:Jk P w K mg base 2 "steps_down" nM BI)(Yl:mg "len" = none)(bR:mg "zip" = none):Yc P w K mg base JZ 3 f fd nM FK:=by
 refine F.ok1 YH fun aB A outer s H vs Q E hr h=>?_;obtain⟨tA,uA,T,ps,N,L,rfl,S,hU,o,Z,ac,k⟩:=h;refine⟨_,(Zc (Zz (i:=2) YH.nd (Zk LW (Zx (Za Ze Zb)) (Zs (Yq (K:=K)) (by rfl) Yl KR (Za (pv 0) Zb))))
  (Zc (Zz (i:=3) YH.nd Ze)
  (Zc (Yr Ka rfl (S0 (K:=K) rfl (by rfl) bR (Za (pv 0) (Za (Zp JN hr (Za (pv 0) (Za (pv 1) Zb))) Zb))) (Z8 (K:=K) (n:=2) rfl rfl (Zo (ZT (i:=4) YH.nd) (Zo (ZT (i:=5) YH.nd) ZV))) (Zc (Yz (pv 3) (YI (pv 2) (pv 4) set_list))
  (Zf (RB (i:=3) YH.nd rfl (.inl rfl) (pv 5) Es))))
  (Zf (Zv (pv 2)))))),?_⟩
 refine⟨sz1,fun l0 aX=>?_⟩;have s0:Zh H (upd H l0 (.lst [.int 0])):=Zh.laid aX;refine⟨_,rfl,tA,_,rfl,.inl (Zr.of (s0 _ _ S)),?_⟩;rw[ke,Z];refine⟨l0,_,_,rfl,rfl,Zd,by lia,by lia,(by show 1*_<=sizeLine;exact Kv (ZD (by lia))),fun I U=>?_⟩;obtain⟨H1,e1⟩:∃G,G=upd (upd H l0 (.lst [.int 0])) I (.lst (List.replicate ((N:Nat):Int).toNat [V.int 0]).flatten):=⟨_,rfl⟩;rw[<- e1];have s1:Zh H H1:=by rw[e1];exact s0.step U
 have h1:H1 I=some (.lst (tab N fun _=>V.int 0)):=by rw[e1,Zd,kM,DE]
 have fh:H I=none:=s0.free U;refine⟨_,rfl,_,rfl,_,rfl,tA,uA,T,N,ps.map (·.1),L,rfl,s1 _ _ S,s1 _ _ hU,o.len,by lia,o.dom,fun sA H2 ss fs s2 es _ J=>?_⟩;have dn:(fun x=>if x∈ps.map (·.1) then(1:Int) else -1)=Yg ps:=rfl;rw[dn] at J;have sl:ss.length=T.length:=by rw[J,ke,qj]
 have O:=s1.trans s2;have h2:=s2 _ _ h1;have vA:tA≠I:=Zg S fh;have vB:sA≠I:=(Zg h1 fs).symm;refine⟨tA,sA,rfl,⟨_,Zr.of (O _ _ S)⟩,⟨_,Zr.of es⟩,Qo (K:=K) (a:=tA) (b:=sA) (xs:=T.map V.int) (ys:=ss.map V.int) (by rw[ke,ke,sl]) (fun i σ G=>∃(v4 v5:QI),σ = [some (.ref tA),some (.ref uA),some (.ref I),some (.int (hAt (Yg ps) T i)),v4,v5]/\Y5 I H2 G /\
  G I=some (.lst (tab N fun x=>V.int (if plc T x<i then hgt (Yg ps) T x else 0)))) ⟨none,none,rfl,Y5.refl _ _,?_⟩ (fun i σ G ⟨_,_,_,fr,_⟩=>⟨Zr.of (fr _ _ (O _ _ S) vA),Zr.of (fr _ _ es vB)⟩) ?_ ?_⟩
 ·rw[h2];exact Kx (fun z=>some (HO.lst z)) (Jn fun x _ _=>by simp)
 ·rintro i x y p σ G hx hy ⟨v4,v5,rfl,fr,W⟩ hp;obtain⟨t,Y,rfl⟩:=W0 hx;obtain⟨d,hd,rfl⟩:=W0 hy;have hi:i<T.length:=(kC.mp Y).1;obtain⟨d0,d1⟩:=o.dom t (kT Y);obtain⟨tn,rfl⟩:=kF d0;have vC:d=stA (Yg ps) T i:=by
   rw[J] at hd;simp[hi] at hd;exact hd.symm
  refine⟨p,_,rfl,Y9.of Zd,rfl,_,_,rfl,_,_,rfl,rfl,?_⟩;have np:I≠p:=Zg W hp;have bj:(upd G p (.tup [.int (tn:Int),.int d])) I=some (.lst (tab N fun x=>V.int (if plc T x<i then hgt (Yg ps) T x else 0))):=by rw[Zi np];exact W
  refine⟨_,rfl,_,rfl,_,rfl,I,_,_,tn,rfl,rfl,bj,(by rw[GC];exact Jh (by lia)),?_⟩;refine⟨_,rfl,_,rfl,_,_,rfl,rfl,?_⟩;refine⟨some (.int (tn:Int)),some (.int d),?_,(fr.new hp).trans Y5.upd,?_⟩
  ·rw[vC];rfl
  ·rw[Zd,Ci];refine Kx (fun z=>some (HO.lst z)) (Jn fun x x0 x1=>?_);have pt:plc T ((tn:Nat):Int)=i:=by
    obtain⟨_,e⟩:=kC.mp Y;rw[<- e];exact FF o.nd hi
   by_cases e:x=(tn:Int)
   ·rw[kj e,e,pt,kj (Nat.lt_succ_self i)];unfold hgt;rw[pt]
   ·rw[kh e];have nx:plc T x≠i:=fun z=>e (by
     have hx:=o.all x x0 x1;have lt:plc T x<T.length:=T9 hx;have gx:T[plc T x]=x:=List.getElem_idxOf lt;obtain⟨_,e2⟩:=kC.mp Y;rw[<- gx,<- e2];simp[z])
    by_cases c:plc T x<i
    ·rw[kj c,kj (by lia)]
    ·rw[kh c,kh (by lia)]
 ·rintro σ G ⟨v4,v5,rfl,fr,W⟩;refine⟨_,rfl,k I G fh ?_ ?_⟩
  ·exact fun c u e=>fr c u (O c u e) (Zg e fh)
  ·rw[W];refine Kx (fun z=>some (HO.lst z)) (Jn fun x x0 x1=>?_);rw[kj];rw[ke];unfold plc;exact T9 (o.all x x0 x1)
def hsB (sc:Int)(ls:QB)(b:Bool):Prop:=(sc=1->b=true)/\(sc≠1 -> ∃ts,UK (JB (Jb ls)) (Jp ls) ts/\b=decide (ts.map (N9 (Yg (Jb ls))) = [0]))
inductive FL(vs:QH)(H:Hp)(Q:VK)(_E:XK):Prop|mk(l:Addr)(sc:Int)(xs:QH)(ls:QB)(_:vs = [.ref l,.int sc])(_:H l=some (.lst xs))(_:ZI H xs ls)(_:ls.length<=60)(_:Wk ls 0)(_:∀(H':Hp)(b:Bool),Zh H H'->hsB sc ls b->Q (.bl b) H')
abbrev BP:Stmt:=top 31
theorem Zgj:Zw nE nE (Zj BP):={}
theorem Zrp (F:JD K "has_scale" "has_scale" BP f fd)(jb:Jk P w K mg base 6 "turns" nC FE):Yc P w K mg base JZ 7 f fd nE FL:=by
 refine F.ok1 Zgj fun S A outer s H vs Q E J h=>?_;obtain⟨l,sc,xs,ls,rfl,U,W,I,Y,k⟩:=h;refine⟨_,(Zf (Zv (Cv (Yn Yp (pv 1) Ze (Zt _)) (Lf (Yn (Qq (K:=K) rfl J.units) (Zp jb J (Za (pv 0) Zb)) (Zx (Za Ze Zb)) (Zt _)))))),?_⟩;refine⟨_,rfl,rfl,_,rfl,?_⟩;refine Z7 (fun c=>?_) (fun c=>?_)
 ·have e:sc=1:=V.int.inj (kI c);exact k H true (Zh.refl _) ⟨fun _=>rfl,fun z=>absurd e z⟩
 ·have e:sc≠1:=fun z=>c (kH (Kx V.int z));refine⟨_,rfl,l,xs,ls,rfl,U,W,I,Y,fun p H1 ts fp Z tr ep=>?_⟩;refine⟨sz1,fun q O=>?_⟩;refine⟨p,q,ts.map (N9 (Yg (Jb ls))),[0],rfl,rfl,Zr.of ((Zh.laid O) _ _ ep),Zr.of Zd,?_⟩;exact k _ _ (Z.step O) ⟨fun z=>absurd z e,fun _=>⟨ts,tr,rfl⟩⟩
def thV (sc:Int)(ls:QB)(zs:QH):Prop:=(sc=1/\zs=tab (Jp ls) fun _=>V.int 0)∨(sc≠1 /\ ∃T L,UK (JB (Jb ls)) (Jp ls) [T]/\N9 (Yg (Jb ls)) T=0/\One (Jb ls) (Jp ls) T L/\zs=tab (Jp ls) fun x=>V.int (hgt (Yg (Jb ls)) T x))
inductive FN(C:Addr)(vs:QH)(H:Hp)(Q:VK)(E:XK):Prop|mk(l:Addr)(sc:Int)(xs:QH)(ls:QB)(_:vs = [.ref l,.int sc])(_:H l=some (.lst xs))(_:ZI H xs ls)(_:ls.length<=60)(_:Wk ls 0)(_:∀(p:Addr)(H':Hp)(zs:QH),H p=none->Zh H H'->H' p=some (.lst zs)->thV sc ls zs->Q (.ref p) H')(_:∀(H':Hp)(ts:QA),Zh H H'->sc≠1->UK (JB (Jb ls)) (Jp ls) ts->ts.map (N9 (Yg (Jb ls))) ≠ [0]->E (.ref C) none H')
theorem Zph (h:ts.map (N9 dn) = [0]):∃T,ts = [T]/\N9 dn T=0:=by
 cases ts with
 | nil=>cases h
 | cons T r=>
  cases r with
  | nil=>exact⟨T,rfl,by simpa using h⟩
  | cons a b=>simp at h
abbrev WW:Stmt:=top 32
theorem Zcb:Zw nE nE (Zj WW):={}
theorem Zry (F:JD K "thread_heights" "thread_heights" WW f fd)(Wd:mg "NoHeights" = some (.ref Yi))(jc:PySem.W.excIn K Yi bmV "ValueError.__new__" = true)
  (jd:Jk P w K mg base 7 "has_scale" nE FL) (JG:Jk P w K mg base 2 "ends_of" nC (Ly fun x=>decide (x = "end"))) (dI:Jk P w K mg base 5 "tours" nC Bz) (YG:Jk P w K mg base 4 "uppers_at_ends" nC BG)
  (Gy:Jk P w K mg base 3 "heights_along" nM FK) (Yl:mg "len" = none):Yc P w K mg base (CX1 P w) 8 f fd nE (FN Yi):=by
 refine F.okX1 Zcb fun aB A outer s H vs Q E S h=>?_;obtain⟨l,sc,xs,ls,rfl,hl,hL,I,U,k,kx⟩:=h;have Y:=WM I;have nt:2*(Ym ls UP ls.length).length=Jp ls:=by unfold Jp Jb JE;rw[ke]
 refine⟨_,(Zc (ZP (J4 (JC (Zp jd S (Za (pv 0) (Za (pv 1) Zb))))) (Zf (Oc (by rfl) Wd jc (Za ZJ Zb))) ZF)
  (Zc (ZP (Zu Yp (pv 1) Ze (Zt _)) (Zf (Zv (Zk LW (Zx (Za Ze Zb)) (Zk Wn Ze (Zs (Yq (K:=K)) (by rfl) Yl KR (Za (Zp JG S (Za (pv 0) Zb)) Zb)))))) ZF)
  (Zf (Zv (Zp Gy S (Za (Zy (Zl (K:=K)) (Zp dI S (Za (pv 0) Zb)) Ze (fun _ _=>rfl)) (Za (Zp YG S (Za (pv 0) Zb)) Zb))))))),?_⟩
 refine⟨_,rfl,_,rfl,l,sc,xs,ls,rfl,hl,hL,I,U,fun H1 b Z hb=>?_⟩;refine⟨b,rfl,?_⟩;cases b with
 | false=>
  refine JU ?_;refine⟨sz1,?_⟩;have ne:sc≠1:=fun z=>by cases hb.1 z
  obtain⟨ts,tr,e⟩:=hb.2 ne;exact kx H1 ts Z ne tr (fun z=>by rw[kH z] at e;cases e)
 | true=>
  refine YD ?_;refine⟨_,rfl,rfl,_,rfl,?_⟩;refine Z7 (fun c=>?_) (fun c=>?_)
  ·have e:sc=1:=V.int.inj (kI c);refine⟨sz1,fun l0 aX=>?_⟩;have s0:=Z.step (o:=.lst [.int 0]) aX;refine⟨_,rfl,l,xs,ls,rfl,s0 l _ hl,hL.same s0,I,U.kd,fun eA H2 fe s2 ee=>?_⟩;refine⟨eA,_,rfl,.inl (Zr.of ee),_,_,rfl,rfl,.inl ⟨by decide,by decide⟩,?_⟩;have el:((2:Int)*((((Ym ls (fun x=>decide (x = "end")) ls.length).map V.int).length:Nat):Int))=((Jp ls:Nat):Int):=by
    rw[ke];have:(Ym ls (fun x=>decide (x = "end")) ls.length).length=(Ym ls UP ls.length).length:=rfl;lia
   show Pl (V.ref l0) (V.int ((2:Int)*((((Ym ls (fun x=>decide (x = "end")) ls.length).map V.int).length:Nat):Int))) H2 _;rw[el];refine⟨l0,_,_,rfl,rfl,s2 l0 _ Zd,by lia,by lia,(by show 1*_<=sizeLine;exact Kv (ZD (by lia))),fun rA fD=>?_⟩;refine k rA _ _ ((s0.trans s2).free fD) ((s0.trans s2).step fD) Zd (.inl ⟨e,?_⟩);rw[kM,DE]
  ·have e:sc≠1:=fun z=>c (kH (Kx V.int z));obtain⟨ts0,O,e0⟩:=hb.2 e;obtain⟨T,rfl,t0⟩:=Zph (kI e0.symm);obtain⟨L,o,oZ⟩:=FJ U O t0;refine⟨_,rfl,l,xs,ls,rfl,Z l _ hl,hL.same Z,I,U,fun vD H2 ys ts ft s2 et rv ap tr=>?_⟩;have vE:ts = [T]:=(tr.uniq O);subst vE;obtain⟨tA,rfl,eT⟩:∃tA,ys = [V.ref tA]/\H2 tA=some (.lst (T.map V.int)):=by
    cases rv with
    | cons a r=>
     cases r;obtain⟨q,rfl,hq⟩:=a;exact⟨q,rfl,hq⟩
   refine⟨vD,_,_,_,rfl,rfl,Zr.of et,Zn (j:=0) rfl,?_⟩;have J:=Z.trans s2;refine⟨_,rfl,l,xs,ls,rfl,J l _ hl,hL.same J,I,U,fun uA H3 fu s3 eu=>?_⟩;refine⟨tA,uA,T,Jb ls,Jp ls,L,rfl,s3 _ _ eT,eu,o,oZ,Y,fun p H4 fp s4 ep=>?_⟩;have bn:=(J.trans s3).trans s4;exact k p H4 _ ((J.trans s3).free fp) bn ep (.inr ⟨e,T,L,O,t0,o,rfl⟩)
def kn (kvs:QD)(x:Int):Prop:=(JW kvs (Sum.inl x)).isSome=true
structure Dc (g:QX)(H:Hp)(d:Addr)(n:Nat)(kvs:QD):Prop where
 at_:H d=some (.dK kvs)
 le:kvs.length<=n
 ok:∀x v,JW kvs (Sum.inl x)=some v->v = .int (g x)
theorem DG {y:Int}:kn (putK kvs (Sum.inl y) v) x ↔ (x=y∨kn kvs x):=by
 unfold kn;rw[Py];by_cases e:x=y
 ·rw[kj (Kx Sum.inl e)];simp[e]
 ·rw[kh (fun z=>e (NA z))];simp[e]
theorem Dc.put {d:Addr}{y:Int}(h:Dc g H d n kvs):Dc g (upd H d (.dK (putK kvs (Sum.inl y) (.int (g y))))) d (n+1) (putK kvs (Sum.inl y) (.int (g y))):=by
 refine⟨Zd,?_,fun x v e=>?_⟩
 ·have:=Ga kvs (Sum.inl y) (.int (g y));have:=h.le;lia
 ·rw[Py] at e;split at e
  ·rename_i z
   cases e;rw[NA z]
  ·exact h.ok x v e
theorem Dc.val {d:Addr}(h:Dc g H d n kvs)(k:kn kvs x):JW kvs (Sum.inl x)=some (.int (g x)):=by
 unfold kn at k;cases e:JW kvs (Sum.inl x) with
 | none=>rw[e] at k;cases k
 | some v=>rw[h.ok x v e]
theorem FO {tu tl td:TE}{σ:L2.St}{d:Addr}{D:Ends}(J:∀(H:Hp)(Q:VK),Q (.int u) H->tu σ H Q)(O:∀(H:Hp)(Q:VK),Q (.int l) H->tl σ H Q)(hd:∀(H:Hp)(Q:VK),Q (.ref d) H->td σ H Q)
  (F:Dc g H d n kvs) (hn:n<1000000) (hg:g u=g l+1)
  (k:∀(H':Hp)(I:QD),Y5 d H H'->Dc g H' d (n+1) I->(∀x,kn kvs x->kn I x)->((kn kvs u∨kn kvs l)->kn I u/\kn I l)->D.nx σ H'):
  Dj (tB (DR tu td)) (Dk (tOp (rI0 fun i j=>V.int (i-j)) (tOp PF td tu) (tC (V.int 1))) (IX td tl PH))
   (Dj (tB (DR tl td)) (Dk (tOp (rI0 fun i j=>V.int (i+j)) (tOp PF td tl) (tC (V.int 1))) (IX td tu PH)) Rw) D σ H:=by
 have sz:kvs.length<sizeLine:=by have:=F.le;rw[kY];lia
 refine J _ _ (hd _ _ ⟨d,_,rfl,Mc.k (k:=Sum.inl u) F.at_,_,rfl,?_⟩);refine Z7 (fun c=>?_) (fun c=>?_)
 ·have U:kn kvs u:=c;refine hd _ _ (J _ _ ⟨d,.int (g u),rfl,?_,_,_,rfl,rfl,hd _ _ (O _ _ ⟨d,_,rfl,LF.k (k:=Sum.inl l) F.at_ sz,?_⟩)⟩)
  ·have:=Mc.k (k:=Sum.inl u) F.at_;rw[F.val U] at this;exact this
  ·have e:g u-1=g l:=by lia
   show D.nx σ (upd H d (.dK (putK kvs (Sum.inl l) (.int (g u-1)))));rw[e];exact k _ _ Y5.upd F.put (fun x h=>DG.mpr (.inr h)) (fun _=>⟨DG.mpr (.inr U),DG.mpr (.inl rfl)⟩)
 ·have Y:¬kn kvs u:=c;refine O _ _ (hd _ _ ⟨d,_,rfl,Mc.k (k:=Sum.inl l) F.at_,_,rfl,?_⟩);refine Z7 (fun S=>?_) (fun S=>?_)
  ·have W:kn kvs l:=S;refine hd _ _ (O _ _ ⟨d,.int (g l),rfl,?_,_,_,rfl,rfl,hd _ _ (J _ _ ⟨d,_,rfl,LF.k (k:=Sum.inl u) F.at_ sz,?_⟩)⟩)
   ·have:=Mc.k (k:=Sum.inl l) F.at_;rw[F.val W] at this;exact this
   ·have e:g l+1=g u:=hg.symm;show D.nx σ (upd H d (.dK (putK kvs (Sum.inl u) (.int (g l+1)))));rw[e];exact k _ _ Y5.upd F.put (fun x h=>DG.mpr (.inr h)) (fun _=>⟨DG.mpr (.inl rfl),DG.mpr (.inr W)⟩)
  ·have Z:¬kn kvs l:=S;exact k H kvs (Y5.refl _ _) ⟨F.at_,by have:=F.le;lia,F.ok⟩ (fun x h=>h) (fun z=>z.elim (fun y=>absurd y Y) (fun y=>absurd y Z))
theorem One.pair {ps:QL}{L:Nat}(o:One ps N T L)(I:∀x:Int,0<=x->x<N->x∈ZK ps)(h0:0<=x)(h1:x<N):∃u l,(u,l)∈ps/\((x=u/\JB ps x=l)∨(x=l/\JB ps x=u)):=by
 obtain⟨⟨u,l⟩,F,J⟩:=KO.mp (I x h0 h1);obtain⟨a,b⟩:=DU o.fl0 F;refine⟨u,l,F,?_⟩;rcases kQ.mp J with z | z
 ·have z:x=u:=z;exact .inl ⟨z,by rw[z];exact a⟩
 ·have z:x=l:=kR.mp z;exact .inr ⟨z,by rw[z];exact b⟩
theorem One.grow {ps:QL}{L:Nat}(o:One ps N T L)(pf:∀x:Int,0<=x->x<N->x∈ZK ps){A B C:QD}
  (ab:∀x,kn A x->kn B x) (J:∀x,kn B x->kn C x) (V:∀u l,(u,l)∈ps->(kn A u∨kn A l)->kn B u/\kn B l) (pb:∀j:Nat,2*j<N->(kn B (2*j)∨kn B (2*j+1))->kn C (2*j)/\kn C (2*j+1)) {r:Nat}
  (h:∀i x,i<=r->T[i]? = some x->kn A x):∀i x,i<=r+1->T[i]? = some x->kn C x:=by
 intro i x hi I;by_cases c:i<=r
 ·exact J _ (ab _ (h i x c I))
 ·have e:i=r+1:=by omega
  subst e;have hlt:r+1<T.length:=(kC.mp I).1;have hL:=o.len;by_cases ev:r % 2=0
  ·obtain⟨j,rfl⟩:∃j,r=2*j:=⟨r / 2,by omega⟩;have a0:=o.at0 (j:=j) (by omega);have a1:=o.at1 (j:=j) (by omega);rw[I] at a1;have ex:x=JB ps (gt (JB ps) 0 j):=k9 a1;have W:=h (2*j) _ (km _) a0;obtain⟨u,l,Y,c⟩:=o.pair pf (o.Iq j).1 (o.Iq j).2;rw[ex];rcases c with⟨O,S⟩ | ⟨O,S⟩
   ·rw[S];exact J _ (V u l Y (.inl (O ▸ W))).2
   ·rw[S];exact J _ (V u l Y (.inr (O ▸ W))).1
  ·obtain⟨j,rfl⟩:∃j,r=2*j+1:=⟨r / 2,by omega⟩;have a1:=o.at1 (j:=j) (by omega);have a2:=o.at0 (j:=j+1) (by omega);have e2:2*(j+1)=2*j+1+1:=by omega
   rw[e2,I] at a2;have ex:x=bw (JB ps (gt (JB ps) 0 j)):=k9 a2;have F:=ab _ (h (2*j+1) _ (km _) a1);obtain⟨y,Z⟩:∃y,y=JB ps (gt (JB ps) 0 j):=⟨_,rfl⟩;rw[<- Z] at ex F;have yd:0<=y/\y<(N:Int):=by rw[Z];exact o.dom _ (kT a1)
   have ne:=o.M.ev;rw[ex];unfold bw;split
   ·rename_i z
    obtain⟨q,U⟩:∃q:Nat,y=2*(q:Int):=⟨(y / 2).toNat,by omega⟩;rw[U] at F yd ⊢;exact(pb q (by omega) (.inl F)).2
   ·rename_i z
    obtain⟨q,U⟩:∃q:Nat,y=2*(q:Int)+1:=⟨(y / 2).toNat,by omega⟩;rw[U] at F yd ⊢;have:=(pb q (by omega) (.inr F)).1
    rwa [show 2*(q:Int)+1-1=2*(q:Int) by omega]
def lhV (sc:Int)(ls:QB)(H H':Hp)(v:V):Prop:=(sc=1 /\ ∃p,v = .ref p/\H p=none/\H' p=some (.lst (tab (Jp ls) fun _=>V.int 0))) ∨
 (sc≠1 /\ ∃ts,UK (JB (Jb ls)) (Jp ls) ts/\((ts.map (N9 (Yg (Jb ls))) ≠ [0]/\v = .non)∨(∃p T L,ts = [T]/\N9 (Yg (Jb ls)) T=0/\One (Jb ls) (Jp ls) T L/\v = .ref p/\H p=none/\H' p=some (.lst (tab (Jp ls) fun x=>V.int (hgt (Yg (Jb ls)) T x))))))
inductive FP(vs:QH)(H:Hp)(Q:VK)(_E:XK):Prop|mk(l:Addr)(sc:Int)(xs:QH)(ls:QB)(_:vs = [.ref l,.int sc])(_:H l=some (.lst xs))(_:ZI H xs ls)(_:ls.length<=60)(_:Wk ls 0)(_:∀(v:V)(H':Hp),Zh H H'->lhV sc ls H H' v->Q v H')
theorem Zoj (J:Wk ls 0)(I:UK (JB (Jb ls)) (Jp ls) ts):(ts.map fun T=>(T.length:Int)).sum=(Jp ls:Int):=by
 have good:=I.good (WQ J) (qV _);have e:∀us:QA,(us.map fun T=>(T.length:Int)).sum=(us.flatten.length:Int):=by
  intro us
  induction us with
  | nil=>rfl
  | cons a r ih=>simp only[Ko,NR,ih,Xk,ki];lia
 rw[e];have a:=Wb (Jp ls) ts.flatten good.1 (fun x F=>good.2.1 x F);have b:Jp ls<=ts.flatten.length:=by
  have:=sub_len (GQ (Jp ls)) (l':=ts.flatten) (fun x F=>by obtain⟨O,S⟩:=YV.mp F;obtain⟨k,rfl⟩:=kF O;exact I.mem k (by lia))
  rwa [U2] at this
 lia
theorem WV.at' {z:Addr}{dn:QX}{H:Hp}:∀{ys:QH}{ts:QA}{i:Nat}{x:V},WV z dn H ys ts->ys[i]? = some x -> ∃T,ts[i]? = some T /\ ∃a g,x=V.ref a/\H a=some (.tup [.ref g,.int (LM (fl dn T) / 2)])/\H g=some (.lst (T.map V.int))
 | _,_,_,_,.nil,e=>by simp at e
 | _,_,0,_,.cons ⟨a,g,q,ha,hg,_⟩ _,e=>by simp at e;subst e;exact⟨_,rfl,a,g,q,ha,hg⟩
 | _,_,i+1,x,.cons _ r,e=>by obtain⟨T,h1,h2⟩:=WV.at' (i:=i) (x:=x) r (by simpa using e);exact⟨T,by simpa using h1,h2⟩
abbrev GU:Stmt:=top 53
theorem ZO:Zw ["_law_drawing_here", "_law_scale", "_law_walks_here", "_law_many", "_law_rows_here", "_law_found", "_law_turn", "_law_t", "_law_letter", "_law_upper", "_law_lower", "_law_thread"] nG (Zj GU):={}
theorem Zrm (F:JD K "_law_heights" "_law_heights" GU f fd)(je:Jk P w K mg base 2 "_law_walks" nF FD)(YS:Jk P w K mg base 1 "_law_rows" nF Dv)
  (ZE:mg "enumerate" = none) (dJ:mg "sum" = none) (Yl:mg "len" = none) (ZM:mg "range" = none):Yc P w K mg base JZ 3 f fd nG FP:=by
 refine F.ok1 ZO fun aB A outer s H vs Q E hr h=>?_;obtain⟨l,sc,xs,ls,rfl,hl,hL,aA,hW,k⟩:=h;have ac:=WM aA;have aF:=hL.len;refine⟨_,(Zc (Zz (i:=2) ZO.nd (Zp je hr (Za (pv 0) Zb)))
  (Zc (Zz (i:=3) ZO.nd (Zs (SX (K:=K) rfl rfl) (by rfl) dJ boot_sum (Za (WI (Ls:=["_law_gone", "_law_turn"]) (Fs:=[]) (fi:=[]) ZO.lc rfl (ZU (K:=K) rfl (pv 2)) (fun cl C s3 H3 ex=>⟨(Z8 (K:=K) (n:=2) rfl rfl (Zo (YC (i:=0)) (Zo (YC (i:=1)) ZV))),YB,(Zs (Yq (K:=K)) (by rfl) Yl KR (Za (pv 0) Zb))⟩)) Zb)))
  (Zc (ZP (Zu Yp (pv 1) Ze (Zt _)) (Zf (Zv (Zk LW (Zx (Za Ze Zb)) (pv 3)))) ZF)
  (Zc (ZP (PW.pt (MX (Zu LB (Zs (Yq (K:=K)) (by rfl) Yl KR (Za (pv 2) Zb)) Ze (Zt _)) (LS (Zu LB (Zy (Ys (K:=K)) (Zy (Zl (K:=K)) (pv 2) Ze (fun _ _=>rfl)) Ze (fun _ _=>rfl)) Ze (Zt _))))) (Zf (Zv Jx)) ZF)
  (Zc (Zz (i:=4) ZO.nd (Zp YS hr (Za (pv 0) Zb)))
  (Zc (LV (i:=5) ZO.nd rfl (Or.inr rfl) (Qh (Oe Ze Ze (Oe Ze Ze Qf)) rfl rfl (by intro z;cases z) (by decide)))
  (Zc (Yr Ka rfl (YA (by rfl) ZM (Za (pv 3) Zb)) (ZT (i:=6) ZO.nd) (Zc (Yr Ka rfl (Ws (K:=K) rfl (by rfl) ZE (Za (pv 0) Zb)) (Z8 (K:=K) (n:=2) rfl rfl (Zo (ZT (i:=7) ZO.nd) (Zo (ZT (i:=8) ZO.nd) ZV))) (Zf (ZP (Zu Yp (Zy (Ys (K:=K)) (pv 8) Ze (fun _ _=>rfl)) ZJ (Zt _)) (Zc (Yz (ZW (Yf (K:=K)) (Zy (Zl (K:=K)) (pv 4) (pv 7) (fun _ _=>rfl)) (ZQ (Zy (Ys (K:=K)) (pv 8) Ze (fun _ _=>rfl))) (ZQ (Zk ZC (Zy (Ys (K:=K)) (pv 8) Ze (fun _ _=>rfl)) Ze))) (CV (K:=K) (n:=2) rfl rfl (Zo (ZT (i:=9) ZO.nd) (Zo (ZT (i:=10) ZO.nd) ZV))))
  (Zf (ZP (Cu (CU (Gg hr) (pv 9) (pv 5))) (Zf (Yz (Zk Y0 (Zy (Dz (Gg hr)) (pv 5) (pv 9) (fun _ _=>rfl)) Ze) (YI (pv 5) (pv 10) (set_dict (Gg hr))))) (Zf (ZP (Cu (CU (Gg hr) (pv 10) (pv 5))) (Zf (Yz (Zk ZC (Zy (Dz (Gg hr)) (pv 5) (pv 10) (fun _ _=>rfl)) Ze) (YI (pv 5) (pv 9) (set_dict (Gg hr))))) ZF))))) ZF)))
  (Zf (Yr Ka rfl (Qm (by rfl) ZM (Za Ze (Za (pv 3) (Za Ze Zb)))) (ZT (i:=11) ZO.nd) (Zf (ZP (Cu (CU (Gg hr) (pv 11) (pv 5))) (Zf (Yz (Zk Y0 (Zy (Dz (Gg hr)) (pv 5) (pv 11) (fun _ _=>rfl)) Ze) (YI (pv 5) (Zk ZC (pv 11) Ze) (set_dict (Gg hr))))) (Zf (ZP (Cu (CU (Gg hr) (Zk ZC (pv 11) Ze) (pv 5))) (Zf (Yz (Zk ZC (Zy (Dz (Gg hr)) (pv 5) (Zk ZC (pv 11) Ze) (fun _ _=>rfl)) Ze) (YI (pv 5) (pv 11) (set_dict (Gg hr))))) ZF))))))))
  (Zf (Zv (WI (Ls:=["_law_thread"]) (Fs:=["_law_found"]) (fi:=[5]) ZO.lc rfl (YA (by rfl) ZM (Za (pv 3) Zb)) (fun cl C s3 H3 ex=>⟨(YC (i:=0)),YB,(Zy (Dz (Gg hr)) (pv 1) (pv 0) (fun _ _=>rfl))⟩))))))))))),?_⟩
 refine⟨_,rfl,l,xs,ls,rfl,hl,hL,aA,hW,fun wA H1 ys ts fw s1 ew wv tr=>?_⟩;have good:=tr.good (WQ hW) (qV _);have tl:=tr.len (WQ hW) (qV _);have yl:=wv.len;refine⟨_,rfl,wA,rfl,⟨_,Zr.of ew⟩,YZ (K:=K) (a:=wA) (xs:=ys) (Kv (ZD (by lia))) (fun i zs G=>Zh H1 G/\zs=((ts.take i).map fun T=>(T.length:Int)).map V.int) ⟨Zh.refl _,rfl⟩
  (fun i zs G q=>by rw[q.2,ke,ke,kK];lia) (fun i zs G q=>Zr.of (q.1 wA _ ew)) (fun i x zs G hx q=>?_) (fun zs G q D hD=>?_)⟩
 ·obtain⟨sq,rfl⟩:=q;obtain⟨T,hT,a,g,rfl,ha,hg⟩:=wv.at' hx;refine⟨a,_,rfl,Y9.of (sq _ _ ha),rfl,_,_,rfl,_,_,rfl,rfl,?_⟩;dsimp only[DP];rw[kj rfl];refine⟨_,rfl,g,_,rfl,.inl (Zr.of (sq _ _ hg)),sq,?_⟩;rw[ke,Jm (ns:=ts) _ hT,kP];rfl
 obtain⟨sq,rfl⟩:=q;rw[yl,kL (km _)];refine⟨D,_,rfl,Zr.of Zd,?_⟩;rw[Zoj hW tr];have s2:=(s1.trans sq).step (o:=.lst ((ts.map fun T=>(T.length:Int)).map V.int)) hD;have dC:=sq.step (o:=.lst ((ts.map fun T=>(T.length:Int)).map V.int)) hD;generalize upd G D (.lst ((ts.map fun T=>(T.length:Int)).map V.int))=H2 at *;have o0:=dC _ _ ew;refine⟨_,rfl,rfl,_,rfl,?_⟩;refine Z7 (fun c=>?_) (fun c=>?_)
 ·have e:sc=1:=V.int.inj (kI c);refine⟨sz1,fun l0 aX=>⟨_,rfl,?_⟩⟩;refine⟨l0,_,_,rfl,rfl,Zd,by lia,by lia,(by show 1*_<=sizeLine;exact Kv (ZD (by lia))),fun rA fD=>?_⟩;refine k _ _ ((s2.step aX).step fD) (.inl ⟨e,rA,rfl,(s2.step aX).free fD,?_⟩);rw[Zd,kM,DE]
 ·have e:sc≠1:=fun z=>c (kH (Kx V.int z));refine⟨_,rfl,wA,_,rfl,.inl (Zr.of o0),rfl,_,rfl,?_⟩;by_cases bS:ts.length=1
  ·obtain⟨T,rfl⟩:∃T,ts = [T]:=by
    cases ts with
    | nil=>simp at bS
    | cons T r=>
     cases r with
     | nil=>exact⟨T,rfl⟩
     | cons _ _=>simp at bS
   have ly:((ys.length:Nat):Int)=1:=by rw[yl];rfl
   rw[ly];refine Sb rfl ?_;obtain⟨T',vF,a,g,e1,ha,hg⟩:=wv.at' (i:=0) (x:=ys[0]'(by rw[yl];exact Nat.zero_lt_one)) (by simp[yl]);have eT:T'=T:=by simpa using vF.symm
   subst eT;refine⟨_,rfl,wA,_,_,_,rfl,rfl,Zr.of o0,Zn (j:=0) (by simp[yl];rfl),?_⟩;rw[e1];refine⟨a,_,_,_,rfl,rfl,Y9.of (dC _ _ ha),Zn (j:=1) rfl,rfl,_,rfl,?_⟩;by_cases t0:N9 (Yg (Jb ls)) T'=0
   ·have vG:LM (fl (Yg (Jb ls)) T') / 2=0:=t0;rw[vG];refine Sb rfl ?_;obtain⟨L,o,oZ⟩:=FJ hW tr t0;have pf:∀x:Int,0<=x->x<(Jp ls:Int)->x∈ZK (Jb ls):=fun x x0 x1=>(W8 hW).mem_iff.mpr (YV.mpr ⟨x0,x1⟩);obtain⟨gg,fE⟩:∃gg,gg=hgt (Yg (Jb ls)) T':=⟨_,rfl⟩;refine⟨_,rfl,l,xs,ls,rfl,s2 l _ hl,hL.same s2,aA,hW,fun R H3 rys fR s3 eR rv ap oN=>?_⟩;have ae:=s2.trans s3;refine fun S bG=>⟨Zd,[(Sum.inl 0,.int 1),(Sum.inl 1,.int 0)],rfl,by decide,?_⟩;have ub:H S=none:=ae.free bG;have mk:DB [] [((Sum.inl 0:Key),V.int 1),(Sum.inl 1,.int 0)] = [((Sum.inl 0:Key),V.int 1),(Sum.inl 1,.int 0)]:=by decide +kernel
    rw[mk,JF];obtain⟨Hd,jf⟩:∃Hd,Hd=upd H3 S (.dK [((Sum.inl 0:Key),V.int 1),(Sum.inl 1,.int 0)]):=⟨_,rfl⟩;rw[<- jf];have sd:Zh H3 Hd:=by rw[jf];exact Zh.laid bG
    have vH:Dc gg Hd S 2 [((Sum.inl 0:Key),V.int 1),(Sum.inl 1,.int 0)]:=by
     refine⟨by rw[jf];exact Zd,by decide,fun x v e=>?_⟩;by_cases x0:x=0
     ·subst x0;rw[Y8 rfl] at e;cases e;rw[fE,o.h0]
     ·rw[Y6 (fun z=>x0 (NA z).symm)] at e;by_cases x1:x=1
      ·subst x1;rw[Y8 rfl] at e;cases e;rw[fE,o.h1]
      ·rw[Y6 (fun z=>x1 (NA z).symm)] at e;cases e
    have cX:=ae l _ hl;have vI:=hL.same ae;have nld:l≠S:=Zg cX bG;have nRd:R≠S:=Zg eR bG;have I:∀{G:Hp},Y5 S Hd G -> ∀c o,H3 c=some o->G c=some o:=fun fr c o e=>fr c o (sd c o e) (Zg e bG);refine⟨_,rfl,_,rfl,by lia,by lia,Jl (n:=((Jp ls:Nat):Int).toNat) (fun r σ G=>∃(kvs:QD)(v6 v7 v8 v9 a9 Y:QI),σ = [some (.ref l),some (.int sc),some (.ref wA),some (.int (Jp ls)),some (.ref R),some (.ref S),v6,v7,v8,v9,a9,Y]/\Y5 S Hd G/\Dc gg G S (2+r*200) kvs /\ ∀i x,i<=r->T'[i]? = some x->kn kvs x)
     ⟨_,none,none,none,none,none,none,rfl,Y5.refl _ _,vH,fun i x hi hx=>?_⟩ ?_ ?_⟩
    ·have:i=0:=by lia
     subst this;have:=o.at0 (j:=0) o.L1;rw[show 2*0=0 from rfl,hx] at this;have e0:x=0:=k9 this;rw[e0];rfl
    ·rintro r σ G dL ⟨kvs,v6,v7,v8,v9,a9,Y,rfl,fr,dc,kw⟩;rw[kM] at dL;refine⟨_,rfl,l,rfl,⟨_,Zr.of (I fr _ _ cX)⟩,L5 (K:=K) (a:=l) (xs:=xs) (fun i σ G'=>∃(J:QD)(v7 v8 v9 a9 Y:QI),σ = [some (.ref l),some (.int sc),some (.ref wA),some (.int (Jp ls)),some (.ref R),some (.ref S),some (.int (0+(r:Int))),v7,v8,v9,a9,Y]/\Y5 S Hd G'/\Dc gg G' S (2+r*200+i) J/\(∀x,kn kvs x->kn J x) /\ ∀u w,(u,w)∈JE ls i->(kn kvs u∨kn kvs w)->kn J u/\kn J w)
      ⟨kvs,_,_,_,_,_,rfl,fr,dc,fun _ h=>h,fun u w h=>by unfold JE Ym at h;simp at h⟩ (fun i σ G' _ ⟨_,_,_,_,_,_,_,dy,_⟩=>Zr.of (I dy _ _ cX)) ?_ ?_⟩
     ·rintro i x p σ G1 hx ⟨J,v7,v8,v9,a9,Y,rfl,jg,bo,O,gY⟩ hp;obtain⟨⟨qx,qk⟩,ta,hq,rfl,aO⟩:=vI.get hx;have hi:i<ls.length:=(kC.mp hq).1;obtain⟨G0,bH⟩:∃G0,G0=upd G1 p (.tup [.int i,.ref ta]):=⟨_,rfl⟩;have vJ:S≠p:=Zg bo.at_ hp;have az:Y5 S Hd G0:=by rw[bH];exact jg.new hp
      have U:Dc gg G0 S (2+r*200+i) J:=⟨by rw[bH,Zi vJ];exact bo.at_,bo.le,bo.ok⟩;have aM:=I az _ _ aO;have kk:isK ls UP i=UP qx:=by unfold isK;rw[hq];cases h:UP qx<;>simp[h]
      refine⟨p,_,rfl,Y9.of Zd,rfl,_,_,rfl,_,_,rfl,rfl,?_⟩;rw[<- bH];refine⟨_,rfl,ta,_,_,_,rfl,rfl,Y9.of aM,Zn (j:=0) rfl,rfl,_,rfl,?_⟩;refine Z7 (fun hc=>?_) (fun hc=>?_)
      ·have e:qx = "end" := V.str.inj (kI hc);subst e;obtain⟨k0,k1,pe⟩:=DX hW hq (fun z=>nb2 z);obtain⟨o6,rfl⟩:=kF (show 0<=qk from k0);simp only[kM] at k1 pe;obtain⟨ra,eZ,bi⟩:=rv.at (CZ ls (i:=i) (n:=ls.length+1) (by lia));have ei:isK ls UP i=true:=by rw[kk];unfold UP;simp
       have pin:YK ls i∈Jb ls:=Kw.mpr ⟨(i:Int),by unfold Ym;exact KZ.mpr ⟨i,Ku.mpr hi,by rw[kj ei]⟩,by simp⟩
       have es:JE ls (i+1)=JE ls i ++ [YK ls i]:=by rw[GN,kj ei]
       obtain⟨u,hu⟩:∃u,u=(rowAt ls i).getD o6 0:=⟨_,rfl⟩;obtain⟨w',hw⟩:∃w',w'=(rowAt ls i).getD (o6+1) 0:=⟨_,rfl⟩;rw[<- hu,<- hw] at pe;rw[pe] at pin es;refine⟨_,rfl,_,rfl,R,_,_,_,rfl,rfl,Zr.of (I az R _ eR),Zn eZ,_,rfl,ta,_,_,_,rfl,rfl,Y9.of aM,Zn (j:=1) rfl,_,rfl,_,rfl,ta,_,_,_,rfl,rfl,Y9.of aM,Zn (j:=1) rfl,_,_,rfl,rfl,_,rfl,ra,_,rfl,Zr.of (I az ra _ bi),fun cA bI=>?_⟩;rw[BE k1,<- hu,<- hw];refine⟨cA,_,rfl,Zr.of Zd,rfl,_,_,rfl,_,_,rfl,rfl,?_⟩;have vK:S≠cA:=Zg U.at_ bI;have bQ:Y5 S Hd (upd G0 cA (.lst [.int u,.int w'])):=az.new bI;have cY:Dc gg (upd G0 cA (.lst [.int u,.int w'])) S (2+r*200+i) J:=⟨by rw[Zi vK];exact U.at_,U.le,U.ok⟩;have ud:0<=u/\u<(Jp ls:Int):=YV.mp ((W8 hW).mem_iff.mp (KO.mpr ⟨(u,w'),pin,by simp⟩));show Dj (tB (DR (ME 9) (ME 5))) _ _ _ _ _;refine FO (g:=gg) (u:=u) (l:=w') (d:=S) (fun H Q q=>⟨_,rfl,q⟩) (fun H Q q=>⟨_,rfl,q⟩) (fun H Q q=>⟨_,rfl,q⟩) cY (by lia) (by rw[fE];exact o.ends pin ud) fun H' Z jh ji mx px=>?_;refine⟨Z,_,_,_,_,_,rfl,bQ.trans jh,ji,fun x h=>mx x (O x h),fun u2 w2 h h2=>?_⟩;rw[es] at h;rcases Kg.mp h with h | h
       ·obtain⟨a1,a2⟩:=gY u2 w2 h h2;exact⟨mx _ a1,mx _ a2⟩
       ·have:=kR.mp h;cases this;exact px (h2.elim (fun z=>.inl (O _ z)) (fun z=>.inr (O _ z)))
      ·have e:¬qx = "end" := fun z=>hc (kH (Kx V.str z));have ei:isK ls UP i=false:=by rw[kk];unfold UP;simp[e]
       have es:JE ls (i+1)=JE ls i:=by rw[GN,ei];simp
       refine⟨J,_,_,_,_,_,rfl,az,⟨U.at_,by have:=U.le;lia,U.ok⟩,O,?_⟩;rw[es];exact gY
     ·rintro σ G1 ⟨J,v7,v8,v9,a9,Y,rfl,jg,bo,O,gY⟩;have jk:∃hN:Nat,Jp ls=2*hN:=⟨(Jb ls).length,rfl⟩;obtain⟨hN,vL⟩:=jk;refine⟨_,rfl,hN,?_,by lia,Qn (lo:=0) (n:=hN) (fun j σ G'=>∃(Z:QD)(Y:QI),σ = [some (.ref l),some (.int sc),some (.ref wA),some (.int (Jp ls)),some (.ref R),some (.ref S),some (.int (0+(r:Int))),v7,v8,v9,a9,Y]/\Y5 S Hd G'/\Dc gg G' S (2+r*200+60+j) Z/\(∀x,kn J x->kn Z x) /\ ∀q:Nat,q<j->(kn J (2*q)∨kn J (2*q+1))->kn Z (2*q)/\kn Z (2*q+1))
       ⟨J,_,rfl,jg,⟨bo.at_,by have:=bo.le;lia,bo.ok⟩,fun _ h=>h,fun q h=>by lia⟩ ?_ ?_⟩
      ·rw[vL];simp
      ·rintro j σ G2 hj ⟨Z,jl,rfl,bQ,cY,W,jm⟩;have ej:(0:Int)+(j:Int)*2=2*(j:Int):=by lia
       rw[ej];show Dj (tB (DR (ME 11) (ME 5))) _ _ _ _ _;refine FO (g:=gg) (u:=2*(j:Int)) (l:=2*(j:Int)+1) (d:=S) (fun H Q q=>⟨_,rfl,q⟩) (fun H Q q=>⟨_,rfl,_,_,rfl,rfl,q⟩) (fun H Q q=>⟨_,rfl,q⟩) cY (by lia) (by rw[fE];exact o.FH (by lia) (by lia) (by lia)) fun H' vM jh ji mx px=>?_;refine⟨vM,_,rfl,bQ.trans jh,ji,fun x h=>mx x (W x h),fun q hq h=>?_⟩;by_cases c:q<j
       ·obtain⟨a1,a2⟩:=jm q c h;exact⟨mx _ a1,mx _ a2⟩
       ·have:q=j:=by lia
        subst this;exact px (h.elim (fun z=>.inl (W _ z)) (fun z=>.inr (W _ z)))
      ·rintro σ G2 ⟨Z,jl,rfl,bQ,cY,W,jm⟩;refine⟨Z,_,_,_,_,_,_,rfl,bQ,⟨cY.at_,by have:=cY.le;lia,cY.ok⟩,?_⟩;refine o.grow pf O W (fun u w' h h2=>?_) (fun j hj h=>jm j (by lia) h) kw;refine gY u w' ?_ h2;rw[aF];exact h
    ·rintro σ G ⟨kvs,v6,v7,v8,v9,a9,Y,rfl,fr,dc,kw⟩;rw[kM] at kw;have all:∀x:Int,0<=x->x<(Jp ls:Int)->kn kvs x:=fun x x0 x1=>by
      obtain⟨i,hi,e⟩:=MG.mp (o.all x x0 x1);exact kw i x (by lia) (by simp[hi,e])
     refine⟨_,rfl,_,rfl,by lia,by lia,CO (lo:=0) (n:=((Jp ls:Nat):Int).toNat) (Kv (ZD (by lia))) (fun i zs G'=>Zh G G'/\zs=(List.range i).map fun(x:Nat)=>V.int (gg (x:Int))) ⟨Zh.refl _,rfl⟩
      (fun i zs G' q=>by rw[q.2];simp) (fun i zs G' hi q=>?_) (fun zs G' q D hD=>?_)⟩
     ·obtain⟨fF,rfl⟩:=q;refine lcG ?_;have kx:=all (i:Int) (by lia) (by lia);have dg:=Mc.k (k:=Sum.inl (0+(i:Int))) (fF _ _ dc.at_);rw[show (0:Int)+(i:Int)=(i:Int) by lia,dc.val kx] at dg;refine⟨_,rfl,_,rfl,S,.int (gg (i:Int)),rfl,?_,fF,?_⟩
      ·rw[show (0:Int)+(i:Int)=(i:Int) by lia];exact dg
      ·rw[KN,kP];rfl
     ·obtain⟨fF,rfl⟩:=q;have sf:Zh H (upd G' D (.lst ((List.range ((Jp ls:Nat):Int).toNat).map fun(x:Nat)=>V.int (gg (x:Int))))):=fun c u e=>(fF.step hD) c u (I fr c u (ae c u e));refine k _ _ sf (.inr ⟨e,_,tr,.inr ⟨D,T',L,rfl,t0,o,rfl,?_,?_⟩⟩)
      ·cases z:H D with
       | none=>rfl
       | some u=>
        have:=(fF _ _ (I fr _ _ (ae _ _ z)));rw[hD] at this;cases this
      ·rw[Zd,kM,fE];rfl
   ·have t1:¬LM (fl (Yg (Jb ls)) T') / 2=0:=t0;refine Z7 (fun _=>?_) (fun hc=>absurd ?_ hc)
    ·exact k .non H2 s2 (.inr ⟨e,_,tr,.inl ⟨by simpa using t0,rfl⟩⟩)
    ·show (!decide (V.int (LM (fl (Yg (Jb ls)) T') / 2)=V.int 0))=true;rw[Kh (fun z=>t1 (V.int.inj z))];rfl
  ·refine Z7 (fun _=>?_) (fun hc=>absurd ?_ hc)
   ·refine JU (k .non H2 s2 (.inr ⟨e,_,tr,.inl ⟨fun z=>bS ?_,rfl⟩⟩));have:=Kx List.length z;simpa using this
   ·show (!decide (V.int (ys.length:Int)=V.int 1))=true;rw[Kh (fun z=>bS (by have:=V.int.inj z;lia))];rfl
theorem gK:Dt "born" = 2/\Dt "cross" = 0/\Dt "end" = -2:=⟨by decide +kernel,by decide +kernel,by decide +kernel⟩
theorem wkS {n:Int}(h:Wk ls n):MV ls=n:=by
 induction h with
 | nil=>rfl
 | born _ _ _ ih=>rw[Pu,ih,gK.1]
 | cross _ _ _ ih=>rw[Pu,ih,gK.2.1];lia
 | fin _ _ _ ih=>rw[Pu,ih,gK.2.2];lia
theorem Zn7 {A A':QB}{n:Int}(ha:Wk A n)(O:Wk A' n){X:QB}(h:Wk X m):∀B,X=A++B->Wk (A'++B) m:=by
 have base:∀{X:QB}{m:Int},Wk X m->X=A->Wk (A' ++ []) m:=fun {X m} S e=>by subst e;have J:=wkS S;have I:=wkS ha;rw[KY];rw[show m=n by lia];exact O
 have F:∀{ls B:QB}{p:Str×Int},ls ++ [p]=A++B->(B = []/\ls ++ [p]=A) ∨ ∃B',B=B' ++ [p]/\ls=A++B':=fun {ls B p} e=>by
  rcases List.eq_nil_or_concat B with z | ⟨B',q,z⟩
  rotate_left
  rw[List.concat_eq_append] at z
  rotate_left
  ·subst z;exact .inl ⟨rfl,by simpa using e⟩
  ·subst z;rw[<- Kl] at e;obtain⟨J,I⟩:=List.append_inj' e rfl;have I:p=q:=by simpa using I
   subst I;exact .inr ⟨B',rfl,J⟩
 induction h with
 | nil=>
  intro B e;obtain⟨J,I⟩:=List.append_eq_nil_iff.mp e.symm;subst I;exact base .nil J.symm
 | @born ls n' k h h0 h1 ih=>
  intro B e;rcases F e with⟨z,y⟩ | ⟨B',z,y⟩
  ·subst z;exact base (.born h h0 h1) y
  ·rw[z,<- Kl];exact .born (ih B' y) h0 h1
 | @cross ls n' k h h0 h1 ih=>
  intro B e;rcases F e with⟨z,y⟩ | ⟨B',z,y⟩
  ·subst z;exact base (.cross h h0 h1) y
  ·rw[z,<- Kl];exact .cross (ih B' y) h0 h1
 | @fin ls n' k h h0 h1 ih=>
  intro B e;rcases F e with⟨z,y⟩ | ⟨B',z,y⟩
  ·subst z;exact base (.fin h h0 h1) y
  ·rw[z,<- Kl];exact .fin (ih B' y) h0 h1
def crl (b c:Int):QB:=[("born", b),("cross", c),("end", b)]
theorem ZpP {b c:Int}(U:Wk ls 0)(F:0<=b)(I:b<=MV (ls.take t))(J:0<=c)(O:c<=MV (ls.take t)):Wk (ls.take t++crl b c++ls.drop t) 0:=by
 obtain⟨n,S⟩:=GD U t;have W:=wkS S;rw[W] at I O;have Y:=Wk.born (k:=b) S F I;have Z:=Wk.cross (k:=c) Y J (by lia);have V:=Wk.fin (k:=b) Z F (by lia);have e:ls.take t ++ [(("born" : Str),b)] ++ [(("cross" : Str),c)] ++ [(("end" : Str),b)]=ls.take t++crl b c:=by simp[crl]
 rw[e,show n+2-2=n by lia] at V;exact Zn7 S V U (ls.drop t) (KP t ls).symm
theorem FQ:∀ls:QB,(∀p∈ls,Kd p.1)->2*(((ls.map fun p=>V.str p.1).countP fun z=>eqV z (.str "born"):Nat):Int)-2*(((ls.map fun p=>V.str p.1).countP fun z=>eqV z (.str "end"):Nat):Int)=MV ls
 | [],_=>rfl
 | p::r,h=>by
  have J:=FQ r fun q O=>h q (kX _ O);have I:=gK;have e:MV (p::r)=Dt p.1+MV r:=by unfold MV;simp
  have F:∀x y:Str,eqV (V.str x) (V.str y)=decide (x=y):=fun x y=>by unfold eqV;by_cases z:x=y<;>simp[z]
  rw[Ko,XT,XT,e,<- J,F,F];rcases h p kS with z | z | z
  ·rw[z,I.1];simp[show ¬(("born" : Str) = "end") by decide +kernel];lia
  ·rw[z,I.2.1];simp[show ¬(("cross" : Str) = "end") by decide +kernel,show ¬(("cross" : Str) = "born") by decide +kernel]
  ·rw[z,I.2.2];simp[show ¬(("end" : Str) = "born") by decide +kernel];lia
theorem ZkE {xs:QH}(h:ZI H xs ls):∀t,ZI H (xs.take t) (ls.take t):=by
 induction h with
 | nil=>intro t;rw[M6,M6];exact .nil
 | cons a _ ih=>
  intro t;cases t with
  | zero=>exact .nil
  | succ n=>exact .cons a (ih n)
theorem ZjT {xs:QH}(h:ZI H xs ls):∀t,ZI H (xs.drop t) (ls.drop t):=by
 induction h with
 | nil=>intro t;rw[List.drop_nil,List.drop_nil];exact .nil
 | cons a b ih=>
  intro t;cases t with
  | zero=>exact .cons a b
  | succ n=>exact ih n
theorem ZG {b:Addr}(s:Zh H H')(x:Bag H b):Bag H' b:=let ⟨g,r,h,e⟩:=x;⟨g,r,h,s _ _ e⟩
theorem lay {o:HO}(F:G c=none):∃G',upd G c o=G'/\Zh G G'/\G' c=some o:=⟨_,rfl,Zh.laid F,Zd⟩
@[elab_as_elim] theorem lay2 {G:Hp}{c:Addr}{o:HO}{R:Hp->Prop} (F:G c=none) (k:∀G',Zh G G'->G' c=some o->R G'):R (upd G c o):=k _ (Zh.laid F) Zd
theorem BQ (xs:QH)(k:Nat):J5 xs (some (k:Int)) none=xs.drop k:=by
 unfold J5;rw[HT.CJ,HT.Dp];by_cases h:k<=xs.length
 ·rw[K7 h,kL (by rw[Kr];lia)]
 ·rw[KU (by lia),Mk,List.take_zero,Ts (by lia)]
inductive Crl (M:Nat):List (Str×Int)->Prop
 | base {ls:QB} (h:nX ls<=M):Crl M ls
 | curl {a b:QB}{p q:Int} (h:Crl M (a++b)) (w:Wk (a++b) 0) (hq:q=p+1∨p=q+1):Crl M (a++crl p q++b)
inductive FR(vs:QH)(H:Hp)(Q:VK)(_E:XK):Prop|mk(b l0:Addr)(m:Int)(ls0:QB)(M:Nat)(_:vs = [.ref b,.ref l0,.int m])(_:Bag H b)(_:Drw H l0 ls0)(_:l0≠b)(_:ls0.length<=40)(_:nX ls0<=13)(_:Crl M ls0)(_:0<=m)(_:m<=3)(_:∀(l:Addr)(H':Hp)(ls:QB),H l=none->Bag H' b->Y5 b H H'->Drw H' l ls->nX ls<=13->Crl M ls->Q (.ref l) H')
theorem ZkB (ls:QB):((ls.map fun p=>V.str p.1).countP fun z=>eqV z (.str "cross"))=nX ls:=by unfold nX;rw[List.countP_map];refine List.countP_congr fun p _=>?_;simp[eqV]
abbrev UA:Stmt:=top 57
theorem Yb:Zw ["_law_bag_here", "_law_letters", "_law_most", "_law_found", "_law_turn", "_law_t", "_law_words", "_law_many", "_law_k", "_law_three"] nV (Zj UA):={}
theorem Zky (F:JD K "_law_curled" "_law_curled" UA f fd)(Zq:Jk P w K mg base 1 "_law_take" nJ UC)(Ya:mg "list" = none)(ZM:mg "range" = none)(Yl:mg "len" = none)(Gf:mg "max" = none):
  Yc P w K mg base JZ 2 f fd nV FR:=by
 refine F.ok1 Yb fun aB A outer s H vs Q E hr h=>?_;obtain⟨b,l0,m,ls0,M,rfl,aP,dr,l0b,vN,vO,vP,m0,m3,k⟩:=h;refine⟨_,(Zc (Zz (i:=3) Yb.nd (ZZ (YY (K:=K)) (by rfl) Ya Xi (Za (pv 1) Zb)))
  (Zc (Yr Ka rfl (YA (by rfl) ZM (Za (Zp Zq hr (Za (pv 0) (Za (Zk ZC (pv 2) Ze) Zb))) Zb)) (ZT (i:=4) Yb.nd) (Zc (Zz (i:=5) Yb.nd (Zp Zq hr (Za (pv 0) (Za (Zk ZC (Zs (Yq (K:=K)) (by rfl) Yl KR (Za (pv 3) Zb)) Ze) Zb))))
  (Zc (L0 (i:=6) Yb.nd rfl (.inl rfl) (Ls:=["_law_letter"]) (Fs:=[]) (fi:=[]) Yb.lc rfl (ZU (K:=K) rfl (pv 3)) (fun cl C s3 H3 ex=>⟨(YC (i:=0)),YB,(Zy (Ys (K:=K)) (pv 0) Ze (fun _ _=>rfl))⟩))
  (Zc (Zz (i:=7) Yb.nd (Zk Y0 (Zk Wn Ze (Yd (K:=K) rfl (Yw kJ Xt Xu (CN (K:=K)) (ZW (Yf (K:=K)) (pv 6) Yt (ZQ (pv 5))) (Za ZJ Zb)))) (Zk Wn Ze (Yd (K:=K) rfl (Yw kJ Xt Xu (CN (K:=K)) (ZW (Yf (K:=K)) (pv 6) Yt (ZQ (pv 5))) (Za ZJ Zb))))))
  (Zc (Zz (i:=8) Yb.nd (Zp Zq hr (Za (pv 0) (Za (Zs (WK rfl) (by rfl) Gf N6 (Za Ze (Za (pv 7) Zb))) Zb))))
  (Zc (Zz (i:=9) Yb.nd (Zx (Za (ZN (Za ZJ (Za (pv 8) Zb))) (Za (ZN (Za ZJ (Za (Zk ZC (pv 8) Ze) Zb))) (Za (ZN (Za ZJ (Za (pv 8) Zb))) Zb)))))
  (VX (ZP (Zu Yp (Zp Zq hr (Za (pv 0) (Za Ze Zb))) Ze (Zt _)) (Zf (Zz (i:=9) Yb.nd (Zx (Za (ZN (Za ZJ (Za (Zk ZC (pv 8) Ze) Zb))) (Za (ZN (Za ZJ (Za (pv 8) Zb))) (Za (ZN (Za ZJ (Za (Zk ZC (pv 8) Ze) Zb))) Zb)))))) ZF)
  (Zf (ZP (PW.pt (UE (EO W9 W9 Ze (pv 7) Ze) (UE (Zu W9 (Yd (K:=K) rfl (Yw kJ Xt Xu (CN (K:=K)) (pv 6) (Za ZJ Zb))) Ze (Zt _)) (LR (Zu W9 (Yd (K:=K) rfl (Yw kJ Xt Xu (CN (K:=K)) (pv 6) (Za ZJ Zb))) Ze (Zt _)))))) (Zf (Zz (i:=3) Yb.nd (Zk YX (Zk YX (ZW (Yf (K:=K)) (pv 3) Yt (ZQ (pv 5))) (pv 9)) (ZW (Yf (K:=K)) (pv 3) (ZQ (pv 5)) Yt)))) ZF)))))))))
  (Zf (Zv (pv 3))))),?_⟩
 obtain⟨dM,aX,jC,vQ,o7⟩:=dr;refine⟨_,rfl,l0,dM,rfl,.inl (Zr.of aX),fun l hl=>?_⟩;have s1:=Zh.laid (o:=.lst dM) hl;have vR:upd H l (.lst dM) l=some (.lst dM):=Zd;generalize upd H l (.lst dM)=H1 at *;have af:=ZG s1 aP;have nb:∀{c:Addr},H c=none->c≠b:=fun {c} h z=>by obtain⟨_,_,_,e⟩:=aP;rw[z,e] at h;cases h
 refine⟨_,rfl,_,rfl,_,_,rfl,rfl,b,_,rfl,af,by lia,by lia,fun d H2 d0 d1 bE f2=>?_⟩;refine⟨_,rfl,by lia,by lia,Jl (n:=d.toNat) (fun i σ G=>∃(U:Addr)(xs:QH)(ls:QB)(v4 v5 v6 v7 v8 v9:QI),σ = [some (.ref b),some (.ref l0),some (.int m),some (.ref U),v4,v5,v6,v7,v8,v9]/\Bag G b/\Y5 b H G/\H U=none/\G U=some (.lst xs)/\ZI G xs ls/\Wk ls 0/\ls.length<=40+3*i/\nX ls<=13/\Crl M ls)
  ⟨l,dM,ls0,none,none,none,none,none,none,rfl,bE,s1.frm.trans f2,hl,f2 _ _ vR (nb hl),(jC.same s1).frm f2 af,vQ,by lia,vO,vP⟩ ?_ ?_⟩
 ·rintro i σ G hi ⟨U,xs,ls,v4,v5,v6,v7,v8,v9,rfl,bg,fr,W,hG,hL,hW,aA,dN,Z⟩;have aF:=hL.len;have i3:i<4:=by lia
  have jn:=nb W;refine⟨_,rfl,_,rfl,U,_,rfl,.inl (Zr.of hG),_,_,rfl,rfl,b,_,rfl,bg,by lia,by lia,fun t' G1 e0 e1 fG f1=>?_⟩;obtain⟨t,rfl⟩:=kF e0;have bj:=f1 _ _ hG jn;have bh:=hL.frm f1 bg;have tl:t<=ls.length:=by lia
  refine⟨_,rfl,U,rfl,⟨_,Zr.of bj⟩,YZ (K:=K) (a:=U) (xs:=xs) (Kv (ZD (by lia))) (fun j zs G'=>Zh G1 G'/\zs=(ls.take j).map fun p=>V.str p.1) ⟨Zh.refl _,rfl⟩
   (fun j zs G' q=>by rw[q.2,ke,kK];exact Nat.min_le_left _ _) (fun j zs G' q=>Zr.of (q.1 _ _ bj)) (fun j x zs G' hx q=>?_) (fun zs G' q wA jo=>?_)⟩
  ·obtain⟨sq,rfl⟩:=q;obtain⟨p,ta,hp,rfl,aO⟩:=bh.get hx;refine lcG ⟨_,rfl,ta,_,_,_,rfl,rfl,Y9.of (sq _ _ aO),Zn (j:=0) rfl,sq,?_⟩;rw[Jm (ns:=ls) _ hp]
  obtain⟨sq,rfl⟩:=q;rw[aF,kL (km _)];have s2:Zh G1 (upd G' wA (.lst (ls.map fun p=>V.str p.1))):=sq.step jo;have ew:(upd G' wA (.lst (ls.map fun p=>V.str p.1))) wA=some (.lst (ls.map fun p=>V.str p.1)):=Zd;generalize upd G' wA (.lst (ls.map fun p=>V.str p.1))=G2 at *;have fs:∀r:QB,(r.map fun p=>V.str p.1).all Ge=true:=fun r=>by rw[Ks];intro x hx;obtain⟨p,_,rfl⟩:=Kw.mp hx;rfl
  have o8:J5 (ls.map fun p=>V.str p.1) none (some (t:Int))=(ls.take t).map fun p=>V.str p.1:=by rw[Pw (xs:=ls.map fun p=>V.str p.1) (t:=t) (by rw[ke];exact tl),qT]
  refine⟨_,rfl,_,rfl,_,rfl,wA,_,rfl,Zr.of ew,fun c1 ah=>?_⟩;rw[o8];obtain⟨G3,z,s3,e3⟩:=lay (o:=.lst ((ls.take t).map fun p=>V.str p.1)) ah;rw[z];clear z;refine⟨.inl ⟨rfl,_,Zr.of e3⟩,c1,_,_,rfl,rfl,Zr.of e3,rfl,fs _,_,_,rfl,rfl,.inl ⟨by decide,by decide⟩,?_⟩;refine⟨_,rfl,_,rfl,_,rfl,wA,_,rfl,Zr.of (s3 _ _ ew),fun c2 aQ=>?_⟩;rw[o8];obtain⟨G4,z,s4,e4⟩:=lay (o:=.lst ((ls.take t).map fun p=>V.str p.1)) aQ;rw[z];clear z;refine⟨.inl ⟨rfl,_,Zr.of e4⟩,c2,_,_,rfl,rfl,Zr.of e4,rfl,fs _,_,_,rfl,rfl,.inl ⟨by decide,by decide⟩,_,_,rfl,rfl,?_⟩;have cs:=FQ (ls.take t) fun p hp=>hW.kd p (TN hp);obtain⟨mm,hm⟩:∃mm,mm=MV (ls.take t):=⟨_,rfl⟩;dsimp only;rw[cs,<- hm];have vS:mm<=1000:=by rw[hm];obtain⟨n,hn⟩:=GD hW t;have:=L6 hn;rw[wkS hn];rw[kK] at this;lia
  have gZ:Zh G1 G4:=(s2.trans s3).trans s4;have g7:=ZG gZ fG;refine⟨_,rfl,_,rfl,_,_,rfl,b,_,rfl,g7,(by split<;>lia),(by split<;>lia),fun kk G5 k0 k1 bp f5=>?_⟩;have vT:=f5 _ _ (gZ _ _ bj) jn;have gQ:ZI G5 xs ls:=(bh.same gZ).frm f5 g7;have bK:Y5 b H G5:=((fr.trans f1).trans gZ.frm).trans f5;have o9:wA≠b:=fun z=>by obtain⟨_,_,_,e⟩:=ZG sq fG;rw[z,e] at jo;cases jo
  have vU:=f5 _ _ (s4 _ _ (s3 _ _ ew)) o9;have bq:∀{X X1 X2 X3 X4:Hp}{u1 u2 u3 cA:Addr}{p q:Int},Zh X X1->X1 u1=some (.tup [.str "born", .int p])->Zh X1 X2->X2 u2=some (.tup [.str "cross", .int q])->Zh X2 X3->X3 u3=some (.tup [.str "end", .int p])->Zh X3 X4->X4 cA=some (.lst [.ref u1,.ref u2,.ref u3])->ZI X4 [.ref u1,.ref u2,.ref u3] (crl p q):=fun a1 b1 a2 b2 a3 b3 a4 b4=>
   .cons ⟨_,rfl,a4 _ _ (a3 _ _ (a2 _ _ b1))⟩ (.cons ⟨_,rfl,a4 _ _ (a3 _ _ b2)⟩ (.cons ⟨_,rfl,a4 _ _ b3⟩ .nil))
  refine⟨_,rfl,sz2,fun u1 vV=>?_⟩;refine lay2 (o:=.tup [.str "born", .int kk]) vV fun X1 a1 b1=>?_;refine⟨_,rfl,_,_,rfl,rfl,sz2,fun u2 vW=>?_⟩;refine lay2 (o:=.tup [.str "cross", .int (kk+1)]) vW fun X2 a2 b2=>?_;refine⟨_,rfl,sz2,fun u3 vX=>?_⟩;refine lay2 (o:=.tup [.str "end", .int kk]) vX fun X3 a3 b3=>?_;refine⟨sz3,fun cA bI=>?_⟩;refine lay2 (o:=.lst [.ref u1,.ref u2,.ref u3]) bI fun X4 a4 b4=>?_;have L4:=bq a1 b1 a2 b2 a3 b3 a4 b4;have cZ:=((a1.trans a2).trans a3).trans a4;refine⟨fun σ G=>∃(cA:Addr)(ts:QH)(p q:Int),σ = [some (.ref b),some (.ref l0),some (.int m),some (.ref U),some (.int (0+(i:Int))),some (.int (t:Nat)),some (.ref wA),some (.int mm),some (.int kk),some (.ref cA)]/\Bag G b/\Y5 b H G/\G U=some (.lst xs)/\ZI G xs ls/\G wA=some (.lst (ls.map fun p=>V.str p.1))/\G cA=some (.lst ts)/\ZI G ts (crl p q)/\0<=p/\p<=kk+1/\0<=q/\q<=kk+1/\(q=p+1∨p=q+1),?_,?_⟩
  ·refine⟨_,rfl,b,2,rfl,ZG cZ bp,by decide,by decide,fun sd Y sd0 sd1 I fY=>⟨rfl,_,rfl,?_⟩⟩;have vY:cA≠b:=fun z=>by
    obtain⟨_,_,_,e⟩:=ZG ((a1.trans a2).trans a3) bp;rw[z,e] at bI;cases bI
   have J:Y5 b H Y:=(bK.trans cZ.frm).trans fY;have O:ZI Y xs ls:=(gQ.same cZ).frm fY (ZG cZ bp);have S:=fY _ _ (cZ _ _ vT) jn;have c6:=fY _ _ (cZ _ _ vU) o9;refine Z7 (fun _=>?_) (fun _=>?_)
   ·refine⟨_,rfl,_,_,rfl,rfl,sz2,fun w1 i9=>?_⟩;refine lay2 (o:=.tup [.str "born", .int (kk+1)]) i9 fun Y1 cw vZ=>?_;refine⟨_,rfl,sz2,fun w2 ib=>?_⟩;refine lay2 (o:=.tup [.str "cross", .int kk]) ib fun Y2 g8 v0=>?_;refine⟨_,rfl,_,_,rfl,rfl,sz2,fun w3 jp=>?_⟩;refine lay2 (o:=.tup [.str "end", .int (kk+1)]) jp fun Y3 g9 va=>?_;refine⟨sz3,fun cB vb=>?_⟩;refine lay2 (o:=.lst [.ref w1,.ref w2,.ref w3]) vb fun Y4 gb og=>?_;have sY:=((cw.trans g8).trans g9).trans gb;exact⟨cB,_,_,_,rfl,ZG sY I,J.trans sY.frm,sY _ _ S,O.same sY,sY _ _ c6,og,bq cw vZ g8 v0 g9 va gb og,by lia,by lia,by lia,by lia,by lia⟩
   ·exact⟨cA,_,_,_,rfl,I,J,S,O,c6,fY _ _ b4 vY,L4.frm fY (ZG cZ bp),by lia,by lia,by lia,by lia,by lia⟩
  ·rintro σ Y ⟨cA,ts,p,q,rfl,I,J,S,O,c6,vc,oh,p0,p1,q0,q1,pq⟩;refine⟨_,rfl,_,_,rfl,rfl,_,rfl,Z7 (fun h1=>?_) (fun h1=>?_)⟩
   rotate_left
   ·refine⟨_,rfl,YD (YD ?_)⟩;exact⟨U,xs,ls,_,_,_,_,_,_,rfl,I,J,W,S,O,hW,by lia,dN,Z⟩
   have m1:0<mm:=kI h1;refine⟨_,_,rfl,rfl,_,rfl,Z7 (fun h2=>?_) (fun h2=>?_)⟩
   rotate_left
   ·refine YD ?_;exact⟨U,xs,ls,_,_,_,_,_,_,rfl,I,J,W,S,O,hW,by lia,dN,Z⟩
   refine⟨_,rfl,.inl ⟨rfl,_,Zr.of c6⟩,wA,_,_,rfl,rfl,Zr.of c6,rfl,fs _,_,_,rfl,rfl,_,rfl,Z7 (fun h3=>?_) (fun h3=>?_)⟩
   rotate_left
   ·refine YD ?_;exact⟨U,xs,ls,_,_,_,_,_,_,rfl,I,J,W,S,O,hW,by lia,dN,Z⟩
   refine⟨_,rfl,.inl ⟨rfl,_,Zr.of c6⟩,wA,_,_,rfl,rfl,Zr.of c6,rfl,fs _,_,_,rfl,rfl,_,rfl,Z7 (fun h4=>?_) (fun h4=>?_)⟩
   rotate_left
   ·exact⟨U,xs,ls,_,_,_,_,_,_,rfl,I,J,W,S,O,hW,by lia,dN,Z⟩
   have h4:(((ls.map fun p=>V.str p.1).countP fun z=>eqV z (.str "cross"):Nat):Int)<12:=kI h4;rw[ZkB] at h4;have k1':kk<mm:=by revert k1;split<;>lia
   refine⟨_,rfl,_,rfl,_,rfl,U,_,rfl,Zr.of S,fun f1 gU=>?_⟩;rw[Pw (xs:=xs) (t:=t) (by lia)];refine lay2 (o:=.lst (xs.take t)) gU fun Z1 g1 j1=>?_;have oj:=oh.len;refine⟨_,rfl,f1,cA,_,_,rfl,rfl,j1,g1 _ _ vc,(by rw[kK,oj,kY];show min t xs.length+3<=_;lia),fun f2 vd=>?_⟩;obtain⟨Z2,z,g2,j2⟩:=lay (o:=.lst (xs.take t++ts)) vd;rw[z];clear z;have jq:=g1.trans g2;refine⟨_,rfl,_,rfl,_,rfl,U,_,rfl,Zr.of (jq _ _ S),fun f3 ve=>?_⟩;rw[BQ];refine lay2 (o:=.lst (xs.drop t)) ve fun Z3 g3 j3=>?_;refine⟨f2,f3,_,_,rfl,rfl,g3 _ _ j2,j3,(by rw[ki,kK,Kr,oj,kY];show min t xs.length+3+(xs.length-t)<=_;lia),fun f4 om=>?_⟩;obtain⟨Z4,z,g4,j4⟩:=lay (o:=.lst (xs.take t++ts++xs.drop t)) om;rw[z];clear z;have jr:=(jq.trans g3).trans g4;have vf:=ZG jr I;refine⟨f4,_,ls.take t++crl p q++ls.drop t,_,_,_,_,_,_,rfl,vf,J.trans jr.frm,?_,j4,?_,ZpP hW p0 (by rw[<- hm];lia) q0 (by rw[<- hm];lia),?_,?_,.curl (by rw[KP];exact Z) (by rw[KP];exact hW) pq⟩
   ·exact J.free I ((jq.trans g3).free om)
   ·exact(((ZkE O t).append oh).append (ZjT O t)).same jr
   ·rw[ki,ki,kK,Kr];show min t ls.length+3+_<=_;lia
   ·have e:nX (ls.take t)+nX (ls.drop t)=nX ls:=by rw[<- Wt,KP]
    have ec:nX (crl p q)=1:=rfl;rw[Wt,Wt,ec];lia
 ·rintro σ G ⟨U,xs,ls,v4,v5,v6,v7,v8,v9,rfl,bg,fr,W,hG,hL,hW,aA,dN,Z⟩;exact⟨_,rfl,k U G ls W bg fr ⟨xs,hG,hL,hW,by lia⟩ dN Z⟩
theorem FT {ls:QB}(I:Wk ls 0):∀d i,i+d<=ls.length->(rb (ls.take i)).2<=(rb (ls.take (i+d))).2
 | 0,i,_=>qV _
 | d+1,i,h=>by
  refine LH (FT I d i (by lia)) ?_;have J:ls[i+d]? = some ls[i+d]:=by simp[show i+d<ls.length by lia]
  obtain⟨tk,c⟩:=Du I J;show _<=(rb (ls.take (i+d+1))).2;rw[tk,YJ];generalize O:ls[i+d]=p at c;obtain⟨F,pk⟩:=p;rcases c with⟨e,_⟩ | ⟨e,_⟩ | ⟨e,_⟩
  ·have e:F = "born" := e;subst e;rw[Gb];show _<=(rb (ls.take (i+d))).2+2;lia
  ·have e:F = "cross" := e;subst e;rw[Wc];exact qV _
  ·have e:F = "end" := e;subst e;rw[Ur];exact qV _
theorem FU (F:Wk ls 0)(O:t<=ls.length)(S:x∈rowAt ls t):0<=x/\x<(Jp ls:Int):=by
 obtain⟨h0,h1,h2⟩:=DT F t O;have a:=YV.mp (h2.mem_iff.mp (K9 _ S));obtain⟨V,W,I⟩:=DT F ls.length (km _);have e:rowAt ls ls.length = []:=by unfold rowAt;rw[kL (km _)];have:=LD F;exact qw.mp (by lia)
 rw[e,Xz] at I;have J:=I.length_eq;rw[U2,UW] at J;have le:=FT F (ls.length-t) t (by lia);rw[show t+(ls.length-t)=ls.length by lia] at le;have U:Jp ls=(rb (ls.take ls.length)).2.toNat:=J;rw[U];lia
theorem BR (F:Wk ls 0)(I:ls[t]? = some q)(hb:q.1 ≠ "born"):(0<=(YK ls t).1/\(YK ls t).1<(Jp ls:Int))/\(0<=(YK ls t).2/\(YK ls t).2<(Jp ls:Int)):=by
 obtain⟨k0,k1,O⟩:=DX F I hb;have J:t<ls.length:=(kC.mp I).1;rw[O];refine⟨FU F (Kv J) ?_,FU F (Kv J) ?_⟩
 ·show (rowAt ls t).getD q.2.toNat 0∈_;rw[show (rowAt ls t).getD q.2.toNat 0=(rowAt ls t)[q.2.toNat]'(by lia) by simp[show q.2.toNat<(rowAt ls t).length by lia]];exact Tz _
 ·show (rowAt ls t).getD (q.2.toNat+1) 0∈_;rw[show (rowAt ls t).getD (q.2.toNat+1) 0=(rowAt ls t)[q.2.toNat+1]'k1 by simp[k1]];exact Tz _
theorem Ut (F:ls[i]? = some q){pr:Str->Bool}:isK ls pr i=pr q.1:=by unfold isK;rw[F];cases h:pr q.1<;>simp[h]
abbrev U7:Str->Bool:=fun x=>!decide (x = "born")
def HG (sc:Int)(ls:QB)(g:QX):Prop:=(sc=1/\g=fun _=>0)∨(sc≠1 /\ ∃T L,UK (JB (Jb ls)) (Jp ls) [T]/\N9 (Yg (Jb ls)) T=0/\One (Jb ls) (Jp ls) T L/\g=hgt (Yg (Jb ls)) T)
theorem thV.hg {zs:QH}(h:thV sc ls zs):∃g,HG sc ls g/\zs=(tab (Jp ls) g).map V.int:=by
 rcases h with⟨a,e⟩ | ⟨a,T,L,b,c,d,e⟩
 ·exact⟨fun _=>0,.inl ⟨a,rfl⟩,by rw[e,Cj]⟩
 ·exact⟨hgt (Yg (Jb ls)) T,.inr ⟨a,T,L,b,c,d,rfl⟩,by rw[e,Cj]⟩
theorem HG.uniq {sc:Int}{ls:QB}{g g':QX}(a:HG sc ls g)(b:HG sc ls g'):g=g':=by
 rcases a with⟨e,rfl⟩ | ⟨ne,T,L,I,_,_,rfl⟩
 ·rcases b with⟨_,rfl⟩ | ⟨ne,_⟩
  ·rfl
  ·exact absurd e ne
 ·rcases b with⟨e,_⟩ | ⟨_,T',L',F,_,_,rfl⟩
  ·exact absurd e ne
  ·have:=I.uniq F;cases this;rfl
def dfs (g:QX)(ls:QB)(ns:QG):QG:=ns.map fun t=>g (YK ls t.toNat).1-g (YK ls t.toNat).2
inductive FV(C:Addr)(vs:QH)(H:Hp)(Q:VK)(E:XK):Prop|mk(l:Addr)(sc:Int)(xs:QH)(ls:QB)(_:vs = [.ref l,.int sc])(_:H l=some (.lst xs))(_:ZI H xs ls)(_:ls.length<=60)(_:Wk ls 0)(_:∀(p:Addr)(H':Hp)(g:QX),H p=none->Zh H H'->HG sc ls g->H' p=some (.lst ((dfs g ls (Ym ls U7 ls.length)).map V.int))->Q (.ref p) H')(_:∀(H':Hp)(ts:QA),Zh H H'->sc≠1->UK (JB (Jb ls)) (Jp ls) ts->ts.map (N9 (Yg (Jb ls))) ≠ [0]->E (.ref C) none H')
abbrev Ul:Stmt:=top 33
theorem Gu:Zw ["drawing", "scale", "heights"] nE (Zj Ul):={}
theorem Zrj (F:JD K "name_heights" "name_heights" Ul f fd)(W2:Lw P w K mg base 8 "thread_heights" nE (FN Yi))(Jo:Jk P w K mg base 2 "pairs_ahead" ["drawing", "numbers"] Bq)
  (WT:Jk P w K mg base 1 "names_of" nC (Ly U7)):Yc P w K mg base (CX1 P w) 9 f fd nE (FV Yi):=by
 refine F.okX1 Gu fun aB A outer s H vs Q E hr h=>?_;obtain⟨l,sc,xs,ls,rfl,hl,hL,I,hW,k,kx⟩:=h;have ac:=WM I;refine⟨_,(Zc (LV (i:=2) Gu.nd rfl (Or.inr rfl) (DA W2 (hr.mono (by decide)) Oa (Za (pv 0) (Za (pv 1) Zb))))
  (Zf (Zv (WI (Ls:=["upper", "lower"]) (Fs:=["heights"]) (fi:=[2]) Gu.lc rfl (ZU (K:=K) rfl (Zp Jo hr (Za (pv 0) (Za (Zp WT hr (Za (pv 0) Zb)) Zb)))) (fun cl C s3 H3 ex=>⟨(Z8 (K:=K) (n:=2) rfl rfl (Zo (YC (i:=0)) (Zo (YC (i:=1)) ZV))),YB,(Zk Y0 (Zy (Zl (K:=K)) (pv 2) (pv 0) (fun _ _=>rfl)) (Zy (Zl (K:=K)) (pv 2) (pv 1) (fun _ _=>rfl)))⟩))))),?_⟩
 refine⟨_,rfl,_,rfl,l,sc,xs,ls,rfl,hl,hL,I,hW,fun p H1 zs fp s1 ep tv=>?_,kx⟩;obtain⟨g,hg,rfl⟩:=tv.hg;refine⟨_,rfl,_,rfl,l,xs,ls,rfl,s1 l _ hl,hL.same s1,I,hW.kd,fun nA H2 fn s2 en=>?_⟩;have J:=s1.trans s2;have mem:∀t∈Ym ls U7 ls.length,0<=t /\ ∃q,ls[t.toNat]? = some q/\q.1 ≠ "born" := fun t ht=>by obtain⟨a,_,q,hq,z⟩:=SV ht;exact⟨a,q,hq,by simpa using z⟩
 refine⟨l,nA,xs,ls,Ym ls U7 ls.length,rfl,J l _ hl,hL.same J,I,hW,en,Kb (WE _ _ _) I,mem,fun pA H3 ys fp' s3 S pv=>?_⟩;have yl:=pv.len;have U:=J.trans s3;have ll:=WE ls U7 ls.length;rw[ke] at yl;have W:=s3 _ _ (s2 _ _ ep);refine⟨pA,rfl,⟨_,Zr.of S⟩,YZ (K:=K) (a:=pA) (xs:=ys) (Kv (ZD (by lia))) (fun i zs G=>Zh H3 G/\zs=(dfs g ls ((Ym ls U7 ls.length).take i)).map V.int) ⟨Zh.refl _,rfl⟩
  (fun i zs G q=>by rw[q.2,ke];unfold dfs;rw[ke,kK];lia) (fun i zs G q=>Zr.of (q.1 pA _ S)) (fun i x zs G hx q=>?_) (fun zs G q D hD=>?_)⟩
 ·obtain⟨O,rfl⟩:=q;obtain⟨⟨u,lw⟩,t,hp,rfl,ht⟩:=pv.get hx;rw[kE] at hp;obtain⟨tt,Y,Z⟩:=k8.mp hp;obtain⟨t0,q,hq,hb⟩:=mem tt (kT Y);have dm:=BR hW hq hb;rw[Z] at dm;refine⟨t,_,rfl,Y9.of (O _ _ ht),rfl,_,_,rfl,_,_,rfl,rfl,?_⟩;refine lcT ?_;refine⟨_,rfl,_,rfl,p,_,_,_,rfl,rfl,Zr.of (O _ _ W),DF g dm.1.1 dm.1.2,_,rfl,_,rfl,p,_,_,_,rfl,rfl,Zr.of (O _ _ W),DF g dm.2.1 dm.2.2,_,_,rfl,rfl,O,?_⟩;unfold dfs;rw[Jm (ns:=Ym ls U7 ls.length) _ Y,kP,Z];rfl
 obtain⟨O,rfl⟩:=q;rw[yl,kL (km _)];exact k D _ g ((U.trans O).free hD) ((U.trans O).step hD) hg Zd
def lnV (sc:Int)(ls:QB)(H H':Hp)(v:V):Prop:=(∃p g,HG sc ls g/\v = .ref p/\H p=none/\H' p=some (.lst ((dfs g ls (Ym ls U7 ls.length)).map V.int)))∨(v = .non/\sc≠1 /\ ∃ts,UK (JB (Jb ls)) (Jp ls) ts/\ts.map (N9 (Yg (Jb ls))) ≠ [0])
inductive BS(vs:QH)(H:Hp)(Q:VK)(_E:XK):Prop|mk(l:Addr)(sc:Int)(xs:QH)(ls:QB)(_:vs = [.ref l,.int sc])(_:sc=0∨sc=1)(_:H l=some (.lst xs))(_:ZI H xs ls)(_:ls.length<=60)(_:Wk ls 0)(_:∀(v:V)(H':Hp),Zh H H'->lnV sc ls H H' v->Q v H')
theorem Zmu (h:lhV sc ls H H' v):(∃p g,HG sc ls g/\v = .ref p/\H p=none/\H' p=some (.lst ((tab (Jp ls) g).map V.int)))∨(v = .non/\sc≠1 /\ ∃ts,UK (JB (Jb ls)) (Jp ls) ts/\ts.map (N9 (Yg (Jb ls))) ≠ [0]):=by
 rcases h with⟨e,p,rfl,fp,ep⟩ | ⟨ne,ts,F,⟨z,rfl⟩ | ⟨p,T,L,rfl,I,o,rfl,fp,ep⟩⟩
 ·exact .inl ⟨p,fun _=>0,.inl ⟨e,rfl⟩,rfl,fp,by rw[ep,Cj]⟩
 ·exact .inr ⟨rfl,ne,ts,F,z⟩
 ·exact .inl ⟨p,hgt (Yg (Jb ls)) T,.inr ⟨ne,T,L,F,I,o,rfl⟩,rfl,fp,by rw[ep,Cj]⟩
theorem HG.atEnd (h:HG sc ls g)(F:sc=0∨sc=1)(O:Wk ls 0)(I:ls[i]? = some q)(J:q.1 = "end"):g (YK ls i).1-g (YK ls i).2=1-sc:=by
 rcases h with⟨e,rfl⟩ | ⟨ne,T,L,_,_,o,rfl⟩
 ·rw[e];rfl
 ·have S:sc=0:=F.elim id fun z=>absurd z ne;have hi:i<ls.length:=(kC.mp I).1;have mem:YK ls i∈Jb ls:=by
   unfold Jb JE;refine Kw.mpr ⟨(i:Int),?_,by simp⟩;unfold Ym;refine KZ.mpr ⟨i,Ku.mpr hi,?_⟩;rw[Ut I,kj];rw[J];unfold UP;simp
  have U:=BR O I (fun z=>by rw[z] at J;exact absurd J (by decide +kernel));have:=o.ends (u:=(YK ls i).1) (l:=(YK ls i).2) mem U.1;rw[S,this];lia
theorem FW (F:ls[i]? = some q)(hb:q.1 ≠ "born"):(dfs g ls (Ym ls U7 i)).map V.int ++ [V.int (g (YK ls i).1-g (YK ls i).2)]=(dfs g ls (Ym ls U7 (i+1))).map V.int:=by have I:=Ut F (pr:=U7);rw[GO,I,kj (by simpa using hb)];unfold dfs;simp
theorem Zmn (F:ls[i]? = some q)(hb:q.1 = "born"):dfs g ls (Ym ls U7 i)=dfs g ls (Ym ls U7 (i+1)):=by have I:=Ut F (pr:=U7);rw[GO,I,kh (by simp[hb]),KY]
abbrev JT:Stmt:=top 54
theorem ZX:Zw ["_law_drawing_here", "_law_scale", "_law_known", "_law_rows_here", "_law_found", "_law_t", "_law_letter", "_law_one", "_law_other"] nG (Zj JT):={}
theorem Zpn (F:JD K "_law_name_heights" "_law_name_heights" JT f fd)(Uh:Jk P w K mg base 3 "_law_heights" nG FP)(YS:Jk P w K mg base 1 "_law_rows" nF Dv)
  (ZE:mg "enumerate" = none):Yc P w K mg base JZ 4 f fd nG BS:=by
 refine F.ok1 ZX fun aB A outer s H vs Q E hr h=>?_;obtain⟨l,sc,xs,ls,rfl,aW,hl,hL,O,hW,k⟩:=h;have ac:=WM O;have aF:=hL.len;refine⟨_,(Zc (Zz (i:=2) ZX.nd (Zp Uh hr (Za (pv 0) (Za (pv 1) Zb))))
  (Zc (ZP (Zu Pc (pv 2) Jx (Zt _)) (Zf (Zv Jx)) ZF)
  (Zc (Zz (i:=3) ZX.nd (Zp YS hr (Za (pv 0) Zb)))
  (Zc (Zz (i:=4) ZX.nd (Zx Zb))
  (Zc (Yr Ka rfl (Ws (K:=K) rfl (by rfl) ZE (Za (pv 0) Zb)) (Z8 (K:=K) (n:=2) rfl rfl (Zo (ZT (i:=5) ZX.nd) (Zo (ZT (i:=6) ZX.nd) ZV))) (Zf (ZP (Zu Yp (Zy (Ys (K:=K)) (pv 6) Ze (fun _ _=>rfl)) ZJ (Zt _)) (Zc (Yz (ZW (Yf (K:=K)) (Zy (Zl (K:=K)) (pv 3) (pv 5) (fun _ _=>rfl)) (ZQ (Zy (Ys (K:=K)) (pv 6) Ze (fun _ _=>rfl))) (ZQ (Zk ZC (Zy (Ys (K:=K)) (pv 6) Ze (fun _ _=>rfl)) Ze))) (CV (K:=K) (n:=2) rfl rfl (Zo (ZT (i:=7) ZX.nd) (Zo (ZT (i:=8) ZX.nd) ZV))))
  (Zf (ZY (Yd (K:=K) rfl (Yw kJ kU kW ZL (pv 4) (Za (Zk Y0 (Zy (Zl (K:=K)) (pv 2) (pv 7) (fun _ _=>rfl)) (Zy (Zl (K:=K)) (pv 2) (pv 8) (fun _ _=>rfl))) Zb)))))) (Zf (ZP (Zu Yp (Zy (Ys (K:=K)) (pv 6) Ze (fun _ _=>rfl)) ZJ (Zt _)) (Zf (ZY (Yd (K:=K) rfl (Yw kJ kU kW ZL (pv 4) (Za (Zk Y0 Ze (pv 1)) Zb))))) ZF)))))
  (Zf (Zv (pv 4)))))))),?_⟩
 refine⟨_,rfl,_,rfl,l,sc,xs,ls,rfl,hl,hL,O,hW,fun v H1 s1 lv=>?_⟩;rcases Zmu lv with⟨p,g,hg,rfl,fp,ep⟩ | ⟨rfl,ne,vg⟩
 rotate_left
 ·refine⟨_,rfl,rfl,_,rfl,JU ?_⟩;exact k _ H1 s1 (.inr ⟨rfl,ne,vg⟩)
 refine⟨_,rfl,rfl,_,rfl,YD ?_⟩;refine⟨_,rfl,l,xs,ls,rfl,s1 l _ hl,hL.same s1,O,hW,fun R H2 ys fR s2 eR rv ap oN=>?_⟩;refine⟨sz0,fun U W=>?_⟩;have Y:=s1.trans s2;have s3:Zh H2 (upd H2 U (.lst [])):=Zh.laid W;have e3:(upd H2 U (.lst [])) U=some (.lst []):=Zd;have fH:H U=none:=Y.free W;generalize upd H2 U (.lst [])=H3 at *;have aa:=Y _ _ hl;have jE:=hL.same Y;refine⟨_,rfl,l,rfl,⟨_,Zr.of (s3 _ _ aa)⟩,L5 (K:=K) (a:=l) (xs:=xs) (fun i σ G=>∃(v5 v6 v7 v8:QI),σ = [some (.ref l),some (.int sc),some (.ref p),some (.ref R),some (.ref U),v5,v6,v7,v8]/\Zh H2 G/\G U=some (.lst ((dfs g ls (Ym ls U7 i)).map V.int)))
  ⟨none,none,none,none,rfl,s3,e3⟩ (fun i σ G _ ⟨_,_,_,_,_,sm,_⟩=>Zr.of (sm l _ aa)) ?_ ?_⟩
 ·rintro i x pa σ G hx ⟨v5,v6,v7,v8,rfl,sm,eF⟩ hp;obtain⟨⟨qx,qk⟩,ta,hq,rfl,aO⟩:=jE.get hx;have hi:i<ls.length:=(kC.mp hq).1;have sp:Zh G (upd G pa (.tup [.int i,.ref ta])):=Zh.laid hp;have vi:(upd G pa (.tup [.int i,.ref ta])) pa=some (.tup [.int i,.ref ta]):=Zd;generalize upd G pa (.tup [.int i,.ref ta])=G0 at *;have I:=sm.trans sp;have Z:=sp _ _ eF;have J:=I ta _ aO;have S:((dfs g ls (Ym ls U7 i)).map V.int).length<sizeLine:=by
   rw[ke];unfold dfs;rw[ke];have:=WE ls U7 i;exact ZD (by lia)
  refine⟨pa,_,rfl,Y9.of vi,rfl,_,_,rfl,_,_,rfl,rfl,?_⟩;refine⟨_,rfl,ta,_,_,_,rfl,rfl,Y9.of J,Zn (j:=0) rfl,rfl,_,rfl,?_⟩;refine Z7 (fun hc=>?_) (fun hc=>?_)
  ·have e:qx = "cross" := V.str.inj (kI hc);subst e;have nb:(("cross" : Str),qk).1 ≠ "born" := show ("cross" : Str) ≠ "born" by decide +kernel
   obtain⟨k0,k1,pe⟩:=DX hW hq nb;have dm:=BR hW hq nb;have sn:=FW (g:=g) hq nb;obtain⟨kn,rfl⟩:=kF (show 0<=qk from k0);simp only[kM] at k1 pe;obtain⟨ra,eZ,bi⟩:=rv.at (CZ ls (i:=i) (n:=ls.length+1) (by lia));obtain⟨u,hu⟩:∃u,u=(rowAt ls i).getD kn 0:=⟨_,rfl⟩;obtain⟨w',hw⟩:∃w',w'=(rowAt ls i).getD (kn+1) 0:=⟨_,rfl⟩;rw[<- hu,<- hw] at pe;rw[pe] at dm sn;refine⟨_,rfl,_,rfl,R,_,_,_,rfl,rfl,Zr.of (I R _ eR),Zn eZ,_,rfl,ta,_,_,_,rfl,rfl,Y9.of J,Zn (j:=1) rfl,_,rfl,_,rfl,ta,_,_,_,rfl,rfl,Y9.of J,Zn (j:=1) rfl,_,_,rfl,rfl,_,rfl,ra,_,rfl,Zr.of (I ra _ bi),fun cA bI=>?_⟩;rw[BE k1,<- hu,<- hw];have s4:Zh G0 (upd G0 cA (.lst [.int u,.int w'])):=Zh.laid bI;have e4:(upd G0 cA (.lst [.int u,.int w'])) cA=some (.lst [.int u,.int w']):=Zd;generalize upd G0 cA (.lst [.int u,.int w'])=G1 at *;refine⟨cA,_,rfl,Zr.of e4,rfl,_,_,rfl,_,_,rfl,rfl,?_⟩;have oq:=s4 _ _ (I _ _ (s2 _ _ ep));have ot:=s4 _ _ Z;refine⟨_,rfl,.inl ⟨rfl,_,Zr.of ot⟩,_,rfl,_,rfl,p,_,_,_,rfl,rfl,Zr.of oq,DF g dm.1.1 dm.1.2,_,rfl,_,rfl,p,_,_,_,rfl,rfl,Zr.of oq,DF g dm.2.1 dm.2.2,_,_,rfl,rfl,U,_,_,rfl,rfl,ot,S,?_⟩;refine⟨_,_,_,_,rfl,(I.trans s4).put W,?_⟩;rw[Zd,sn]
  ·have nc:¬qx = "cross" := fun z=>hc (kH (Kx V.str z));refine⟨_,rfl,ta,_,_,_,rfl,rfl,Y9.of J,Zn (j:=0) rfl,rfl,_,rfl,?_⟩;refine Z7 (fun aQ=>?_) (fun aQ=>?_)
   ·have e:qx = "end" := V.str.inj (kI aQ);subst e;have nb:(("end" : Str),qk).1 ≠ "born" := show ("end" : Str) ≠ "born" by decide +kernel
    have sn:=FW (g:=g) hq nb;rw[hg.atEnd aW hW hq rfl] at sn;refine⟨_,rfl,.inl ⟨rfl,_,Zr.of Z⟩,_,rfl,_,_,rfl,rfl,U,_,_,rfl,rfl,Z,S,?_⟩;refine⟨_,_,_,_,rfl,I.put W,?_⟩;rw[Zd,sn]
   ·have vj:¬qx = "end" := fun z=>aQ (kH (Kx V.str z));have b:qx = "born" := by
     rcases hW.kd _ (kT hq) with z | z | z
     ·exact z
     ·exact absurd z nc
     ·exact absurd z vj
    refine⟨_,_,_,_,rfl,I,?_⟩;rw[Z,Zmn hq b]
 ·rintro σ G ⟨v5,v6,v7,v8,rfl,sm,eF⟩;rw[aF] at eF;exact⟨_,rfl,k _ G (Y.trans sm) (.inl ⟨U,g,hg,rfl,fH,eF⟩)⟩
inductive FX(vs:QH)(H:Hp)(Q:VK)(_E:XK):Prop|mk(b:Addr)(n:Int)(_:vs = [.ref b,.int n])(_:Bag H b)(_:2<=n)(_:n<=12)(_:∀(l:Addr)(H':Hp)(ls:QB),H l=none->Bag H' b->Y5 b H H'->Drw H' l ls->nX ls<=13->Crl n.toNat ls->Q (.ref l) H')
theorem FY {H:Hp}{t:Addr}{q:Str×Int}(h:H t=some (.tup [.str q.1,.int q.2])):∀n:Nat,ZI H (List.replicate n (V.ref t)) (List.replicate n q)
 | 0=>.nil
 | n+1=>.cons ⟨t,rfl,h⟩ (FY h n)
theorem FZ (n:Nat)(k:Int):nX (List.replicate n ((("cross" : Str),k):Str×Int))=n:=by unfold nX;rw[List.countP_replicate,kj (by show decide (("cross" : Str)=("cross" : Str))=true;decide)]
abbrev BU:Stmt:=top 58
theorem JY:Zw ["_law_bag_here", "_law_most", "_law_way", "_law_letters", "_law_turn"] nI (Zj BU):={}
theorem Zmy (F:JD K "_law_front" "_law_front" BU f fd)(Zq:Jk P w K mg base 1 "_law_take" nJ UC)(js:Jk P w K mg base 3 "_law_any" nI Cg)(Wi:Jk P w K mg base 2 "_law_plat" nI Cg)
  (UH:Jk P w K mg base 2 "_law_curled" nV FR) (ZM:mg "range" = none) (Yl:mg "len" = none) (Gf:mg "max" = none) (bJ:mg "min" = none):
  Yc P w K mg base JZ 4 f fd nI FX:=by
 refine F.ok1 JY fun aB A outer s H vs Q E hr h=>?_;obtain⟨b,n,rfl,aP,n2,n12,k⟩:=h;refine⟨_,(Zc (Zz (i:=2) JY.nd (Zp Zq hr (Za (pv 0) (Za Ze Zb))))
  (Zc (ZP (Zu Yp (pv 2) Ze (Zt _)) (Zf (Zv (Zp js hr (Za (pv 0) (Za (pv 1) Zb))))) ZF)
  (Zc (ZP (Zu Yp (pv 2) Ze (Zt _)) (Zf (Zv (Zp Wi hr (Za (pv 0) (Za (pv 1) Zb))))) ZF)
  (Zc (Zz (i:=3) JY.nd (Zk YX (Zx (Za (ZN (Za ZJ (Za Ze Zb))) (Za (ZN (Za ZJ (Za Ze Zb))) Zb))) (Zk LW (Zx (Za (ZN (Za ZJ (Za Ze Zb))) Zb)) (Zk ZC Ze (Zp Zq hr (Za (pv 0) (Za (pv 1) Zb)))))))
  (Zc (ZP (Zu Yp (pv 2) Ze (Zt _)) (Zc (Zz (i:=3) JY.nd (Zx (Za (ZN (Za ZJ (Za Ze Zb))) (Za (ZN (Za ZJ (Za Ze Zb))) (Za (ZN (Za ZJ (Za Ze Zb))) Zb)))))
  (Zc (Yr Ka rfl (YA (by rfl) ZM (Za (Zk ZC Ze (Zp Zq hr (Za (pv 0) (Za (Zs (WK rfl) (by rfl) Gf N6 (Za Ze (Za (Zk Y0 (pv 1) Ze) Zb))) Zb)))) Zb)) (ZT (i:=4) JY.nd) (Zf (ZY (Yd (K:=K) rfl (Yw kJ kU kW ZL (pv 3) (Za (ZN (Za ZJ (Za (Zy (Zl (K:=K)) (Zx (Za Ze (Za Ze (Za Ze Zb)))) (Zk Ug (Zp Zq hr (Za (pv 0) (Za Ze Zb))) Ze) (fun _ _=>rfl)) Zb))) Zb))))))
  (Zf (Zv (Zk YX (pv 3) (Zx (Za (ZN (Za ZJ (Za Ze Zb))) (Za (ZN (Za ZJ (Za Ze Zb))) (Za (ZN (Za ZJ (Za Ze Zb))) Zb))))))))) ZF)
  (Zf (Zv (Zp UH hr (Za (pv 0) (Za (Zk YX (pv 3) (Zx (Za (ZN (Za ZJ (Za Ze Zb))) (Za (ZN (Za ZJ (Za Ze Zb))) Zb)))) (Za (Zs (WK rfl) (by rfl) Gf N6 (Za Ze (Za (Zs (CH rfl) (by rfl) bJ boot_min (Za Ze (Za (Zk Y0 Ze (Zs (Yq (K:=K)) (by rfl) Yl KR (Za (pv 3) Zb))) Zb))) Zb))) Zb))))))))))),?_⟩
 have nb:∀{c:Addr},H c=none->c≠b:=fun {c} h z=>by obtain⟨_,_,_,e⟩:=aP;rw[z,e] at h;cases h
 refine⟨_,rfl,b,5,rfl,aP,by decide,by decide,fun wy H1 w0 w1 U f1=>?_⟩;refine⟨_,rfl,rfl,_,rfl,Z7 (fun _=>?_) (fun _=>?_)⟩
 ·exact⟨_,rfl,_,rfl,b,n,rfl,U,by lia,by lia,fun l H2 ls hl W f2 dr nx=>k l H2 ls (f1.free U hl) W (f1.trans f2) dr (by lia) (.base (by lia))⟩
 refine⟨_,rfl,rfl,_,rfl,Z7 (fun _=>?_) (fun _=>?_)⟩
 ·exact⟨_,rfl,_,rfl,b,n,rfl,U,by lia,by lia,fun l H2 ls hl W f2 dr nx=>k l H2 ls (f1.free U hl) W (f1.trans f2) dr (by lia) (.base (by lia))⟩
 refine⟨sz2,fun t1 h1=>?_⟩;refine lay2 (o:=.tup [.str "born", .int 0]) h1 fun X1 a1 b1=>?_;refine⟨sz2,fun t2 h2=>?_⟩;refine lay2 (o:=.tup [.str "born", .int 2]) h2 fun X2 a2 b2=>?_;refine⟨sz2,fun c1 h3=>?_⟩;refine lay2 (o:=.lst [.ref t1,.ref t2]) h3 fun X3 a3 b3=>?_;refine⟨sz2,fun t3 h4=>?_⟩;refine lay2 (o:=.tup [.str "cross", .int 1]) h4 fun X4 a4 b4=>?_;refine⟨sz1,fun c2 h5=>?_⟩;refine lay2 (o:=.lst [.ref t3]) h5 fun X5 a5 b5=>?_;have ou:=(((a1.trans a2).trans a3).trans a4).trans a5;have bp:=ZG ou U;have jt:∀{c:Addr}{G:Hp},Bag G b->G c=none->c≠b:=fun {c G} h e z=>by obtain⟨_,_,_,q⟩:=h;rw[z,q] at e;cases e
 have n1:c1≠b:=jt (ZG (a1.trans a2) U) h3;have ju:c2≠b:=jt (ZG (((a1.trans a2).trans a3).trans a4) U) h5;have L3:ZI X5 [.ref t1,.ref t2] [("born", 0),("born", 2)]:=.cons ⟨t1,rfl,a5 _ _ (a4 _ _ (a3 _ _ (a2 _ _ b1)))⟩ (.cons ⟨t2,rfl,a5 _ _ (a4 _ _ (a3 _ _ b2))⟩ .nil);have L4:∀m:Nat,ZI X5 (List.replicate m (V.ref t3)) (List.replicate m ((("cross" : Str),1):Str×Int)):=fun m=>FY (a5 _ _ b4) m;refine⟨_,rfl,_,rfl,b,n,rfl,bp,by lia,by lia,fun d H2 d0 d1 W f2=>⟨_,_,rfl,rfl,?_⟩⟩;obtain⟨S,gX⟩:∃S:Nat,S=(1+d).toNat:=⟨_,rfl⟩;refine⟨c2,_,_,rfl,rfl,f2 _ _ b5 ju,by lia,by lia,(by rw[<- gX,kY];simp;lia),fun c3 h6=>?_⟩;rw[<- gX,List.flatten_replicate_singleton];refine lay2 (o:=.lst (List.replicate S (V.ref t3))) h6 fun X6 a6 b6=>?_;refine⟨c1,c3,_,_,rfl,rfl,a6 _ _ (f2 _ _ (a5 _ _ (a4 _ _ b3)) n1),b6,(by rw[Kz,kY];show 2+S<=_;lia),fun c4 h7=>?_⟩;obtain⟨X7,z,a7,b7⟩:=lay (o:=.lst ([.ref t1,.ref t2]++List.replicate S (V.ref t3))) h7;rw[z];clear z;have jv:=a6.trans a7;have dO:=ZG jv W;have Y:Y5 b H X7:=((f1.trans ou.frm).trans f2).trans jv.frm;have L7:ZI X7 ([.ref t1,.ref t2]++List.replicate S (V.ref t3)) (([("born", 0),("born", 2)]:QB)++List.replicate S ((("cross" : Str),1):Str×Int)):=((L3.frm f2 bp).append ((L4 S).frm f2 bp)).same jv;refine⟨_,rfl,rfl,_,rfl,Z7 (fun _=>?_) (fun _=>?_)⟩
 ·refine⟨sz2,fun u1 e1=>?_⟩;refine lay2 (o:=.tup [.str "born", .int 0]) e1 fun Y1 g1 j1=>?_;refine⟨sz2,fun u2 e2=>?_⟩;refine lay2 (o:=.tup [.str "born", .int 2]) e2 fun Y2 g2 j2=>?_;refine⟨sz2,fun u3 e3=>?_⟩;refine lay2 (o:=.tup [.str "born", .int 4]) e3 fun Y3 g3 j3=>?_;refine⟨sz3,fun l e4=>?_⟩;refine lay2 (o:=.lst [.ref u1,.ref u2,.ref u3]) e4 fun Y4 g4 j4=>?_;have sY:=((g1.trans g2).trans g3).trans g4;have ai:=ZG sY dO;have fl:H l=none:=Y.free dO (((g1.trans g2).trans g3).free e4);have ow:=nb fl;have LY:ZI Y4 [.ref u1,.ref u2,.ref u3] [("born", 0),("born", 2),("born", 4)]:=.cons ⟨u1,rfl,g4 _ _ (g3 _ _ (g2 _ _ j1))⟩ (.cons ⟨u2,rfl,g4 _ _ (g3 _ _ j2)⟩ (.cons ⟨u3,rfl,g4 _ _ j3⟩ .nil));have WY:Wk [("born", 0),("born", 2),("born", 4)] 6:=Wk.born (k:=4) (Wk.born (k:=2) (Wk.born (k:=0) .nil (by decide) (by decide)) (by decide) (by decide)) (by decide) (by decide);refine⟨_,rfl,_,rfl,_,_,rfl,rfl,_,_,rfl,b,_,rfl,ai,(by split<;>lia),(by split<;>lia),fun d2 H3 cz dA ag f3=>⟨_,_,rfl,rfl,?_⟩⟩;have d2n:d2<=11:=by revert dA;split<;>lia
  have d2m:2+d2<=n:=by revert dA;split<;>lia
  refine⟨_,rfl,by lia,by lia,Jl (n:=(2+d2).toNat) (fun i σ G=>∃(xs:QH)(ls:QB)(v4:QI),σ = [some (.ref b),some (.int n),some (.int wy),some (.ref l),v4]/\Bag G b/\Y5 b H G/\G l=some (.lst xs)/\ZI G xs ls/\Wk ls 6/\ls.length<=3+i/\nX ls<=i)
   ⟨_,_,_,rfl,ag,(Y.trans sY.frm).trans f3,f3 _ _ j4 ow,LY.frm f3 ai,WY,km _,km _⟩ ?_ ?_⟩
  ·rintro i σ G hi ⟨xs,ls,v4,rfl,bg,gc,hG,hL,hW,aA,hx⟩;have aF:=hL.len;refine⟨_,rfl,.inl ⟨rfl,_,Zr.of hG⟩,sz3,fun q1 bM=>?_⟩;refine lay2 (o:=.lst [.int 1,.int 3,.int 2]) bM fun Z1 r1 o1=>?_;have Z:=ZG r1 bg;refine⟨_,rfl,b,7,rfl,Z,by decide,by decide,fun e Z2 e0 dP jw fZ=>⟨_,_,rfl,rfl,(by show (0:Int)<3;decide),?_⟩⟩;have nq:q1≠b:=jt bg bM;obtain⟨jj,vk⟩:∃jj:Nat,e % 3=(jj:Int):=⟨(e % 3).toNat,by lia⟩;have vm:jj<3:=by lia
   dsimp only;rw[vk];obtain⟨kk,vn,k0,k4⟩:∃kk:Int,([V.int 1,.int 3,.int 2]:QH)[jj]? = some (.int kk)/\0<=kk/\kk<=4:=by
    match jj,vm with
    | 0,_=>exact⟨_,rfl,by decide,by decide⟩
    | 1,_=>exact⟨_,rfl,by decide,by decide⟩
    | 2,_=>exact⟨_,rfl,by decide,by decide⟩
   refine⟨q1,_,_,_,rfl,rfl,Zr.of (fZ _ _ o1 nq),Zn vn,sz2,fun t ht=>?_⟩;obtain⟨cw,g8,g9,gb,vo⟩:=Gd "cross" kk (gc.trans r1.frm) Z (r1 _ _ hG) (hL.same r1) ow fl fZ jw ht;refine⟨l,_,_,rfl,rfl,cw,ZD (by lia),?_⟩;exact⟨xs ++ [.ref t],ls ++ [((("cross" : Str),kk):Str×Int)],_,rfl,g8,g9,gb,vo,Wk.cross hW k0 (by lia),by rw[ki,Ke];lia,by rw[Cf];lia⟩
  ·rintro σ G ⟨xs,ls,v4,rfl,bg,gc,hG,hL,hW,aA,hx⟩;have aF:=hL.len;refine⟨_,rfl,sz2,fun I dP=>?_⟩;refine lay2 (o:=.tup [.str "end", .int 0]) dP fun Z1 r1 o1=>?_;refine⟨sz2,fun J fI=>?_⟩;refine lay2 (o:=.tup [.str "end", .int 0]) fI fun Z2 r2 o2=>?_;refine⟨sz2,fun gf vp=>?_⟩;refine lay2 (o:=.tup [.str "end", .int 0]) vp fun Z3 r3 o3=>?_;refine⟨sz3,fun jx jy=>?_⟩;refine lay2 (o:=.lst [.ref I,.ref J,.ref gf]) jy fun Z4 r4 o4=>?_;have sZ:=((r1.trans r2).trans r3).trans r4;refine⟨l,jx,_,_,rfl,rfl,sZ _ _ hG,o4,(by rw[aF,kY];show ls.length+3<=_;lia),fun w5 e5=>?_⟩;obtain⟨Z5,z,r5,o5⟩:=lay (o:=.lst (xs ++ [.ref I,.ref J,.ref gf])) e5;rw[z];clear z;have O:=sZ.trans r5;have LE:ZI Z5 [.ref I,.ref J,.ref gf] (List.replicate 3 ((("end" : Str),0):Str×Int)):=.cons ⟨I,rfl,r5 _ _ (r4 _ _ (r3 _ _ (r2 _ _ o1)))⟩ (.cons ⟨J,rfl,r5 _ _ (r4 _ _ (r3 _ _ o2))⟩ (.cons ⟨gf,rfl,r5 _ _ (r4 _ _ o3)⟩ .nil));refine k w5 Z5 (ls++List.replicate 3 ((("end" : Str),0):Str×Int)) (gc.free bg (sZ.free e5)) (ZG O bg) (gc.trans O.frm) ⟨_,o5,(hL.same O).append LE,?_,?_⟩ ?_ (.base ?_)
   ·have:=CQ 3 hW 3 (km _);simpa using this
   ·rw[ki,Kz];lia
   ·rw[Wt];have:nX (List.replicate 3 ((("end" : Str),0):Str×Int))=0:=rfl;lia
   ·rw[Wt];have:nX (List.replicate 3 ((("end" : Str),0):Str×Int))=0:=rfl;lia
 ·refine⟨_,rfl,_,rfl,sz2,fun I dP=>?_⟩;refine lay2 (o:=.tup [.str "end", .int 0]) dP fun Z1 r1 o1=>?_;refine⟨sz2,fun J fI=>?_⟩;refine lay2 (o:=.tup [.str "end", .int 0]) fI fun Z2 r2 o2=>?_;refine⟨sz2,fun jx jy=>?_⟩;refine lay2 (o:=.lst [.ref I,.ref J]) jy fun Z4 r4 o4=>?_;have sZ:=(r1.trans r2).trans r4;have l7:([V.ref t1,.ref t2]++List.replicate S (V.ref t3)).length=2+S:=by rw[ki,Kz];rfl
  refine⟨c4,jx,_,_,rfl,rfl,sZ _ _ b7,o4,(by rw[l7,kY];show 2+S+2<=_;lia),fun w5 e5=>?_⟩;obtain⟨Z5,z,r5,o5⟩:=lay (o:=.lst ([.ref t1,.ref t2]++List.replicate S (V.ref t3) ++ [.ref I,.ref J])) e5;rw[z];clear z;have O:=sZ.trans r5;have LE:ZI Z5 [.ref I,.ref J] (List.replicate 2 ((("end" : Str),0):Str×Int)):=.cons ⟨I,rfl,r5 _ _ (r4 _ _ (r2 _ _ o1))⟩ (.cons ⟨J,rfl,r5 _ _ (r4 _ _ o2)⟩ .nil);have Z:=ZG O dO;have f0:H w5=none:=Y.free dO (sZ.free e5);have WX:∀m:Nat,Wk (([("born", 0),("born", 2)]:QB)++List.replicate m ((("cross" : Str),1):Str×Int)) 4:=fun m=>by
   induction m with
   | zero=>exact Wk.born (k:=2) (Wk.born (k:=0) .nil (by decide) (by decide)) (by decide) (by decide)
   | succ m ih=>rw[Xl,<- Kl];exact Wk.cross ih (by decide) (by decide)
  refine⟨_,rfl,c4,_,rfl,.inl (Zr.of (O _ _ b7)),_,_,rfl,rfl,_,_,rfl,_,_,rfl,?_⟩;rw[l7];refine⟨b,w5,_,([("born", 0),("born", 2)]:QB)++List.replicate S ((("cross" : Str),1):Str×Int)++List.replicate 2 ((("end" : Str),0):Str×Int),n.toNat,rfl,Z,⟨_,o5,(L7.same O).append LE,?_,?_⟩,nb f0,?_,?_,.base ?_,?_,?_,fun l G ls hl bg fr dr nx cr=>k l G ls ((Y.trans O.frm).free Z hl) bg ((Y.trans O.frm).trans fr) dr nx cr⟩
  ·have:=CQ 2 (WX S) 2 (km _);simpa using this
  ·rw[ki,ki,Kz,Kz];show 2+S+2<=60;lia
  ·rw[ki,ki,Kz,Kz];show 2+S+2<=40;lia
  ·rw[Wt,Wt,FZ];have e1:nX (List.replicate 2 ((("end" : Str),0):Str×Int))=0:=rfl;have e2:nX ([("born", 0),("born", 2)]:QB)=0:=rfl;lia
  ·rw[Wt,Wt,FZ];have e1:nX (List.replicate 2 ((("end" : Str),0):Str×Int))=0:=rfl;have e2:nX ([("born", 0),("born", 2)]:QB)=0:=rfl;lia
  ·split<;>(try split)<;>lia
  ·split<;>(try split)<;>lia
inductive F0(vs:QH)(H:Hp)(Q:VK)(_E:XK):Prop|mk(l:Addr)(ls:QB)(_:vs = [.ref l])(_:Drw H l ls)(_:∀(p:Addr)(H':Hp)(scs:QG),Zh H H'->H p=none->H' p=some (.lst (scs.map V.int))->scs.length<=2->(∀sc∈scs,(sc=0∨sc=1) /\ ∃g,HG sc ls g)->Q (.ref p) H')
abbrev UD:Stmt:=top 59
theorem F1:Zw nF nF (Zj UD):={}
theorem Zj0 (F:JD K "_law_scales" "_law_scales" UD f fd)(Yu:Jk P w K mg base 4 "_law_name_heights" nG BS):Yc P w K mg base JZ 5 f fd nF F0:=by
 refine F.ok1 F1 fun aB A outer s H vs Q E hr h=>?_;obtain⟨l,ls,rfl,⟨xs,hl,hL,hW,O⟩,k⟩:=h;refine⟨_,(Zf (Zv (WI (Ls:=["_law_scale"]) (Fs:=nF) (fi:=[0]) F1.lc rfl (ZU (K:=K) rfl (Zx (Za Ze (Za Ze Zb)))) (fun cl C s3 H3 ex=>⟨(YC (i:=0)),(Dr (Zu Pd (Zp Yu hr (Za (pv 1) (Za (pv 0) Zb))) Jx (Zt _))),(pv 0)⟩)))),?_⟩;refine⟨sz2,fun D hD=>?_⟩;refine lay2 (o:=.lst [.int 0,.int 1]) hD fun G0 U W=>?_;refine⟨D,rfl,⟨_,Zr.of W⟩,YZ (K:=K) (a:=D) (xs:=[.int 0,.int 1]) sz2 (fun i zs G=>Zh G0 G /\ ∃I:QG,zs=I.map V.int/\I.length<=i /\ ∀sc∈I,(sc=0∨sc=1) /\ ∃g,HG sc ls g) ⟨Zh.refl _,[],rfl,km _,fun _ h=>(nomatch h)⟩
  (fun i zs G ⟨_,I,e,l,_⟩=>by rw[e,ke];exact l) (fun i zs G x=>Zr.of (x.1 _ _ W)) (fun i y zs G hy x=>?_) (fun zs G x p Y=>?_)⟩
 ·obtain⟨J,I,rfl,Z,al⟩:=x;obtain⟨sc,rfl,S⟩:∃sc:Int,y = .int sc/\(sc=0∨sc=1):=by
   match i,hy with
   | 0,h=>exact⟨0,(k9 h).symm,.inl rfl⟩
   | 1,h=>exact⟨1,(k9 h).symm,.inr rfl⟩
  have s2:=U.trans J;refine⟨_,rfl,_,rfl,l,sc,xs,ls,rfl,S,s2 _ _ hl,hL.same s2,O,hW,fun v G' s' lv=>⟨rfl,_,rfl,?_⟩⟩;rcases lv with⟨p,g,hg,rfl,_,_⟩ | ⟨rfl,_,_⟩
  ·refine JU ⟨_,rfl,J.trans s',I ++ [sc],by simp,by rw[ki];show _+1<=_;lia,fun x hx=>?_⟩;rcases Kg.mp hx with h | h
   ·exact al x h
   ·rw[kR.mp h];exact⟨S,g,hg⟩
  ·exact YD ⟨J.trans s',I,rfl,by lia,al⟩
 ·obtain⟨J,I,rfl,Z,al⟩:=x;exact k p _ I (U.trans (J.step Y)) (U.free (J.free Y)) Zd Z al
theorem HG.told (h:HG sc ls g)(I:lnV sc ls H H' v):∃p,v = .ref p/\H p=none/\H' p=some (.lst ((dfs g ls (Ym ls U7 ls.length)).map V.int)):=by
 rcases I with⟨p,g',hg,rfl,fp,e⟩ | ⟨_,ne,ts,J,z⟩
 ·have:=h.uniq hg;subst this;exact⟨p,rfl,fp,e⟩
 ·exfalso;rcases h with⟨e,_⟩ | ⟨_,T,L,F,O,_⟩
  ·exact ne e
  ·have:=J.uniq F;rw[this] at z;exact z (by rw[Lr,O])
def M8 (ls:QB)(i m:Nat):QG:=(List.range' i m).filterMap fun i=>if isK ls U7 i=true then some (i:Int) else none
theorem F2 (ls:QB)(i m:Nat):M8 ls i (m+1)=(if isK ls U7 i=true then[(i:Int)] else[])++M8 ls (i+1) m:=by
 unfold M8;rw[List.range'_succ,qf];split
 ·rename_i h
  split at h
  ·cases h
  ·rename_i q;rw[kh q];rfl
 ·rename_i h
  split at h
  ·rename_i q;cases h;rw[kj q];rfl
  ·cases h
def hgA (g:QX)(ls:QB)(i:Nat):QW:=if isK ls U7 i=true then some (g (YK ls i).1-g (YK ls i).2) else none
def oI:Option Int->V
 | some i=>.int i
 | none=>.non
def lhL (g:QX)(ls:QB)(n:Nat):QH:=(List.range n).map fun i=>oI (hgA g ls i)
inductive BV(vs:QH)(H:Hp)(Q:VK)(_E:XK):Prop|mk(l:Addr)(sc:Int)(ls:QB)(g:QX)(_:vs = [.ref l,.int sc])(_:sc=0∨sc=1)(_:Drw H l ls)(_:HG sc ls g)(_:∀(p:Addr)(H':Hp),Zh H H'->H p=none->H' p=some (.lst (lhL g ls ls.length))->Q (.ref p) H')
abbrev Jr:Stmt:=top 60
theorem YE:Zw ["_law_drawing_here", "_law_scale", "_law_known", "_law_found", "_law_letter"] nG (Zj Jr):={}
theorem ZnH (F:JD K "_law_letter_heights" "_law_letter_heights" Jr f fd)(Yu:Jk P w K mg base 4 "_law_name_heights" nG BS)(Ya:mg "list" = none):Yc P w K mg base JZ 5 f fd nG BV:=by
 refine F.ok1 YE fun aB A outer s H vs Q E hr h=>?_;obtain⟨l,sc,ls,g,rfl,aW,⟨xs,hl,hL,hW,O⟩,hg,k⟩:=h;refine⟨_,(Zc (Zz (i:=2) YE.nd (ZZ (YY (K:=K)) (by rfl) Ya Xi (Za (Zp Yu hr (Za (pv 0) (Za (pv 1) Zb))) Zb)))
  (Zc (Zz (i:=3) YE.nd (Zx Zb))
  (Zc (Yr Ka rfl (ZU (K:=K) rfl (pv 0)) (ZT (i:=4) YE.nd) (Zf (ZP (Zu Yp (Zy (Ys (K:=K)) (pv 4) Ze (fun _ _=>rfl)) ZJ (Zt _)) (Zf (ZY (Yd (K:=K) rfl (Yw kJ kU kW ZL (pv 3) (Za Jx Zb))))) (Zf (ZY (Yd (K:=K) rfl (Yw kJ kU kW ZL (pv 3) (Za (Yd (K:=K) rfl (Yw kJ Tv Tw Pj (pv 2) (Za Ze Zb))) Zb))))))))
  (Zf (Zv (pv 3)))))),?_⟩
 refine⟨_,rfl,_,rfl,l,sc,xs,ls,rfl,aW,hl,hL,O,hW,fun v H1 s1 lv=>?_⟩;obtain⟨p,rfl,fp,ep⟩:=hg.told lv;refine⟨p,_,rfl,.inl (Zr.of ep),fun kn S=>?_⟩;refine lay2 (o:=.lst ((dfs g ls (Ym ls U7 ls.length)).map V.int)) S fun H2 s2 e2=>?_;refine⟨sz0,fun q hq=>?_⟩;refine lay2 (o:=.lst []) hq fun H3 s3 e3=>?_;have U:=(s1.trans s2).trans s3;have fk:H kn=none:=s1.free S;have fq:H q=none:=(s1.trans s2).free hq;have kq:kn≠q:=Zg e2 hq;have aF:=hL.len;have e0:(dfs g ls (Ym ls U7 ls.length))=dfs g ls (M8 ls 0 (ls.length-0)):=by unfold Ym M8;rw[List.range_eq_range',LO]
 rw[e0] at e2;refine⟨_,rfl,l,rfl,⟨_,Zr.of (U _ _ hl)⟩,JA (K:=K) (a:=l) (xs:=xs) (fun i σ G=>∃v4:QI,σ = [some (.ref l),some (.int sc),some (.ref kn),some (.ref q),v4]/\Zh H G/\G kn=some (.lst ((dfs g ls (M8 ls i (ls.length-i))).map V.int))/\G q=some (.lst (lhL g ls i))) ⟨_,rfl,U,s3 _ _ e2,e3⟩ (fun i σ G _ ⟨_,_,s,_⟩=>Zr.of (s _ _ hl)) ?_ ?_⟩
 ·rintro i x σ G hx ⟨v4,rfl,W,ek,J⟩;obtain⟨pq,ta,hp,rfl,aO⟩:=(hL.same W).get hx;have hi:i<ls.length:=(kC.mp hp).1;have kk:=Ut hp (pr:=U7);have lq:(lhL g ls i).length=i:=by simp[lhL]
  have em:ls.length-i=(ls.length-(i+1))+1:=by lia
  have I:∀{G':Hp}{o:HO},Zh H G'->Zh H (upd G' q o):=fun s c o e=>by rw[Zi (Zg e fq)];exact s c o e
  have Y:∀{G':Hp}{o:HO},Zh H G'->Zh H (upd G' kn o):=fun s c o e=>by rw[Zi (Zg e fk)];exact s c o e
  refine⟨_,rfl,ta,_,_,_,rfl,rfl,Y9.of aO,Zn (j:=0) rfl,rfl,_,rfl,Z7 (fun hb=>?_) (fun hb=>?_)⟩
  ·have eb:pq.1 = "born" := by
    have:=kI hb;injection this
   have kf:isK ls U7 i=false:=by rw[kk,eb];decide
   refine⟨_,rfl,.inl ⟨rfl,_,Zr.of J⟩,q,_,_,rfl,rfl,J,(by rw[lq,kY];lia),?_⟩;refine⟨_,rfl,I W,?_,?_⟩
   ·rw[Zi kq,ek,em,F2,kf];rfl
   ·rw[Zd];unfold lhL;rw[KN,kP];show some (HO.lst (_ ++ [V.non]))=some (HO.lst (_ ++ [oI (hgA g ls i)]));have:hgA g ls i=none:=by unfold hgA;rw[kf];rfl
    rw[this];rfl
  ·have kt:isK ls U7 i=true:=by
    rw[kk];unfold U7;simp;intro z;rw[z] at hb;exact hb (kH rfl)
   have el:M8 ls i (ls.length-i)=(i:Int)::M8 ls (i+1) (ls.length-(i+1)):=by rw[em,F2,kt];rfl
   rw[el] at ek;have Z:G kn=some (.lst (V.int (g (YK ls i).1-g (YK ls i).2)::(dfs g ls (M8 ls (i+1) (ls.length-(i+1)))).map V.int)):=by rw[ek];unfold dfs;rw[Ko,Ko];simp
   refine⟨_,rfl,.inl ⟨rfl,_,Zr.of J⟩,_,rfl,.inl ⟨rfl,_,Zr.of Z⟩,kn,_,0,0,_,rfl,rfl,Z,by decide,by decide,MF (by decide) (by simp),rfl,?_⟩;have vq:(upd G kn (.lst (((V.int (g (YK ls i).1-g (YK ls i).2))::(dfs g ls (M8 ls (i+1) (ls.length-(i+1)))).map V.int).eraseIdx 0))) q=some (.lst (lhL g ls i)):=by rw[Zi (KA kq)];exact J
   refine⟨q,_,_,rfl,rfl,vq,(by rw[lq,kY];lia),?_⟩;refine⟨_,rfl,I (Y W),?_,?_⟩
   ·rw[Zi kq,Zd];rfl
   ·rw[Zd];unfold lhL;rw[KN,kP];show some (HO.lst (_ ++ [V.int _]))=some (HO.lst (_ ++ [oI (hgA g ls i)]));have:hgA g ls i=some (g (YK ls i).1-g (YK ls i).2):=by unfold hgA;rw[kt];rfl
    rw[this];rfl
 ·rintro σ G ⟨v4,rfl,W,ek,J⟩;rw[aF] at J;exact⟨_,rfl,k q G W fq J⟩
def PtL (ps:QG):Prop:=∀(i:Nat)(x:Int),ps[i]? = some x -> ∃j:Nat,x=(j:Int)/\ps[j]? = some (i:Int)/\j≠i
def upB (k:Nat)(x:Int):Int:=if x>=(k:Int) then x+2 else x
def dnE (k:Nat)(x:Int):Int:=if x>(k:Int) then x-2 else x
def Um (k:Nat)(x:Int):Int:=if x=(k:Int) then(k:Int)+1 else if x=(k:Int)+1 then(k:Int) else x
def Wr (ps:QG)(k:Nat):QG:=(ps.map (upB k)).take k ++ [(k:Int)+1,(k:Int)]++(ps.map (upB k)).drop k
def Ma (ps:QG)(k:Nat):QG:=(ps.take k++ps.drop (k+2)).map (dnE k)
theorem Ck (ps:QG)(k:Nat):(Wr ps k).length=ps.length+2:=by unfold Wr;simp;lia
theorem BW (h:k+1<ps.length):(Ma ps k).length+2=ps.length:=by unfold Ma;simp;lia
theorem GG (hk:k<=ps.length)(i:Nat):(Wr ps k)[i]? = if i<k then ps[i]?.map (upB k) else if i=k then some ((k:Int)+1) else if i=k+1 then some (k:Int) else ps[i-2]?.map (upB k):=by
 unfold Wr;have l1:((ps.map (upB k)).take k).length=k:=by simp;lia
 by_cases h1:i<k
 ·rw[kj h1,Kl,KG (by lia),Tf,kj h1,kE]
 ·rw[kh h1,Kl,Kq (by lia),l1];by_cases h2:i=k
  ·rw[kj h2,h2,Mk];rfl
  ·rw[kh h2];by_cases F:i=k+1
   ·rw[kj F,F,show k+1-k=1 by lia];rfl
   ·rw[kh F,Kq (by show 2<=_;lia),qR,kE];congr 2;show k+(i-k-2)=i-2;lia
theorem PtL.born {ps:QG}{k:Nat}(h:PtL ps)(hk:k<=ps.length):PtL (Wr ps k):=by
 intro i x e;rw[GG hk] at e;have F:∀(I:Nat)(y:Int),ps[I]? = some y -> ∃j:Nat,upB k y=(j:Int)/\(Wr ps k)[j]? = some (upB k (I:Int))/\(j:Int)≠upB k (I:Int):=fun I y J=>by
  obtain⟨j,rfl,S,ne⟩:=h I y J;unfold upB;by_cases U:k<=j
  ·refine⟨j+2,by rw[kj (by lia)];rfl,?_,?_⟩
   ·rw[GG hk,kh (by lia),kh (by lia),kh (by lia),Nu,S];rfl
   ·split<;>lia
  ·refine⟨j,by rw[kh (by lia)],?_,?_⟩
   ·rw[GG hk,kj (by lia),S];rfl
   ·split<;>lia
 by_cases h1:i<k
 ·rw[kj h1] at e;obtain⟨y,J,rfl⟩:=k8.mp e;obtain⟨j,a,b,c⟩:=F i y J;have:upB k (i:Int)=(i:Int):=by unfold upB;rw[kh (by lia)]
  rw[this] at b c;exact⟨j,a,b,by lia⟩
 rw[kh h1] at e;by_cases h2:i=k
 ·rw[kj h2] at e;injection e with e
  refine⟨k+1,by lia,?_,by lia⟩;rw[GG hk,kh (by lia),kh (by lia),kj rfl,h2]
 rw[kh h2] at e;by_cases O:i=k+1
 ·rw[kj O] at e;injection e with e
  refine⟨k,by lia,?_,by lia⟩;rw[GG hk,kh (by lia),kj rfl,O];rfl
 rw[kh O] at e;obtain⟨y,J,rfl⟩:=k8.mp e;obtain⟨j,a,b,c⟩:=F (i-2) y J;have:upB k ((i-2:Nat):Int)=(i:Int):=by unfold upB;rw[kj (by lia)];lia
 rw[this] at b c;exact⟨j,a,b,by lia⟩
theorem Cm (hk:k+1<ps.length)(i:Nat):(Ma ps k)[i]? = (if i<k then ps[i]? else ps[i+2]?).map (dnE k):=by
 unfold Ma;rw[kE];congr 1;by_cases h1:i<k
 ·rw[kj h1,KG (by simp;lia),Tf,kj h1]
 ·rw[kh h1,Kq (by simp;lia),qR];congr 1;simp;lia
theorem PtL.ended (h:PtL ps)(S:ps[k]? = some ((k:Int)+1)):PtL (Ma ps k):=by
 obtain⟨j0,j1,U,_⟩:=h k _ S;have:j0=k+1:=by lia
 subst this;have hk:k+1<ps.length:=(kC.mp U).1;have O:∀(F:Nat)(y:Int),F≠k->F≠k+1->ps[F]? = some y -> ∃j:Nat,dnE k y=(j:Int)/\(Ma ps k)[j]? = some (dnE k (F:Int))/\(j:Int)≠dnE k (F:Int):=fun F y V W I=>by
  obtain⟨j,rfl,J,ne⟩:=h F y I;have Y:j≠k:=fun z=>by subst z;rw[S] at J;injection J;lia
  have Z:j≠k+1:=fun z=>by subst z;rw[U] at J;injection J;lia
  unfold dnE;by_cases hj:k<j
  ·refine⟨j-2,by rw[kj (by lia)];lia,?_,?_⟩
   ·rw[Cm hk,kh (by lia),show j-2+2=j by lia,J];rfl
   ·split<;>lia
  ·refine⟨j,by rw[kh (by lia)],?_,?_⟩
   ·rw[Cm hk,kj (by lia),J];rfl
   ·split<;>lia
 intro i x e;rw[Cm hk] at e;obtain⟨y,I,rfl⟩:=k8.mp e;by_cases h1:i<k
 ·rw[kj h1] at I;obtain⟨j,a,b,c⟩:=O i y (by lia) (by lia) I;have:dnE k (i:Int)=(i:Int):=by unfold dnE;rw[kh (by lia)]
  rw[this] at b c;exact⟨j,a,b,by lia⟩
 ·rw[kh h1] at I;obtain⟨j,a,b,c⟩:=O (i+2) y (by lia) (by lia) I;have:dnE k ((i+2:Nat):Int)=(i:Int):=by unfold dnE;rw[kj (by lia)];lia
  rw[this] at b c;exact⟨j,a,b,by lia⟩
inductive F3(vs:QH)(H:Hp)(Q:VK)(_E:XK):Prop|mk(v:V)(k:Nat)(ps:QG)(_:vs = [v,.int k])(_:Jv H v ps)(_:ps.length<=200)(_:∀(v':V)(H':Hp),Zh H H'->Jv H' v' (Wr ps k)->Q v' H')
abbrev Gs:Stmt:=top 36
theorem WL:Zw ["partners", "k", "moved"] nH (Zj Gs):={}
theorem ZlZ (F:JD K "partners_born" "partners_born" Gs f fd)(Jg:mg "tuple" = none):Yc P w K mg base JZ 1 f fd nH F3:=by
 refine F.ok1 WL fun aB A outer s H vs Q E hr h=>?_;obtain⟨v,k,ps,rfl,⟨a,rfl,ha⟩,O,q⟩:=h;refine⟨_,(Zc (Zz (i:=2) WL.nd (ZZ W7 (by rfl) Jg Mo (Za (WI (Ls:=["one"]) (Fs:=["k"]) (fi:=[1]) WL.lc rfl (OH (K:=K) rfl (pv 0)) (fun cl C I H3 ex=>⟨(YC (i:=0)),YB,(Cw (Zu Pb (pv 0) (pv 1) (Zt _)) (Zk ZC (pv 0) Ze) (pv 0))⟩)) Zb)))
  (Zf (Zv (Zk P4 (Zk P4 (ZW (Im (K:=K)) (pv 2) Yt (ZQ (pv 1))) (ZN (Za (Zk ZC (pv 1) Ze) (Za (pv 1) Zb)))) (ZW (Im (K:=K)) (pv 2) (ZQ (pv 1)) Yt))))),?_⟩
 refine⟨_,rfl,a,rfl,⟨_,Y9.of ha⟩,OI (K:=K) (a:=a) (xs:=ps.map V.int) (by rw[ke,kY];lia) (fun i zs G=>G=H/\zs=((ps.map (upB k)).take i).map V.int) ⟨rfl,rfl⟩ (fun i zs G x=>by rw[x.2,ke,kK];lia) (fun i zs G x=>by rw[x.1];exact Y9.of ha) (fun i y zs G S x=>?_) (fun zs G x p hp=>?_)⟩
 ·obtain⟨rfl,rfl⟩:=x;obtain⟨n,U,rfl⟩:∃n,ps[i]? = some n/\y=V.int n:=by
   rw[kE] at S;obtain⟨n,h1,h2⟩:=k8.mp S;exact⟨n,h1,h2.symm⟩
  have hi:i<ps.length:=(kC.mp U).1;have st:((ps.map (upB k)).take (i+1)).map V.int=((ps.map (upB k)).take i).map V.int ++ [V.int (upB k n)]:=by rw[Ki,kE,U,kP];rfl
  refine⟨_,rfl,_,rfl,_,_,rfl,rfl,_,rfl,Z7 (fun c=>?_) (fun c=>?_)⟩
  ·refine⟨_,rfl,_,_,rfl,rfl,rfl,?_⟩;rw[st];unfold upB;rw[kj (kI c)]
  ·refine⟨_,rfl,rfl,?_⟩;rw[st];unfold upB;rw[kh (fun z=>c (kH z))]
 ·obtain⟨rfl,rfl⟩:=x;rw[ke,kL (by rw[ke];exact km _)];refine lay2 (o:=.lst ((ps.map (upB k)).map V.int)) hp fun G1 s1 e1=>?_;refine⟨p,_,rfl,e1,fun m hm=>?_⟩;refine lay2 (o:=.tup ((ps.map (upB k)).map V.int)) hm fun G2 s2 W=>?_;refine⟨_,rfl,_,rfl,_,rfl,Fc ⟨m,rfl,W⟩ fun v1 G3 I w1=>?_⟩;refine⟨_,rfl,_,_,rfl,rfl,_,rfl,sz2,fun t ht=>?_⟩;refine lay2 (o:=.tup [.int ((k:Int)+1),.int k]) ht fun G4 J e4=>?_;have Y:∀{G G':Hp}{v:V}{x:QG},Zh G G'->Jv G v x->Jv G' v x:=fun s ⟨b,e,h⟩=>⟨b,e,s _ _ h⟩;refine Be (b:=[(k:Int)+1,(k:Int)]) (Y J w1) ⟨t,rfl,e4⟩ (by rw[kY];simp;lia) fun v2 G5 Z w2=>?_;refine⟨_,rfl,_,rfl,_,rfl,?_⟩;dsimp only[Dq];refine Fd rfl ⟨m,rfl,Z _ _ (J _ _ (I _ _ W))⟩ fun v3 G6 s6 w3=>?_;refine Be (Y s6 w2) w3 (by rw[kY];simp;lia) fun v4 G7 s7 w4=>?_;exact q v4 G7 ((((((s1.trans s2).trans I).trans J).trans Z).trans s6).trans s7) w4
inductive F4(vs:QH)(H:Hp)(Q:VK)(_E:XK):Prop|mk(v:V)(k:Nat)(ps:QG)(_:vs = [v,.int k])(_:Jv H v ps)(_:ps.length<=200)(_:∀(v':V)(H':Hp),Zh H H'->Jv H' v' (Ma ps k)->Q v' H')
abbrev WJ:Stmt:=top 37
theorem Wz:Zw ["partners", "k", "left"] nH (Zj WJ):={}
theorem ZnT (F:JD K "partners_ended" "partners_ended" WJ f fd)(Jg:mg "tuple" = none):Yc P w K mg base JZ 1 f fd nH F4:=by
 refine F.ok1 Wz fun aB A outer s H vs Q E hr h=>?_;obtain⟨v,k,ps,rfl,O,S,q⟩:=h;refine⟨_,(Zc (Zz (i:=2) Wz.nd (Zk P4 (ZW (Im (K:=K)) (pv 0) Yt (ZQ (pv 1))) (ZW (Im (K:=K)) (pv 0) (ZQ (Zk ZC (pv 1) Ze)) Yt)))
  (Zf (Zv (ZZ W7 (by rfl) Jg Mo (Za (WI (Ls:=["one"]) (Fs:=["k"]) (fi:=[1]) Wz.lc rfl (OH (K:=K) rfl (pv 2)) (fun cl C U H3 ex=>⟨(YC (i:=0)),YB,(Cw (Zu Lk (pv 0) (pv 1) (Zt _)) (Zk Y0 (pv 0) Ze) (pv 0))⟩)) Zb))))),?_⟩
 have W:∀{G G':Hp}{v:V}{x:QG},Zh G G'->Jv G v x->Jv G' v x:=fun s ⟨b,e,h⟩=>⟨b,e,s _ _ h⟩;refine⟨_,rfl,_,rfl,_,rfl,?_⟩;dsimp only[Dq];refine Fc O fun v1 G1 Y w1=>?_;refine⟨_,rfl,_,rfl,_,_,rfl,rfl,_,rfl,?_⟩;dsimp only[Dq];refine Fd (k:=k+2) (by push_cast;rfl) (W Y O) fun v2 G2 Z w2=>?_;refine Be (W Z w1) w2 (by rw[kY];simp;lia) fun v3 G3 U ⟨a,I,ha⟩=>?_;subst I;obtain⟨L,J⟩:∃L,ps.take k++ps.drop (k+2)=L:=⟨_,rfl⟩;have lL:L.length<=200:=by rw[<- J];simp;lia
 rw[J] at ha;refine⟨_,rfl,a,rfl,⟨_,Y9.of ha⟩,OI (K:=K) (a:=a) (xs:=L.map V.int) (by rw[ke,kY];lia) (fun i zs G=>G=G3/\zs=((L.map (dnE k)).take i).map V.int) ⟨rfl,rfl⟩ (fun i zs G x=>by rw[x.2,ke,kK];lia) (fun i zs G x=>by rw[x.1];exact Y9.of ha) (fun i y zs G hy x=>?_) (fun zs G x p hp=>?_)⟩
 ·obtain⟨rfl,rfl⟩:=x;obtain⟨n,hn,rfl⟩:∃n,L[i]? = some n/\y=V.int n:=by
   rw[kE] at hy;obtain⟨n,h1,h2⟩:=k8.mp hy;exact⟨n,h1,h2.symm⟩
  have st:((L.map (dnE k)).take (i+1)).map V.int=((L.map (dnE k)).take i).map V.int ++ [V.int (dnE k n)]:=by rw[Ki,kE,hn,kP];rfl
  refine⟨_,rfl,_,rfl,_,_,rfl,rfl,_,rfl,Z7 (fun c=>?_) (fun c=>?_)⟩
  ·refine⟨_,rfl,_,_,rfl,rfl,rfl,?_⟩;rw[st];unfold dnE;rw[kj (kI c)]
  ·refine⟨_,rfl,rfl,?_⟩;rw[st];unfold dnE;rw[kh (fun z=>c (kH z))]
 ·obtain⟨rfl,rfl⟩:=x;rw[ke,kL (by rw[ke];exact km _)];refine lay2 (o:=.lst ((L.map (dnE k)).map V.int)) hp fun G4 s4 e4=>?_;refine⟨p,_,rfl,e4,fun m hm=>?_⟩;refine lay2 (o:=.tup ((L.map (dnE k)).map V.int)) hm fun G5 s5 e5=>?_;refine q (.ref m) G5 ((((Y.trans Z).trans U).trans s4).trans s5) ⟨m,rfl,?_⟩;rw[e5];unfold Ma;rw[J]
def JP (ps:QG)(k:Nat):QG:=((ps.map (Um k)).set k ((ps.map (Um k)).getD (k+1) 0)).set (k+1) ((ps.map (Um k)).getD k 0)
structure MC (ps:QG)(k a b:Nat):Prop where
 pt:PtL ps
 ea:ps[k]? = some (a:Int)
 eb:ps[k+1]? = some (b:Int)
 ne:a≠k+1
theorem MC.facts (h:MC ps k a b):ps[a]? = some (k:Int)/\ps[b]? = some ((k:Int)+1)/\a≠k/\b≠k+1/\b≠k/\a≠b/\a<ps.length/\b<ps.length/\k+1<ps.length:=by
 obtain⟨j,W,F,S⟩:=h.pt k _ h.ea;obtain⟨J,Y,I,U⟩:=h.pt (k+1) _ h.eb;have:j=a:=by lia
 subst this;have:J=b:=by lia
 subst this;have V:J≠k:=fun z=>by
  subst z;rw[F.symm.trans (by rfl)] at F;have:=h.ea.symm.trans I;injection this with this
  exact h.ne (by lia)
 have O:j≠J:=fun z=>by
  subst z;have:=F.symm.trans I;injection this with this
  lia
 exact⟨F,by rw[I];rfl,S,U,V,O,(kC.mp F).1,(kC.mp I).1,(kC.mp h.eb).1⟩
theorem BX (ps:QG)(k:Nat):(JP ps k).length=ps.length:=by unfold JP;simp
theorem GI (h:MC ps k a b)(i:Nat):(JP ps k)[i]? = if i=k+1 then some (a:Int) else if i=k then some (b:Int) else ps[i]?.map (Um k):=by
 obtain⟨J,fb,O,S,U,V,l1,l2,W⟩:=h.facts;have F:(ps.map (Um k)).getD k 0=(a:Int):=by rw[k7,kE,h.ea];show Um k a=_;unfold Um;have:=h.ne;rw[kh (by lia),kh (by lia)]
 have I:(ps.map (Um k)).getD (k+1) 0=(b:Int):=by rw[k7,kE,h.eb];show Um k b=_;unfold Um;rw[kh (by lia),kh (by lia)]
 unfold JP;rw[F,I,qm,KQ,ke,qm,ke,kE];by_cases h1:i=k+1
 ·rw[kj h1,kj h1.symm,kj (by lia)]
 ·rw[kh h1,kh (KA h1)];by_cases h2:i=k
  ·rw[kj h2,kj h2.symm,kj (by lia)]
  ·rw[kh h2,kh (KA h2)]
theorem MC.kept (h:MC ps k a b):PtL (JP ps k):=by
 obtain⟨O,fb,U,V,W,Y,l1,l2,Z⟩:=h.facts;have nn:=h.ne;intro i x e;rw[GI h] at e;by_cases h1:i=k+1
 ·rw[kj h1] at e;injection e with e
  refine⟨a,e.symm,?_,by lia⟩;rw[GI h,kh (by lia),kh (by lia),O,h1];show some (Um k k)=_;unfold Um;rw[kj rfl];rfl
 rw[kh h1] at e;by_cases h2:i=k
 ·rw[kj h2] at e;injection e with e
  refine⟨b,e.symm,?_,by lia⟩;rw[GI h,kh (by lia),kh (by lia),fb,h2];show some (Um k ((k:Int)+1))=_;unfold Um;rw[kh (by lia),kj rfl]
 rw[kh h2] at e;obtain⟨y,S,rfl⟩:=k8.mp e;obtain⟨j,rfl,F,n⟩:=h.pt i y S;unfold Um;by_cases I:j=k
 ·subst I;rw[kj rfl];refine⟨j+1,by rfl,?_,by lia⟩;rw[GI h,kj rfl,<- h.ea,F]
 by_cases J:j=k+1
 ·subst J;rw[kh (by lia),kj (by rfl)];refine⟨k,by rfl,?_,by lia⟩;rw[GI h,kh (by lia),kj rfl,<- h.eb,F]
 rw[kh (by lia),kh (by lia)];refine⟨j,rfl,?_,n⟩;rw[GI h,kh J,kh I,F];show some (Um k i)=_;unfold Um;rw[kh (by lia),kh (by lia)]
theorem ZmZ (h:MC ps k a b):(((ps.set k (b:Int)).set (k+1) (a:Int)).set b (k:Int)).set a ((k:Int)+1)=JP ps k:=by
 obtain⟨U,fb,W,Y,Z,n4,l1,l2,V⟩:=h.facts;have nn:=h.ne;refine XI fun i=>?_;rw[GI h,qm,KQ,KQ,KQ,qm,KQ,KQ,qm,KQ,qm];by_cases J:a=i
 ·subst J;rw[kj rfl,kj l1,kh (by lia),kh (by lia),U];show _=some (Um k k);unfold Um;rw[kj rfl]
 rw[kh J];by_cases O:b=i
 ·subst O;rw[kj rfl,kj l2,kh (by lia),kh (by lia),fb];show _=some (Um k ((k:Int)+1));unfold Um;rw[kh (by lia),kj rfl]
 rw[kh O];by_cases F:i=k+1
 ·rw[kj F,kj F.symm,kj V]
 rw[kh F,kh (KA F)];by_cases I:i=k
 ·rw[kj I,kj I.symm,kj (by lia)]
 rw[kh I,kh (KA I)];cases e:ps[i]? with
 | none=>rfl
 | some y=>
  show _=some (Um k y);obtain⟨j,rfl,S,n⟩:=h.pt i y e;unfold Um;rw[kh (fun z=>?_),kh (fun z=>?_)]
  ·have:j=k+1:=by lia
   subst this;have:=S.symm.trans h.eb;injection this with this
   lia
  ·have:j=k:=by lia
   subst this;have:=S.symm.trans h.ea;injection this with this
   lia
abbrev Gm:Stmt:=top 38
theorem U5:Zw ["partners", "k", "row"] nH (Zj Gm):={}
inductive F5(vs:QH)(H:Hp)(Q:VK)(_E:XK):Prop|mk(v:V)(k a b:Nat)(ps:QG)(_:vs = [v,.int k])(_:Jv H v ps)(_:ps.length<=200)(_:MC ps k a b)(_:∀(v':V)(H':Hp),Zh H H'->Jv H' v' (JP ps k)->Q v' H')
theorem Zmm (F:JD K "partners_kept" "partners_kept" Gm f fd)(Jg:mg "tuple" = none)(Ya:mg "list" = none):Yc P w K mg base JZ 1 f fd nH F5:=by
 refine F.ok1 U5 fun aB A outer s H vs Q E hr h=>?_;obtain⟨v,k,a,b,ps,rfl,⟨pa,rfl,W⟩,aA,tb,q⟩:=h;refine⟨_,(Zc (Zz (i:=2) U5.nd (ZZ (YY (K:=K)) (by rfl) Ya Xi (Za (pv 0) Zb)))
  (Zc (Yz (ZN (Za (Zy (Zl (K:=K)) (pv 2) (Zk ZC (pv 1) Ze) (fun _ _=>rfl)) (Za (Zy (Zl (K:=K)) (pv 2) (pv 1) (fun _ _=>rfl)) Zb))) (Z8 (K:=K) (n:=2) rfl rfl (Zo (YI (pv 2) (pv 1) set_list) (Zo (YI (pv 2) (Zk ZC (pv 1) Ze) set_list) ZV))))
  (Zc (Yz (pv 1) (YI (pv 2) (Zy (Zl (K:=K)) (pv 2) (pv 1) (fun _ _=>rfl)) set_list))
  (Zc (Yz (Zk ZC (pv 1) Ze) (YI (pv 2) (Zy (Zl (K:=K)) (pv 2) (Zk ZC (pv 1) Ze) (fun _ _=>rfl)) set_list))
  (Zf (Zv (ZZ W7 (by rfl) Jg Mo (Za (pv 2) Zb)))))))),?_⟩
 obtain⟨fa,fb,n1,n2,n3,n4,l1,l2,l3⟩:=tb.facts;have nn:=tb.ne;refine⟨_,rfl,pa,_,rfl,.inr (Y9.of W),fun l hl=>?_⟩;refine lay2 (o:=.lst (ps.map V.int)) hl fun G1 s1 U=>?_;have g1:(ps.map V.int)[k+1]? = some (V.int b):=by rw[kE,tb.eb];rfl
 have g0:(ps.map V.int)[k]? = some (V.int a):=by rw[kE,tb.ea];rfl
 have Y:(k:Int)+1=((k+1:Nat):Int):=by push_cast;rfl
 refine⟨_,rfl,_,rfl,_,_,rfl,rfl,l,_,_,_,rfl,rfl,Zr.of U,(by rw[Y];exact Zn g1),_,rfl,_,rfl,l,_,_,_,rfl,rfl,Zr.of U,Zn g0,sz2,fun t ht=>?_⟩;refine lay2 (o:=.tup [.int b,.int a]) ht fun G2 s2 e2=>?_;have ntl:t≠l:=Zg U ht |>.symm;have Z:=s2 _ _ U;have put:∀{G:Hp}{o:HO},Zh H G->Zh H (upd G l o):=fun s c o e=>by rw[Zi (Zg e hl)];exact s c o e
 have vr:=s1.trans s2;generalize J:(ps.map V.int).set k (V.int b)=X1;generalize I:X1.set (k+1) (V.int a)=X2;generalize O:X2.set b (V.int k)=X3;generalize S:X3.set a (V.int ((k:Int)+1))=X4;have m0:(ps.map V.int).length=ps.length:=ke ..;have m1:X1.length=ps.length:=by rw[<- J,KQ,m0]
 have m2:X2.length=ps.length:=by rw[<- I,KQ,m1]
 have m3:X3.length=ps.length:=by rw[<- O,KQ,m2]
 have i2:X2[k]? = some (V.int b):=by rw[<- I,qm,kh (by lia),<- J,qm,kj rfl,kj (by lia)]
 have i3:X3[k+1]? = some (V.int a):=by rw[<- O,qm,kh (by lia),<- I,qm,kj rfl,kj (by lia)]
 have x4:X4=(JP ps k).map V.int:=by rw[<- ZmZ tb,<- S,<- O,<- I,<- J,qZ,qZ,qZ,qZ]
 refine⟨t,_,rfl,Y9.of e2,rfl,_,_,rfl,_,rfl,_,rfl,l,_,_,k,rfl,rfl,Z,Jh (by lia),?_⟩;rw[J];refine⟨_,_,rfl,_,rfl,_,rfl,_,_,rfl,rfl,l,_,_,k+1,rfl,rfl,Zd,(by rw[Y];exact Jh (by lia)),?_⟩;rw[I,JF];refine⟨rfl,_,rfl,_,rfl,_,rfl,_,rfl,l,_,_,_,rfl,rfl,Zr.of Zd,Zn i2,l,_,_,b,rfl,rfl,Zd,Jh (by lia),?_⟩;rw[O,JF];refine⟨_,rfl,_,_,rfl,rfl,_,rfl,_,rfl,_,rfl,_,_,rfl,rfl,l,_,_,_,rfl,rfl,Zr.of Zd,(by rw[Y];exact Zn i3),l,_,_,a,rfl,rfl,Zd,Jh (by lia),?_⟩;rw[S,JF];refine⟨_,rfl,l,_,rfl,Zd,fun m hm=>?_⟩;exact q (.ref m) _ ((put vr).trans (Zh.laid hm)) ⟨m,rfl,by rw[Zd,x4]⟩
theorem F6 {x:Nat}{l:QG}(p:l.Perm [(x:Int),(y:Int)])(s:l.Pairwise (· <= ·)):l = [((min x y:Nat):Int),((max x y:Nat):Int)]:=by
 refine CS (p.trans ?_) s (by simp;lia);rcases Nat.le_total x y with h | h
 ·rw[K7 h,qr h]
 ·rw[KU h,qz h];exact List.Perm.swap ..
theorem Ia {a b x y:α}(h:[a,b].Perm [x,y]):(a=x/\b=y)∨(a=y/\b=x):=by
 have h1:a ∈ [x,y]:=h.mem_iff.mp kS;rcases kQ.mp h1 with e | e
 ·subst e;have:=Lu h;exact .inl ⟨rfl,TR.mp this⟩
 ·have e:=kR.mp e;subst e;have:=Lu (h.trans (List.Perm.swap ..));exact .inr ⟨rfl,TR.mp this⟩
def GJ (k a b:Nat):Bool:=(decide (min k a<min (k+1) b)&&decide (min (k+1) b<max k a)&&decide (max k a<max (k+1) b))||(decide (min (k+1) b<min k a)&&decide (min k a<max (k+1) b)&&decide (max (k+1) b<max k a))
inductive F7(vs:QH)(H:Hp)(Q:VK)(_E:XK):Prop|mk(v:V)(k a b:Nat)(ps:QG)(_:vs = [v,.int k])(_:Jv H v ps)(_:ps.length<=200)(_:MC ps k a b)(_:∀(H':Hp),Zh H H'->Q (.bl (GJ k a b)) H')
abbrev BY:Stmt:=top 39
theorem UG:Zw ["partners", "k", "first", "second"] nH (Zj BY):={}
theorem Zob (F:JD K "is_tangled" "is_tangled" BY f fd)(YT:mg "sorted" = none):Yc P w K mg base JZ 1 f fd nH F7:=by
 refine F.ok1 UG fun aB A outer s H vs Q E hr h=>?_;obtain⟨v,k,a,b,ps,rfl,⟨pa,rfl,O⟩,aA,tb,q⟩:=h;refine⟨_,(Zc (Yz (Zs (Ff (K:=K) rfl hr.units) (by rfl) YT TQ (Za (Zx (Za (Zs (Sn (K:=K)) (by rfl) YT TQ (Za (Zx (Za (pv 1) (Za (Zy (Ys (K:=K)) (pv 0) (pv 1) (fun _ _=>rfl)) Zb))) Zb)) (Za (Zs (Sn (K:=K)) (by rfl) YT TQ (Za (Zx (Za (Zk ZC (pv 1) Ze) (Za (Zy (Ys (K:=K)) (pv 0) (Zk ZC (pv 1) Ze) (fun _ _=>rfl)) Zb))) Zb)) Zb))) Zb)) (CV (K:=K) (n:=2) rfl rfl (Zo (ZT (i:=2) UG.nd) (Zo (ZT (i:=3) UG.nd) ZV))))
  (Zf (Zv (RN W9 W9 (Zy (Zl (K:=K)) (pv 3) Ze (fun _ _=>rfl)) (Zy (Zl (K:=K)) (pv 2) Ze (fun _ _=>rfl)) (Zy (Zl (K:=K)) (pv 3) Ze (fun _ _=>rfl)))))),?_⟩
 obtain⟨fa,fb,n1,n2,n3,n4,l1,l2,l3⟩:=tb.facts;have nn:=tb.ne;have g1:(ps.map V.int)[k+1]? = some (V.int b):=by rw[kE,tb.eb];rfl
 have g0:(ps.map V.int)[k]? = some (V.int a):=by rw[kE,tb.ea];rfl
 have kc:(k:Int)+1=((k+1:Nat):Int):=by push_cast;rfl
 refine⟨_,rfl,_,rfl,_,rfl,pa,_,_,_,rfl,rfl,Y9.of O,Zn g0,sz2,fun d1 Z=>?_⟩;refine lay2 (o:=.lst [.int k,.int a]) Z fun G1 s1 e1=>?_;refine⟨d1,[(k:Int),(a:Int)],rfl,Zr.of e1,(by show 2<64;decide),fun r1 ns1 vt p1 o1=>?_⟩;have:=F6 p1 o1;subst this;refine lay2 (o:=.lst ([((min k a:Nat):Int),((max k a:Nat):Int)].map V.int)) vt fun G2 s2 e2=>?_;refine⟨_,rfl,_,_,rfl,rfl,_,rfl,_,rfl,_,_,rfl,rfl,pa,_,_,_,rfl,rfl,Y9.of (s2 _ _ (s1 _ _ O)),(by rw[kc];exact Zn g1),sz2,fun d2 cN=>?_⟩;refine lay2 (o:=.lst [.int ((k:Int)+1),.int b]) cN fun G3 s3 e3=>?_;refine⟨d2,[((k+1:Nat):Int),(b:Int)],rfl,Zr.of (by rw[e3,kc];rfl),(by show 2<64;decide),fun r2 ns2 gh p2 o2=>?_⟩;have:=F6 p2 o2;subst this;refine lay2 (o:=.lst ([((min (k+1) b:Nat):Int),((max (k+1) b:Nat):Int)].map V.int)) gh fun G4 s4 e4=>?_;refine⟨sz2,fun d3 io=>?_⟩;refine lay2 (o:=.lst [.ref r1,.ref r2]) io fun G5 s5 e5=>?_;refine⟨d3,_,[_,_],rfl,Zr.of e5,.cons ⟨r1,rfl,s5 _ _ (s4 _ _ (s3 _ _ e2))⟩ (.cons ⟨r2,rfl,s5 _ _ e4⟩ .nil),(by show 2<64;decide),fun l zs vs fl pz pv lr rise=>?_⟩;have lz:=pz.length_eq;have lv:=pv.length_eq
 match zs,vs,lz,lv,pv,lr,rise with
 | [z1,z2],[v1,v2],_,_,pv,.cons ⟨c1,vv,J⟩ (.cons ⟨S,vw,I⟩ .nil),rise=>
 subst vv vw;refine lay2 (o:=.lst [.ref c1,.ref S]) fl fun G6 s6 e6=>?_;have J:=s6 _ _ J;have I:=s6 _ _ I;have W:=((((s1.trans s2).trans s3).trans s4).trans s5).trans s6;have Y:lexLt v2 v1=false:=by have:=qd.mp rise;exact this.1 _ kS
 refine⟨l,_,rfl,Zr.of e6,rfl,_,_,rfl,_,_,rfl,rfl,?_⟩;rcases Ia pv with⟨e,e'⟩ | ⟨e,e'⟩<;>subst e e'
 ·have dn:(min k a)≠(min (k+1) b):=by lia
  have lo:min k a<min (k+1) b:=by rw[L2.lexLt,kh (by lia)] at Y;have:=Lv Y;lia
  refine⟨_,rfl,S,_,_,_,rfl,rfl,Zr.of I,Zn (j:=0) rfl,_,rfl,c1,_,_,_,rfl,rfl,Zr.of J,Zn (j:=1) rfl,_,_,rfl,rfl,_,rfl,Z7 (fun c=>?_) (fun c=>?_)⟩
  ·refine⟨_,rfl,S,_,_,_,rfl,rfl,Zr.of I,Zn (j:=1) rfl,_,_,rfl,rfl,?_⟩;have e:GJ k a b=decide (((max k a:Nat):Int)<((max (k+1) b:Nat):Int)):=by
    have c:=kI c;rw[qJ,Km];unfold GJ;simp only[XA,Kc,Km];lia
   have U:=q _ W;rw[e] at U;exact U
  ·have e:GJ k a b=false:=by
    have c:¬_:=fun z=>c (kH z);rw[NI];unfold GJ;simp only[XA,Kc,Km,ne_eq];lia
   rw[e] at q;exact q _ W
 ·have dn:(min k a)≠(min (k+1) b):=by lia
  have lo:min (k+1) b<min k a:=by rw[L2.lexLt,kh (by lia)] at Y;have:=Lv Y;lia
  refine⟨_,rfl,S,_,_,_,rfl,rfl,Zr.of I,Zn (j:=0) rfl,_,rfl,c1,_,_,_,rfl,rfl,Zr.of J,Zn (j:=1) rfl,_,_,rfl,rfl,_,rfl,Z7 (fun c=>?_) (fun c=>?_)⟩
  ·refine⟨_,rfl,S,_,_,_,rfl,rfl,Zr.of I,Zn (j:=1) rfl,_,_,rfl,rfl,?_⟩;have e:GJ k a b=decide (((max (k+1) b:Nat):Int)<((max k a:Nat):Int)):=by
    have c:=kI c;rw[qJ,Km];unfold GJ;simp only[XA,Kc,Km];lia
   have U:=q _ W;rw[e] at U;exact U
  ·have e:GJ k a b=false:=by
    have c:¬_:=fun z=>c (kH z);rw[NI];unfold GJ;simp only[XA,Kc,Km,ne_eq];lia
   rw[e] at q;exact q _ W
def Zst (H:Hp)(v:V)(r:QG×Bool):Prop:=∃(t:Addr)(x:V),v = .ref t/\H t=some (.tup [x,.bl r.2])/\Jv H x r.1
def US (ps:QG)(q:Str×Int)(h:QW):List (QG×Bool):=
 if q.1 = "born" then[(Wr ps q.2.toNat,false)]
 else if decide (ps.getD q.2.toNat 0=q.2+1) != decide (q.1 = "end") then[]
 else if q.1 = "end" then[(Ma ps q.2.toNat,false)]
 else(JP ps q.2.toNat,false)::(if h=some 0/\GJ q.2.toNat (ps.getD q.2.toNat 0).toNat (ps.getD (q.2.toNat+1) 0).toNat=false then[(ps,true)] else[])
inductive F8(vs:QH)(H:Hp)(Q:VK)(_E:XK):Prop|mk(v:V)(t:Addr)(q:Str×Int)(h:QW)(ps:QG)(_:vs = [v,.ref t,oI h])(_:Jv H v ps)(_:H t=some (.tup [.str q.1,.int q.2]))(_:ps.length<=200)(_:PtL ps)(_:0<=q.2)(_:q.1 ≠ "born" -> q.2+1<ps.length)(_:(q.1 = "cross")->h≠none)(_:q.1 = "born" ∨ q.1 = "end" ∨ q.1 = "cross")(_:∀(p:Addr)(xs:QH)(H':Hp),Zh H H'->H' p=some (.lst xs)->Paired (Zst H') xs (US ps q h)->Q (.ref p) H')
abbrev BZ:Stmt:=top 40
theorem Ir:Zw ["partners", "letter", "height", "kind", "k", "found"] ["partners", "letter", "height"] (Zj BZ):={}
theorem ZnU (F:JD K "ways_on" "ways_on" BZ f fd)(Gx:Jk P w K mg base 1 "partners_born" nH F3)(WU:Jk P w K mg base 1 "partners_ended" nH F4)(Gk:Jk P w K mg base 1 "partners_kept" nH F5)(jz:Jk P w K mg base 1 "is_tangled" nH F7):Yc P w K mg base JZ 2 f fd ["partners", "letter", "height"] F8:=by
 refine F.ok1 Ir fun aB A outer s H vs Q E hr h=>?_;obtain⟨v,t,q,h,ps,rfl,wv,ht,I,pt,k0,hk,hh,hq,k⟩:=h;refine⟨_,(Zc (Yz (pv 1) (Z8 (K:=K) (n:=2) rfl rfl (Zo (ZT (i:=3) Ir.nd) (Zo (ZT (i:=4) Ir.nd) ZV))))
  (Zc (ZP (Zu Yp (pv 3) ZJ (Zt _)) (Zf (Zv (Zx (Za (ZN (Za (Zp Gx hr (Za (pv 0) (Za (pv 4) Zb))) (Za Wf Zb))) Zb)))) ZF)
  (Zc (ZP (Zu LB (Yn Yp (Zy (Ys (K:=K)) (pv 0) (pv 4) (fun _ _=>rfl)) (Zk ZC (pv 4) Ze) (Zt _)) (Yn Yp (pv 3) ZJ (Zt _)) (Zt _)) (Zf (Zv (Zx Zb))) ZF)
  (Zc (ZP (Zu Yp (pv 3) ZJ (Zt _)) (Zf (Zv (Zx (Za (ZN (Za (Zp WU hr (Za (pv 0) (Za (pv 4) Zb))) (Za Wf Zb))) Zb)))) ZF)
  (Zc (Zz (i:=5) Ir.nd (Zx (Za (ZN (Za (Zp Gk hr (Za (pv 0) (Za (pv 4) Zb))) (Za Wf Zb))) Zb)))
  (Zc (ZP (PW.pt (UE (Zu Yp (pv 2) Ze (Zt _)) (LR (J4 (JC (Zp jz hr (Za (pv 0) (Za (pv 4) Zb)))))))) (Zf (ZY (Yd (K:=K) rfl (Yw kJ kU kW ZL (pv 5) (Za (ZN (Za (pv 0) (Za Wf Zb))) Zb))))) ZF)
  (Zf (Zv (pv 5))))))))),?_⟩
 obtain⟨kd,kk⟩:=q;obtain⟨pa,rfl,J⟩:=wv;dsimp only at ht k0 hk hh hq k;obtain⟨n,rfl⟩:=kF k0;have wv:Jv H (.ref pa) ps:=⟨pa,rfl,J⟩;refine⟨_,rfl,t,_,rfl,Y9.of ht,rfl,_,_,rfl,_,_,rfl,rfl,?_⟩;refine⟨_,rfl,rfl,_,rfl,Z7 (fun hb=>?_) (fun hb=>?_)⟩
 ·have eb:kd = "born" := by
   have:=kI hb;injection this
  refine⟨_,rfl,_,rfl,_,n,ps,rfl,wv,I,fun v1 H1 s1 w1=>⟨sz2,fun O f1=>?_⟩⟩;refine lay2 (o:=.tup [v1,.bl false]) f1 fun H2 U Y=>?_;refine⟨sz1,fun p fp=>?_⟩;refine lay2 (o:=.lst [.ref O]) fp fun H3 S e3=>?_;refine k p _ H3 ((s1.trans U).trans S) e3 ?_;obtain⟨c,rfl,Z⟩:=w1;unfold US;rw[kj eb];exact .cons ⟨O,_,rfl,S _ _ Y,c,rfl,S _ _ (U _ _ Z)⟩ .nil
 have nb:kd ≠ "born" := fun z=>hb (by rw[z];exact kH rfl);have hk:=hk nb;obtain⟨x,hx⟩:∃x,ps[n]? = some x:=⟨_,ko (by lia)⟩;obtain⟨a,rfl,ea,na⟩:=pt n x hx;obtain⟨y,hy⟩:∃y,ps[n+1]? = some y:=⟨_,ko (by lia)⟩;obtain⟨b,rfl,eb,nb'⟩:=pt (n+1) y hy;have g0:(ps.map V.int)[n]? = some (V.int a):=by rw[kE,hx];rfl
 have gd:ps.getD n 0=(a:Int):=by rw[k7,hx];rfl
 have vx:ps.getD (n+1) 0=(b:Int):=by rw[k7,hy];rfl
 have hq:kd = "end" ∨ kd = "cross" := hq.resolve_left nb;have key:((!decide (V.bl (decide (V.int a=V.int ((n:Int)+1)))=V.bl (decide (V.str kd=V.str "end"))))=true) ↔ ((decide ((a:Int)=(n:Int)+1) != decide (kd = "end"))=true):=by simp only[V.int.injEq,V.str.injEq,V.bl.injEq];by_cases A:(a:Int)=(n:Int)+1<;>by_cases B:kd = "end" <;> simp[A,B]
 refine⟨_,rfl,_,rfl,pa,_,_,_,rfl,rfl,Y9.of J,Zn g0,_,rfl,_,_,rfl,rfl,rfl,_,rfl,rfl,rfl,_,rfl,Z7 (fun c=>?_) (fun c=>?_)⟩
 ·refine⟨sz0,fun p fp=>?_⟩;refine k p _ _ (Zh.laid fp) Zd ?_;have:US ps (kd,(n:Int)) h = []:=by
   unfold US;dsimp only;rw[kh nb,kM,gd,kj (key.mp c)]
  rw[this];exact .nil
 have c:¬((decide ((a:Int)=(n:Int)+1) != decide (kd = "end"))=true):=fun z=>c (key.mpr z);have c':(a=n+1 ↔ kd = "end"):=by by_cases A:(a:Int)=(n:Int)+1<;>by_cases B:kd = "end" <;> simp[A,B] at c ⊢<;>lia
 refine⟨_,rfl,rfl,_,rfl,Z7 (fun he=>?_) (fun he=>?_)⟩
 ·have ee:kd = "end" := by
   have:=kI he;injection this
  refine⟨_,rfl,_,rfl,_,n,ps,rfl,wv,I,fun v1 H1 s1 w1=>⟨sz2,fun O f1=>?_⟩⟩;refine lay2 (o:=.tup [v1,.bl false]) f1 fun H2 U Y=>?_;refine⟨sz1,fun p fp=>?_⟩;refine lay2 (o:=.lst [.ref O]) fp fun H3 S e3=>?_;refine k p _ H3 ((s1.trans U).trans S) e3 ?_;obtain⟨c1,rfl,Z⟩:=w1;have:US ps (kd,(n:Int)) h = [(Ma ps n,false)]:=by unfold US;dsimp only;rw[kh nb,kM,gd,kh c,kj ee]
  rw[this];exact .cons ⟨O,_,rfl,S _ _ Y,c1,rfl,S _ _ (U _ _ Z)⟩ .nil
 have ne:kd ≠ "end" := fun z=>he (by rw[z];exact kH rfl);have ec:kd = "cross" := hq.resolve_left ne;have tb:MC ps n a b:=⟨pt,hx,hy,fun z=>ne (c'.mp z)⟩;obtain⟨W,rfl⟩:∃i,h=some i:=by
  cases h with
  | none=>exact absurd rfl (hh ec)
  | some i=>exact⟨i,rfl⟩
 have wy:US ps (kd,(n:Int)) (some W)=(JP ps n,false)::(if W=0/\GJ n a b=false then[(ps,true)] else[]):=by unfold US;dsimp only;rw[kh nb,kM,gd,vx,kM,kM,kh c,kh ne];simp
 rw[wy] at k;refine⟨_,rfl,_,rfl,_,n,a,b,ps,rfl,wv,I,tb,fun v1 H1 s1 ⟨c1,vy,Z⟩=>⟨sz2,fun O f1=>?_⟩⟩;subst vy;refine lay2 (o:=.tup [.ref c1,.bl false]) f1 fun H2 U Y=>?_;refine⟨sz1,fun p fp=>?_⟩;refine lay2 (o:=.lst [.ref O]) fp fun H3 S e3=>?_;have ae:=(s1.trans U).trans S;have ox:H p=none:=(s1.trans U).free fp;have aj:=S _ _ (U _ _ Z);have oy:=S _ _ Y;have one:∀{G:Hp},Zh H3 G->(¬(W=0/\GJ n a b=false))->Q (.ref p) G:=fun sG no=>by refine k p _ _ (ae.trans sG) (sG _ _ e3) ?_;rw[kh no];exact .cons ⟨O,_,rfl,sG _ _ oy,c1,rfl,sG _ _ aj⟩ .nil
 refine⟨_,rfl,rfl,_,rfl,Z7 (fun h0=>?_) (fun h0=>?_)⟩
 ·have h0:W=0:=by
   have:=kI h0;injection this
  refine⟨_,rfl,_,rfl,_,n,a,b,ps,rfl,⟨pa,rfl,ae _ _ J⟩,I,tb,fun H4 s4=>⟨_,rfl,Z7 (fun tt=>?_) (fun tt=>?_)⟩⟩
  ·have tf:GJ n a b=false:=by simpa using tt
   have kA:=s4 _ _ e3;refine⟨_,rfl,.inl ⟨rfl,_,Zr.of kA⟩,_,rfl,sz2,fun t2 f2=>?_⟩;refine lay2 (o:=.tup [.ref pa,.bl true]) f2 fun H5 s5 e5=>?_;refine⟨p,_,_,rfl,rfl,s5 _ _ kA,(by show 1<sizeLine;decide),?_⟩;have oz:Zh H H5:=(ae.trans s4).trans s5;have put:Zh H (upd H5 p (.lst ([.ref O] ++ [.ref t2]))):=fun c o e=>by rw[Zi (Zg e ox)];exact oz c o e
   have n1:O≠p:=fun z=>by rw[z] at Y;rw[Y] at fp;cases fp
   have n2:t2≠p:=fun z=>by rw[z,kA] at f2;cases f2
   have n3:c1≠p:=fun z=>by rw[z] at Z;rw[U _ _ Z] at fp;cases fp
   have n4:pa≠p:=fun z=>by rw[z,ox] at J;cases J
   refine⟨_,rfl,k p _ _ put Zd ?_⟩;rw[kj ⟨h0,tf⟩];refine .cons ⟨O,_,rfl,?_,c1,rfl,?_⟩ (.cons ⟨t2,_,rfl,?_,pa,rfl,?_⟩ .nil)
   ·rw[Zi n1];exact s5 _ _ (s4 _ _ oy)
   ·rw[Zi n3];exact s5 _ _ (s4 _ _ aj)
   ·rw[Zi n2];exact e5
   ·rw[Zi n4];exact oz _ _ J
  ·exact⟨_,rfl,one s4 fun z=>tt (by rw[z.2];rfl)⟩
 ·exact YD ⟨_,rfl,one (Zh.refl _) fun z=>h0 (by rw[z.1];rfl)⟩
def Wm (ps:QG)(q:Str×Int):Option QG:=
 if q.1 = "born" then some (Wr ps q.2.toNat)
 else if decide (ps.getD q.2.toNat 0=q.2+1) != decide (q.1 = "end") then none
 else if q.1 = "end" then some (Ma ps q.2.toNat)
 else some (JP ps q.2.toNat)
inductive B0(vs:QH)(H:Hp)(Q:VK)(_E:XK):Prop|mk(l:Addr)(k a b:Nat)(ps:QG)(_:vs = [.ref l,.int k])(_:H l=some (.lst (ps.map V.int)))(_:ps.length<=200)(_:MC ps k a b)(_:Q (.bl (!GJ k a b)) H)
abbrev Gv:Stmt:=top 61
theorem WR:Zw ["_law_partners", "_law_k", "_law_low", "_law_high", "_law_there", "_law_far"] ["_law_partners", "_law_k"] (Zj Gv):={}
theorem Zmx (F:JD K "_law_is_apart" "_law_is_apart" Gv f fd)(bJ:mg "min" = none)(Gf:mg "max" = none):Yc P w K mg base JZ 1 f fd ["_law_partners", "_law_k"] B0:=by
 refine F.ok1 WR fun aB A outer s H vs Q E hr h=>?_;obtain⟨l,k,a,b,ps,rfl,hl,aA,tb,q⟩:=h;refine⟨_,(Zc (RA (i:=2) (j:=3) rfl WR.nd rfl rfl (by decide) (by rfl) (by rfl) (Za (Zs (CH rfl) (by rfl) bJ boot_min (Za (pv 1) (Za (Zy (Zl (K:=K)) (pv 0) (pv 1) (fun _ _=>rfl)) Zb))) (Za (Zs (WK rfl) (by rfl) Gf N6 (Za (pv 1) (Za (Zy (Zl (K:=K)) (pv 0) (pv 1) (fun _ _=>rfl)) Zb))) Zb)) (by rfl))
  (Zc (RA (i:=4) (j:=5) rfl WR.nd rfl rfl (by decide) (by rfl) (by rfl) (Za (Zs (CH rfl) (by rfl) bJ boot_min (Za (Zk ZC (pv 1) Ze) (Za (Zy (Zl (K:=K)) (pv 0) (Zk ZC (pv 1) Ze) (fun _ _=>rfl)) Zb))) (Za (Zs (WK rfl) (by rfl) Gf N6 (Za (Zk ZC (pv 1) Ze) (Za (Zy (Zl (K:=K)) (pv 0) (Zk ZC (pv 1) Ze) (fun _ _=>rfl)) Zb))) Zb)) (by rfl))
  (Zf (Zv (Cv (Yn W9 (pv 3) (pv 4) (Zt _)) (Cv (Yn W9 (pv 5) (pv 2) (Zt _)) (Cv (LU (Yn W9 (pv 2) (pv 4) (Zt _)) (Lf (Yn W9 (pv 5) (pv 3) (Zt _)))) (Lf (LU (Yn W9 (pv 4) (pv 2) (Zt _)) (Lf (Yn W9 (pv 3) (pv 5) (Zt _)))))))))))),?_⟩
 obtain⟨fa,fb,n1,n2,n3,n4,l1,l2,l3⟩:=tb.facts;have nn:=tb.ne;have g1:(ps.map V.int)[k+1]? = some (V.int b):=by rw[kE,tb.eb];rfl
 have g0:(ps.map V.int)[k]? = some (V.int a):=by rw[kE,tb.ea];rfl
 have kc:(k:Int)+1=((k+1:Nat):Int):=by push_cast;rfl
 refine⟨_,rfl,_,rfl,_,rfl,l,_,_,_,rfl,rfl,Zr.of hl,Zn g0,_,_,rfl,_,rfl,_,rfl,_,rfl,l,_,_,_,rfl,rfl,Zr.of hl,Zn g0,_,_,rfl,_,_,rfl,?_⟩;refine⟨_,rfl,_,_,rfl,rfl,_,rfl,_,rfl,_,_,rfl,rfl,l,_,_,_,rfl,rfl,Zr.of hl,(by rw[kc];exact Zn g1),_,_,rfl,_,rfl,_,_,rfl,rfl,_,rfl,_,rfl,_,_,rfl,rfl,l,_,_,_,rfl,rfl,Zr.of hl,(by rw[kc];exact Zn g1),_,_,rfl,_,_,rfl,?_⟩;obtain⟨lo,J⟩:∃lo:Int,(if (a:Int)<(k:Int) then(a:Int) else k)=lo:=⟨_,rfl⟩;obtain⟨hi,O⟩:∃hi:Int,(if (a:Int)>(k:Int) then(a:Int) else k)=hi:=⟨_,rfl⟩;obtain⟨th,S⟩:∃th:Int,(if (b:Int)<(k:Int)+1 then(b:Int) else(k:Int)+1)=th:=⟨_,rfl⟩;obtain⟨fr,U⟩:∃fr:Int,(if (b:Int)>(k:Int)+1 then(b:Int) else(k:Int)+1)=fr:=⟨_,rfl⟩;rw[J,O,S,U];have f1:lo=((min k a:Nat):Int):=by rw[<- J];split<;>lia
 have f2:hi=((max k a:Nat):Int):=by rw[<- O];split<;>lia
 have f3:th=((min (k+1) b:Nat):Int):=by rw[<- S];split<;>lia
 have f4:fr=((max (k+1) b:Nat):Int):=by rw[<- U];split<;>lia
 have res:∀x:Bool,(x=true ↔ ¬GJ k a b=true)->Q (.bl x) H:=fun x hx=>by
  have:x = !GJ k a b:=by cases x<;>cases h:GJ k a b<;>simp[h] at hx ⊢
  rw[this];exact q
 have tg:GJ k a b=true ↔ (lo<th/\th<hi/\hi<fr)∨(th<lo/\lo<fr/\fr<hi):=by unfold GJ;simp only[XA,Kc,Km];lia
 refine⟨_,rfl,_,rfl,_,_,rfl,rfl,_,rfl,Z7 (fun W=>?_) (fun W=>?_)⟩
 ·have W:=kI W;exact res true (by rw[tg];simp;lia)
 have W:¬hi<th:=fun z=>W (kH z);refine⟨_,rfl,_,rfl,_,_,rfl,rfl,_,rfl,Z7 (fun Y=>?_) (fun Y=>?_)⟩
 ·have Y:=kI Y;exact res true (by rw[tg];simp;lia)
 have Y:¬fr<lo:=fun z=>Y (kH z);refine⟨_,rfl,_,rfl,_,_,rfl,rfl,_,rfl,Z7 (fun Z=>?_) (fun Z=>?_)⟩
 ·have Z:=kI Z;refine⟨_,rfl,_,rfl,_,_,rfl,rfl,_,rfl,Z7 (fun c4=>?_) (fun c4=>?_)⟩
  ·have c4:=kI c4;exact res true (by rw[tg];simp;lia)
  have c4:¬fr<hi:=fun z=>c4 (kH z);refine⟨_,rfl,_,rfl,_,_,rfl,rfl,_,rfl,Z7 (fun I=>?_) (fun I=>?_)⟩
  ·have I:=kI I;lia
  ·exact res false (by rw[tg];simp;lia)
 have Z:¬lo<th:=fun z=>Z (kH z);refine⟨_,rfl,YD ?_⟩;refine⟨_,rfl,_,rfl,_,_,rfl,rfl,_,rfl,Z7 (fun I=>?_) (fun I=>?_)⟩
 ·have I:=kI I;refine⟨_,rfl,_,rfl,_,_,rfl,rfl,?_⟩;refine res _ (by rw[tg,Km];lia)
 ·exact res false (by rw[tg];have I:¬th<lo:=fun z=>I (kH z);simp;lia)
inductive B4(vs:QH)(H:Hp)(Q:VK)(_E:XK):Prop|mk(l t:Addr)(q:Str×Int)(ps:QG)(_:vs = [.ref l,.ref t])(_:H l=some (.lst (ps.map V.int)))(_:H t=some (.tup [.str q.1,.int q.2]))(_:ps.length<=200)(_:PtL ps)(_:0<=q.2)(_:q.1 ≠ "born" -> q.2+1<ps.length)(_:q.1 = "born" ∨ q.1 = "end" ∨ q.1 = "cross")(_:Wm ps q=none -> ∀H',Zh H H'->Q .non H')(_:∀(r:QG)(p:Addr)(H':Hp),Wm ps q=some r->Zh H H'->H p=none->H' p=some (.lst (r.map V.int))->Q (.ref p) H')
abbrev Gi:Stmt:=top 62
theorem Ye:Zw ["_law_partners", "_law_letter", "_law_word", "_law_k", "_law_found"] nQ (Zj Gi):={}
theorem ZlQ (F:JD K "_law_moved_on" "_law_moved_on" Gi f fd)(GY:mg "int" = none):Yc P w K mg base JZ 1 f fd nQ B4:=by
 refine F.ok1 Ye fun aB A outer s H vs Q E hr h=>?_;obtain⟨l,t,q,ps,rfl,S,ht,aA,pt,k0,hk,hq,kN,k⟩:=h;refine⟨_,(Zc (Yz (pv 1) (Z8 (K:=K) (n:=2) rfl rfl (Zo (ZT (i:=2) Ye.nd) (Zo (Cy (i:=3) Ye.nd rfl (Or.inr rfl)) ZV))))
  (Zc (ZP (Zu Yp (pv 2) ZJ (Zt _)) (Zc (L0 (i:=4) Ye.nd rfl (.inl rfl) (Ls:=["_law_one"]) (Fs:=["_law_k"]) (fi:=[3]) Ye.lc rfl (ZU (K:=K) rfl (pv 0)) (fun cl C W H3 ex=>⟨(YC (i:=0)),YB,(Zk ZC (pv 0) (Zk Wn Ze (ZZ U1 (by rfl) GY N7 (Za (Yn Pb (pv 0) (pv 1) (Zt _)) Zb))))⟩))
  (Zf (Zv (Zk YX (Zk YX (ZW (Yf (K:=K)) (pv 4) Yt (ZQ (pv 3))) (Zx (Za (Zk ZC (pv 3) Ze) (Za (pv 3) Zb)))) (ZW (Yf (K:=K)) (pv 4) (ZQ (pv 3)) Yt))))) ZF)
  (Zc (ZP (Zu LB (Yn Yp (Zy (Zl (K:=K)) (pv 0) (pv 3) (fun _ _=>rfl)) (Zk ZC (pv 3) Ze) (Zt _)) (Yn Yp (pv 2) ZJ (Zt _)) (Zt _)) (Zf (Zv Jx)) ZF)
  (Zc (ZP (Zu Yp (pv 2) ZJ (Zt _)) (Zc (L0 (i:=4) Ye.nd rfl (.inl rfl) (Ls:=["_law_one"]) (Fs:=["_law_k"]) (fi:=[3]) Ye.lc rfl (ZU (K:=K) rfl (pv 0)) (fun cl C W H3 ex=>⟨(YC (i:=0)),YB,(Zk Y0 (pv 0) (Zk Wn Ze (ZZ U1 (by rfl) GY N7 (Za (Yn Lk (pv 0) (pv 1) (Zt _)) Zb))))⟩))
  (Zf (Zv (Zk YX (ZW (Yf (K:=K)) (pv 4) Yt (ZQ (pv 3))) (ZW (Yf (K:=K)) (pv 4) (ZQ (Zk ZC (pv 3) Ze)) Yt))))) ZF)
  (Zc (L0 (i:=4) Ye.nd rfl (.inl rfl) (Ls:=["_law_one"]) (Fs:=["_law_k"]) (fi:=[3]) Ye.lc rfl (ZU (K:=K) rfl (pv 0)) (fun cl C W H3 ex=>⟨(YC (i:=0)),YB,(Zk Y0 (Zk ZC (pv 0) (ZZ U1 (by rfl) GY N7 (Za (Yn Yp (pv 0) (pv 1) (Zt _)) Zb))) (ZZ U1 (by rfl) GY N7 (Za (Yn Yp (pv 0) (Zk ZC (pv 1) Ze) (Zt _)) Zb)))⟩))
  (Zc (Yz (ZN (Za (Zy (Zl (K:=K)) (pv 4) (Zk ZC (pv 3) Ze) (fun _ _=>rfl)) (Za (Zy (Zl (K:=K)) (pv 4) (pv 3) (fun _ _=>rfl)) Zb))) (Z8 (K:=K) (n:=2) rfl rfl (Zo (YI (pv 4) (pv 3) set_list) (Zo (YI (pv 4) (Zk ZC (pv 3) Ze) set_list) ZV))))
  (Zf (Zv (pv 4))))))))),?_⟩
 obtain⟨kd,kk⟩:=q;dsimp only at ht k0 hk hq;obtain⟨n,rfl⟩:=kF k0;refine⟨_,rfl,t,_,rfl,Y9.of ht,rfl,_,_,rfl,_,_,rfl,rfl,?_⟩;refine⟨_,rfl,rfl,_,rfl,Z7 (fun hb=>?_) (fun hb=>?_)⟩
 ·have eb:kd = "born" := by
   have:=kI hb;injection this
  have Y:Wm ps (kd,(n:Int))=some (Wr ps n):=by unfold Wm;rw[kj eb];rfl
  refine⟨_,rfl,l,rfl,⟨_,Zr.of S⟩,YZ (K:=K) (a:=l) (xs:=ps.map V.int) (by rw[ke,kY];lia) (fun i zs G=>G=H/\zs=((ps.map (upB n)).take i).map V.int) ⟨rfl,rfl⟩ (fun i zs G x=>by rw[x.2,ke,kK];lia) (fun i zs G x=>by rw[x.1];exact Zr.of S) (fun i y zs G J x=>?_) (fun zs G x p U=>?_)⟩
  ·obtain⟨rfl,rfl⟩:=x;obtain⟨m,Z,rfl⟩:∃m,ps[i]? = some m/\y=V.int m:=by
    rw[kE] at J;obtain⟨m,h1,h2⟩:=k8.mp J;exact⟨m,h1,h2.symm⟩
   have st:((ps.map (upB n)).take (i+1)).map V.int=((ps.map (upB n)).take i).map V.int ++ [V.int (upB n m)]:=by rw[Ki,kE,Z,kP];rfl
   refine⟨_,rfl,_,rfl,_,rfl,_,_,rfl,rfl,.inr ⟨_,rfl,_,_,rfl,rfl,.inl ⟨by decide,by decide⟩,_,_,rfl,rfl,rfl,?_⟩⟩;have val:m+2*(if decide ((n:Int)<=m)=true then 1 else 0)=upB n m:=by
    unfold upB;by_cases c:(n:Int)<=m
    ·rw[kH c,kj rfl,kj c];rfl
    ·rw[Kh c,kh (by decide),kh (by lia)];lia
   rw[st,<- val]
  ·obtain⟨rfl,rfl⟩:=x;rw[ke,kL (by rw[ke];exact km _)];refine lay2 (o:=.lst ((ps.map (upB n)).map V.int)) U fun G1 s1 I=>?_;refine⟨_,rfl,_,rfl,_,rfl,p,_,rfl,Zr.of I,fun d1 h1=>?_⟩;rw[Ie];refine lay2 (o:=.lst (((ps.map (upB n)).map V.int).take n)) h1 fun G2 O e2=>?_;refine⟨_,rfl,_,_,rfl,rfl,_,rfl,sz2,fun d2 h2=>?_⟩;refine lay2 (o:=.lst [.int ((n:Int)+1),.int n]) h2 fun G3 W e3=>?_;refine⟨d1,d2,_,_,rfl,rfl,W _ _ e2,e3,(by rw[kY];simp;lia),fun d3 h3=>?_⟩;obtain⟨G4,z,s4,e4⟩:=lay (o:=.lst (((ps.map (upB n)).map V.int).take n ++ [.int ((n:Int)+1),.int n])) h3;rw[z];clear z;refine⟨_,rfl,_,rfl,_,rfl,?_⟩;dsimp only[Dq];refine⟨p,_,rfl,Zr.of (s4 _ _ (W _ _ (O _ _ I))),fun d4 h4=>?_⟩;rw[Ig];refine lay2 (o:=.lst (((ps.map (upB n)).map V.int).drop n)) h4 fun G5 s5 e5=>?_;refine⟨d3,d4,_,_,rfl,rfl,s5 _ _ e4,e5,(by rw[kY];simp;lia),fun d5 h5=>?_⟩;have sA:=(((s1.trans O).trans W).trans s4).trans s5;refine k _ d5 _ Y (sA.trans (Zh.laid h5)) (sA.free h5) ?_;rw[Zd];unfold Wr;simp
 have nb:kd ≠ "born" := fun z=>hb (by rw[z];exact kH rfl);have hk:=hk nb;obtain⟨x,hx⟩:∃x,ps[n]? = some x:=⟨_,ko (by lia)⟩;obtain⟨a,rfl,ea,na⟩:=pt n x hx;have g0:(ps.map V.int)[n]? = some (V.int a):=by rw[kE,hx];rfl
 have gd:ps.getD n 0=(a:Int):=by rw[k7,hx];rfl
 have hq:kd = "end" ∨ kd = "cross" := hq.resolve_left nb;have key:((!decide (V.bl (decide (V.int a=V.int ((n:Int)+1)))=V.bl (decide (V.str kd=V.str "end"))))=true) ↔ ((decide ((a:Int)=(n:Int)+1) != decide (kd = "end"))=true):=by simp only[V.int.injEq,V.str.injEq,V.bl.injEq];by_cases A:(a:Int)=(n:Int)+1<;>by_cases B:kd = "end" <;> simp[A,B]
 refine⟨_,rfl,_,rfl,l,_,_,_,rfl,rfl,Zr.of S,Zn g0,_,rfl,_,_,rfl,rfl,rfl,_,rfl,rfl,rfl,_,rfl,Z7 (fun c=>?_) (fun c=>?_)⟩
 ·refine kN ?_ H (Zh.refl _);unfold Wm;dsimp only;rw[kh nb,kM,gd,kj (key.mp c)]
 have c:¬((decide ((a:Int)=(n:Int)+1) != decide (kd = "end"))=true):=fun z=>c (key.mpr z);refine⟨_,rfl,rfl,_,rfl,Z7 (fun he=>?_) (fun he=>?_)⟩
 ·have ee:kd = "end" := by
   have:=kI he;injection this
  have Y:Wm ps (kd,(n:Int))=some (Ma ps n):=by unfold Wm;dsimp only;rw[kh nb,kM,gd,kh c,kj ee]
  refine⟨_,rfl,l,rfl,⟨_,Zr.of S⟩,YZ (K:=K) (a:=l) (xs:=ps.map V.int) (by rw[ke,kY];lia) (fun i zs G=>G=H/\zs=((ps.map (dnE n)).take i).map V.int) ⟨rfl,rfl⟩ (fun i zs G x=>by rw[x.2,ke,kK];lia) (fun i zs G x=>by rw[x.1];exact Zr.of S) (fun i y zs G J x=>?_) (fun zs G x p U=>?_)⟩
  ·obtain⟨rfl,rfl⟩:=x;obtain⟨m,Z,rfl⟩:∃m,ps[i]? = some m/\y=V.int m:=by
    rw[kE] at J;obtain⟨m,h1,h2⟩:=k8.mp J;exact⟨m,h1,h2.symm⟩
   have st:((ps.map (dnE n)).take (i+1)).map V.int=((ps.map (dnE n)).take i).map V.int ++ [V.int (dnE n m)]:=by rw[Ki,kE,Z,kP];rfl
   refine⟨_,rfl,_,rfl,_,rfl,_,_,rfl,rfl,.inr ⟨_,rfl,_,_,rfl,rfl,.inl ⟨by decide,by decide⟩,_,_,rfl,rfl,rfl,?_⟩⟩;have val:m-2*(if decide ((n:Int)<m)=true then 1 else 0)=dnE n m:=by
    unfold dnE;by_cases c:(n:Int)<m
    ·rw[kH c,kj rfl,kj c];rfl
    ·rw[Kh c,kh (by decide),kh (by lia)];lia
   rw[st,<- val]
  ·obtain⟨rfl,rfl⟩:=x;rw[ke,kL (by rw[ke];exact km _)];refine lay2 (o:=.lst ((ps.map (dnE n)).map V.int)) U fun G1 s1 I=>?_;refine⟨_,rfl,_,rfl,_,rfl,p,_,rfl,Zr.of I,fun d1 h1=>?_⟩;rw[Ie];refine lay2 (o:=.lst (((ps.map (dnE n)).map V.int).take n)) h1 fun G2 O e2=>?_;refine⟨_,rfl,_,rfl,_,_,rfl,rfl,_,rfl,?_⟩;dsimp only[Dq];refine⟨p,_,rfl,Zr.of (O _ _ I),fun d4 h4=>?_⟩;rw[show (n:Int)+2=((n+2:Nat):Int) by push_cast;rfl,Ig];refine lay2 (o:=.lst (((ps.map (dnE n)).map V.int).drop (n+2))) h4 fun G5 s5 e5=>?_;refine⟨d1,d4,_,_,rfl,rfl,s5 _ _ e2,e5,(by rw[kY];simp;lia),fun d5 h5=>?_⟩;have sA:=(s1.trans O).trans s5;refine k _ d5 _ Y (sA.trans (Zh.laid h5)) (sA.free h5) ?_;rw[Zd];unfold Ma;simp
 have ne:kd ≠ "end" := fun z=>he (by rw[z];exact kH rfl);have Y:Wm ps (kd,(n:Int))=some (JP ps n):=by unfold Wm;dsimp only;rw[kh nb,kM,gd,kh c,kh ne]
 refine⟨_,rfl,l,rfl,⟨_,Zr.of S⟩,YZ (K:=K) (a:=l) (xs:=ps.map V.int) (by rw[ke,kY];lia) (fun i zs G=>G=H/\zs=((ps.map (Um n)).take i).map V.int) ⟨rfl,rfl⟩ (fun i zs G x=>by rw[x.2,ke,kK];lia) (fun i zs G x=>by rw[x.1];exact Zr.of S) (fun i y zs G J x=>?_) (fun zs G x p U=>?_)⟩
 ·obtain⟨rfl,rfl⟩:=x;obtain⟨m,Z,rfl⟩:∃m,ps[i]? = some m/\y=V.int m:=by
   rw[kE] at J;obtain⟨m,h1,h2⟩:=k8.mp J;exact⟨m,h1,h2.symm⟩
  have st:((ps.map (Um n)).take (i+1)).map V.int=((ps.map (Um n)).take i).map V.int ++ [V.int (Um n m)]:=by rw[Ki,kE,Z,kP];rfl
  refine⟨_,rfl,_,rfl,_,rfl,rfl,.inr ⟨_,rfl,_,_,rfl,rfl,_,rfl,_,rfl,_,_,rfl,rfl,rfl,.inr ⟨_,rfl,_,_,rfl,rfl,rfl,?_⟩⟩⟩;have val:m+(if decide (V.int m=V.int n)=true then 1 else 0)-(if decide (V.int m=V.int ((n:Int)+1))=true then 1 else 0)=Um n m:=by
   unfold Um;simp only[V.int.injEq,Km];by_cases c1:m=(n:Int)
   ·rw[kj c1,kj c1,kh (by lia)];lia
   ·rw[kh c1,kh c1];by_cases c2:m=(n:Int)+1
    ·rw[kj c2,kj c2];lia
    ·rw[kh c2,kh c2];lia
  rw[st,<- val]
 ·obtain⟨rfl,rfl⟩:=x;rw[ke,kL (by rw[ke];exact km _)];refine lay2 (o:=.lst ((ps.map (Um n)).map V.int)) U fun G1 s1 I=>?_;generalize eM:ps.map (Um n)=M at *;have lM:M.length=ps.length:=by rw[<- eM,ke]
  have kc:(n:Int)+1=((n+1:Nat):Int):=by push_cast;rfl
  have g1:(M.map V.int)[n+1]? = some (V.int (M.getD (n+1) 0)):=by rw[kE,k7,ko (by lia)];rfl
  have g0:(M.map V.int)[n]? = some (V.int (M.getD n 0)):=by rw[kE,k7,ko (by lia)];rfl
  refine⟨_,rfl,_,rfl,_,_,rfl,rfl,p,_,_,_,rfl,rfl,Zr.of I,(by rw[kc];exact Zn g1),_,rfl,_,rfl,p,_,_,_,rfl,rfl,Zr.of I,Zn g0,sz2,fun t2 h2=>?_⟩;refine lay2 (o:=.tup [.int (M.getD (n+1) 0),.int (M.getD n 0)]) h2 fun G2 O e2=>?_;have put:∀{G':Hp}{o:HO},Zh G G'->Zh G (upd G' p o):=fun s c o e=>by rw[Zi (Zg e U)];exact s c o e
  refine⟨t2,_,rfl,Y9.of e2,rfl,_,_,rfl,_,rfl,_,rfl,p,_,_,n,rfl,rfl,O _ _ I,Jh (by rw[ke];lia),?_⟩;refine⟨_,_,rfl,_,rfl,_,rfl,_,_,rfl,rfl,p,_,_,n+1,rfl,rfl,Zd,(by rw[kc];exact Jh (by rw[KQ,ke];lia)),?_⟩;rw[JF];refine⟨rfl,_,rfl,k _ p _ Y (put (s1.trans O)) U ?_⟩;rw[Zd];unfold JP;rw[eM,qZ,qZ]
def N0 (ps:QG)(k:Nat):Bool:=GJ k (ps.getD k 0).toNat (ps.getD (k+1) 0).toNat
def JR (q:Str×Int)(z:Bool)(t:Nat)(r:QG×QG):List (QG×QG):=
 match Wm r.2 q with
 | none=>[]
 | some ps=>(r.1,ps)::(if q.1 = "cross" /\ z=true/\N0 r.2 q.2.toNat=false then[(r.1 ++ [(t:Int)],r.2)] else[])
def Yo (ls:QB)(z:Nat->Bool):Nat->List (QG×QG)
 | 0=>[([],[])]
 | i+1=>match ls[i]? with
  | none=>Yo ls z i
  | some q=>(Yo ls z i).flatMap (JR q (z i) i)
def De (q:Str×Int)(n m:Int):Prop:=0<=q.2/\((q.1 = "born" /\ q.2<=n/\m=n+2)∨(q.1 = "cross" /\ q.2+1<n/\m=n)∨(q.1 = "end" /\ q.2+1<n/\m=n-2))
theorem Iu {l:QB}{p:Str×Int}(h:Wk (l ++ [p]) m):∃n,Wk l n/\De p n m:=by
 generalize F:l ++ [p]=q at h;cases h with
 | nil=>exact absurd F (by simp)
 | born h h0 h1=>obtain⟨rfl,rfl⟩:=U0 F;exact⟨_,h,h0,.inl ⟨rfl,h1,rfl⟩⟩
 | cross h h0 h1=>obtain⟨rfl,rfl⟩:=U0 F;exact⟨_,h,h0,.inr (.inl ⟨rfl,h1,rfl⟩)⟩
 | fin h h0 h1=>obtain⟨rfl,rfl⟩:=U0 F;exact⟨_,h,h0,.inr (.inr ⟨rfl,h1,rfl⟩)⟩
theorem Cn {l:QB}{n:Int}(a:Wk l n)(b:Wk l m):n=m:=(LD a).symm.trans (LD b)
theorem Co (pt:PtL ps)(S:n+1<ps.length)(ne:ps.getD n 0≠(n:Int)+1):MC ps n (ps.getD n 0).toNat (ps.getD (n+1) 0).toNat:=by
 obtain⟨x,F⟩:∃x,ps[n]? = some x:=⟨_,ko (by lia)⟩;obtain⟨a,rfl,ea,U⟩:=pt n x F;obtain⟨y,I⟩:∃y,ps[n+1]? = some y:=⟨_,ko (by lia)⟩;obtain⟨b,rfl,eb,V⟩:=pt (n+1) y I;have O:ps.getD n 0=(a:Int):=by rw[k7,F];rfl
 have J:ps.getD (n+1) 0=(b:Int):=by rw[k7,I];rfl
 rw[O] at ne;rw[O,J,kM,kM];exact⟨pt,F,I,fun z=>ne (by lia)⟩
theorem B5 {n:Int}(pt:PtL ps)(O:(ps.length:Int)=n)(F:De q n m)(h:Wm ps q=some r):PtL r/\(r.length:Int)=m:=by
 obtain⟨kd,k⟩:=q;obtain⟨k0,F⟩:=F;dsimp only at k0 F;obtain⟨k,rfl⟩:=kF k0;unfold Wm at h;dsimp only at h;rw[kM] at h;rcases F with⟨rfl,I,rfl⟩ | ⟨rfl,I,rfl⟩ | ⟨rfl,I,rfl⟩
 ·rw[kj rfl] at h;injection h with h
  subst h;exact⟨pt.born (by lia),by rw[Ck];lia⟩
 ·rw[kh (by decide)] at h;split at h
  ·cases h
  ·rename_i c
   rw[kh (by decide)] at h;injection h with h
   subst h;have ne:ps.getD k 0≠(k:Int)+1:=fun z=>c (by rw[kH z];rfl);exact⟨(Co pt (by lia) ne).kept,by rw[BX];lia⟩
 ·rw[kh (by decide)] at h;split at h
  ·cases h
  ·rename_i c
   rw[kj rfl] at h;injection h with h
   subst h;have e:ps.getD k 0=(k:Int)+1:=by
    by_cases z:ps.getD k 0=(k:Int)+1
    ·exact z
    ·exact absurd (by rw[Kh z];rfl) c
   have J:ps[k]? = some ((k:Int)+1):=by rw[<- e,k7,ko (by lia)];rfl
   have:=BW (ps:=ps) (k:=k) (by lia);exact⟨pt.ended J,by lia⟩
theorem F9 {ls:QB}{z:Nat->Bool}{n0:Int}(O:Wk ls n0):∀i,i<=ls.length -> ∃n,Wk (ls.take i) n /\ ∀r∈Yo ls z i,PtL r.2/\(r.2.length:Int)=n
 | 0,_=>⟨0,by simpa using Wk.nil,fun r F=>by
   rw[kR.mp F];exact⟨fun i x e=>by simp at e,rfl⟩⟩
 | i+1,h=>by
  obtain⟨n,Z,al⟩:=F9 O i (by lia);obtain⟨q,S⟩:∃q,ls[i]? = some q:=⟨_,ko (by lia)⟩;obtain⟨m,I⟩:=GD O (i+1);refine⟨m,I,fun r F=>?_⟩;rw[Ki,S] at I;obtain⟨n',J,U⟩:=Iu (show Wk (ls.take i ++ [q]) m from I);have:=Cn Z J;subst this;rw[Yo,S] at F;obtain⟨V,h0,F⟩:=KO.mp F;obtain⟨W,Y⟩:=al V h0;unfold JR at F;cases hm:Wm V.2 q with
  | none=>rw[hm] at F;cases F
  | some ps=>
   rw[hm] at F;rcases kQ.mp F with rfl | F
   ·exact B5 W Y U hm
   ·split at F
    ·rename_i c
     rw[kR.mp F];refine⟨W,?_⟩;rcases U.2 with⟨e,_⟩ | ⟨_,_,e⟩ | ⟨e,_⟩
     ·exact absurd (e.symm.trans c.1) (by decide)
     ·rw[e];exact Y
     ·exact absurd (e.symm.trans c.1) (by decide)
    ·cases F
theorem Iv {α β:Type}(f:α -> List β)(c:Nat):∀l:List α,(∀x∈l,(f x).length<=c)->(l.flatMap f).length<=l.length*c
 | [],_=>by simp
 | x::l,h=>by rw[List.flatMap_cons,ki,Kk,Nat.succ_mul];have h1:=h x kS;have h2:=Iv f c l fun y F=>h y (kX _ F);lia
theorem Aa {ls:QB}{z:Nat->Bool}:∀i,i<=ls.length->(Yo ls z i).length<=2 ^ nX (ls.take i)
 | 0,_=>by simp[Yo,nX]
 | i+1,h=>by
  have I:=Aa (ls:=ls) (z:=z) i (by lia);obtain⟨q,F⟩:∃q,ls[i]? = some q:=⟨_,ko (by lia)⟩;rw[Yo,F,Ki,F];have e:nX (ls.take i ++ [q])=nX (ls.take i)+(if q.1=("cross" : Str) then 1 else 0):=by unfold nX;rw[Lp,MA];by_cases c:q.1=("cross" : Str)<;>simp[c]
  show _<=2 ^ nX (ls.take i ++ [q]);rw[e];by_cases c:q.1=("cross" : Str)
  ·rw[kj c,Nat.pow_succ];refine Kb (Iv _ 2 _ fun r _=>?_) (Nat.mul_le_mul_right 2 I);unfold JR;split
   ·simp
   ·split<;>simp
  ·rw[kh c,XX];refine Kb (Iv _ 1 _ fun r _=>?_) (by lia);unfold JR;split
   ·simp
   ·rw[kh (fun z=>c z.1)];simp
theorem Znr (ls:QB)(i:Nat):nX (ls.take i)<=nX ls:=by unfold nX;exact List.Sublist.countP_le (NF i ls)
theorem B6 {ls:QB}{z:Nat->Bool}:∀i,∀r∈Yo ls z i,r.1.length<=i
 | 0,r,F=>by rw[kR.mp F];exact km _
 | i+1,r,F=>by
  rw[Yo] at F;split at F
  ·have:=B6 i r F;lia
  ·obtain⟨I,h0,F⟩:=KO.mp F;have J:=B6 i I h0;unfold JR at F;split at F
   ·cases F
   ·rcases kQ.mp F with rfl | F
    ·exact Kb J (XN _)
    ·split at F
     ·rw[kR.mp F];rw[ki,Ke];lia
     ·cases F
theorem ZlU (q:Str×Int)(z:Bool)(t:Nat)(r:QG×QG):(JR q z t r).length<=2:=by
 unfold JR;split
 ·simp
 ·split<;>simp
theorem Ab (ps:QG)(q:Str×Int)(h:QW)(S:q.1 = "born" ∨ q.1 = "end" ∨ q.1 = "cross"):US ps q h=match Wm ps q with
  | none=>[]
  | some r=>(r,false)::(if q.1 = "cross" /\ h=some 0/\N0 ps q.2.toNat=false then[(ps,true)] else[]):=by
 unfold US Wm;by_cases F:q.1 = "born"
 ·rw[kj F,kj F];dsimp only;rw[kh (fun z=>absurd (F.symm.trans z.1) (by decide))]
 ·rw[kh F,kh F];by_cases J:(decide (ps.getD q.2.toNat 0=q.2+1) != decide (q.1 = "end"))=true
  ·rw[kj J,kj J]
  ·rw[kh J,kh J];by_cases I:q.1 = "end"
   ·rw[kj I,kj I];dsimp only;rw[kh (fun z=>absurd (I.symm.trans z.1) (by decide))]
   ·rw[kh I,kh I];have U:q.1 = "cross" := (S.resolve_left F).resolve_left I;dsimp only;unfold N0;congr 1;by_cases O:h=some 0/\GJ q.2.toNat (ps.getD q.2.toNat 0).toNat (ps.getD (q.2.toNat+1) 0).toNat=false
    ·rw[kj O,kj ⟨U,O⟩]
    ·rw[kh O,kh (fun z=>O z.2)]
def nxt (ps:QG)(q:Str×Int)(z c:Bool):Option QG:=
 match Wm ps q with
 | none=>none
 | some r=>if c=true then(if q.1 = "cross" /\ z=true/\N0 ps q.2.toNat=false then some ps else none) else some r
def J6 (ls:QB)(z ch:Nat->Bool):Nat->Option QG
 | 0=>some []
 | t+1=>match J6 ls z ch t with
  | none=>none
  | some ps=>match ls[t]? with
   | none=>none
   | some q=>nxt ps q (z t) (ch t)
theorem Iw (h:J6 ls z ch t=some ps)(F:ls[t]? = some q):J6 ls z ch (t+1)=nxt ps q (z t) (ch t):=by rw[J6,h,F]
theorem Iy {ls:QB}{z ch:Nat->Bool}{t:Nat}(h:J6 ls z ch t=none):∀d,J6 ls z ch (t+d)=none
 | 0=>h
 | d+1=>by rw[show t+(d+1)=(t+d)+1 from rfl,J6,Iy h d]
theorem Ac {s:Nat}(h:s<=t)(e:J6 ls z ch t≠none):∃ps,J6 ls z ch s=some ps:=by
 cases q:J6 ls z ch s with
 | some ps=>exact⟨ps,rfl⟩
 | none=>
  obtain⟨d,rfl⟩:=qX h;exact absurd (Iy q d) e
theorem kinds {n:Int}(F:De q n m):q.1 = "born" ∨ q.1 = "end" ∨ q.1 = "cross" := by
 rcases F.2 with⟨e,_⟩ | ⟨e,_⟩ | ⟨e,_⟩
 ·exact .inl e
 ·exact .inr (.inr e)
 ·exact .inr (.inl e)
theorem Zpf {z c:Bool}{n:Int}(pt:PtL ps)(I:(ps.length:Int)=n)(J:De q n m)(h:nxt ps q z c=some r):PtL r/\(r.length:Int)=m:=by
 unfold nxt at h;cases hm:Wm ps q with
 | none=>rw[hm] at h;cases h
 | some r'=>
  rw[hm] at h;dsimp only at h;split at h
  ·split at h
   ·rename_i e
    cases h;refine⟨pt,?_⟩;rcases J.2 with⟨F,_⟩ | ⟨_,_,F⟩ | ⟨F,_⟩
    ·exact absurd (F.symm.trans e.1) (by decide)
    ·rw[F];exact I
    ·exact absurd (F.symm.trans e.1) (by decide)
   ·cases h
  ·cases h;exact B5 pt I J hm
theorem B7 {n0:Int}(J:Wk ls n0){n:Int}(O:Wk (ls.take t) n)(S:ls[t]? = some q):∃m,Wk (ls.take (t+1)) m/\De q n m:=by obtain⟨m,F⟩:=GD J (t+1);refine⟨m,F,?_⟩;rw[Ki,S] at F;obtain⟨V,I,U⟩:=Iu (show Wk (ls.take t ++ [q]) m from F);rw[Cn O I];exact U
theorem Iz {ls:QB}{z ch:Nat->Bool}{n0:Int}(I:Wk ls n0):∀t,t<=ls.length -> ∃n,Wk (ls.take t) n /\ ∀ps,J6 ls z ch t=some ps->PtL ps/\(ps.length:Int)=n
 | 0,_=>⟨0,by simpa using Wk.nil,fun ps e=>by
   cases e;exact⟨fun i x e=>by simp at e,rfl⟩⟩
 | t+1,h=>by
  obtain⟨n,O,al⟩:=Iz (z:=z) (ch:=ch) I t (by lia);obtain⟨q,J⟩:∃q,ls[t]? = some q:=⟨_,ko (by lia)⟩;obtain⟨m,S,U⟩:=B7 I O J;refine⟨m,S,fun r F=>?_⟩;cases hp:J6 ls z ch t with
  | none=>rw[J6,hp] at F;cases F
  | some ps=>
   rw[Iw hp J] at F;exact Zpf (al ps hp).1 (al ps hp).2 U F
theorem Zm9 (ps:QG)(q:Str×Int)(h:QW)(I:q.1 = "born" ∨ q.1 = "end" ∨ q.1 = "cross")(c:Bool):(US ps q h).filter (fun w=>w.2==c)=match nxt ps q (decide (h=some 0)) c with
  | none=>[]
  | some r=>[(r,c)]:=by
 rw[Ab ps q h I];unfold nxt;cases Wm ps q with
 | none=>rfl
 | some r=>
  dsimp only;by_cases e:q.1 = "cross" /\ h=some 0/\N0 ps q.2.toNat=false
  ·rw[kj e];have F:q.1 = "cross" /\ decide (h=some 0)=true/\N0 ps q.2.toNat=false:=⟨e.1,kH e.2.1,e.2.2⟩;rw[kj F];cases c<;>rfl
  ·rw[kh e];have F:¬(q.1 = "cross" /\ decide (h=some 0)=true/\N0 ps q.2.toNat=false):=fun z=>e ⟨z.1,kI z.2.1,z.2.2⟩;rw[kh F];cases c<;>rfl
def Uz:Lit->Bool
 | .int _=>true
 | _=>false
def okL:Nat->Lit->Bool
 | 0,.lst _=>false
 | d+1,.lst l=>decide (l.length<=62)&&l.all (okL d)
 | _,_=>true
theorem Ad:∀{d e:Nat}{l:Lit},d<=e->okL d l=true->okL e l=true
 | 0,e,.lst l,_,h=>by cases h
 | d+1,0,.lst l,h,_=>by lia
 | d+1,e+1,.lst l,h,q=>by
  simp only[okL,Kc,Ks] at q ⊢;exact⟨q.1,fun x F=>Ad (Nat.le_of_succ_le_succ h) (q.2 x F)⟩
 | _,0,.non,_,_=>rfl
 | _,0,.bl _,_,_=>rfl
 | _,0,.int _,_,_=>rfl
 | _,0,.str _,_,_=>rfl
 | _,0,.tup _,_,_=>rfl
 | _,_+1,.non,_,_=>rfl
 | _,_+1,.bl _,_,_=>rfl
 | _,_+1,.int _,_,_=>rfl
 | _,_+1,.str _,_,_=>rfl
 | _,_+1,.tup _,_,_=>rfl
theorem IA {l:List Lit}(h:okL (d+1) (.lst l)=true):l.length<=62 /\ ∀x∈l,okL d x=true:=by simp only[okL,Kc,Ks,Km] at h;exact h
theorem B8 {l:Lit}(h:Wl H v l):(∃(a:Addr)(xs:QH)(ls:List Lit),v = .ref a/\l = .lst ls/\H a=some (.lst xs)/\J8 H xs ls)∨(∃t,Mi K H v t/\PySem.W.kitOne K t (.type "list")=some false/\(∀ls,l ≠ .lst ls)):=by
 cases h with
 | non=>exact .inr ⟨_,.non,by rfl,fun _ z=>nomatch z⟩
 | bl b=>exact .inr ⟨_,.bl b,by rfl,fun _ z=>nomatch z⟩
 | int i=>exact .inr ⟨_,.int i,by rfl,fun _ z=>nomatch z⟩
 | str x=>exact .inr ⟨_,.str x,by rfl,fun _ z=>nomatch z⟩
 | tup e r=>exact .inr ⟨_,.tup e,by rfl,fun _ z=>nomatch z⟩
 | lst e r=>exact .inl ⟨_,_,_,rfl,rfl,e,r⟩
inductive IB(vs:QH)(H:Hp)(Q:VK)(_E:XK):Prop|mk(v:V)(l:Lit)(_:vs = [v])(_:Wl H v l)(_:Q (.bl (Uz l)) H)
abbrev B9:Stmt:=top 1
theorem Zg7:Zw ["thing"] ["thing"] (Zj B9):={}
theorem ZhQ (F:JD K "is_whole" "is_whole" B9 f fd)(ZA:mg "isinstance" = none)(GY:mg "int" = none)(dQ:mg "bool" = none):Yc P w K mg base JZ 1 f fd ["thing"] IB:=by
 refine F.ok1 Zg7 fun I A outer s H vs Q E J h=>?_;obtain⟨v,l,rfl,r,k⟩:=h;refine⟨_,(Zf (Zv (LU (Zs (Jf (K:=K)) (by rfl) ZA K8 (Za (pv 0) (Za (Uq (v:=.ty "int") (by rfl) GY N7 rfl) Zb))) (Lf (Rv (Zs (Jf (K:=K)) (by rfl) ZA K8 (Za (pv 0) (Za (Uq (v:=.ty "bool") (by rfl) dQ boot_bool rfl) Zb)))))))),?_⟩;cases r with
 | non=>exact⟨_,rfl,_, "int", _,false,rfl,.non,by rfl,false,rfl,YD k⟩
 | str x=>exact⟨_,rfl,_, "int", _,false,rfl,.str x,by rfl,false,rfl,YD k⟩
 | tup e r=>exact⟨_,rfl,_, "int", _,false,rfl,.tup e,by rfl,false,rfl,YD k⟩
 | lst e r=>exact⟨_,rfl,_, "int", _,false,rfl,.lst e,by rfl,false,rfl,YD k⟩
 | bl b=>exact⟨_,rfl,_, "int", _,true,rfl,.bl b,by rfl,true,rfl,JU ⟨_,rfl,_, "bool", _,true,rfl,.bl b,by rfl,true,rfl,k⟩⟩
 | int i=>exact⟨_,rfl,_, "int", _,true,rfl,.int i,by rfl,true,rfl,JU ⟨_,rfl,_, "bool", _,false,rfl,.int i,by rfl,false,rfl,k⟩⟩
theorem Ae (f:α -> Bool)(ls:List α)(i:Nat){x:α}(h:ls[i]? = some x):((ls.take (i+1)).map fun l=>V.bl (f l))=((ls.take i).map fun l=>V.bl (f l)) ++ [V.bl (f x)]:=by rw[Ki,h,kP];rfl
abbrev Ra:Stmt:=top 55
theorem ZeI:Zw nK nK (Zj Ra):={}
theorem ZjY (F:JD K "_law_whole" "_law_whole" Ra f fd)(ZA:mg "isinstance" = none)(GY:mg "int" = none)(dQ:mg "bool" = none):Yc P w K mg base JZ 1 f fd nK IB:=by
 refine F.ok1 ZeI fun I A outer s H vs Q E J h=>?_;obtain⟨v,l,rfl,r,k⟩:=h;refine⟨_,(Zf (Zv (LU (Zs (Jf (K:=K)) (by rfl) ZA K8 (Za (pv 0) (Za (Uq (v:=.ty "int") (by rfl) GY N7 rfl) Zb))) (Lf (Rv (Zs (Jf (K:=K)) (by rfl) ZA K8 (Za (pv 0) (Za (Uq (v:=.ty "bool") (by rfl) dQ boot_bool rfl) Zb)))))))),?_⟩;cases r with
 | non=>exact⟨_,rfl,_, "int", _,false,rfl,.non,by rfl,false,rfl,YD k⟩
 | str x=>exact⟨_,rfl,_, "int", _,false,rfl,.str x,by rfl,false,rfl,YD k⟩
 | tup e r=>exact⟨_,rfl,_, "int", _,false,rfl,.tup e,by rfl,false,rfl,YD k⟩
 | lst e r=>exact⟨_,rfl,_, "int", _,false,rfl,.lst e,by rfl,false,rfl,YD k⟩
 | bl b=>exact⟨_,rfl,_, "int", _,true,rfl,.bl b,by rfl,true,rfl,JU ⟨_,rfl,_, "bool", _,true,rfl,.bl b,by rfl,true,rfl,k⟩⟩
 | int i=>exact⟨_,rfl,_, "int", _,true,rfl,.int i,by rfl,true,rfl,JU ⟨_,rfl,_, "bool", _,false,rfl,.int i,by rfl,false,rfl,k⟩⟩
def Dg:Lit->Bool
 | .lst l=>l.all Uz
 | _=>false
inductive Rb(vs:QH)(H:Hp)(Q:VK)(_E:XK):Prop|mk(v:V)(l:Lit)(_:vs = [v])(_:Wl H v l)(_:okL 3 l=true)(_:∀H',Zh H H'->Q (.bl (Dg l)) H')
abbrev Ub:Stmt:=top 56
theorem Af:Zw nK nK (Zj Ub):={}
theorem ZlF (F:JD K "_law_numbers" "_law_numbers" Ub f fd)(kB:Jk P w K mg base 1 "_law_whole" nK IB)(ZA:mg "isinstance" = none)(Ya:mg "list" = none)(UZ:mg "all" = none):Yc P w K mg base JZ 2 f fd nK Rb:=by
 refine F.ok1 Af fun I A outer s H vs Q E J h=>?_;obtain⟨v,l,rfl,r,ok,k⟩:=h;refine⟨_,(Zf (Zv (LU (Zs (Jf (K:=K)) (by rfl) ZA K8 (Za (pv 0) (Za (Uq (v:=.ty "list") (by rfl) Ya Xi rfl) Zb))) (Lf (Zs (U4 (K:=K) rfl rfl) (by rfl) UZ boot_all (Za (WI (Ls:=["_law_one"]) (Fs:=[]) (fi:=[]) Af.lc rfl (ZU (K:=K) rfl (pv 0)) (fun cl C s3 H3 ex=>⟨(YC (i:=0)),YB,(Zp kB J (Za (pv 0) Zb))⟩)) Zb)))))),?_⟩;rcases B8 (K:=K) r with⟨a,xs,ls,rfl,rfl,ea,rs⟩ | ⟨t,ty,O,S⟩
 ·obtain⟨U,_⟩:=IA ok;have W:=rs.len;refine⟨_,rfl,_, "list", _,true,rfl,.lst ea,by rfl,true,rfl,JU ?_⟩;refine⟨_,rfl,a,rfl,⟨_,Zr.of ea⟩,YZ (K:=K) (xs:=xs) (by rw[W,kY];lia) (fun i zs G=>Zh H G/\zs=(ls.take i).map fun l=>V.bl (Uz l)) ⟨Zh.refl _,rfl⟩
   (fun i zs G ⟨_,z⟩=>by rw[z,ke,kK];lia) (fun i zs G ⟨s',_⟩=>Zr.of (s' a _ ea)) ?_ ?_⟩
  ·rintro i x zs G Y ⟨s',rfl⟩;obtain⟨l',Z,rl⟩:=rs.get Y;rw[Ae Uz ls i Z];exact lcG ⟨_,rfl,x,l',rfl,rl.same s',s',rfl⟩
  ·rintro zs G ⟨s',rfl⟩ D hD;refine⟨D,ls.map Uz,rfl,Zr.of ?_,?_⟩
   ·rw[Zd,T8,kL (by lia)];rfl
   ·have:(ls.map Uz).all id=Dg (.lst ls):=by simp[Dg]
    rw[this];exact k _ (s'.step hD)
 ·refine⟨_,rfl,_, "list", _,false,rfl,ty,O,false,rfl,YD ?_⟩;have:Dg l=false:=by
   cases l with
   | lst ls=>exact absurd rfl (S ls)
   | _=>rfl
  have q:=k H (Zh.refl _)
  rwa [this] at q
abbrev GX:Stmt:=top 3
theorem Zdd:Zw nC nC (Zj GX):={}
theorem Zgq (F:JD K "crossings_of" "crossings_of" GX f fd)(JM:Jk P w K mg base 1 "letters_of" ["drawing", "kind"] Bm):Yc P w K mg base JZ 2 f fd nC (Ly fun x=>decide (x = "cross")):=by refine F.ok1 Zdd fun J A outer s H vs Q E O h=>?_;obtain⟨l,xs,ls,rfl,S,U,I,_,k⟩:=h;refine⟨_,(Zf (Zv (Zp JM O (Za (pv 0) (Za ZJ Zb))))),?_⟩;exact⟨_,rfl,l,_,xs,ls,rfl,S,U,I,k⟩
def MW:Lit->Int
 | .int i=>i
 | _=>0
def csL:Lit->List Int
 | .lst ls=>ls.map MW
 | _=>[]
def okI (al:QG):Lit->Bool
 | .int i=>decide (i∈al)
 | _=>false
def MT (cs:QG):Bool:=((cs.zip (cs.drop 1)).map fun p=>decide (p.1<p.2)).all id
def Lz (al:QG):Lit->Bool
 | .lst ls=>ls.all (okI al)&&MT (ls.map MW)
 | _=>false
theorem IC {al:QG}:∀{ls:List Lit},ls.all (okI al)=true->ls=(ls.map MW).map Lit.int
 | [],_=>rfl
 | x::ls,h=>by
  rw[TH,Kc] at h;rw[Ko,Ko,<- IC h.2];cases x with
  | int i=>rfl
  | _=>cases h.1
theorem ID {H:Hp}:∀{cs:QG}{xs:QH},J8 H xs (cs.map Lit.int)->xs=cs.map V.int
 | [],_,.nil=>rfl
 | c::cs,_,.cons a r=>by cases a;rw[Ko,<- ID r]
theorem Ag (f:α -> Bool){l:List α}{x:α}(h:l[i]? = some x):((l.map f).take i).map V.bl ++ [V.bl (f x)]=((l.map f).take (i+1)).map V.bl:=by rw[Ki,kE,h,kP];rfl
inductive Ah(vs:QH)(H:Hp)(Q:VK)(_E:XK):Prop|mk(v:V)(lit:Lit)(l:Addr)(al:QG)(_:vs = [v,.ref l])(_:Wl H v lit)(_:okL 3 lit=true)(_:H l=some (.lst (al.map V.int)))(_:al.length<=60)(_:∀H',Zh H H'->Q (.bl (Lz al lit)) H')
abbrev Rc:Stmt:=top 41
theorem Rf:Zw ["thing", "allowed"] ["thing", "allowed"] (Zj Rc):={}
theorem Zj7 (F:JD K "is_rising" "is_rising" Rc f fd)(ka:Jk P w K mg base 1 "is_whole" ["thing"] IB)(ZA:mg "isinstance" = none)(Ya:mg "list" = none)(UZ:mg "all" = none)(bR:mg "zip" = none):Yc P w K mg base JZ 2 f fd ["thing", "allowed"] Ah:=by
 refine F.ok1 Rf fun aB A outer s H vs Q E hr h=>?_;obtain⟨v,O,l,al,rfl,r,ok,hl,nal,k⟩:=h;refine⟨_,(Zc (ZP (PW.pt (MX (J4 (JC (Zs (Jf (K:=K)) (by rfl) ZA K8 (Za (pv 0) (Za (Uq (v:=.ty "list") (by rfl) Ya Xi rfl) Zb))))) (LS (J4 (JC (Zs (U4 (K:=K) rfl rfl) (by rfl) UZ boot_all (Za (WI (Ls:=["one"]) (Fs:=["allowed"]) (fi:=[1]) Rf.lc rfl (ZU (K:=K) rfl (pv 0)) (fun cl C s3 H3 ex=>⟨(YC (i:=0)),YB,(LU (Zp ka hr (Za (pv 0) Zb)) (Lf (Yn (PR (K:=K)) (pv 0) (pv 1) rfl)))⟩)) Zb))))))) (Zf (Zv Wf)) ZF)
  (Zf (Zv (Zs (U4 (K:=K) rfl rfl) (by rfl) UZ boot_all (Za (WI (Ls:=["one", "onward"]) (Fs:=[]) (fi:=[]) Rf.lc rfl (S0 (K:=K) rfl (by rfl) bR (Za (pv 0) (Za (ZW (Yf (K:=K)) (pv 0) (ZQ Ze) Yt) Zb))) (fun cl C s3 H3 ex=>⟨(Z8 (K:=K) (n:=2) rfl rfl (Zo (YC (i:=0)) (Zo (YC (i:=1)) ZV))),YB,(Yn W9 (pv 0) (pv 1) (Zt _))⟩)) Zb))))),?_⟩
 rcases B8 (K:=K) r with⟨p,xs,ls,rfl,rfl,S,rs⟩ | ⟨t,ty,kt,nl⟩
 ·obtain⟨Y,_⟩:=IA ok;have lx:=rs.len;refine⟨_,rfl,_, "list", _,true,rfl,.lst S,by rfl,true,rfl,YD ?_⟩;refine⟨_,rfl,p,rfl,⟨_,Zr.of S⟩,YZ (K:=K) (xs:=xs) (by rw[lx,kY];lia) (fun i zs G=>Zh H G/\zs=(ls.take i).map fun l=>V.bl (okI al l)) ⟨Zh.refl _,rfl⟩
   (fun i zs G ⟨_,z⟩=>by rw[z,ke,kK];lia) (fun i zs G ⟨s',_⟩=>Zr.of (s' _ _ S)) (fun i x zs G U q=>?_) (fun zs G q D hD=>?_)⟩
  ·obtain⟨s',rfl⟩:=q;obtain⟨l',Z,W⟩:=rs.get U;have W:=W.same s';rw[Ae (okI al) ls i Z];refine lcG ⟨_,rfl,x,l',rfl,W,_,rfl,?_⟩;cases W with
   | int c=>
    refine JU ⟨_,rfl,_,rfl,l,_,rfl,.inl (Zr.of (s' _ _ hl)),rfl,?_,s',?_⟩
    ·rw[Ks];intro v hv;obtain⟨z,_,rfl⟩:=Kw.mp hv;rfl
    ·rw[kh kO,DW];rfl
   | non=>exact YD ⟨s',rfl⟩
   | bl b=>exact YD ⟨s',rfl⟩
   | str y=>exact YD ⟨s',rfl⟩
   | tup e r=>exact YD ⟨s',rfl⟩
   | lst e r=>exact YD ⟨s',rfl⟩
  obtain⟨s1,rfl⟩:=q;rw[lx,Xs];refine lay2 hD fun G1 t1 e1=>?_;have e1:G1 D=some (.lst ((ls.map (okI al)).map V.bl)):=by rw[e1,T8];rfl
  refine⟨D,_,rfl,Zr.of e1,_,rfl,?_⟩;have ea:(ls.map (okI al)).all id=ls.all (okI al):=by rw[Mp];rfl
  rw[ea];cases ha:ls.all (okI al) with
  | false=>
   have:=k G1 (s1.trans t1);rw[show Lz al (.lst ls)=false by show (ls.all (okI al)&&_)=false;rw[ha,MD]] at this;exact JU this
  | true=>
   obtain⟨cs,I⟩:∃cs,cs=ls.map MW:=⟨_,rfl⟩;have el:=IC ha;rw[<- I] at el;rw[el] at rs;have ex:=ID rs;subst ex;have lc:cs.length<=62:=by rw[I,ke];exact Y
   have k:∀H',Zh H H'->Q (.bl (MT cs)) H':=fun H' s'=>by
    have:=k H' s'
    rwa [show Lz al (.lst ls)=MT cs by show (ls.all (okI al)&&_)=_;rw[ha,Bool.true_and,I]] at this
   refine YD ?_;have J:=(s1.trans t1) _ _ S;refine⟨_,rfl,_,rfl,_,rfl,p,_,rfl,Zr.of J,fun c hc=>?_⟩;have ec:J5 (cs.map V.int) (some 1) none=(cs.drop 1).map V.int:=by have:=BQ (cs.map V.int) 1;rw[<- qG] at this;exact this
   rw[ec];refine lay2 (o:=.lst ((cs.drop 1).map V.int)) hc fun G2 t2 e2=>?_;refine⟨p,c,rfl,⟨_,Zr.of (t2 _ _ J)⟩,⟨_,Zr.of e2⟩,Znq (K:=K) (a:=p) (b:=c) (xs:=cs.map V.int) (ys:=(cs.drop 1).map V.int) (by rw[ke,Kr,kY];lia) (by rw[ke,ke,Kr];lia) (fun i zs G=>Zh G2 G/\zs=(((cs.zip (cs.drop 1)).map fun p=>decide (p.1<p.2)).take i).map V.bl) ⟨Zh.refl _,rfl⟩
    (fun i zs G ⟨_,z⟩=>by rw[z,ke,kK];lia) (fun i zs G ⟨s',_⟩=>⟨Zr.of (s' _ _ (t2 _ _ J)),Zr.of (s' _ _ e2)⟩) (fun i x y q zs G U hy w fq=>?_) (fun zs G w D' vz=>?_)⟩
   ·obtain⟨s',rfl⟩:=w;rw[kE] at U hy;obtain⟨c1,ah,rfl⟩:=k8.mp U;obtain⟨c2,aQ,rfl⟩:=k8.mp hy;have hz:(cs.zip (cs.drop 1))[i]? = some (c1,c2):=by rw[Nv];exact⟨ah,aQ⟩
    refine⟨q,_,rfl,Y9.of Zd,rfl,_,_,rfl,_,_,rfl,rfl,?_⟩;dsimp only[DP];rw[kj rfl];exact⟨_,rfl,_,rfl,_,_,rfl,rfl,s'.step fq,Ag (fun p:Int×Int=>decide (p.1<p.2)) hz⟩
   ·obtain⟨s',rfl⟩:=w;rw[kL (by rw[ke,TZ,ke,Kr];lia)];exact⟨D',_,rfl,Zr.of Zd,k _ (((s1.trans t1).trans t2).trans (s'.step vz))⟩
 ·refine⟨_,rfl,_, "list", _,false,rfl,ty,kt,false,rfl,JU (JU ?_)⟩;have:Lz al O=false:=by
   cases O with
   | lst ls=>exact absurd rfl (nl ls)
   | _=>rfl
  have q:=k H (Zh.refl _)
  rwa [this] at q
inductive Ai(vs:QH)(H:Hp)(Q:VK)(_E:XK):Prop|mk(l:Addr)(sc:Int)(ls:QB)(g:QX)(_:vs = [.ref l,.int sc])(_:sc=0∨sc=1)(_:Drw H l ls)(_:HG sc ls g)(_:∀(p:Addr)(H':Hp)(kvs:QD),Zh H H'->H p=none->H' p=some (.dK kvs)->(∀t:Nat,t<ls.length->JW kvs (Sum.inl (t:Int))=(hgA g ls t).map V.int)->Q (.ref p) H')
theorem Rg {X:L2.Cx}:Passes (CX1 P w) X (fun _ _ _=>False):=fun _ _ _ _ _ _ _ c=>by obtain⟨_,_,_,_,_,_,_,_,_,_,_,_,_,_,h⟩:=c;exact h.elim
theorem Aj (F:Int->V)(t:Int):∀(ns:QG)(I:QD),JW (LK I (ns.zip (ns.map F))) (Sum.inl t)=if t∈ns then some (F t) else JW I (Sum.inl t)
 | [],I=>by simp[LK]
 | n::ns,I=>by
  show JW (LK (putK I (Sum.inl n) (F n)) (ns.zip (ns.map F))) (Sum.inl t)=_;rw[Aj F t ns,Py];by_cases h1:t∈ns
  ·rw[kj h1,kj (kX _ h1)]
  ·rw[kh h1];by_cases h2:t=n
   ·subst h2;rw[kj rfl,kj kS]
   ·rw[kh (fun z=>h2 (by injection z)),kh (fun z=>by rcases kQ.mp z with z | z;exact h2 z;exact h1 z)]
abbrev WG:Stmt:=top 35
theorem Zb0:Zw nE nE (Zj WG):={}
theorem Zre (F:JD K "heights_by_name" "heights_by_name" WG f fd)(WT:Jk P w K mg base 1 "names_of" nC (Ly U7))(Uk:Lw P w K mg base 9 "name_heights" nE (FV C))(ku:mg "dict" = none)(bR:mg "zip" = none):Yc P w K mg base JZ 10 f fd nE Ai:=by
 refine F.ok1 Zb0 fun aB A outer s H vs Q E W h=>?_;obtain⟨l,sc,ls,g,rfl,aW,⟨xs,Y,Z,hW,I⟩,hg,k⟩:=h;refine⟨_,(Zf (Zv (ZhH (K:=K) rfl rfl (by rfl) ku (by rfl) bR (Za (Zp WT W (Za (pv 0) Zb)) (Za (DA Uk (W.mono (by decide)) Rg (Za (pv 0) (Za (pv 1) Zb))) Zb))))),?_⟩;refine⟨_,rfl,l,xs,ls,rfl,Y,Z,I,hW.kd,fun pn H1 fn J en=>?_⟩;refine⟨_,rfl,_,rfl,l,sc,xs,ls,rfl,J _ _ Y,Z.same J,I,hW,fun ph H2 g' fh O S eh=>?_,fun H2 ts O n1 tr z=>?_⟩
 ·have:=hg.uniq S;subst this;have ll:(Ym ls U7 ls.length).length<=60:=by
   unfold Ym;refine Kb (NL _ _) ?_;rw[qj];exact I
  have ed:(dfs g ls (Ym ls U7 ls.length)).map V.int=(Ym ls U7 ls.length).map fun t=>V.int (g (YK ls t.toNat).1-g (YK ls t.toNat).2):=by unfold dfs;rw[T8];rfl
  rw[ed] at eh;refine⟨pn,ph,_,_,rfl,Zr.of (O _ _ en),Zr.of eh,by rw[ke],by lia,fun D hD=>?_⟩;refine k D _ _ ((J.trans O).trans (Zh.laid hD)) ((J.trans O).free hD) Zd fun t ht=>?_;rw[Aj];have mm:((t:Int)∈Ym ls U7 ls.length) ↔ isK ls U7 t=true:=by
   unfold Ym;rw[KZ];constructor
   ·rintro⟨a,_,h⟩;split at h
    ·rename_i c
     have:a=t:=by injection h with h;lia
     rw[<- this];exact c
    ·cases h
   ·exact fun c=>⟨t,Ku.mpr ht,by rw[kj c]⟩
  unfold hgA;by_cases c:isK ls U7 t=true
  ·rw[kj (mm.mpr c),kj c,kM];rfl
  ·rw[kh (fun z=>c (mm.mp z)),kh c];rfl
 ·rcases hg with⟨e,_⟩ | ⟨_,T,L,U,t0,_⟩
  ·exact n1 e
  ·have:=tr.uniq U;rw[this] at z;exact z (by rw[Lr,t0])
theorem LN {α β:Type}{F:α -> β -> Prop}:∀{l:List α}{m:List β}{i:Nat}{x:α},Paired F l m->l[i]? = some x -> ∃y,m[i]? = some y/\F x y
 | _,_,_,_,.nil,e=>by simp at e
 | _,_,0,_,.cons r _,e=>by simp at e;subst e;exact⟨_,rfl,r⟩
 | _,_,i+1,_,.cons _ t,e=>by obtain⟨y,h1,h2⟩:=LN (i:=i) t (by simpa using e);exact⟨y,by simpa using h1,h2⟩
theorem psn {α β:Type}{F:α -> β -> Prop}{x:α}{y:β}(h:F x y):∀{l:List α}{m:List β},Paired F l m->Paired F (l ++ [x]) (m ++ [y])
 | _,_,.nil=>.cons h .nil
 | _,_,.cons r t=>.cons r (psn h t)
theorem MU {α β:Type}{F:α -> β -> Prop}:∀{l:List α}{m:List β},Paired F l m->l.length=m.length
 | _,_,.nil=>rfl
 | _,_,.cons _ t=>Kx (· + 1) (MU t)
abbrev crI (ls:QB):QG:=Ym ls (fun x=>decide (x = "cross")) ls.length
abbrev zfA (g:QX)(ls:QB):Nat->Bool:=fun i=>decide (hgA g ls i=some 0)
abbrev chA (cs:QG):Nat->Bool:=fun t=>decide ((t:Int)∈cs)
def Ja (ls:QB)(g:QX)(lit:Lit):Bool:=Lz (crI ls) lit&&(J6 ls (zfA g ls) (chA (csL lit)) ls.length).isSome
inductive Ak(vs:QH)(H:Hp)(Q:VK)(_E:XK):Prop|mk(l:Addr)(v:V)(lit:Lit)(sc:Int)(ls:QB)(g:QX)(_:vs = [.ref l,.int sc,v])(_:sc=0∨sc=1)(_:Drw H l ls)(_:HG sc ls g)(_:Wl H v lit)(_:okL 3 lit=true)(_:Ja ls g lit=false -> ∀H',Zh H H'->Q .non H')(_:Ja ls g lit=true -> ∀(r:Addr)(ws:QH)(rows:QA)(H':Hp),Zh H H'->H r=none->H' r=some (.lst ws)->Words H' ws rows->rows.length=ls.length+1->(∀t,t<=ls.length->J6 ls (zfA g ls) (chA (csL lit)) t=rows[t]?)->Q (.ref r) H')
theorem Al {lit:Lit}(r:Wl H v lit)(h:Lz al lit=true)(ok:okL 3 lit=true):∃p,v = .ref p/\H p=some (.lst ((csL lit).map V.int))/\(csL lit).length<=62:=by
 cases r with
 | lst e rs=>
  obtain⟨F,_⟩:=IA ok;have ha:_/\_:=XS.mp h;have I:=IC ha.1;rw[I] at rs;have ex:=ID rs;refine⟨_,rfl,?_,?_⟩
  ·rw[e,ex];rfl
  ·show (List.map MW _).length<=62;rw[ke];exact F
 | _=>cases h
theorem Zkv {r:Addr}{us:QH}{o:HO}(h:G r=some (.lst us)){ws:QH}{L:QA}(x:Words G ws L):Words (upd G r o) ws L:=Words.mono (fun t p e=>by rw[Zi (LQ e h (fun z=>nomatch z))];exact e) x
theorem Am (f:α -> Bool){l:List α}{x:α}(h:l[j]? = some x):(l.take (j+1)).filter f=(l.take j).filter f++if f x=true then[x] else[]:=by
 rw[Ki,h,Lq];show (l.take j).filter f ++ [x].filter f=_;congr 1;by_cases e:f x=true
 ·rw[kj e,List.filter_cons_of_pos e];rfl
 ·rw[kh e,List.filter_cons_of_neg e];rfl
abbrev J3:Stmt:=top 42
theorem Yh:Zw ["drawing", "scale", "thing", "heights", "rows", "t", "letter", "found"] nO (Zj J3):={}
theorem Zns (F:JD K "partners_through" "partners_through" J3 f fd)(Ww:Jk P w K mg base 10 "heights_by_name" nE Ai)(lB:Jk P w K mg base 2 "is_rising" ["thing", "allowed"] Ah)(Ua:Jk P w K mg base 2 "crossings_of" nC (Ly fun x=>decide (x = "cross")))(lC:Jk P w K mg base 2 "ways_on" ["partners", "letter", "height"] F8)(ZE:mg "enumerate" = none):
  Yc P w K mg base JZ 11 f fd nO Ak:=by
 refine F.ok1 Yh fun aB A outer s H vs Q E hr h=>?_;obtain⟨l,v,lit,sc,ls,g,rfl,aW,dr,hg,rl,ok,kn,ky⟩:=h;refine⟨_,(Zc (Zz (i:=3) Yh.nd (Zp Ww hr (Za (pv 0) (Za (pv 1) Zb))))
  (Zc (ZP (J4 (JC (Zp lB hr (Za (pv 2) (Za (Zp Ua hr (Za (pv 0) Zb)) Zb))))) (Zf (Zv Jx)) ZF)
  (Zc (Zz (i:=4) Yh.nd (Zx (Za (ZN Zb) Zb)))
  (Zc (Yr Ka rfl (Ws (K:=K) rfl (by rfl) ZE (Za (pv 0) Zb)) (Z8 (K:=K) (n:=2) rfl rfl (Zo (Cy (i:=5) Yh.nd rfl (Or.inr rfl)) (Zo (ZT (i:=6) Yh.nd) ZV))) (Zc (L0 (i:=7) Yh.nd rfl (.inl rfl) (Ls:=["then", "changed"]) (Fs:=["t", "thing"]) (fi:=[5,2]) Yh.lc rfl (ZU (K:=K) rfl (Zp lC hr (Za (Zy (Zl (K:=K)) (pv 4) (UY WO Ze) (fun _ _=>rfl)) (Za (pv 6) (Za (ZlW (Gg hr) (pv 3) (pv 5) ⟨rfl,rfl,rfl,rfl⟩) Zb))))) (fun cl C s3 H3 ex=>⟨(Z8 (K:=K) (n:=2) rfl rfl (Zo (YC (i:=0)) (Zo (YC (i:=1)) ZV))),(Dr (Zu Yp (pv 1) (Yn (PR (K:=K)) (pv 2) (pv 3) rfl) (Zt _))),(pv 0)⟩))
  (Zc (ZP (J4 (ZkC (K:=K) rfl (RP (pv 7) (fun _=>rfl)))) (Zf (Zv Jx)) ZF)
  (Zf (ZY (Yd (K:=K) rfl (Yw kJ kU kW ZL (pv 4) (Za (Zy (Zl (K:=K)) (pv 7) Ze (fun _ _=>rfl)) Zb))))))))
  (Zf (Zv (pv 4))))))),?_⟩
 obtain⟨xs,hl,hL,hW,aA⟩:=id dr;refine⟨_,rfl,_,rfl,l,sc,ls,g,rfl,aW,dr,hg,fun hp H1 pB s1 fh eh vh=>?_⟩;refine⟨_,rfl,_,rfl,l,xs,ls,rfl,s1 _ _ hl,hL.same s1,aA,hW.kd,fun cp H2 fcp s2 wB=>?_⟩;have e9:=s1.trans s2;have wC:(crI ls).length<=60:=Kb (WE ls _ _) aA;refine⟨v,lit,cp,crI ls,rfl,rl.same e9,ok,wB,wC,fun H3 s3=>⟨_,rfl,?_⟩⟩;have ae:=e9.trans s3;cases hrb:Lz (crI ls) lit with
 | false=>exact JU (kn (by unfold Ja;rw[hrb,MD]) H3 ae)
 | true=>
 refine YD ?_;obtain⟨p,rfl,ep,nc⟩:=Al rl hrb ok;obtain⟨cs,W⟩:∃cs,cs=csL lit:=⟨_,rfl⟩;rw[<- W] at ep nc;have k0:J6 ls (zfA g ls) (chA cs) ls.length=none -> ∀H',Zh H H'->Q .non H':=fun z=>kn (by unfold Ja;rw[<- W,z,hrb];rfl);have k1:∀(r:Addr)(O:QH)(I:QA)(H':Hp),Zh H H'->H r=none->H' r=some (.lst O)->Words H' O I->I.length=ls.length+1->(∀t,t<=ls.length->J6 ls (zfA g ls) (chA cs) t=I[t]?)->Q (.ref r) H':=fun r O I H' s f wD wE lr hr=>ky (by unfold Ja;rw[<- W,hr _ (km _),ko (by lia),hrb];rfl) r O I H' s f wD wE lr (by rw[<- W];exact hr)
 refine⟨sz0,fun e0 gi=>?_⟩;refine lay2 (o:=.tup []) gi fun H4 t4 g4=>?_;refine⟨sz1,fun r fr=>?_⟩;refine lay2 (o:=.lst [.ref e0]) fr fun H5 t5 g5=>?_;have bT:=(ae.trans t4).trans t5;have az:H r=none:=(ae.trans t4).free fr;have aF:=hL.len;refine⟨_,rfl,l,rfl,⟨_,Zr.of (bT _ _ hl)⟩,L5 (K:=K) (a:=l) (xs:=xs) (fun i σ G=>∃(O:QH)(I:QA)(v5 v6 v7:QI),σ = [some (.ref l),some (.int sc),some (.ref p),some (.ref hp),some (.ref r),v5,v6,v7]/\Zh H G/\G hp=some (.dK pB)/\G r=some (.lst O)/\Words G O I/\I.length=i+1 /\ ∀t,t<=i->J6 ls (zfA g ls) (chA cs) t=I[t]?)
  ⟨[.ref e0],[[]],none,none,none,rfl,bT,((s2.trans s3).trans (t4.trans t5)) _ _ eh,g5,.cons ⟨e0,rfl,t5 _ _ g4⟩ .nil,rfl,fun t ht=>by rw[Nat.le_zero.mp ht];rfl⟩ (fun i σ G _ ⟨_,_,_,_,_,_,sG,_⟩=>Zr.of (sG _ _ hl)) ?_ ?_⟩
 ·rintro i x pe σ G hx ⟨O,I,v5,v6,v7,rfl,sG,fJ,er,Y,lr,J⟩ fK;obtain⟨q,ta,hq,rfl,aO⟩:=hL.get hx;have hi:i<ls.length:=(kC.mp hq).1;refine⟨pe,_,rfl,Y9.of Zd,rfl,_,_,rfl,_,_,rfl,rfl,?_⟩;refine lay2 (o:=.tup [.int (i:Int),.ref ta]) fK fun G1 Z pC=>?_;have fL:=sG.trans Z;have bU:=Z _ _ er;have bA:=Y.same Z;have dR:=Z _ _ fJ;obtain⟨ps,bP⟩:∃ps,I[i]? = some ps:=⟨_,ko (by lia)⟩;have fM:J6 ls (zfA g ls) (chA cs) i=some ps:=(J i (km _)).trans bP;obtain⟨n,wn,al⟩:=Iz (z:=zfA g ls) (ch:=chA cs) hW i (by lia);obtain⟨c7,wF⟩:=al ps fM;obtain⟨m,wm,ft⟩:=B7 hW wn hq;have kq:=kinds ft;have n2:=L6 wn;have tl:(ls.take i).length=i:=by rw[kK];lia
  have lw:O.length=i+1:=Y.len.trans lr;obtain⟨u0,x0,rfl⟩:∃u0 x0,O=u0 ++ [x0]:=⟨O.dropLast,_,(T3 (fun z=>by rw[z] at lw;cases lw)).symm⟩;have lD:u0.length=i:=by rw[ki,Ke] at lw;lia
  have wx:Jv G1 x0 ps:=by obtain⟨w',S,e'⟩:=bA.get (i:=i) (x:=x0) (by rw[Kq (by lia),lD];simp);rw[bP] at S;cases S;exact e'
  refine⟨_,rfl,1,rfl,r,_,-1,x0,rfl,rfl,Zr.of bU,UO _ _,_,rfl,_,rfl,hp,rfl,.inl ⟨_,.inl dR⟩,_,rfl,_,.inl ⟨pB,.inl (i:Int),.inl dR,rfl,rfl⟩,?_⟩;rw[vh i hi];refine⟨x0,ta,q,hgA g ls i,ps,(by cases hgA g ls i<;>rfl),wx,fL _ _ aO,by lia,c7,ft.1,?_,?_,kq,fun w ys G2 cS ew pw=>?_⟩
  ·intro nb;rcases ft.2 with⟨e,_⟩ | ⟨_,e,_⟩ | ⟨_,e,_⟩
   ·exact absurd e nb
   ·lia
   ·lia
  ·intro ec z;have kt:isK ls U7 i=true:=by rw[Ut hq (pr:=U7),ec];decide
   unfold hgA at z;rw[kt] at z;cases z
  have fN:=fL.trans cS;have wG:=fN _ _ ep;have wl:=MU pw;have w2:(US ps q (hgA g ls i)).length<=2:=by
   rw[Ab ps q _ kq];cases Wm ps q with
   | none=>simp
   | some r'=>dsimp only;split<;>simp
  refine⟨w,rfl,⟨_,Zr.of ew⟩,YZ (K:=K) (a:=w) (xs:=ys) (by rw[wl,kY];lia) (fun j zs G'=>Zh G2 G'/\Words G' zs ((((US ps q (hgA g ls i)).take j).filter fun v=>v.2==chA cs i).map (·.1))) ⟨Zh.refl _,.nil⟩
   (fun j zs G' ⟨_,z⟩=>by rw[z.len,ke];exact Kb (XG _ _) (by rw[kK];lia)) (fun j zs G' ⟨s',_⟩=>Zr.of (s' _ _ ew)) (fun j y zs G' hy z=>?_) (fun zs G' z D hD=>?_)⟩
  ·obtain⟨s',hz⟩:=z;obtain⟨⟨th,c⟩,S,t',x',rfl,pD,gj⟩:=LN pw hy;dsimp only at pD gj;refine⟨t',_,rfl,Y9.of (s' _ _ pD),rfl,_,_,rfl,_,_,rfl,rfl,?_⟩;refine⟨_,rfl,_,rfl,_,rfl,p,_,rfl,.inl (Zr.of (s' _ _ wG)),rfl,?_,rfl,_,rfl,?_⟩
   ·rw[Ks];intro v hv;obtain⟨z,_,rfl⟩:=Kw.mp hv;rfl
   ·have ed:decide (V.bl c=V.bl (decide ((i:Int)∈cs)))=(c==chA cs i):=by
     show _=(c==decide ((i:Int)∈cs));cases c<;>cases decide ((i:Int)∈cs)<;>rfl
    rw[kh kO,DW,ed];cases e:(c==chA cs i) with
    | true=>
     refine JU ⟨_,rfl,s',?_⟩;rw[Am (fun v:QG×Bool=>v.2==chA cs i) S,kj e,kP];exact hz.snoc (gj.same s')
    | false=>
     refine YD ⟨s',?_⟩;rw[Am (fun v:QG×Bool=>v.2==chA cs i) S,kh (by rw[e];exact kO),KY];exact hz
  ·obtain⟨s',hz⟩:=z;rw[kL (by rw[wl];exact km _),Zm9 ps q _ kq] at hz;have bV:=Iw (z:=zfA g ls) (ch:=chA cs) fM hq;refine lay2 (o:=.lst zs) hD fun G3 t3 e3=>?_;have U:=(cS.trans s').trans t3;have pE:Zh H G3:=fL.trans U;refine⟨_,rfl,!zs.isEmpty,.inl ⟨zs,Zr.of e3,rfl⟩,?_⟩;cases hn:nxt ps q (zfA g ls i) (chA cs i) with
   | none=>
    rw[hn] at bV;have bz:nxt ps q (decide (hgA g ls i=some 0)) (chA cs i)=none:=hn;rw[bz] at hz;cases hz;refine JU (k0 ?_ G3 pE);have:=Iy bV (ls.length-(i+1));rw[show i+1+(ls.length-(i+1))=ls.length by lia] at this;exact this
   | some r'=>
    rw[hn] at bV;have bz:nxt ps q (decide (hgA g ls i=some 0)) (chA cs i)=some r':=hn;rw[bz] at hz;obtain⟨x1,rfl,eJ⟩:∃x1,zs = [x1]/\Jv G' x1 r':=by
     cases hz with
     | cons a b=>cases b;exact⟨_,rfl,a⟩
    refine YD ?_;have c8:=U _ _ bU;refine⟨_,rfl,.inl ⟨rfl,_,Zr.of c8⟩,_,rfl,D,[x1],0,x1,rfl,rfl,Zr.of e3,rfl,r,_,_,rfl,rfl,c8,(by rw[lw,kY];lia),?_⟩;have jp:Words G3 (u0 ++ [x0] ++ [x1]) (I ++ [r']):=(bA.same U).snoc (eJ.same t3);refine⟨_,I ++ [r'],_,_,_,rfl,fun c o e=>by rw[Zi (Zg e az)];exact pE c o e,?_,Zd,Zkv c8 jp,by rw[ki,lr];rfl,fun t ht=>?_⟩
    ·rw[Zi (LQ (U _ _ dR) c8 (fun z=>nomatch z))];exact U _ _ dR
    ·by_cases e:t=i+1
     ·subst e;rw[bV,Kq (by lia),lr];simp
     ·rw[J t (by lia),KG (by lia)]
 ·rintro σ G ⟨O,I,v5,v6,v7,rfl,sG,fJ,er,Y,lr,J⟩;rw[aF] at lr J;exact⟨_,rfl,k1 r O I G sG az er Y lr J⟩
inductive An(C:Addr)(vs:QH)(H:Hp)(Q:VK)(E:XK):Prop|mk(l:Addr)(v:V)(lit:Lit)(sc:Int)(ls:QB)(g:QX)(_:vs = [.ref l,.int sc,v])(_:sc=0∨sc=1)(_:Drw H l ls)(_:HG sc ls g)(_:Wl H v lit)(_:okL 3 lit=true)(_:Ja ls g lit=false -> ∀H',Zh H H'->E (.ref C) none H')(_:Ja ls g lit=true -> ∀(r:Addr)(ws:QH)(rows:QA)(H':Hp),Zh H H'->H r=none->H' r=some (.lst ws)->Words H' ws rows->rows.length=ls.length+1->(∀t,t<=ls.length->J6 ls (zfA g ls) (chA (csL lit)) t=rows[t]?)->Q (.ref r) H')
abbrev Uj:Stmt:=top 43
theorem Ao:Zw ["drawing", "scale", "thing", "rows"] nO (Zj Uj):={}
theorem ZlA (F:JD K "banding_rows" "banding_rows" Uj f fd)(J9:mg "NoBanding" = some (.ref C))(lE:PySem.W.excIn K C bmV "ValueError.__new__" = true)(J7:Jk P w K mg base 11 "partners_through" nO Ak):
  Yc P w K mg base (CX1 P w) 12 f fd nO (An C):=by
 refine F.okX1 Ao fun U A outer s H vs Q E V h=>?_;obtain⟨l,v,J,sc,ls,g,rfl,O,Y,hg,Z,ok,k0,k1⟩:=h;refine⟨_,(Zc (Zz (i:=3) Ao.nd (Zp J7 V (Za (pv 0) (Za (pv 1) (Za (pv 2) Zb)))))
  (Zc (ZP (Zu Pc (pv 3) Jx (Zt _)) (Zf (Oc (by rfl) J9 lE (Za ZJ Zb))) ZF)
  (Zf (Zv (pv 3))))),?_⟩
 exact⟨_,rfl,_,rfl,_,rfl,l,v,J,sc,ls,g,rfl,O,Y,hg,Z,ok,fun z H' s'=>⟨_,rfl,rfl,_,rfl,JU ⟨sz1,k0 z H' s'⟩⟩,fun z r ws I H' s' fr er hw lr S=>⟨_,rfl,rfl,_,rfl,YD ⟨_,rfl,k1 z r ws I H' s' fr er hw lr S⟩⟩⟩
inductive IE(C:Addr)(vs:QH)(H:Hp)(Q:VK)(E:XK):Prop|mk(l:Addr)(v:V)(lit:Lit)(sc:Int)(ls:QB)(g:QX)(_:vs = [.ref l,.int sc,v])(_:sc=0∨sc=1)(_:Drw H l ls)(_:HG sc ls g)(_:Wl H v lit)(_:okL 3 lit=true)(_:Ja ls g lit=false -> ∀H',Zh H H'->E (.ref C) none H')(_:Ja ls g lit=true -> ∀(d:Addr)(as:List Addr)(rows:QA)(H':Hp),Zh H H'->H d=none->H' d=some (.lst (as.map V.ref))->as.Nodup->(∀a∈as,H a=none/\a≠d)->Paired (fun a w=>H' a=some (.lst (w.map V.int))) as rows->rows.length=ls.length+1->(∀t,t<=ls.length->J6 ls (zfA g ls) (chA (csL lit)) t=rows[t]?)->Q (.ref d) H')
abbrev Uy:Stmt:=top 44
theorem Ap:Zw nP nP (Zj Uy):={}
theorem ZpU (F:JD K "partners_of" "partners_of" Uy f fd)(Ui:Lw P w K mg base 12 "banding_rows" nO (An C))(Ya:mg "list" = none):
  Yc P w K mg base (CX1 P w) 13 f fd nP (IE C):=by
 refine F.okX1 Ap fun aB A outer s H vs Q E hr h=>?_;obtain⟨l,v,S,sc,ls,g,rfl,U,dr,hg,rl,ok,k0,k1⟩:=h;refine⟨_,(Zf (Zv (WI (Ls:=["partners"]) (Fs:=[]) (fi:=[]) Ap.lc rfl (ZU (K:=K) rfl (DA Ui (hr.mono (by decide)) Oa (Za (pv 0) (Za (pv 1) (Za (pv 2) Zb))))) (fun cl C s3 H3 ex=>⟨(YC (i:=0)),YB,(ZZ (YY (K:=K)) (by rfl) Ya Xi (Za (pv 0) Zb))⟩)))),?_⟩;have aA:ls.length<=60:=let ⟨_,_,_,_,h⟩:=dr;h
 refine⟨_,rfl,_,rfl,_,rfl,l,v,S,sc,ls,g,rfl,U,dr,hg,rl,ok,k0,fun z r ws J H1 W fr er hw lr Y=>?_⟩;have lw:=hw.len;refine⟨r,rfl,⟨_,Zr.of er⟩,YZ (K:=K) (a:=r) (xs:=ws) (by rw[kY];lia) (fun i zs G=>∃I:List Addr,zs=I.map V.ref/\Zh H1 G/\I.Nodup/\(∀a∈I,H1 a=none)/\Paired (fun(a:Addr) (w:QG)=>G a=some (.lst (w.map V.int))) I (J.take i)) ⟨[],rfl,Zh.refl _,List.nodup_nil,(fun a h=>nomatch h),.nil⟩
  (fun i zs G ⟨I,e,_,_,_,pa⟩=>by rw[e,ke,MU pa,kK];lia) (fun i zs G ⟨I,_,s',_⟩=>Zr.of (s' _ _ er)) (fun i x zs G hx q=>?_) (fun zs G q D Z=>?_)⟩
 ·obtain⟨I,rfl,s',nd,fa,pa⟩:=q;obtain⟨w',wH,p,rfl,ep⟩:=hw.get hx;refine lcG ⟨_,rfl,p,_,rfl,.inr (Y9.of (s' _ _ ep)),fun q O=>?_⟩;have wI:=s'.free O;refine⟨I ++ [q],by rw[kP];rfl,s'.step O,?_,fun a ha=>?_,?_⟩
  ·refine qB.mpr ⟨nd,KL.mpr ⟨Xb,List.nodup_nil⟩,fun a ha b hb e=>?_⟩;rw[kR.mp hb] at e;obtain⟨_,_,h2⟩:=Paired.mem1 pa a ha;rw[e,O] at h2;cases h2
  ·rcases Kg.mp ha with z | z
   ·exact fa a z
   ·rw[kR.mp z];exact wI
  ·rw[Ki,wH];have sq:Zh G (upd G q (.lst (w'.map V.int))):=Zh.laid O;exact psn (F:=fun(a:Addr) (w:QG)=>(upd G q (.lst (w'.map V.int))) a=some (.lst (w.map V.int))) Zd (L2.Paired.imp' (fun _ _ h=>sq _ _ h) pa)
 ·obtain⟨I,rfl,s',nd,fa,pa⟩:=q;rw[lw,Xs] at pa;have sD:Zh G (upd G D (.lst (I.map V.ref))):=Zh.laid Z;refine k1 z D I J _ ((W.trans s').trans sD) ((W.trans s').free Z) Zd nd (fun a ha=>⟨W.free (fa a ha),fun e=>?_⟩) (L2.Paired.imp' (fun _ _ h=>sD _ _ h) pa) lr Y;obtain⟨_,_,h2⟩:=Paired.mem1 pa a ha;rw[e,Z] at h2;cases h2
theorem Aq {α β:Type}{F:α -> β -> Prop}{x:α}{y:β}(h:F x y):∀{l:List α}{m:List β},Paired F l m->Paired F (l ++ [x]) (m ++ [y])
 | _,_,.nil=>.cons h .nil
 | _,_,.cons r t=>.cons r (Aq h t)
inductive Rh(vs:QH)(H:Hp)(Q:VK)(_E:XK):Prop|mk(l p:Addr)(sc:Int)(ls:QB)(g:QX)(cs:QG)(_:vs = [.ref l,.int sc,.ref p])(_:sc=0∨sc=1)(_:Drw H l ls)(_:HG sc ls g)(_:H p=some (.lst (cs.map V.int)))(_:cs.length<=100)(_:J6 ls (zfA g ls) (chA cs) ls.length=none -> ∀H',Zh H H'->Q .non H')(_:∀(r:Addr)(ws:QH)(rows:QA)(H':Hp),Zh H H'->H r=none->H' r=some (.lst ws)->MR H' ws rows->(∀v∈ws,∃a,v = .ref a/\H a=none)->rows.length=ls.length+1->(∀t,t<=ls.length->J6 ls (zfA g ls) (chA cs) t=rows[t]?)->Q (.ref r) H')
abbrev Ri:Stmt:=top 63
theorem Jd:Zw ["_law_drawing_here", "_law_scale", "_law_changed", "_law_found", "_law_t", "_law_height", "_law_here", "_law_there"] nS (Zj Ri):={}
theorem Zom (F:JD K "_law_walk" "_law_walk" Ri f fd)(Yj:Jk P w K mg base 5 "_law_letter_heights" nG BV)(YO:Jk P w K mg base 1 "_law_moved_on" nQ B4)(YN:Jk P w K mg base 1 "_law_is_apart" ["_law_partners", "_law_k"] B0)(ZE:mg "enumerate" = none)(Ya:mg "list" = none):
  Yc P w K mg base JZ 6 f fd nS Rh:=by
 refine F.ok1 Jd fun aB A outer s H vs Q E hr h=>?_;obtain⟨l,p,sc,ls,g,cs,rfl,aW,dr,hg,ep,nc,k0,k1⟩:=h;refine⟨_,(Zc (Zz (i:=3) Jd.nd (Zx (Za (Zx Zb) Zb)))
  (Zc (Yr Ka rfl (Ws (K:=K) rfl (by rfl) ZE (Za (Zp Yj hr (Za (pv 0) (Za (pv 1) Zb))) Zb)) (Z8 (K:=K) (n:=2) rfl rfl (Zo (ZT (i:=4) Jd.nd) (Zo (ZT (i:=5) Jd.nd) ZV))) (Zc (Zz (i:=6) Jd.nd (Zy (Zl (K:=K)) (pv 3) (UY WO Ze) (fun _ _=>rfl)))
  (Zc (Zz (i:=7) Jd.nd (Zp YO hr (Za (pv 6) (Za (Zy (Zl (K:=K)) (pv 0) (pv 4) (fun _ _=>rfl)) Zb))))
  (Zc (ZP (Zu Pc (pv 7) Jx (Zt _)) (Zf (Zv Jx)) ZF)
  (Zc (ZP (Zu (PR (K:=K)) (pv 4) (pv 2) rfl) (Zc (ZP (PW.pt (MX (Zu LB (Zy (Ys (K:=K)) (Zy (Zl (K:=K)) (pv 0) (pv 4) (fun _ _=>rfl)) Ze (fun _ _=>rfl)) ZJ (Zt _)) (MX (Zu LB (pv 5) Ze (Zt _)) (LS (J4 (JC (Zp YN hr (Za (pv 6) (Za (Zy (Ys (K:=K)) (Zy (Zl (K:=K)) (pv 0) (pv 4) (fun _ _=>rfl)) Ze (fun _ _=>rfl)) Zb))))))))) (Zf (Zv Jx)) ZF)
  (Zf (Zz (i:=7) Jd.nd (ZZ (YY (K:=K)) (by rfl) Ya Xi (Za (pv 6) Zb))))) ZF)
  (Zf (ZY (Yd (K:=K) rfl (Yw kJ kU kW ZL (pv 3) (Za (pv 7) Zb))))))))))
  (Zf (Zv (pv 3))))),?_⟩
 obtain⟨xs,hl,hL,hW,aA⟩:=id dr;refine⟨sz0,fun e0 gi=>?_⟩;refine lay2 (o:=.lst []) gi fun H4 t4 g4=>?_;refine⟨sz1,fun r fr=>?_⟩;refine lay2 (o:=.lst [.ref e0]) fr fun H5 t5 g5=>?_;have bT:=t4.trans t5;have az:H r=none:=t4.free fr;have wJ:e0≠r:=Zg g4 fr;refine⟨_,rfl,_,rfl,l,sc,ls,g,rfl,aW,⟨xs,bT _ _ hl,hL.same bT,hW,aA⟩,hg,fun hp H6 s6 wK pF=>?_⟩;have wL:=bT.trans s6;have lh:(lhL g ls ls.length).length=ls.length:=by simp[lhL]
 have wM:r≠hp:=Zg g5 wK;have aF:=hL.len;refine⟨hp,rfl,⟨_,Zr.of pF⟩,L5 (K:=K) (a:=hp) (xs:=lhL g ls ls.length) (fun i σ G=>∃(W:QH)(I:QA)(v4 v5 v6 v7:QI),σ = [some (.ref l),some (.int sc),some (.ref p),some (.ref r),v4,v5,v6,v7]/\Zh H G/\G hp=some (.lst (lhL g ls ls.length))/\G r=some (.lst W)/\MR G W I/\(∀v∈W,v ≠ .ref r)/\(∀v∈W,∃a,v = .ref a/\H a=none)/\I.length=i+1 /\ ∀t,t<=i->J6 ls (zfA g ls) (chA cs) t=I[t]?)
  ⟨[.ref e0],[[]],none,none,none,none,rfl,wL,pF,s6 _ _ g5,.cons ⟨e0,rfl,s6 _ _ (t5 _ _ g4)⟩ .nil,fun v U=>?_,fun v U=>⟨e0,kR.mp U,gi⟩,rfl,fun t ht=>by rw[Nat.le_zero.mp ht];rfl⟩ (fun i σ G _ ⟨_,_,_,_,_,_,_,sG,e,_⟩=>Zr.of e) ?_ ?_⟩
 ·rw[kR.mp U];exact fun z=>wJ (by injection z)
 ·rintro i x pe σ G hx ⟨W,I,v4,v5,v6,v7,rfl,sG,fJ,er,gk,pG,dB,lr,O⟩ fK;have hi:i<ls.length:=by
   have:=(kC.mp hx).1;lia
  obtain⟨q,hq⟩:∃q,ls[i]? = some q:=⟨_,ko hi⟩;obtain rfl:x=oI (hgA g ls i):=by unfold lhL at hx;rw[kE,M3 hi] at hx;exact(k9 hx).symm
  refine⟨pe,_,rfl,Y9.of Zd,rfl,_,_,rfl,_,_,rfl,rfl,?_⟩;refine lay2 (o:=.tup [.int (i:Int),oI (hgA g ls i)]) fK fun G1 dE pC=>?_;have S:=sG.trans dE;have bU:=dE _ _ er;have bA:MR G1 W I:=L2.Paired.imp' (fun _ _ ⟨a,h1,h2⟩=>⟨a,h1,dE _ _ h2⟩) gk;have dR:=dE _ _ fJ;obtain⟨ps,bP⟩:∃ps,I[i]? = some ps:=⟨_,ko (by lia)⟩;have fM:J6 ls (zfA g ls) (chA cs) i=some ps:=(O i (km _)).trans bP;obtain⟨n,wn,al⟩:=Iz (z:=zfA g ls) (ch:=chA cs) hW i (by lia);obtain⟨c7,wF⟩:=al ps fM;obtain⟨m,wm,ft⟩:=B7 hW wn hq;have kq:=kinds ft;have n2:=L6 wn;have tl:(ls.take i).length=i:=by rw[kK];lia
  have lw:W.length=i+1:=(MU gk).trans lr;obtain⟨u0,x0,rfl⟩:∃u0 x0,W=u0 ++ [x0]:=⟨W.dropLast,_,(T3 (fun z=>by rw[z] at lw;cases lw)).symm⟩;have lD:u0.length=i:=by rw[ki,Ke] at lw;lia
  obtain⟨Y,rfl,gl⟩:Bd G1 x0 ps:=by obtain⟨w',Z,e'⟩:=LN bA (i:=i) (x:=x0) (by rw[Kq (by lia),lD];simp);rw[bP] at Z;cases Z;exact e'
  obtain⟨xv,ax⟩:∃xv,xs[i]? = some xv:=⟨_,ko (by lia)⟩;obtain⟨q',ta,cM,rfl,aO⟩:=hL.get ax;obtain rfl:q=q':=k9 (hq.symm.trans cM);have qb:q.1 ≠ "born" -> q.2+1<ps.length:=fun nb=>by
   rcases ft.2 with⟨e,_⟩ | ⟨_,e,_⟩ | ⟨_,e,_⟩
   ·exact absurd e nb
   ·lia
   ·lia
  have bV:=Iw (z:=zfA g ls) (ch:=chA cs) fM hq;have J:nxt ps q (zfA g ls i) (chA cs i)=none -> ∀G',Zh G1 G'->Q .non G':=fun e G' s'=>by rw[e] at bV;have:=Iy bV (ls.length-(i+1));rw[show i+1+(ls.length-(i+1))=ls.length by lia] at this;exact k0 this G' (S.trans s')
  have put:∀(G':Hp)(pp:Addr)(r':QG),Zh G1 G'->nxt ps q (zfA g ls i) (chA cs i)=some r'->G1 pp=none->G' pp=some (.lst (r'.map V.int)) -> ∀v4 v5 v6 v7:QI,
    ∃(gm:QH)(I:QA)(w4 w5 w6 w7:QI),[some (.ref l),some (.int sc),some (.ref p),some (.ref r),v4,v5,v6,v7] = [some (.ref l),some (.int sc),some (.ref p),some (.ref r),w4,w5,w6,w7]/\Zh H (upd G' r (.lst (u0 ++ [.ref Y] ++ [.ref pp])))/\(upd G' r (.lst (u0 ++ [.ref Y] ++ [.ref pp]))) hp=some (.lst (lhL g ls ls.length)) /\
     (upd G' r (.lst (u0 ++ [.ref Y] ++ [.ref pp]))) r=some (.lst gm)/\MR (upd G' r (.lst (u0 ++ [.ref Y] ++ [.ref pp]))) gm I/\(∀v∈gm,v ≠ .ref r)/\(∀v∈gm,∃a,v = .ref a/\H a=none)/\I.length=i+1+1 /\ ∀t,t<=i+1->J6 ls (zfA g ls) (chA cs) t=I[t]?:=fun G' pp r' s' en br fO v4 v5 v6 v7=>by
   have wN:pp≠r:=fun z=>by rw[z,bU] at br;cases br
   rw[en] at bV;have Z:∀v∈u0 ++ [.ref Y] ++ [.ref pp],v ≠ .ref r:=fun v U=>by
    rcases Kg.mp U with z | z
    ·exact pG v z
    ·rw[kR.mp z];exact fun z=>wN (by injection z)
   refine⟨_,I ++ [r'],_,_,_,_,rfl,fun c o e=>by rw[Zi (Zg e az)];exact s' c o (S c o e),by rw[Zi (KA wM)];exact s' _ _ dR,Zd,?_,Z,fun v U=>?_,by rw[ki,lr];rfl,fun t ht=>?_⟩
   ·have all:MR G' (u0 ++ [.ref Y] ++ [.ref pp]) (I ++ [r']):=Aq ⟨pp,rfl,fO⟩ (L2.Paired.imp' (fun _ _ ⟨a,h1,h2⟩=>⟨a,h1,s' _ _ h2⟩) bA);have:∀{vs:QH}{L:QA},MR G' vs L->(∀v∈vs,v ≠ .ref r)->MR (upd G' r (.lst (u0 ++ [.ref Y] ++ [.ref pp]))) vs L:=fun x=>by
     induction x with
     | nil=>exact fun _=>.nil
     | cons h _ ih=>
      intro U;obtain⟨a,rfl,e⟩:=h;exact .cons ⟨a,rfl,by rw[Zi fun z=>U _ (.head _) (by rw[z])];exact e⟩ (ih fun v wO=>U v (.tail _ wO))
    exact this all Z
   ·rcases Kg.mp U with z | z
    ·exact dB v z
    ·exact⟨pp,kR.mp z,S.free br⟩
   ·by_cases e:t=i+1
    ·subst e;rw[bV,Kq (by lia),lr];simp
    ·rw[O t (by lia),KG (by lia)]
  refine⟨_,rfl,1,rfl,r,_,-1,.ref Y,rfl,rfl,Zr.of bU,UO _ _,?_⟩;refine⟨_,rfl,_,rfl,_,rfl,l,_,_,_,rfl,rfl,Zr.of (S _ _ hl),Zn ax,Y,ta,q,ps,rfl,gl,S _ _ aO,by lia,c7,ft.1,qb,kq,fun en G2 s2=>?_,fun r' pp G2 fP s2 br fO=>?_⟩
  ·exact⟨_,rfl,rfl,_,rfl,JU (J (by unfold nxt;rw[en]) G2 s2)⟩
  refine⟨_,rfl,rfl,_,rfl,YD ?_⟩;have lF:=s2 _ _ bU;have fN:=S.trans s2;have fl:∀v∈cs.map V.int,Ge v=true:=fun v U=>by obtain⟨z,_,rfl⟩:=Kw.mp U;rfl
  refine⟨_,rfl,_,rfl,p,_,rfl,.inl (Zr.of (fN _ _ ep)),rfl,Ks.mpr fl,_,rfl,?_⟩;rw[kh kO,DW];refine Z7 (fun cc=>?_) (fun cc=>?_)
  case refine_2=>
   have c0:chA cs i=false:=by simpa using cc
   have en:nxt ps q (zfA g ls i) (chA cs i)=some r':=by unfold nxt;rw[fP,c0];rfl
   refine⟨_,rfl,.inl ⟨rfl,_,Zr.of lF⟩,_,rfl,r,_,_,rfl,rfl,lF,(by rw[lw,kY];lia),?_⟩;exact put G2 pp r' s2 en br fO _ _ _ _
  have c1:chA cs i=true:=by simpa using cc
  have en:nxt ps q (zfA g ls i) (chA cs i)=if q.1 = "cross" /\ zfA g ls i=true/\N0 ps q.2.toNat=false then some ps else none:=by unfold nxt;rw[fP,c1];rfl
  have aa:=fN _ _ hl;have fQ:=fN _ _ aO;refine⟨_,rfl,_,rfl,l,_,_,_,rfl,rfl,Zr.of aa,Zn ax,ta,_,_,_,rfl,rfl,Y9.of fQ,Zn (j:=0) rfl,rfl,_,rfl,Z7 (fun c2=>?_) (fun c2=>?_)⟩
  ·refine JU (J ?_ G2 s2);rw[en,kh];rintro⟨e,_⟩;rw[e] at c2;exact absurd c2 (by decide)
  have ec:q.1 = "cross" := Nz fun z=>c2 (by rw[Kh (fun e=>z (by injection e))];rfl)
  have kt:isK ls U7 i=true:=by rw[Ut hq (pr:=U7),ec];decide
  have c9:hgA g ls i=some (g (YK ls i).1-g (YK ls i).2):=by unfold hgA;rw[kt];rfl
  obtain⟨hh,lG⟩:∃hh,g (YK ls i).1-g (YK ls i).2=hh:=⟨_,rfl⟩;rw[lG] at c9;have zi:zfA g ls i=decide (hh=0):=by show decide (hgA g ls i=some 0)=_;simp[c9]
  rw[c9];refine⟨_,rfl,rfl,_,rfl,Z7 (fun c3=>?_) (fun c3=>?_)⟩
  ·refine JU (J ?_ G2 s2);rw[en,kh];rintro⟨_,e,_⟩;rw[zi] at e;rw[kI e] at c3;exact absurd c3 (by decide)
  have h0:hh=0:=Nz fun z=>c3 (by rw[Kh (fun e=>z (by injection e))];rfl)
  have gp:=ft.1;obtain⟨kn,gq⟩:=kF gp;have lH:kn+1<ps.length:=by have:=qb (by rw[ec];decide);lia
  have ne:ps.getD kn 0≠(kn:Int)+1:=fun z=>by unfold Wm at fP;rw[gq,kM,z,ec,kh (by decide),kj (by rw[kH rfl];rfl)] at fP;cases fP
  have tb:=Co c7 lH ne;have dS:=s2 _ _ gl;have lI:G2 ta=some (.tup [.str q.1,.int (kn:Int)]):=by rw[<- gq];exact fQ
  refine⟨_,rfl,_,rfl,_,rfl,l,_,_,_,rfl,rfl,Zr.of aa,Zn ax,ta,_,_,_,rfl,rfl,Y9.of lI,Zn (j:=1) rfl,Y,kn,_,_,ps,rfl,dS,by lia,tb,_,rfl,Z7 (fun c4=>?_) (fun c4=>?_)⟩
  ·refine J ?_ G2 s2;rw[en,kh];rintro⟨_,_,e⟩;rw[gq,kM] at e;unfold N0 at e;rw[e] at c4;exact absurd c4 (by decide)
  have tq:N0 ps q.2.toNat=false:=by
   rw[gq,kM];unfold N0;cases z:GJ kn (ps.getD kn 0).toNat (ps.getD (kn+1) 0).toNat with
   | false=>rfl
   | true=>rw[z] at c4;exact absurd rfl c4
  rw[kj ⟨ec,by rw[zi,h0];rfl,tq⟩] at en;refine⟨_,rfl,Y,_,rfl,.inl (Zr.of dS),fun c fc=>?_⟩;refine lay2 (o:=.lst (ps.map V.int)) fc fun G3 s3 e3=>?_;have c8:=s3 _ _ lF;refine⟨_,rfl,.inl ⟨rfl,_,Zr.of c8⟩,_,rfl,r,_,_,rfl,rfl,c8,(by rw[lw,kY];lia),?_⟩;exact put G3 c ps (s2.trans s3) en (s2.free fc) e3 _ _ _ _
 ·rintro σ G ⟨W,I,v4,v5,v6,v7,rfl,sG,fJ,er,gk,pG,dB,lr,O⟩;rw[lh] at lr O;exact⟨_,rfl,k1 r W I G sG az er gk dB lr O⟩
def sm:Nat->(Nat->Nat)->Nat
 | 0,_=>0
 | n+1,f=>sm n f+f n
theorem Jw:∀(n:Nat){f g:Nat->Nat},(∀i,i<n->f i=g i)->sm n f=sm n g
 | 0,_,_,_=>rfl
 | n+1,f,g,h=>by rw[sm,sm,Jw n fun i hi=>h i (by lia),h n (by lia)]
theorem LA:∀(n:Nat){f g:Nat->Nat},(∀i,i<n->f i<=g i)->sm n f<=sm n g
 | 0,_,_,_=>km _
 | n+1,f,g,h=>Nat.add_le_add (LA n fun i hi=>h i (by lia)) (h n (by lia))
theorem Cp:∀(n:Nat)(f g:Nat->Nat),sm n (fun i=>f i+g i)=sm n f+sm n g
 | 0,_,_=>rfl
 | n+1,f,g=>by rw[sm,sm,sm,Cp n f g];lia
theorem IF:∀(n:Nat),sm n (fun _=>0)=0
 | 0=>rfl
 | n+1=>by rw[sm,IF n]
def uq (k i:Nat):Nat:=if i<k then i else i+2
theorem IG (h:i<k):uq k i=i:=kj h
theorem IH (h:k<=i):uq k i=i+2:=kh (by lia)
theorem ZmT :uq k i<uq k j ↔ i<j:=by unfold uq;split<;>split<;>lia
theorem Cq (k:Nat)(g:Nat->Nat):∀m,sm (k+m+2) g=sm (k+m) (fun i=>g (uq k i))+(g k+g (k+1))
 | 0=>by
  show sm k g+g k+g (k+1)=sm k (fun i=>g (uq k i))+(g k+g (k+1));rw[Jw k (f:=fun i=>g (uq k i)) (g:=g) fun i hi=>by rw[IG hi]];lia
 | m+1=>by have e:=Cq k g m;show sm (k+m+2) g+g (k+m+2)=sm (k+m) _+g (uq k (k+m))+_;rw[e,IH (by lia)];lia
def sg (k i:Nat):Nat:=if i=k then k+1 else if i=k+1 then k else i
theorem Rj (k:Nat)(g:Nat->Nat):∀m,sm (k+2+m) (fun i=>g (sg k i))=sm (k+2+m) g
 | 0=>by
  show sm k _+g (sg k k)+g (sg k (k+1))=sm k g+g k+g (k+1);rw[Jw k (f:=fun i=>g (sg k i)) (g:=g) fun i hi=>by rw[sg,kh (by lia),kh (by lia)],sg,kj rfl,sg,kh (by lia),kj rfl];lia
 | m+1=>by have e:=Rj k g m;show sm (k+2+m) (fun i=>g (sg k i))+g (sg k (k+2+m))=sm (k+2+m) g+g (k+2+m);rw[e,sg,kh (by lia),kh (by lia)]
theorem Rk {x:Nat}(c:Nat):∀n,x<n->sm n (fun i=>if i=x then c else 0)=c
 | 0,h=>by lia
 | n+1,h=>by
  rw[sm];by_cases e:n=x
  ·rw[kj e,Jw n (g:=fun _=>0) fun i hi=>kh (by lia),IF];lia
  ·rw[kh e,Rk c n (by lia),XX]
def Tg (x y px py:Nat):Prop:=x<y/\y<px/\px<py
instance (x y px py:Nat):Decidable (Tg x y px py):=inferInstanceAs (Decidable (_/\_))
def tg (x y px py:Nat):Nat:=if Tg x y px py then 1 else 0
def iX (n:Nat)(p:Nat->Nat):Nat:=sm n fun x=>sm n fun y=>tg x y (p x) (p y)
def dl (x0 y0 x y:Nat):Nat:=if x=x0 then(if y=y0 then 1 else 0) else 0
theorem Ar {x0 y0:Nat}(F:x0<n)(I:y0<n):sm n (fun x=>sm n fun y=>dl x0 y0 x y)=1:=by
 rw[Jw n (g:=fun x=>if x=x0 then 1 else 0) fun x _=>?_,Rk 1 n F];by_cases e:x=x0
 ·rw[kj e,Jw n (g:=fun y=>if y=y0 then 1 else 0) fun y _=>by rw[dl,kj e],Rk 1 n I]
 ·rw[kh e,Jw n (g:=fun _=>0) fun y _=>by rw[dl,kh e],IF]
theorem As {x:Nat}:tg (uq k x) (uq k y) (uq k a) (uq k b)=tg x y a b:=by
 unfold tg;have e:Tg (uq k x) (uq k y) (uq k a) (uq k b) ↔ Tg x y a b:=by unfold Tg;simp only[ZmT]
 by_cases h:Tg x y a b
 ·rw[kj h,kj (e.mpr h)]
 ·rw[kh h,kh fun z=>h (e.mp z)]
theorem Zrk {q:Nat->Nat}(hk:k<=n)(h:∀i,i<n->q (uq k i)=uq k (p i)):iX n p<=iX (n+2) q:=by obtain⟨m,rfl⟩:=qX hk;unfold iX;rw[Cq];refine Kb (LA _ fun x F=>?_) (Xa _ _);rw[Cq];refine Kb (LA _ fun y I=>?_) (Xa _ _);rw[h x F,h y I,As];exact km _
theorem Zri {q:Nat->Nat}(hk:k<=n)(h:∀i,i<n->q (uq k i)=uq k (p i))(h0:q k=k+1)(h1:q (k+1)=k):iX (n+2) q<=iX n p:=by have F:∀y,tg k y (q k) (q y)=0:=fun y=>kh (by unfold Tg;lia);have I:∀y,tg (k+1) y (q (k+1)) (q y)=0:=fun y=>kh (by unfold Tg;lia);have J:∀x,tg x k (q x) (q k)=0:=fun x=>kh (by unfold Tg;lia);have O:∀x,tg x (k+1) (q x) (q (k+1))=0:=fun x=>kh (by unfold Tg;lia);obtain⟨m,rfl⟩:=qX hk;unfold iX;rw[Cq,Jw _ (g:=fun _=>0) fun y _=>F y,Jw _ (g:=fun _=>0) fun y _=>I y,IF];refine LA _ fun x S=>?_;rw[Cq,J,O];refine LA _ fun y U=>?_;rw[h x S,h y U,As];exact km _
theorem II (k:Nat):sg k k=k+1:=kj rfl
theorem IJ (k:Nat):sg k (k+1)=k:=by rw[sg,kh (Nat.succ_ne_self k),kj rfl]
theorem LP {x:Nat}(h1:x≠k)(h2:x≠k+1):sg k x=x:=by rw[sg,kh h1,kh h2]
theorem Rl {u v:Nat}(h:u<v)(n:¬(u=k/\v=k+1)):sg k u<sg k v:=by
 by_cases F:u=k
 ·subst F;rw[II,LP (by lia) (by lia)];lia
 ·by_cases I:u=k+1
  ·subst I;rw[IJ,LP (by lia) (by lia)];lia
  ·rw[LP F I];by_cases J:v=k
   ·subst J;rw[II];lia
   ·by_cases O:v=k+1
    ·subst O;rw[IJ];lia
    ·rw[LP J O];exact h
theorem Au {q:Nat->Nat}(hk:k+1<n)(h:∀i,i<n->q (sg k i)=sg k (p i)):iX n q=sm n fun x=>sm n fun y=>tg (sg k x) (sg k y) (sg k (p x)) (sg k (p y)):=by obtain⟨m,rfl⟩:∃m,n=k+2+m:=⟨n-(k+2),by lia⟩;unfold iX;rw[<- Rj k];refine Jw _ fun x F=>?_;rw[<- Rj k];refine Jw _ fun y I=>?_;rw[h x F,h y I]
structure Two (n k a b:Nat)(p:Nat->Nat):Prop where
 hk:k+1<n
 ha:a<n
 hb:b<n
 a1:a≠k
 a2:a≠k+1
 b1:b≠k
 b2:b≠k+1
 ab:a≠b
 inv:∀i,i<n->p (p i)=i
 pk:p k=a
 pk1:p (k+1)=b
theorem Two.pa (T:Two n k a b p):p a=k:=by rw[<- T.pk];exact T.inv k (Nat.lt_of_succ_lt T.hk)
theorem Two.pb (T:Two n k a b p):p b=k+1:=by rw[<- T.pk1];exact T.inv (k+1) T.hk
theorem Two.near (T:Two n k a b p){x:Nat}(I:x<n)(U:y<n)(h:Tg x y (p x) (p y))(h':¬Tg (sg k x) (sg k y) (sg k (p x)) (sg k (p y))):
  (x=k/\y=k+1/\k+1<a/\a<b)∨(x=b/\y=k/\b<k/\k+1<a)∨(x=a/\y=b/\a<b/\b<k):=by
 obtain⟨h1,h2,F⟩:=h;by_cases J:x=k/\y=k+1
 ·obtain⟨rfl,rfl⟩:=J;rw[T.pk] at h2 F;rw[T.pk1] at F;exact .inl ⟨rfl,rfl,h2,F⟩
 by_cases O:y=k/\p x=k+1
 ·obtain⟨rfl,e⟩:=O;have ex:x=b:=by rw[<- T.inv x I,e,T.pk1]
  subst ex;rw[e,T.pk] at F;exact .inr (.inl ⟨rfl,rfl,h1,F⟩)
 by_cases S:p x=k/\p y=k+1
 ·obtain⟨e,V⟩:=S;have ex:x=a:=by rw[<- T.inv x I,e,T.pk]
  have W:y=b:=by rw[<- T.inv y U,V,T.pk1]
  subst ex W;rw[e] at h2;exact .inr (.inr ⟨rfl,rfl,h1,h2⟩)
 exact absurd ⟨Rl h1 J,Rl h2 O,Rl F S⟩ h'
theorem Two.lowA (T:Two n k a b p):p (min k a)=max k a/\sg k (min k a)=min (k+1) a/\sg k (max k a)=max (k+1) a:=by
 have h1:=T.a1;have h2:=T.a2;by_cases c:a<k
 ·rw[KU (by lia),qz (by lia),KU (by lia),qz (by lia),II,LP h1 h2];exact⟨T.pa,rfl,rfl⟩
 ·rw[K7 (by lia),qr (by lia),K7 (by lia),qr (by lia),II,LP h1 h2];exact⟨T.pk,rfl,rfl⟩
theorem Two.lowB (T:Two n k a b p):p (min (k+1) b)=max (k+1) b/\sg k (min (k+1) b)=min k b/\sg k (max (k+1) b)=max k b:=by
 have h1:=T.b1;have h2:=T.b2;by_cases c:b<k
 ·rw[KU (by lia),qz (by lia),KU (by lia),qz (by lia),IJ,LP h1 h2];exact⟨T.pb,rfl,rfl⟩
 ·rw[K7 (by lia),qr (by lia),K7 (by lia),qr (by lia),IJ,LP h1 h2];exact⟨T.pk1,rfl,rfl⟩
theorem ZmH (a1:a≠k)(a2:a≠k+1)(b1:b≠k)(b2:b≠k+1)(ab:a≠b)
  (F:¬(min k a<min (k+1) b/\min (k+1) b<max k a/\max k a<max (k+1) b)) (I:¬(min (k+1) b<min k a/\min k a<max (k+1) b/\max (k+1) b<max k a)):
  (min (k+1) a<min k b->Tg (min (k+1) a) (min k b) (max (k+1) a) (max k b))/\(min k b<min (k+1) a->Tg (min k b) (min (k+1) a) (max k b) (max (k+1) a)):=by
 unfold Tg;have ha:a<k∨k+1<a:=by lia
 have hb:b<k∨k+1<b:=by lia
 rcases ha with ha | ha<;>rcases hb with hb | hb
 ·rw[KU (by lia),KU (by lia),qz (by lia),qz (by lia)] at F I;rw[KU (by lia),KU (by lia),qz (by lia),qz (by lia)];lia
 ·rw[KU (by lia),K7 (by lia),qz (by lia),qr (by lia)];lia
 ·rw[K7 (by lia),KU (by lia),qr (by lia),qz (by lia)];lia
 ·rw[K7 (by lia),K7 (by lia),qr (by lia),qr (by lia)] at F I;rw[K7 (by lia),K7 (by lia),qr (by lia),qr (by lia)];lia
theorem Two.tng {q:Nat->Nat}(T:Two n k a b p)(h:∀i,i<n->q (sg k i)=sg k (p i)):iX n p<=iX n q+1:=by
 obtain⟨F,I,J,O,h0⟩:∃F I,F<n/\I<n/\((min k a<min (k+1) b/\F=min k a/\I=min (k+1) b)∨(min (k+1) b<min k a/\F=min (k+1) b/\I=min k a)):=by
  have:=T.hk;have:=T.ha;have:=T.hb;have:=T.a1;have:=T.a2;have:=T.b1;have:=T.b2;have:=T.ab;by_cases c:min k a<min (k+1) b
  ·exact⟨_,_,by lia,by lia,.inl ⟨c,rfl,rfl⟩⟩
  ·exact⟨_,_,by lia,by lia,.inr ⟨by lia,rfl,rfl⟩⟩
 rw[Au T.hk h,<- Ar J O,<- Cp];refine LA _ fun x S=>?_;rw[<- Cp];refine LA _ fun y U=>?_;have key:Tg x y (p x) (p y)->Tg (sg k x) (sg k y) (sg k (p x)) (sg k (p y))∨(x=F/\y=I):=fun h=>by
  by_cases h':Tg (sg k x) (sg k y) (sg k (p x)) (sg k (p y))
  ·exact .inl h'
  ·refine .inr ?_;rcases T.near S U h h' with z | z | z<;>clear h h'<;>lia
 unfold tg dl;by_cases c:Tg x y (p x) (p y)
 ·rw[kj c];rcases key c with z | ⟨V,W⟩
  ·rw[kj z];exact Xa _ _
  ·rw[kj V,kj W];exact Nat.le_add_left _ _
 ·rw[kh c];exact Kn _
theorem Two.apart {q:Nat->Nat}(T:Two n k a b p)(h:∀i,i<n->q (sg k i)=sg k (p i))(t:GJ k a b=false):iX n p+1<=iX n q:=by
 have t':¬(min k a<min (k+1) b/\min (k+1) b<max k a/\max k a<max (k+1) b) /\ ¬(min (k+1) b<min k a/\min k a<max (k+1) b/\max (k+1) b<max k a):=by
  unfold GJ at t;rw[Bool.or_eq_false_iff] at t;refine⟨fun z=>?_,fun z=>?_⟩
  ·rw[kH z.1,kH z.2.1,kH z.2.2] at t;exact absurd t.1 (by decide)
  ·rw[kH z.1,kH z.2.1,kH z.2.2] at t;exact absurd t.2 (by decide)
 obtain⟨F,J,S,U,h0⟩:∃F J,F<n/\J<n/\((min (k+1) a<min k b/\F=min k a/\J=min (k+1) b)∨(min k b<min (k+1) a/\F=min (k+1) b/\J=min k a)):=by
  have:=T.hk;have:=T.ha;have:=T.hb;have:=T.a1;have:=T.a2;have:=T.b1;have:=T.b2;have:=T.ab;by_cases c:min (k+1) a<min k b
  ·exact⟨_,_,by lia,by lia,.inl ⟨c,rfl,rfl⟩⟩
  ·exact⟨_,_,by lia,by lia,.inr ⟨by lia,rfl,rfl⟩⟩
 rw[Au T.hk h,<- Ar S U];unfold iX;rw[<- Cp];refine LA _ fun x V=>?_;rw[<- Cp];refine LA _ fun y W=>?_;have O:Tg x y (p x) (p y)->Tg (sg k x) (sg k y) (sg k (p x)) (sg k (p y)):=fun h=>by
  by_cases h':Tg (sg k x) (sg k y) (sg k (p x)) (sg k (p y))
  ·exact h'
  ·exfalso;obtain⟨t1,t2⟩:=t';rcases T.near V W h h' with z | z | z<;>clear h h' h0 t<;>lia
 have I:x=F/\y=J->Tg (sg k x) (sg k y) (sg k (p x)) (sg k (p y)) /\ ¬Tg x y (p x) (p y):=fun⟨Y,Z⟩=>by
  obtain⟨A1,A2,A3⟩:=T.lowA;obtain⟨B1,B2,B3⟩:=T.lowB;obtain⟨s1,s2⟩:=ZmH T.a1 T.a2 T.b1 T.b2 T.ab t'.1 t'.2;subst Y Z;rcases h0 with⟨h0,rfl,rfl⟩ | ⟨h0,rfl,rfl⟩
  ·rw[A1,B1,A2,A3,B2,B3];exact⟨s1 h0,t'.1⟩
  ·rw[A1,B1,A2,A3,B2,B3];exact⟨s2 h0,t'.2⟩
 unfold tg dl;by_cases d:x=F/\y=J
 ·rw[kh (I d).2,kj d.1,kj d.2,kj (I d).1];exact km _
 ·have e:(if x=F then if y=J then 1 else 0 else 0)=0:=by
   by_cases c:x=F
   ·rw[kj c,kh fun z=>d ⟨c,z⟩]
   ·rw[kh c]
  rw[e,XX];by_cases c:Tg x y (p x) (p y)
  ·rw[kj c,kj (O c)];exact km _
  ·rw[kh c];exact Kn _
def fb:Nat->Nat
 | 0=>0
 | 1=>1
 | n+2=>fb (n+1)+fb n
theorem ZrE:∀n,fb n<=fb (n+1)
 | 0=>Kn _
 | n+1=>Xa _ _
theorem Cr {m:Nat}(h:m<=n):fb m<=fb n:=by
 obtain⟨d,rfl⟩:=qX h;clear h
 induction d with
 | zero=>exact km _
 | succ d ih=>exact Kb ih (ZrE _)
def pV (ps:QG)(i:Nat):Nat:=(ps.getD i 0).toNat
def iQ (ps:QG):Nat:=iX ps.length (pV ps)
theorem Uv (h:ps[i]? = some ((j:Nat):Int)):pV ps i=j:=by unfold pV;rw[k7,h];rfl
theorem IK (pt:PtL ps)(hi:i<ps.length):∃j:Nat,ps[i]? = some (j:Int)/\ps[j]? = some (i:Int)/\j≠i:=by obtain⟨j,e,h1,h2⟩:=pt i _ (ko hi);exact⟨j,by rw[ko hi,e],h1,h2⟩
theorem ZrF (k j:Nat):upB k (j:Int)=((uq k j:Nat):Int):=by
 unfold upB uq;by_cases c:j<k
 ·rw[kh (by lia),kj c]
 ·rw[kj (by lia),kh c];lia
theorem Zn4 (pt:PtL ps)(hk:k<=ps.length):iQ ps<=iQ (Wr ps k):=by
 unfold iQ;rw[Ck];refine Zrk hk fun i hi=>?_;obtain⟨j,e,_,_⟩:=IK pt hi;rw[Uv e];refine Uv ?_;rw[GG hk,<- ZrF];by_cases c:i<k
 ·rw[IG c,kj c,e];rfl
 ·rw[IH (by lia),kh (by lia),kh (by lia),kh (by lia),Nu,e];rfl
theorem Zpx (pt:PtL ps)(hk:k+1<ps.length)(S:ps[k]? = some ((k:Int)+1)):iQ ps<=iQ (Ma ps k):=by
 have I:ps[k]? = some (((k+1:Nat):Nat):Int):=S;have U:ps[k+1]? = some ((k:Nat):Int):=by
  obtain⟨j,x1,V,_⟩:=pt k _ S;have:j=k+1:=by lia
  subst this;exact V
 have W:=BW hk;unfold iQ;rw[<- W];refine Zri (by lia) (fun i hi=>?_) (Uv I) (Uv U);have Y:uq k i<ps.length:=by unfold uq;split<;>lia
 obtain⟨j,e,F,_⟩:=IK pt Y;have nk:j≠k:=fun z=>by
  subst z;rw[I] at F;injection F with F
  have:uq j i=j+1:=by lia
  unfold uq at this;split at this<;>lia
 have Z:j≠k+1:=fun z=>by
  subst z;rw[U] at F;injection F with F
  have:uq k i=k:=by lia
  unfold uq at this;split at this<;>lia
 obtain⟨J,O⟩:∃J,j=uq k J:=by
  by_cases c:j<k
  ·exact⟨j,(IG c).symm⟩
  ·exact⟨j-2,by rw[IH (by lia)];lia⟩
 rw[Uv e,O];congr 1;refine(Uv ?_).symm;rw[Cm hk];have:(if i<k then ps[i]? else ps[i+2]?)=ps[uq k i]?:=by unfold uq;split<;>rfl
 rw[this,e,qC];congr 1;unfold dnE;by_cases c:J<k
 ·rw[IG c] at O;rw[kh (by lia)];lia
 ·rw[IH (by lia)] at O;rw[kj (by lia)];lia
theorem Zoe (h:MC ps k a b):Two ps.length k a b (pV ps):=by
 obtain⟨Y,Z,F,I,J,O,S,U,V⟩:=h.facts;exact⟨V,S,U,F,h.ne,J,I,O,fun i hi=>by obtain⟨j,e,W,_⟩:=IK h.pt hi;rw[Uv e,Uv W],Uv h.ea,Uv h.eb⟩
theorem Zqn (k j:Nat):Um k (j:Int)=((sg k j:Nat):Int):=by
 unfold Um sg;by_cases c:j=k
 ·rw[kj (by lia),kj c];rfl
 ·rw[kh (by lia),kh c];by_cases d:j=k+1
  ·rw[kj (by lia),kj d]
  ·rw[kh (by lia),kh d]
theorem Av (h:MC ps k a b):∀i,i<ps.length->pV (JP ps k) (sg k i)=sg k (pV ps i):=fun i hi=>by
 obtain⟨O,S,F,I,J,U,V,W,Y⟩:=h.facts;refine Uv ?_;rw[GI h];by_cases c:i=k
 ·subst c;rw[Uv h.ea,sg,kj rfl,kj rfl,sg,kh F,kh h.ne]
 by_cases d:i=k+1
 ·subst d;have z:sg k (k+1)=k:=by rw[sg,kh (by lia),kj rfl]
  rw[z,kh (by lia),kj rfl,Uv h.eb,sg,kh J,kh I]
 obtain⟨j,e,_,_⟩:=IK h.pt hi;have z:sg k i=i:=by rw[sg,kh c,kh d]
 rw[z,kh d,kh c,e,Uv e,qC,Zqn]
theorem ZmK (ps:QG)(k:Nat):Wm ps (("born" : Str),(k:Int))=some (Wr ps k):=by unfold Wm;rw[kj rfl];rfl
theorem Zkw (ps:QG)(k:Nat):Wm ps (("cross" : Str),(k:Int))=if ps.getD k 0=(k:Int)+1 then none else some (JP ps k):=by
 unfold Wm;dsimp only;rw[kh (by decide),kM];by_cases c:ps.getD k 0=(k:Int)+1
 ·rw[kj c,kj (by rw[kH c];rfl)]
 ·rw[kh c,kh (by rw[Kh c];exact fun z=>kO z),kh (by decide)]
theorem Zop (ps:QG)(k:Nat):Wm ps (("end" : Str),(k:Int))=if ps.getD k 0=(k:Int)+1 then some (Ma ps k) else none:=by
 unfold Wm;dsimp only;rw[kh (by decide),kM];by_cases c:ps.getD k 0=(k:Int)+1
 ·rw[kj c,kh (by rw[kH c];exact fun z=>kO z),kj rfl]
 ·rw[kh c,kj (by rw[Kh c];rfl)]
abbrev LZ:=List ((Str×Int)×Bool)
def cW:LZ->List Int->Nat
 | [],_=>1
 | e::L,ps=>match Wm ps e.1 with
  | none=>0
  | some r=>cW L r+(if e.1.1 = "cross" /\ e.2=true/\N0 ps e.1.2.toNat=false then cW L ps else 0)
def Fwd:Int->List (Str×Int)->Prop
 | n,[]=>n=0
 | n,q::L=>∃m,De q n m/\Fwd m L
theorem cw_born (ps : QG)(k : Nat)(z : Bool)(L : LZ) : cW ((((("born" : Str), (k : Int)) : Str × Int), z) :: L) ps = cW L (Wr ps k) := by rw[cW, ZmK];dsimp only;rw[kh (fun z => absurd z.1 (by decide)), XX]
theorem cw_cross (ps : QG)(k : Nat)(z : Bool)(L : LZ) : cW ((((("cross" : Str), (k : Int)) : Str × Int), z) :: L) ps = if ps.getD k 0 = (k : Int) + 1 then 0 else cW L (JP ps k) + (if z = true /\ N0 ps k = false then cW L ps else 0) := by
 rw[cW, Zkw];by_cases c : ps.getD k 0 = (k : Int) + 1
 ·rw[kj c, kj c]
 ·rw[kh c, kh c];dsimp only;congr 1;by_cases d : z = true /\ N0 ps k = false
  ·rw[kj d, kj ⟨rfl, d⟩]
  ·rw[kh d, kh fun x => d x.2]
theorem cw_end (ps : QG)(k : Nat)(z : Bool)(L : LZ) : cW ((((("end" : Str), (k : Int)) : Str × Int), z) :: L) ps = if ps.getD k 0 = (k : Int) + 1 then cW L (Ma ps k) else 0 := by
 rw[cW, Zop];by_cases c : ps.getD k 0 = (k : Int) + 1
 ·rw[kj c, kj c];dsimp only;rw[kh (fun z => absurd z.1 (by decide)), XX]
 ·rw[kh c, kh c]
theorem Aw (h:ps[i]? = some x):ps.getD i 0=x:=by rw[k7,h];rfl
theorem Ax (hi:i<ps.length)(h:ps.getD i 0=x):ps[i]? = some x:=by rw[k7,ko hi] at h;rw[ko hi];exact Kx some h
theorem cw_fb : ∀ (L : LZ){ps : QG}{n : Int}, PtL ps -> (ps.length : Int) = n -> Fwd n (L.map (·.1)) -> cW L ps <= fb (nX (L.map (·.1)) + 1 - iQ ps)
 | [], ps, n, pt, hl, F => by
  have e : n = 0 := F;have : ps = [] := qw.mp (by lia);subst this;exact km _
 | ((kd, k), z) :: L, ps, n, pt, hl, F => by
  obtain⟨m, ⟨k0, S⟩, F⟩ := F;dsimp only at k0 S;obtain⟨k, rfl⟩ := kF k0;have nx : nX ((((kd, (k : Int)), z) :: L).map (·.1)) = nX (L.map (·.1)) + if kd = ("cross" : Str) then 1 else 0 := by unfold nX;rw[Ko, XT];by_cases c : kd = ("cross" : Str) <;> simp[c]
  rw[nx];rcases S with⟨rfl, U, rfl⟩ | ⟨rfl, U, rfl⟩ | ⟨rfl, U, rfl⟩
  ·rw[cw_born, kh (by decide)];have hk : k <= ps.length := by lia
   have h1 := cw_fb L (pt.born hk) (by rw[Ck]; lia) F;have := Zn4 pt hk;exact Kb h1 (Cr (by lia))
  ·rw[cw_cross, kj (show ("cross" : Str) = "cross" from rfl)];split
   ·exact Kn _
   ·rename_i ne
    have tb := Co pt (by lia) ne;have T := Zoe tb;have I : (JP ps k).length = ps.length := BX _ _;have h1 : iQ ps <= iQ (JP ps k) + 1 := by unfold iQ; rw[I]; exact T.tng (Av tb)
    have V := cw_fb L tb.kept (by rw[I]; exact hl) F;split
    ·rename_i d
     have h2 : iQ ps + 1 <= iQ (JP ps k) := by unfold iQ; rw[I]; exact T.apart (Av tb) d.2
     have W := cw_fb L pt hl F;by_cases d : iQ ps <= nX (L.map (·.1))
     ·obtain⟨e, Z⟩ := qX d;have J : nX (L.map (·.1)) + 1 + 1 - iQ ps = e + 2 := by lia
      have O : nX (L.map (·.1)) + 1 - iQ ps = e + 1 := by lia
      have e3 : fb (nX (L.map (·.1)) + 1 - iQ (JP ps k)) <= fb e := Cr (by lia);rw[J, fb];rw[O] at W;lia
     ·have J : nX (L.map (·.1)) + 1 - iQ (JP ps k) = 0 := by lia
      have O : nX (L.map (·.1)) + 1 - iQ ps = 0 := by lia
      rw[J] at V;rw[O] at W;have : fb 0 = 0 := rfl;lia
    ·exact Kb V (Cr (by lia))
  ·rw[cw_end, kh (show ¬ ("end" : Str) = "cross" by decide)];split
   ·rename_i e
    have Y := Ax (by lia) e;have hk : k + 1 < ps.length := by lia
    have h1 := cw_fb L (pt.ended Y) (by have := BW hk; lia) F;have := Zpx pt hk Y;exact Kb h1 (Cr (by lia))
   ·exact Kn _
theorem Ay (k:Nat)(x:Int):dnE k (upB k x)=x:=by unfold dnE upB;split<;>split<;>lia
theorem ZlE (hk:k<=ps.length):Ma (Wr ps k) k=ps:=by
 refine XI fun i=>?_;rw[Cm (by rw[Ck];lia)];by_cases c:i<k
 ·rw[kj c,GG hk,kj c,Option.map_map,show dnE k ∘ upB k=id from funext (Ay k),Option.map_id,id]
 ·rw[kh c,GG hk,kh (by lia),kh (by lia),kh (by lia),Nu,Option.map_map,show dnE k ∘ upB k=id from funext (Ay k),Option.map_id,id]
theorem cw_curl {p q : Int}{z1 z2 z3 : Bool}{L : LZ}(pt : PtL ps)(O : 0 <= p)(S : 0 <= q)(V : p <= ps.length)(W : q <= ps.length)(h : q = p + 1 ∨ p = q + 1) :
  cW ((((("born" : Str), p) : Str × Int), z1) :: (((("cross" : Str), q) : Str × Int), z2) :: (((("end" : Str), p) : Str × Int), z3) :: L) ps <= cW L ps := by
 obtain⟨p, rfl⟩ := kF O;obtain⟨q, rfl⟩ := kF S;have F : p <= ps.length := by lia
 have at_ := GG (ps := ps) F;have I : (Wr ps p)[p]? = some ((p : Int) + 1) := by rw[at_, kh (by lia), kj rfl]
 have Y : (Wr ps p)[p + 1]? = some (p : Int) := by rw[at_, kh (by lia), kh (by lia), kj rfl]
 have Z := Ck ps p;rw[cw_born, cw_cross];split
 ·exact Kn _
 ·rename_i ne
  have tb := Co (pt.born F) (by lia) ne;have k0 : cW ((((("end" : Str), (p : Int)) : Str × Int), z3) :: L) (JP (Wr ps p) q) = 0 := by
   rw[cw_end, kh];intro z;have z := Ax (by rw[BX]; lia) z;rw[GI tb] at z;rcases h with h | h
   ·have : q = p + 1 := by lia
    subst this;rw[kh (by lia), kh (by lia), I, qC, Um, kj (by lia)] at z;injection z;lia
   ·have : p = q + 1 := by lia
    subst this;rw[kj rfl] at z;injection z with z
    have J : (Wr ps (q + 1))[q]? = ps[q]?.map (upB (q + 1)) := by rw[at_, kj (by lia)]
    obtain⟨x, U⟩ : ∃ x, ps[q]? = some x := ⟨_, ko (by lia)⟩;rw[U, qC] at J;rw[Aw J] at z;unfold upB at z;split at z <;> lia
  rw[k0, Xy];split
  ·rw[cw_end, kj (Aw I), ZlE F];exact km _
  ·exact Kn _
theorem cw_ins {p q : Int}{z1 z2 z3 : Bool}{b : LZ}(h : q = p + 1 ∨ p = q + 1) : ∀ (a : LZ){ps : QG}{n : Int}, PtL ps -> (ps.length : Int) = n ->
  Fwd n ((a ++ ([(((("born" : Str), p) : Str × Int), z1), (((("cross" : Str), q) : Str × Int), z2), (((("end" : Str), p) : Str × Int), z3)] ++ b)).map (·.1)) ->
  cW (a ++ ([(((("born" : Str), p) : Str × Int), z1), (((("cross" : Str), q) : Str × Int), z2), (((("end" : Str), p) : Str × Int), z3)] ++ b)) ps <= cW (a ++ b) ps
 | [], ps, n, pt, hl, F => by
  obtain⟨U, ⟨k1, J⟩, V, ⟨k2, O⟩, _⟩ := F;dsimp only at k1 J k2 O;rcases J with⟨_, W, Y⟩ | ⟨x, _⟩ | ⟨x, _⟩
  ·rcases O with⟨x, _⟩ | ⟨_, Z, g4⟩ | ⟨x, _⟩
   ·exact absurd x (by decide)
   ·exact cw_curl pt k1 k2 (by lia) (by lia) h
   ·exact absurd x (by decide)
  ·exact absurd x (by decide)
  ·exact absurd x (by decide)
 | e :: a, ps, n, pt, hl, F => by
  obtain⟨m, I, F⟩ := F;show cW (e :: (a ++ _)) ps <= cW (e :: (a ++ b)) ps;rw[cW, cW];split
  ·exact km _
  ·rename_i r hm
   obtain⟨pr, S⟩ := B5 pt hl I hm;refine Nat.add_le_add (cw_ins h a pr S F) ?_;split
   ·rename_i d
    obtain⟨_, I⟩ := I;rcases I with⟨x, _⟩ | ⟨_, _, x⟩ | ⟨x, _⟩
    ·exact absurd (x.symm.trans d.1) (by decide)
    ·subst x;exact cw_ins h a pt hl F
    ·exact absurd (x.symm.trans d.1) (by decide)
   ·exact km _
theorem IL:∀(b:QB){a:QB}{n:Int},Wk (a++b) 0->Wk a n->Fwd n b
 | [],a,n,h,g=>by rw[KY] at h;exact Cn g h
 | q::b,a,n,h,g=>by
  have e:a++q::b=a ++ [q]++b:=by simp
  rw[e] at h;obtain⟨m,F⟩:=GD h (a.length+1);rw[show (a ++ [q]++b).take (a.length+1)=a ++ [q] by rw[qU (by simp)];exact kL (by simp)] at F;obtain⟨O,I,J⟩:=Iu F;have:=Cn g I;subst this;exact⟨m,J,IL b h F⟩
theorem IM:∀(ls:QB)(zs:List Bool),zs.length=ls.length->(ls.zip zs).map (·.1)=ls:=fun ls zs h=>List.map_fst_zip (by lia)
theorem ZnJ {M:Nat}(h:Crl M ls):Wk ls 0 -> ∀zs:List Bool,zs.length=ls.length->cW (ls.zip zs) []<=fb (M+1):=by
 induction h with
 | base h=>
  intro w zs hz;have:=cw_fb (List.zip _ zs) (ps:=[]) (n:=0) (fun i x e=>by simp at e) rfl (by rw[IM _ _ hz];exact IL _ (a:=[]) w .nil);rw[IM _ _ hz] at this;exact Kb this (Cr (by lia))
 | @curl a b p q h w0 hq ih=>
  intro w zs hz;have V:(crl p q).length=3:=rfl;rw[ki,ki,V] at hz;obtain⟨F,J,rfl,la⟩:∃F J,zs=F++J/\F.length=a.length:=⟨zs.take a.length,zs.drop a.length,(KP _ _).symm,by rw[kK];lia⟩;rw[ki] at hz
  match J,hz with
  | O::S::U::I,hz=>
   have lb:I.length=b.length:=by simp only[Kk] at hz;lia
   have e:(a++crl p q++b).zip (F++O::S::U::I)=a.zip F++([(((("born" : Str),p):Str×Int),O),(((("cross" : Str),q):Str×Int),S),(((("end" : Str),p):Str×Int),U)]++b.zip I):=by rw[Kl,List.zip_append la.symm];rfl
   have m:(a.zip F++([(((("born" : Str),p):Str×Int),O),(((("cross" : Str),q):Str×Int),S),(((("end" : Str),p):Str×Int),U)]++b.zip I)).map (·.1)=a++crl p q++b:=by rw[kP,kP,IM _ _ la,IM _ _ lb,Kl];rfl
   rw[e];refine Kb (cw_ins hq (a.zip F) (ps:=[]) (n:=0) (fun i x e=>by simp at e) rfl (by rw[m];exact IL _ (a:=[]) w .nil)) ?_;rw[<- List.zip_append la.symm];exact ih w0 _ (by rw[ki,ki];lia)
  | [],hz=>simp at hz;lia
  | [_],hz=>simp at hz;lia
  | [_,_],hz=>simp at hz;lia
theorem cw_step (q : Str × Int)(z : Bool)(t : Nat)(L : LZ)(r : QG × QG) : ((JR q z t r).map fun x => cW L x.2).sum = cW ((q, z) :: L) r.2 := by
 rw[cW];unfold JR;dsimp only;cases Wm r.2 q with
 | none => rfl
 | some ps =>
  dsimp only;split <;> simp
theorem Az {α β:Type}(f:α -> List β)(g:β -> Nat)(k:α -> Nat)(h:∀x,((f x).map g).sum=k x):∀l:List α,((l.flatMap f).map g).sum=(l.map k).sum
 | []=>rfl
 | x::l=>by rw[List.flatMap_cons,kP,T1,h,Az f g k h l,Ko,NR]
theorem AA {ls:QB}{z:Nat->Bool}:∀i,i<=ls.length->((Yo ls z i).map fun r=>cW ((ls.zip ((List.range ls.length).map z)).drop i) r.2).sum=cW (ls.zip ((List.range ls.length).map z)) []
 | 0,_=>by rw[Yo,MM];simp
 | i+1,h=>by
  have F:ls[i]? = some ls[i]:=ko (by lia);rw[<- AA i (by lia),Yo,F];have hi:i<(ls.zip ((List.range ls.length).map z)).length:=by rw[TZ,ke,qj];lia
  rw[K6 hi];have:(ls.zip ((List.range ls.length).map z))[i]=(ls[i],z i):=by simp
  rw[this];exact Az _ _ _ (fun r=>cw_step _ _ _ _ r) _
theorem ones:∀l:List (QG×QG),(l.map fun r=>cW [] r.2).sum=l.length
 | []=>rfl
 | r::l=>by rw[Ko,NR,ones l,Kk,cW];lia
theorem Zkg {M:Nat}(h:Crl M ls)(F:Wk ls 0):(Yo ls z ls.length).length<=fb (M+1):=by have e:=AA (ls:=ls) (z:=z) ls.length (km _);have:=ZnJ h F ((List.range ls.length).map z) (by rw[ke,qj]);rw[<- e] at this;rw[qo (by rw[TZ,ke,qj];lia)] at this;rw[ones] at this;exact this
theorem AB (h:Crl 8 ls)(F:Wk ls 0):(Yo ls z ls.length).length<64:=Ni (Zkg h F) (by decide)
def Dh (B H:Hp)(v:V)(r:QG×QG):Prop:=∃(t c p:Addr),v = .ref t/\H t=some (.tup [.ref c,.ref p])/\H c=some (.lst (r.1.map V.int))/\H p=some (.lst (r.2.map V.int))/\B c=none
def G9 (B:Hp)(z:Addr)(H:Hp)(v:V)(r:QG×QG):Prop:=∃(t c p:Addr),v = .ref t/\H t=some (.tup [.ref c,.ref p])/\H c=some (.lst (r.1.map V.int))/\H p=some (.lst (r.2.map V.int))/\t≠z/\c≠z/\p≠z/\B c=none
theorem G9.same {B:Hp}{z:Addr}{H H':Hp}(s:Zh H H'){v:V}{r:QG×QG}:G9 B z H v r->G9 B z H' v r
 | ⟨t,c,p,e,h1,h2,h3,n⟩=>⟨t,c,p,e,s _ _ h1,s _ _ h2,s _ _ h3,n⟩
theorem G9.upd {B:Hp}{z:Addr}{H:Hp}{o:HO}{v:V}{r:QG×QG}:G9 B z H v r->G9 B z (L2.upd H z o) v r
 | ⟨t,c,p,e,h1,h2,h3,n1,n2,n3,n4⟩=>⟨t,c,p,e,by rw[Zi n1];exact h1,by rw[Zi n2];exact h2,by rw[Zi n3];exact h3,n1,n2,n3,n4⟩
theorem G9.out {B:Hp}{z:Addr}{r:QG×QG}:G9 B z H v r->Dh B H v r
 | ⟨t,c,p,e,h1,h2,h3,_,_,_,n⟩=>⟨t,c,p,e,h1,h2,h3,n⟩
theorem Dh.same {B H H':Hp}(s:Zh H H'){v:V}{r:QG×QG}:Dh B H v r->Dh B H' v r
 | ⟨t,c,p,e,h1,h2,h3,n⟩=>⟨t,c,p,e,s _ _ h1,s _ _ h2,s _ _ h3,n⟩
theorem Paired.snoc' {α β:Type}{F:α -> β -> Prop}{x:α}{y:β}(I:F x y):∀{l:List α}{m:List β},Paired F l m->Paired F (l ++ [x]) (m ++ [y])
 | _,_,.nil=>.cons I .nil
 | _,_,.cons r t=>.cons r (Paired.snoc' I t)
inductive AD(vs:QH)(H:Hp)(Q:VK)(_E:XK):Prop|mk(l:Addr)(sc:Int)(ls:QB)(g:QX)(_:vs = [.ref l,.int sc])(_:sc=0∨sc=1)(_:Drw H l ls)(_:HG sc ls g)(_:nX ls<=13/\Crl 8 ls)(_:∀(p:Addr)(H':Hp)(zs:QH)(vs:QA),Zh H H'->H p=none->H' p=some (.lst zs)->MR H' zs vs->(∀v∈zs,∃a,v = .ref a/\H a=none)->vs.Perm ((Yo ls (fun i=>decide (hgA g ls i=some 0)) ls.length).map (·.1))->Ib vs->Q (.ref p) H')
abbrev Gr:Stmt:=top 64
theorem Z0:Zw ["_law_drawing_here", "_law_scale", "_law_parts", "_law_t", "_law_height", "_law_later", "_law_changed", "_law_partners", "_law_there"] nG (Zj Gr):={}
theorem Zk4 (F:JD K "_law_bandings" "_law_bandings" Gr f fd)(Yj:Jk P w K mg base 5 "_law_letter_heights" nG BV)(YO:Jk P w K mg base 1 "_law_moved_on" nQ B4)(YN:Jk P w K mg base 1 "_law_is_apart" ["_law_partners", "_law_k"] B0)(ZE:mg "enumerate" = none)(YT:mg "sorted" = none):Yc P w K mg base JZ 6 f fd nG AD:=by
 refine F.ok1 Z0 fun aB A outer s H vs Q E hr h=>?_;obtain⟨l,sc,ls,g,rfl,aW,dr,hg,pH,k⟩:=h;refine⟨_,(Zc (Zz (i:=2) Z0.nd (Zx (Za (ZN (Za (Zx Zb) (Za (Zx Zb) Zb))) Zb)))
  (Zc (Yr Ka rfl (Ws (K:=K) rfl (by rfl) ZE (Za (Zp Yj hr (Za (pv 0) (Za (pv 1) Zb))) Zb)) (Z8 (K:=K) (n:=2) rfl rfl (Zo (ZT (i:=3) Z0.nd) (Zo (ZT (i:=4) Z0.nd) ZV))) (Zc (Zz (i:=5) Z0.nd (Zx Zb))
  (Zc (Yr Ka rfl (ZU (K:=K) rfl (pv 2)) (Z8 (K:=K) (n:=2) rfl rfl (Zo (ZT (i:=6) Z0.nd) (Zo (ZT (i:=7) Z0.nd) ZV))) (Zc (Zz (i:=8) Z0.nd (Zp YO hr (Za (pv 7) (Za (Zy (Zl (K:=K)) (pv 0) (pv 3) (fun _ _=>rfl)) Zb))))
  (Zf (ZP (Zu Pd (pv 8) Jx (Zt _)) (Zc (ZY (Yd (K:=K) rfl (Yw kJ kU kW ZL (pv 5) (Za (ZN (Za (pv 6) (Za (pv 8) Zb))) Zb))))
  (Zf (ZP (PW.pt (UE (Zu Yp (Zy (Ys (K:=K)) (Zy (Zl (K:=K)) (pv 0) (pv 3) (fun _ _=>rfl)) Ze (fun _ _=>rfl)) ZJ (Zt _)) (UE (Zu Yp (pv 4) Ze (Zt _)) (LR (JC (Zp YN hr (Za (pv 7) (Za (Zy (Ys (K:=K)) (Zy (Zl (K:=K)) (pv 0) (pv 3) (fun _ _=>rfl)) Ze (fun _ _=>rfl)) Zb)))))))) (Zf (ZY (Yd (K:=K) rfl (Yw kJ kU kW ZL (pv 5) (Za (ZN (Za (Zk YX (pv 6) (Zx (Za (pv 3) Zb))) (Za (pv 7) Zb))) Zb))))) ZF))) ZF))))
  (Zf (Zz (i:=2) Z0.nd (pv 5))))))
  (Zf (Zv (Zs (Ff (K:=K) rfl hr.units) (by rfl) YT TQ (Za (WI (Ls:=["_law_changed", "_law_partners"]) (Fs:=[]) (fi:=[]) Z0.lc rfl (ZU (K:=K) rfl (pv 2)) (fun cl C s3 H3 ex=>⟨(Z8 (K:=K) (n:=2) rfl rfl (Zo (YC (i:=0)) (Zo (YC (i:=1)) ZV))),YB,(pv 0)⟩)) Zb)))))),?_⟩
 obtain⟨xs,hl,hL,hW,aA⟩:=id dr;have aF:=hL.len;refine⟨sz0,fun c0 f0=>?_⟩;refine lay2 (o:=.lst []) f0 fun H1 s1 e1=>?_;refine⟨sz0,fun p0 f1=>?_⟩;refine lay2 (o:=.lst []) f1 fun H2 s2 e2=>?_;refine⟨sz2,fun t0 f2=>?_⟩;refine lay2 (o:=.tup [.ref c0,.ref p0]) f2 fun H3 s3 e3=>?_;refine⟨sz1,fun wP f3=>?_⟩;refine lay2 (o:=.lst [.ref t0]) f3 fun H4 s4 e4=>?_;have bn:=((s1.trans s2).trans s3).trans s4;refine⟨_,rfl,_,rfl,l,sc,ls,g,rfl,aW,⟨xs,bn _ _ hl,hL.same bn,hW,aA⟩,hg,fun hp H5 s5 fh eh=>?_⟩;have bT:=bn.trans s5;obtain⟨I,pI⟩:∃I:Nat->Bool,I=fun i=>decide (hgA g ls i=some 0):=⟨_,rfl⟩;rw[<- pI] at k;have few:∀i,i<=ls.length->(Yo ls I i).length<=8192:=fun i hi=>by refine Kb (Aa i hi) (Kb (MN (by decide) (Kb (Znr ls i) pH.1)) (by decide))
 have ll:(lhL g ls ls.length).length=ls.length:=by simp[lhL]
 refine⟨hp,rfl,⟨_,Zr.of eh⟩,L5 (K:=K) (a:=hp) (xs:=lhL g ls ls.length) (fun i σ G=>∃(pr:Addr)(ys:QH)(v3 v4 v5 v6 v7 v8:QI),σ = [some (.ref l),some (.int sc),some (.ref pr),v3,v4,v5,v6,v7,v8]/\Zh H5 G/\G pr=some (.lst ys)/\Paired (Dh H G) ys (Yo ls I i))
  ⟨wP,_,_,_,_,_,_,_,rfl,Zh.refl _,s5 _ _ e4,.cons ⟨t0,c0,p0,rfl,s5 _ _ (s4 _ _ e3),s5 _ _ (s4 _ _ (s3 _ _ (s2 _ _ e1))),s5 _ _ (s4 _ _ (s3 _ _ e2)),f0⟩ .nil⟩ (fun i σ G _ ⟨_,_,_,_,_,_,_,_,_,s',_⟩=>Zr.of (s' _ _ eh)) ?_ ?_⟩
 ·rintro i x pe σ G hx ⟨pr,ys,v3,v4,v5,v6,v7,v8,rfl,sG,gr,hy⟩ fK;have hi:i<ls.length:=by have:=(kC.mp hx).1;lia
  have ex:x=oI (hgA g ls i):=by unfold lhL at hx;rw[kE,M3 hi] at hx;exact(k9 hx).symm
  subst ex;obtain⟨xt,ax⟩:∃xt,xs[i]? = some xt:=⟨_,ko (by lia)⟩;obtain⟨q,ta,hq,rfl,aO⟩:=hL.get ax;obtain⟨n,wn,al⟩:=F9 (z:=I) hW i (by lia);have wQ:∃m,De q n m:=by obtain⟨m,wm⟩:=GD hW (i+1);rw[Ki,hq] at wm;obtain⟨n',wR,ft⟩:=Iu (show Wk (ls.take i ++ [q]) m from wm);rw[Cn wn wR];exact⟨m,ft⟩
  obtain⟨m,ft⟩:=wQ;have n2:=L6 wn;have tl:(ls.take i).length=i:=by rw[kK];lia
  have pJ:Yo ls I (i+1)=(Yo ls I i).flatMap (JR q (I i) i):=by rw[Yo,hq]
  refine⟨pe,_,rfl,Y9.of Zd,rfl,_,_,rfl,_,_,rfl,rfl,?_⟩;refine lay2 (o:=.tup [.int (i:Int),oI (hgA g ls i)]) fK fun G1 W pC=>?_;refine⟨sz0,fun lt flt=>?_⟩;refine lay2 (o:=.lst []) flt fun G2 cS wS=>?_;have yl:=MU hy;have fS:=W _ _ gr;have pK:Zh H G1:=(bT.trans sG).trans W;refine⟨_,rfl,pr,rfl,⟨_,Zr.of (cS _ _ fS)⟩,JA (K:=K) (a:=pr) (xs:=ys) (fun j σ G'=>∃(zs:QH)(v6 v7 v8:QI),σ = [some (.ref l),some (.int sc),some (.ref pr),some (.int (i:Int)),some (oI (hgA g ls i)),some (.ref lt),v6,v7,v8]/\Zh G1 G'/\G' lt=some (.lst zs)/\Paired (G9 H lt G') zs (((Yo ls I i).take j).flatMap (JR q (I i) i)))
   ⟨_,_,_,_,rfl,cS,wS,.nil⟩ (fun j σ G' _ ⟨_,_,_,_,_,s',_⟩=>Zr.of (s' _ _ fS)) ?_ ?_⟩
  ·rintro j y σ G' lJ ⟨zs,v6,v7,v8,rfl,O,aL,hz⟩;obtain⟨r,dL,pL⟩:=LN hy lJ;obtain⟨t,c,p,rfl,gu,lK,gN,wT⟩:=Dh.same (W.trans O) pL;have rm:r∈Yo ls I i:=kT dL;obtain⟨c7,lr⟩:=al r rm;have chl:=B6 i r rm;have gv:((Yo ls I i).take (j+1)).flatMap (JR q (I i) i)=((Yo ls I i).take j).flatMap (JR q (I i) i)++JR q (I i) i r:=by
    rw[Ki,dL,List.flatMap_append];simp
   have zl:=MU hz;have zb:zs.length<=16384:=by rw[zl];refine Kb (Iv _ 2 _ fun r _=>ZlU _ _ _ r) ?_;have:=few i (by lia);rw[kK];lia
   have lN:∀{a:Addr}{o:HO},G1 a=some o->a≠lt:=fun e z=>by rw[z,flt] at e;cases e
   have gw:=pK.trans O;have bv:=gw _ _ hl;have aM:=gw _ _ aO;obtain⟨t1',cw,p1',dP,k1,k2,k3,_⟩:=Dh.same W pL;cases dP;have kk:=O _ _ k1;rw[gu] at kk;injection kk with kk
   injection kk with kk
   injection kk with kk Y
   injection kk with kk
   injection Y with Y
   injection Y with Y
   subst kk Y;have nt:=lN k1;have nc:=lN k2;have np:=lN k3;refine⟨t,_,rfl,Y9.of gu,rfl,_,_,rfl,_,_,rfl,rfl,?_⟩;refine⟨_,rfl,_,rfl,_,rfl,l,_,_,_,rfl,rfl,Zr.of bv,Zn ax,p,ta,q,r.2,rfl,gN,aM,by lia,c7,ft.1,?_,?_,fun en H' s'=>?_,fun r' pp H' er s' br fO=>?_⟩
   ·intro nb;rcases ft.2 with⟨e,_⟩ | ⟨_,e,_⟩ | ⟨_,e,_⟩
    ·exact absurd e nb
    ·lia
    ·lia
   ·rcases ft.2 with⟨e,_⟩ | ⟨e,_⟩ | ⟨e,_⟩
    ·exact .inl e
    ·exact .inr (.inr e)
    ·exact .inr (.inl e)
   ·refine⟨_,rfl,rfl,_,rfl,YD ?_⟩;refine⟨zs,_,_,_,rfl,O.trans s',s' _ _ aL,?_⟩;have:JR q (I i) i r = []:=by unfold JR;rw[en]
    rw[gv,this,KY];exact L2.Paired.imp' (fun _ _ h=>h.same s') hz
   ·refine⟨_,rfl,rfl,_,rfl,JU ?_⟩;have Z:=s' _ _ aL;refine⟨_,rfl,.inl ⟨rfl,_,Zr.of Z⟩,_,rfl,_,rfl,sz2,fun t1 eO=>?_⟩;refine lay2 (o:=.tup [.ref c,.ref pp]) eO fun K1 U wU=>?_;have wV:=U _ _ Z;refine⟨lt,_,_,rfl,rfl,wV,(by rw[kY];lia),?_⟩;have wW:G1 lt=none:=flt;have wX:Zh G1 K1:=(O.trans s').trans U;have put:∀{G:Hp}{o:HO},Zh G1 G->Zh G1 (upd G lt o):=fun s c o e=>by rw[Zi (Zg e wW)];exact s c o e
    have n1:t1≠lt:=fun z=>by rw[z,Z] at eO;cases eO
    have ju:pp≠lt:=fun z=>by rw[z,aL] at br;cases br
    have wY:G9 H lt K1 (.ref t1) (r.1,r'):=⟨t1,c,pp,rfl,wU,U _ _ (s' _ _ lK),U _ _ fO,n1,nc,ju,wT⟩;have eB:Paired (G9 H lt K1) (zs ++ [.ref t1]) (((Yo ls I i).take j).flatMap (JR q (I i) i) ++ [(r.1,r')]):=Paired.snoc' wY (L2.Paired.imp' (fun _ _ h=>h.same (s'.trans U)) hz);obtain⟨K2,gy⟩:∃K2,upd K1 lt (.lst (zs ++ [.ref t1]))=K2:=⟨_,rfl⟩;rw[gy];have S:Zh G1 K2:=by rw[<- gy];exact put wX
    have J:K2 lt=some (.lst (zs ++ [.ref t1])):=by rw[<- gy];exact Zd
    have cu:Paired (G9 H lt K2) (zs ++ [.ref t1]) (((Yo ls I i).take j).flatMap (JR q (I i) i) ++ [(r.1,r')]):=by rw[<- gy];exact L2.Paired.imp' (fun _ _ h=>h.upd) eB
    have lO:=pK.trans S;have pM:=lO _ _ hl;have lP:=lO _ _ aO;have stE:JR q (I i) i r=(r.1,r')::(if q.1 = "cross" /\ I i=true/\N0 r.2 q.2.toNat=false then[(r.1 ++ [(i:Int)],r.2)] else[]):=by unfold JR;rw[er]
    have one:∀{G3:Hp},Zh K2 G3->(¬(q.1 = "cross" /\ I i=true/\N0 r.2 q.2.toNat=false))->Paired (G9 H lt G3) (zs ++ [.ref t1]) (((Yo ls I i).take (j+1)).flatMap (JR q (I i) i)):=fun s3 no=>by rw[gv,stE,kh no];exact L2.Paired.imp' (fun _ _ h=>h.same s3) cu
    refine⟨_,rfl,_,rfl,l,_,_,_,rfl,rfl,Zr.of pM,Zn ax,ta,_,_,_,rfl,rfl,Y9.of lP,Zn (j:=0) rfl,rfl,_,rfl,Z7 (fun cc=>?_) (fun cc=>?_)⟩
    case refine_2=>
     refine YD ⟨_,_,_,_,rfl,S,J,one (Zh.refl _) fun z=>cc ?_⟩;rw[z.1];exact kH rfl
    have ec:q.1 = "cross" := by have:=kI cc;injection this
    have kt:isK ls U7 i=true:=by rw[Ut hq (pr:=U7),ec];decide
    have c9:hgA g ls i=some (g (YK ls i).1-g (YK ls i).2):=by unfold hgA;rw[kt];rfl
    obtain⟨hh,lG⟩:∃hh,g (YK ls i).1-g (YK ls i).2=hh:=⟨_,rfl⟩;rw[lG] at c9;have zi:I i=decide (hh=0):=by rw[pI];simp[c9]
    rw[c9];refine⟨_,rfl,rfl,_,rfl,Z7 (fun c2=>?_) (fun c2=>?_)⟩
    case refine_2=>
     refine YD ⟨_,_,_,_,rfl,S,J,one (Zh.refl _) fun z=>c2 ?_⟩;have:=z.2.1;rw[zi] at this;rw[kI this];exact kH rfl
    have h0:hh=0:=by have:=kI c2;injection this
    obtain⟨kd,kk'⟩:=q;dsimp only at ec ft aO lP er stE one gv pJ;obtain⟨gp,pN⟩:=ft;dsimp only at gp pN;obtain⟨kn,rfl⟩:=kF gp;have lH:kn+1<r.2.length:=by
     rcases pN with⟨e,_⟩ | ⟨_,e,_⟩ | ⟨e,_⟩
     ·exact absurd (e.symm.trans ec) (by decide)
     ·lia
     ·exact absurd (e.symm.trans ec) (by decide)
    have ne:r.2.getD kn 0≠(kn:Int)+1:=fun z=>by unfold Wm at er;dsimp only at er;rw[kM,z,ec,kh (by decide),kj (by rw[kH rfl];rfl)] at er;cases er
    have tb:=Co c7 lH ne;have hpK:=(O.trans (s'.trans U));have fT:K2 p=some (.lst (r.2.map V.int)):=S _ _ k3;have lQ:K2 c=some (.lst (r.1.map V.int)):=S _ _ k2;refine⟨_,rfl,_,rfl,_,rfl,l,_,_,_,rfl,rfl,Zr.of pM,Zn ax,ta,_,_,_,rfl,rfl,Y9.of lP,Zn (j:=1) rfl,p,kn,_,_,r.2,rfl,fT,by lia,tb,_,rfl,Z7 (fun c3=>?_) (fun c3=>?_)⟩
    case refine_2=>
     refine⟨_,_,_,_,rfl,S,J,one (Zh.refl _) fun z=>c3 ?_⟩;have z2:=z.2.2;rw[kM] at z2;unfold N0 at z2;rw[z2];rfl
    have tq:N0 r.2 kn=false:=by unfold N0;simpa using c3
    refine⟨_,rfl,.inl ⟨rfl,_,Zr.of J⟩,_,rfl,_,rfl,sz1,fun d1 wZ=>?_⟩;refine lay2 (o:=.lst [.int (i:Int)]) wZ fun K3 fU w8=>?_;refine⟨c,d1,_,_,rfl,rfl,fU _ _ lQ,w8,(by rw[kY,ke];show r.1.length+1<=_;lia),fun d2 gz=>?_⟩;obtain⟨K4,z,pO,w9⟩:=lay (o:=.lst (r.1.map V.int ++ [.int (i:Int)])) gz;rw[z];clear z;refine⟨_,rfl,sz2,fun t2 cb=>?_⟩;refine lay2 (o:=.tup [.ref d2,.ref p]) cb fun K5 pP wa=>?_;have hB:=(fU.trans pO).trans pP;have lR:=hB _ _ J;have m1:t2≠lt:=fun z=>by rw[z,(fU.trans pO) _ _ J] at cb;cases cb
    have m2:d2≠lt:=fun z=>by rw[z,fU _ _ J] at gz;cases gz
    refine⟨lt,_,_,rfl,rfl,lR,(by rw[kY,ki];show zs.length+1<_;lia),?_⟩;refine⟨_,_,_,_,rfl,put (S.trans hB),Zd,?_⟩;rw[gv,stE,kj ⟨ec,by rw[zi,h0];rfl,by rw[kM];exact tq⟩];have wb:G9 H lt K5 (.ref t2) (r.1 ++ [(i:Int)],r.2):=⟨t2,d2,p,rfl,wa,by rw[pP _ _ w9,kP];rfl,hB _ _ fT,m1,m2,np,(lO.trans fU).free gz⟩;have h5:=Paired.snoc' wb (L2.Paired.imp' (fun _ _ h=>h.same hB) cu);rw[Kl _ [(r.1,r')]] at h5;exact L2.Paired.imp' (fun _ _ h=>G9.upd h) h5
  ·rintro σ G' ⟨zs,v6,v7,v8,rfl,O,aL,hz⟩;refine⟨_,rfl,lt,zs,_,_,_,_,_,_,rfl,(sG.trans W).trans O,aL,?_⟩;rw[pJ,yl,Xs] at *;exact L2.Paired.imp' (fun _ _ h=>h.out) hz
 ·rintro σ G ⟨pr,ys,v3,v4,v5,v6,v7,v8,rfl,sG,gr,hy⟩;rw[ll] at hy;have yl:=MU hy;have fw:=few ls.length (km _);have wc:(Yo ls I ls.length).length<64:=AB pH.2 hW;refine⟨_,rfl,pr,rfl,⟨_,Zr.of gr⟩,YZ (K:=K) (a:=pr) (xs:=ys) (by rw[kY];lia) (fun j zs G'=>G'=G/\MR G zs (((Yo ls I ls.length).take j).map (·.1)) /\ ∀v∈zs,∃a,v = .ref a/\H a=none) ⟨rfl,.nil,fun v h=>nomatch h⟩ (fun j zs G' x=>by rw[MU x.2.1,ke,kK];lia) (fun j zs G' x=>by rw[x.1];exact Zr.of gr) (fun j y zs G' lJ x=>?_) (fun zs G' x p hp=>?_)⟩
  ·obtain⟨rfl,hz,cL⟩:=x;obtain⟨r,dL,t,c,p,rfl,gu,lK,gN,fc⟩:=LN hy lJ;refine⟨t,_,rfl,Y9.of gu,rfl,_,_,rfl,_,_,rfl,rfl,?_⟩;refine⟨_,rfl,rfl,?_,fun v hv=>(Kg.mp hv).elim (cL v) fun z=>⟨c,kR.mp z,fc⟩⟩;rw[Ki,dL,kP];exact Paired.snoc' ⟨c,rfl,lK⟩ hz
  ·obtain⟨rfl,hz,cL⟩:=x;rw[yl,Xs] at hz;have sp:Zh G' (upd G' p (.lst zs)):=Zh.laid hp;refine⟨p,_,_,rfl,Zr.of Zd,L2.Paired.imp' (fun _ _ ⟨a,e,h⟩=>⟨a,e,sp _ _ h⟩) hz,(by rw[MU hz,ke];exact wc),fun d pQ dz fd pz pv lr rise=>?_⟩;have s0:Zh H (upd G' p (.lst zs)):=(bT.trans sG).trans sp;refine k d _ pQ dz (s0.trans (Zh.laid fd)) (s0.free fd) Zd (L2.Paired.imp' (fun _ _ ⟨a,e,h⟩=>⟨a,e,Zh.laid fd _ _ h⟩) lr) (fun v hv=>cL v (pz.mem_iff.mp hv)) pv rise
theorem AE {ls:QB}{z:Nat->Bool}:∀i,i<=ls.length -> ∀r∈Yo ls z i,r.1.length<=nX (ls.take i)
 | 0,_,r,F=>by rw[kR.mp F];exact Kn _
 | i+1,h,r,F=>by
  have I:ls[i]? = some ls[i]:=ko (by lia);rw[Yo,I] at F;obtain⟨J,h0,F⟩:=KO.mp F;have O:=AE i (by lia) J h0;rw[Ki,I,Wt];unfold JR at F;split at F
  ·cases F
  ·rcases kQ.mp F with rfl | F
   ·exact Kb O (Xa _ _)
   ·split at F
    ·rename_i c
     rw[kR.mp F,ki];have:nX [ls[i]]=1:=by unfold nX;rw[MA,kj (kH c.1)]
     show J.1.length+1<=nX (ls.take i)+nX [ls[i]];lia
    ·cases F
def OkV (d:Nat)(G:Hp)(v:V):Prop:=∃l,Wl G v l/\okL d l=true
theorem OkV.same {d:Nat}{G G':Hp}{v:V}(s:Zh G G')(h:OkV d G v):OkV d G' v:=let ⟨l,h1,h2⟩:=h;⟨l,h1.same s,h2⟩
theorem OkV.mono {e:Nat}(h:OkV d G v)(z:d<=e):OkV e G v:=let ⟨l,h1,h2⟩:=h;⟨l,h1,Ad z h2⟩
theorem Cs (i:Int):OkV d G (.int i):=⟨.int i,.int i,by cases d<;>rfl⟩
theorem IP {a:Addr}{vs:QH}(e:G a=some (.lst vs))(n:vs.length<=62)(h:∀v∈vs,OkV d G v):OkV (d+1) G (.ref a):=by obtain⟨ls,r,l,f⟩:=Bb (fun _ l=>okL d l=true) h;refine⟨.lst ls,.lst e r,?_⟩;simp only[okL,Kc,Ks,Km];exact⟨by lia,fun x F=>let ⟨_,_,q⟩:=f x F;q⟩
theorem AF {e':Nat}{a:Addr}{vs:QH}(e:G a=some (.tup vs))(h:∀v∈vs,OkV d G v):OkV e' G (.ref a):=by obtain⟨ls,r,l,f⟩:=Bb (fun _ l=>okL d l=true) h;exact⟨.tup ls,.tup e r,by cases e'<;>rfl⟩
theorem UL {a:Addr}{ns:QG}(e:G a=some (.lst (ns.map V.int)))(h:ns.length<=62):OkV (d+1) G (.ref a):=IP e (by rw[ke];exact h) fun x F=>by obtain⟨z,_,rfl⟩:=Kw.mp F;exact Cs z
def off (b:Addr)(H:Hp):Hp:=fun c=>if c=b then none else H c
theorem off_ne {b:Addr}(h:c≠b):off b H c=H c:=kh h
theorem AG (b:Addr)(H:Hp):Zh (off b H) H:=fun c o e=>by
 unfold off at e;split at e
 ·cases e
 ·exact e
theorem Ct {b:Addr}(f:Y5 b H H'):Zh (off b H) (off b H'):=fun c o e=>by
 unfold off at e ⊢;split at e
 ·cases e
 ·rename_i h
  rw[kh h];exact f c o e h
theorem UI {b:Addr}{o:HO}(e:H c=some o)(h:c≠b):off b H c=some o:=(off_ne h).trans e
theorem ZnF {b:Addr}(h:OkV d (off b H) v):OkV d H v:=h.same (AG b H)
theorem Ju {b:Addr}(F:Bag H b)(h:H c=none):c≠b:=fun z=>by obtain⟨_,_,_,e⟩:=F;rw[z,e] at h;cases h
def nbL:Nat->Lit->Bool
 | 0,.lst _=>false
 | 0,.tup _=>false
 | d+1,.lst l=>(l.length != 2)&&l.all (nbL d)
 | d+1,.tup l=>l.all (nbL d)
 | _,_=>true
theorem Rm {H H':Hp}:∀{vs:QH}{ls:List Lit},(∀v l,l∈ls->Wl H v l->Wl H' v l)->J8 H vs ls->J8 H' vs ls
 | _,_,_,.nil=>.nil
 | _,_,h,.cons a r=>.cons (h _ _ kS a) (Rm (fun v l F=>h v l (kX _ F)) r)
theorem Zoi {b:Addr}(I:Bag H b):∀(d:Nat)(v:V)(l:Lit),nbL d l=true->Wl H v l->Wl (off b H) v l:=by
 obtain⟨g,J,_,eb⟩:=I;intro d
 induction d with
 | zero=>
  intro v l h r;cases r with
  | non=>exact .non
  | bl b=>exact .bl b
  | int i=>exact .int i
  | str x=>exact .str x
  | tup e r=>cases h
  | lst e r=>cases h
 | succ d ih=>
  intro v l h r;cases r with
  | non=>exact .non
  | bl b=>exact .bl b
  | int i=>exact .int i
  | str x=>exact .str x
  | tup e r=>
   simp only[nbL,Ks] at h;refine .tup (UI e fun z=>?_) (Rm (fun v l F q=>ih v l (h l F) q) r);rw[z,eb] at e;cases e
  | lst e r=>
   simp only[nbL,Kc,Ks,XQ] at h;refine .lst (UI e fun z=>?_) (Rm (fun v l F q=>ih v l (h.2 l F) q) r);rw[z,eb] at e;cases e;exact h.1 r.len.symm
inductive AH(vs:QH)(H:Hp)(Q:VK)(_E:XK):Prop|mk(b a:Addr)(ns:QG)(_:vs = [.ref b,.ref a])(_:Bag H b)(_:H a=some (.lst (ns.map V.int)))(_:ns.length<=61)(_:a≠b)(_:∀(H':Hp)(v:V),Bag H' b->Y5 b H H'->OkV 3 (off b H') v->Q v H')
theorem ZrK:IZ 10 59:=⟨by decide,by decide,by decide⟩
abbrev Gw:Stmt:=top 66
theorem JJ:Zw ["_law_bag_here", "_law_some", "_law_way", "_law_odd", "_law_at"] ["_law_bag_here", "_law_some"] (Zj Gw):={}
theorem ZqC (F:JD K "_law_odd_list" "_law_odd_list" Gw f fd)(Zq:Jk P w K mg base 1 "_law_take" nJ UC)(Yl:mg "len" = none)(Gf:mg "max" = none)(Jg:mg "tuple" = none):Yc P w K mg base JZ 2 f fd ["_law_bag_here", "_law_some"] AH:=by
 refine F.ok1 JJ fun aB A outer s H vs Q E hr h=>?_;obtain⟨b,a,ns,rfl,bg,ea,nn,ab,k⟩:=h;refine⟨_,(Zc (Zz (i:=2) JJ.nd (Zp Zq hr (Za (pv 0) (Za Ze Zb))))
  (Zc (Zz (i:=3) JJ.nd (Zy (Zl (K:=K)) (PL.out (G:=fun _ _=>True) (S7 (Jj Gj S6 (Jj Gj S6 (Jj Gj VQ (Jj Gj VR (Jj Gj C3 (Jj Gj VS (Jj Gj (S7 (Jj Gj C3 PX Yx)) (Jj Gj (VU (Jj Gj C3 (Jj Gj C3 PX Yx) Yx)) (Jj Gj (VT ZrK) PX S3) VL) S1) S2) Yx) Yx) Yx) Yx) Yx))) (Zp Zq hr (Za (pv 0) (Za Ze Zb))) (fun _ _=>rfl)))
  (Zc (Zz (i:=4) JJ.nd (Zp Zq hr (Za (pv 0) (Za (Zs (WK rfl) (by rfl) Gf N6 (Za Ze (Za (Zs (Yq (K:=K)) (by rfl) Yl KR (Za (pv 1) Zb)) Zb))) Zb))))
  (Zc (ZP (PW.pt (MX (Zu Yp (pv 2) Ze (Zt _)) (LS (Zu (ZjP (K:=K) rfl hr.units) (pv 1) (Zx Zb) (Zt _))))) (Zf (Zv (Zy (Zl (K:=K)) (Zx (Za (ZZ W7 (by rfl) Jg Mo (Za (pv 1) Zb)) (Za (Zk YX (pv 1) (Zx (Za Ze Zb))) (Za (Zx (Za (pv 1) Zb)) (Za (pv 3) (Za (Zx (Za (pv 3) Zb)) Zb)))))) (Zp Zq hr (Za (pv 0) (Za Ze Zb))) (fun _ _=>rfl)))) ZF)
  (Zc (ZP (Zu Yp (pv 2) Ze (Zt _)) (Zf (Zv (Zk YX (ZW (Yf (K:=K)) (pv 1) Yt (ZQ (pv 4))) (ZW (Yf (K:=K)) (pv 1) (ZQ (Zk ZC (pv 4) Ze)) Yt)))) ZF)
  (Zc (ZP (Zu Yp (pv 2) Ze (Zt _)) (Zf (Zv (Zk YX (Zk YX (ZW (Yf (K:=K)) (pv 1) Yt (ZQ (pv 4))) (Zx (Za (Zy (Zl (K:=K)) (pv 1) (pv 4) (fun _ _=>rfl)) Zb))) (ZW (Yf (K:=K)) (pv 1) (ZQ (pv 4)) Yt)))) ZF)
  (Zf (Zv (Zk YX (Zk YX (ZW (Yf (K:=K)) (pv 1) Yt (ZQ (pv 4))) (Zx (Za (pv 3) Zb))) (ZW (Yf (K:=K)) (pv 1) (ZQ (Zk ZC (pv 4) Ze)) Yt)))))))))),?_⟩
 refine⟨_,rfl,b,6,rfl,bg,by decide,by decide,fun wy H1 w0 w1 af f1=>?_⟩;refine⟨trivial,fun cv Hc sc rc=>?_⟩;have lS:=ZG sc af;refine⟨_,rfl,b,9,rfl,lS,by decide,by decide,fun d2 H2 cz dA bE f2=>?_⟩;have ro:Wl (off b H2) cv _:=(Zoi lS 3 _ _ (by decide) rc).same (Ct f2);obtain⟨dn,rfl⟩:=kF cz;cases ro with
 | @lst c1 us _ ec ru=>
 have lu:us.length=9:=ru.len;have hu:us[dn]? = some (us[dn]'(by lia)):=ko (by lia);generalize us[dn]'(by lia)=ov at hu;obtain⟨lo,iK,ro⟩:=ru.get hu;have pR:okL 1 lo=true:=Ks.mp (show ([Lit.bl true,Lit.bl false,Lit.non,Lit.str "1", Lit.int 2,Lit.int (-1),Lit.lst [Lit.int 1],Lit.tup [Lit.int 0,Lit.int 1],Lit.int (10 ^ Int.toNat 59)].all (okL 1))=true by rfl) lo (kT iK);have oo:OkV 1 (off b H2) ov:=⟨lo,ro,pR⟩;clear ro pR iK;refine⟨c1,_,_,_,rfl,rfl,Zr.of (AG b _ _ _ ec),Zn hu,?_⟩;have lT:Y5 b H H2:=(f1.trans sc.frm).trans f2;have dS:=lT _ _ ea ab;refine⟨_,rfl,_,rfl,a,_,rfl,.inl (Zr.of dS),_,_,rfl,b,_,rfl,bE,(by rw[ke];split<;>lia),(by rw[ke];split<;>lia),fun i' H3 i0 i1 ag f3=>?_⟩;obtain⟨i,rfl⟩:=kF i0;rw[ke] at i1;have lU:=f3 _ _ dS ab;have pS:=lT.trans f3;replace oo:=oo.same (Ct f3);have fin:∀{X:Hp}{v:V},Bag X b->Y5 b H3 X->OkV 3 (off b X) v->Q v X:=fun bX fX o=>k _ _ bX (pS.trans fX) o;have ce:∀X:Hp,Zh H3 X->(Ry (tOp (Pf K) (Dm (U6 (tCB OJ (U6 (ME 1) LC)) (U6 (tOp Pk (ME 1) (Dm (U6 (tC (V.int 0)) LC))) (U6 (Dm (U6 (ME 1) LC)) (U6 (ME 3) (U6 (Dm (U6 (ME 3) LC)) LC)))))) (CI UC [] E0 (U6 (ME 0) (U6 (tC (V.int 5)) LC)))) { nx:=fun x H'=>Q V.non H',rt:=Q }) [some (.ref b),some (.ref a),some (.int wy),some ov,some (.int i)] X:=fun X sX=>by
  have J:=ZG sX ag;have I:=sX _ _ lU;refine⟨_,rfl,a,_,rfl,I,fun p1 bd=>?_⟩;refine lay2 (o:=.tup (ns.map V.int)) bd fun X1 S e1=>?_;refine⟨_,rfl,sz1,fun q4 wd=>?_⟩;refine lay2 (o:=.lst [.int 0]) wd fun X2 O e2=>?_;refine⟨a,q4,_,_,rfl,rfl,O _ _ (S _ _ I),e2,(by rw[ke,kY];show ns.length+1<=_;lia),fun q5 pT=>?_⟩;obtain⟨U,em,lm⟩:∃U:QG,ns.map V.int ++ [V.int 0]=U.map V.int/\U.length<=62:=⟨ns ++ [0],by rw[kP];rfl,by rw[ki];show ns.length+1<=62;lia⟩;rw[em];refine lay2 (o:=.lst (U.map V.int)) pT fun X3 t3 e3=>?_;refine⟨_,rfl,sz1,fun q6 pU=>?_⟩;refine lay2 (o:=.lst [.ref a]) pU fun X4 t4 e4=>?_;refine⟨_,rfl,_,rfl,sz1,fun q8 pW=>?_⟩;refine lay2 (o:=.lst [ov]) pW fun X5 t5 e5=>?_;refine⟨(by show 5<=sizeLine;decide),fun q7 pX=>?_⟩;refine lay2 (o:=.lst [.ref p1,.ref q5,.ref q6,ov,.ref q8]) pX fun X6 t6 e6=>?_;have pY:=((t3.trans t4).trans t5).trans t6;have s6:=(S.trans O).trans pY;refine⟨_,rfl,b,5,rfl,ZG s6 J,by decide,by decide,fun d5 Y lV lW ai fY=>?_⟩;obtain⟨kk,rfl⟩:=kF lV;have n1:=Ju J bd;have n5:=Ju (ZG (S.trans O) J) pT;have n6:=Ju (ZG ((S.trans O).trans t3) J) pU;have n8:=Ju (ZG (((S.trans O).trans t3).trans t4) J) pW;have n7:=Ju (ZG ((((S.trans O).trans t3).trans t4).trans t5) J) pX;have Z:=UI (fY _ _ (pY _ _ (O _ _ e1)) n1) n1;have y5:=UI (fY _ _ (((t4.trans t5).trans t6) _ _ e3) n5) n5;have y6:=UI (fY _ _ ((t5.trans t6) _ _ e4) n6) n6;have y8:=UI (fY _ _ (t6 _ _ e5) n8) n8;have y7:=fY _ _ e6 n7;have ya:=UI (fY _ _ (s6 _ _ I) ab) ab;have dU:Y5 b H3 Y:=(sX.trans s6).frm.trans fY;have oY:OkV 1 (off b Y) ov:=oo.same (Ct dU)
  match kk,lW with
  | 0,_=>exact⟨q7,_,_,_,rfl,rfl,Zr.of y7,rfl,fin ai dU (AF (d:=1) Z fun v hv=>by
    obtain⟨z,_,rfl⟩:=Kw.mp hv;exact Cs z)⟩
  | 1,_=>exact⟨q7,_,_,_,rfl,rfl,Zr.of y7,rfl,fin ai dU (UL y5 lm)⟩
  | 2,_=>
   refine⟨q7,_,_,_,rfl,rfl,Zr.of y7,rfl,fin ai dU (IP (d:=2) y6 (by show 1<=62;decide) fun v hv=>?_)⟩;rw[kR.mp hv];exact UL ya (by lia)
  | 3,_=>exact⟨q7,_,_,_,rfl,rfl,Zr.of y7,rfl,fin ai dU (oY.mono (by decide))⟩
  | 4,_=>
   refine⟨q7,_,_,_,rfl,rfl,Zr.of y7,rfl,fin ai dU (IP (d:=2) y8 (by show 1<=62;decide) fun v hv=>?_)⟩;rw[kR.mp hv];exact oY.mono (by decide)
  | kk+5,z=>exact absurd z (by lia)
 refine⟨_,rfl,rfl,_,rfl,Z7 (fun hw=>ce _ (Zh.refl _)) (fun hw=>?_)⟩;refine⟨_,rfl,sz0,fun e he=>?_⟩;refine lay2 (o:=.lst []) he fun X sX eX=>?_;have I:=sX _ _ lU;have J:=ZG sX ag;refine⟨a,e,_,rfl,rfl,Zr.of I,Zr.of eX,_,rfl,Z7 (fun hn=>ce _ sX) (fun hn=>?_)⟩;have hi:i<ns.length:=by have:ns ≠ []:=fun z=>hn (by rw[z];rfl);have:=List.length_pos_iff.mpr this;revert i1;split<;>lia
 clear ce;replace oo:OkV 1 (off b X) ov:=oo.same (Ct sX.frm);replace fin:∀{X':Hp}{v:V},Zh X X'->OkV 3 (off b X') v->Q v X':=fun s o=>fin (ZG s J) (sX.trans s).frm o;clear f1 f2 f3 lT pS ea dS lU bg af bE ag lS;have cT:∃ys:QG,J5 (ns.map V.int) none (some (i:Int))=ys.map V.int/\ys.length=i:=⟨ns.take i,by rw[Pw (xs:=ns.map V.int) (t:=i) (by rw[ke];lia),qT],by rw[kK];lia⟩;have cD:∀k:Nat,∃ys:QG,J5 (ns.map V.int) (some (k:Int)) none=ys.map V.int/\ys.length=ns.length-k:=fun k=>⟨ns.drop k,by rw[BQ,qG],Kr⟩;refine⟨_,rfl,rfl,_,rfl,Z7 (fun h1=>?_) (fun h1=>?_)⟩
 ·refine⟨_,rfl,_,rfl,_,rfl,a,_,rfl,Zr.of I,fun c1 ah=>?_⟩;obtain⟨Z,fV,l1⟩:=cT;rw[fV];refine lay2 (o:=.lst (Z.map V.int)) ah fun X1 S e1=>?_;refine⟨_,rfl,_,rfl,_,_,rfl,rfl,_,rfl,a,_,rfl,Zr.of (S _ _ I),fun c2 aQ=>?_⟩;obtain⟨y2,fW,l2⟩:=cD (i+1);rw[show ((i:Int)+1)=((i+1:Nat):Int) from rfl,fW];refine lay2 (o:=.lst (y2.map V.int)) aQ fun X2 O e2=>?_;refine⟨c1,c2,_,_,rfl,rfl,O _ _ e1,e2,(by rw[ke,ke,kY];lia),fun c3 aj=>?_⟩;rw[<- kP];have n3:=Ju (ZG (S.trans O) J) aj;exact fin ((S.trans O).trans (Zh.laid aj)) (UL (UI Zd n3) (by rw[ki];lia))
 refine⟨_,rfl,rfl,_,rfl,Z7 (fun h2=>?_) (fun h2=>?_)⟩
 ·refine⟨_,rfl,_,rfl,_,rfl,a,_,rfl,Zr.of I,fun c1 ah=>?_⟩;obtain⟨Z,fV,l1⟩:=cT;rw[fV];refine lay2 (o:=.lst (Z.map V.int)) ah fun X1 S e1=>?_;obtain⟨z,hz⟩:∃z,ns[i]? = some z:=⟨_,ko hi⟩;refine⟨_,rfl,_,rfl,a,_,_,_,rfl,rfl,Zr.of (S _ _ I),Zn (by rw[kE,hz];rfl),sz1,fun c2 aQ=>?_⟩;refine lay2 (o:=.lst [.int z]) aQ fun X2 O e2=>?_;refine⟨c1,c2,_,_,rfl,rfl,O _ _ e1,e2,(by rw[ke,kY];show Z.length+1<=_;lia),fun c3 aj=>?_⟩;obtain⟨U,em,lm⟩:∃U:QG,Z.map V.int ++ [V.int z]=U.map V.int/\U.length=i+1:=⟨Z ++ [z],by rw[kP];rfl,by rw[ki];show Z.length+1=i+1;lia⟩;rw[em];refine lay2 (o:=.lst (U.map V.int)) aj fun X3 t3 e3=>?_;have W:=(S.trans O).trans t3;refine⟨_,rfl,_,rfl,_,rfl,a,_,rfl,Zr.of (W _ _ I),fun c4 dW=>?_⟩;obtain⟨y2,fW,l2⟩:=cD i;rw[fW];refine lay2 (o:=.lst (y2.map V.int)) dW fun X4 t4 e4=>?_;refine⟨c3,c4,_,_,rfl,rfl,t4 _ _ e3,e4,(by rw[ke,ke,kY];lia),fun c5 cf=>?_⟩;rw[<- kP];have n5:=Ju (ZG (W.trans t4) J) cf;exact fin ((W.trans t4).trans (Zh.laid cf)) (UL (UI Zd n5) (by rw[ki];lia))
 ·refine⟨_,rfl,_,rfl,_,rfl,a,_,rfl,Zr.of I,fun c1 ah=>?_⟩;obtain⟨Z,fV,l1⟩:=cT;rw[fV];refine lay2 (o:=.lst (Z.map V.int)) ah fun X1 S e1=>?_;refine⟨_,rfl,sz1,fun c2 aQ=>?_⟩;refine lay2 (o:=.lst [ov]) aQ fun X2 O e2=>?_;refine⟨c1,c2,_,_,rfl,rfl,O _ _ e1,e2,(by rw[ke,kY];show Z.length+1<=_;lia),fun c3 aj=>?_⟩;obtain⟨U,em⟩:∃U:QH,Z.map V.int ++ [ov]=U:=⟨_,rfl⟩;rw[em];refine lay2 (o:=.lst U) aj fun X3 t3 e3=>?_;have W:=(S.trans O).trans t3;refine⟨_,rfl,_,rfl,_,_,rfl,rfl,_,rfl,a,_,rfl,Zr.of (W _ _ I),fun c4 dW=>?_⟩;obtain⟨y2,fW,l2⟩:=cD (i+1);rw[show ((i:Int)+1)=((i+1:Nat):Int) from rfl,fW];refine lay2 (o:=.lst (y2.map V.int)) dW fun X4 t4 e4=>?_;have lm:U.length=i+1:=by rw[<- em,ki,ke];show Z.length+1=i+1;lia
  refine⟨c3,c4,_,_,rfl,rfl,t4 _ _ e3,e4,(by rw[ke,kY];lia),fun c5 cf=>?_⟩;have n5:=Ju (ZG (W.trans t4) J) cf;have s5:=(W.trans t4).trans (Zh.laid (o:=.lst (U++y2.map V.int)) cf);refine fin s5 (IP (d:=2) (UI Zd n5) (by rw[ki,ke];lia) fun v hv=>?_);rcases Kg.mp hv with z | z
  ·rw[<- em] at z;rcases Kg.mp z with z | z
   ·obtain⟨q,_,rfl⟩:=Kw.mp z;exact Cs q
   ·rw[kR.mp z];exact(oo.same (Ct s5.frm)).mono (by decide)
  ·obtain⟨q,_,rfl⟩:=Kw.mp z;exact Cs q
def IQ (H:Hp)(a:Addr)(n:Nat)(W:Nat->List Int)(as:List Addr):Prop:=H a=some (.lst (as.map V.ref))/\as.length=n /\ ∀r p,as[r]? = some p->H p=some (.lst ((W r).map V.int))
theorem IS {p q:Addr}{v:QG}(h1:H p=some (.lst (v.map V.int)))(h2:H q=some (.lst (v.map V.int))):Eqv K H 60 (.ref p) (.ref q):=
 .lst (n:=59) (Zr.of h1) (Zr.of h2) rfl fun i x y F I=>by rw[F] at I;cases I;rw[kE] at F;obtain⟨_,_,rfl⟩:=k8.mp F;exact .flat rfl
inductive AI(vs:QH)(H:Hp)(Q:VK)(_E:XK):Prop|mk(a b:Addr)(n:Nat)(W:Nat->List Int)(as bs:List Addr)(_:vs = [.ref a,.ref b])(_:IQ H a n W as)(_:IQ H b n W bs)(_:n<=8192)(_:∀r,(W r).length<=100)(_:as.Nodup)(_:a∉as)(_:b∉as)(_:∀p∈as,p∉bs)(_:∀H',(∀c o,H c=some o->c∉as->H' c=some o)->Q (.bl true) H')
abbrev Rn:Stmt:=top 65
theorem AJ:Zw ["_law_lists", "_law_due", "_law_at"] ["_law_lists", "_law_due"] (Zj Rn):={}
theorem Zn2 (F:JD K "_law_own" "_law_own" Rn f fd)(ZM:mg "range" = none)(Yl:mg "len" = none):Yc P w K mg base JZ 1 f fd ["_law_lists", "_law_due"] AI:=by
 refine F.ok1 AJ fun aB A outer s H vs Q E hr h=>?_;obtain⟨a,b,n,W,O,bs,rfl,ta,tb,hn,hw,nd,na,nb,we,k⟩:=h;refine⟨_,(Zc (Yr Ka rfl (YA (by rfl) ZM (Za (Zs (Yq (K:=K)) (by rfl) Yl KR (Za (pv 0) Zb)) Zb)) (ZT (i:=2) AJ.nd) (Zc (ZY (Yd (K:=K) rfl (Yw kJ kU kW ZL (Zy (Zl (K:=K)) (pv 0) (pv 2) (fun _ _=>rfl)) (Za Ze Zb))))
  (Zf (ZP (Zu (Pq (K:=K) rfl hr.units) (ZW (Yf (K:=K)) (pv 0) (ZQ (Zk ZC (pv 2) Ze)) Yt) (ZW (Yf (K:=K)) (pv 1) (ZQ (Zk ZC (pv 2) Ze)) Yt) (Zt _)) (Zf (Zv Wf)) ZF))))
  (Zf (Zv Wf))),?_⟩
 obtain⟨ea,la,ra⟩:=id ta;obtain⟨eb,lb,rb⟩:=id tb;have wf:(O.map V.ref).length=n:=by rw[ke,la]
 have lrb:(bs.map V.ref).length=n:=by rw[ke,lb]
 refine⟨_,rfl,a,_,rfl,.inl (Zr.of ea),?_⟩;rw[wf];refine⟨n,rfl,by lia,by lia,Jl (n:=n) (fun i σ G=>∃v2:QI,σ = [some (.ref a),some (.ref b),v2]/\(∀c o,H c=some o->c∉O->G c=some o) /\ ∀r p,i<=r->O[r]? = some p->G p=some (.lst ((W r).map V.int))) ⟨none,rfl,fun c o e _=>e,fun r p _ e=>ra r p e⟩ ?_ ?_⟩
 ·rintro i σ G hi ⟨v2,rfl,fr,I⟩;have fB:i<n:=by lia
  obtain⟨q,Y⟩:∃q,O[i]? = some q:=⟨_,ko (by lia)⟩;have wg:(O.map V.ref)[i]? = some (V.ref q):=by rw[kE,Y];rfl
  have wh:=fr a _ ea na;have eq:=I i q (km _) Y;have nq:∀c,c∉O->c≠q:=fun c h z=>h (by rw[z];exact kT Y);rw[show (0:Int)+(i:Int)=((i:Nat):Int) by lia];refine⟨_,rfl,_,rfl,a,_,_,_,rfl,rfl,Zr.of wh,Zn wg,.inl ⟨rfl,_,Zr.of eq⟩,q,_,_,rfl,rfl,eq,by rw[ke,kY];have:=hw i;lia,?_⟩;have S:∀c o,H c=some o->c∉O->(upd G q (.lst ((W i).map V.int ++ [.int 99]))) c=some o:=fun c o e h=>by rw[Zi (nq c h)];exact fr c o e h
  have J:∀r p,i+1<=r->O[r]? = some p->(upd G q (.lst ((W i).map V.int ++ [.int 99]))) p=some (.lst ((W r).map V.int)):=fun r p h1 e=>by
   have ne:p≠q:=fun z=>by obtain⟨h3,e3⟩:=kC.mp e;obtain⟨h4,e4⟩:=kC.mp Y;have:=(List.getElem_inj nd).mp (e3.trans (z.trans e4.symm));lia
   rw[Zi ne];exact I r p (by lia) e
  generalize upd G q (.lst ((W i).map V.int ++ [.int 99]))=G1 at *;refine⟨_,rfl,_,rfl,_,_,rfl,rfl,_,rfl,a,_,rfl,Zr.of (S a _ ea na),fun c hc=>?_⟩;have s1:=Zh.laid (o:=.lst (J5 (O.map V.ref) (some ((i:Int)+1)) none)) hc;refine⟨_,rfl,_,rfl,_,_,rfl,rfl,_,rfl,b,_,rfl,Zr.of (s1 _ _ (S b _ eb nb)),fun d hd=>?_⟩;have Z:=s1.step (o:=.lst (J5 (bs.map V.ref) (some ((i:Int)+1)) none)) hd;have U:∀xs:List Addr,J5 (xs.map V.ref) (some ((i:Int)+1)) none=(xs.drop (i+1)).map V.ref:=fun xs=>by
   unfold J5;rw[HT.CJ,show (i:Int)+1=((i+1:Nat):Int) by lia,HT.Dp,qG];by_cases c:i+1<=xs.length
   ·rw[ke,K7 c,kL (by rw[Kr,ke];lia)]
   ·rw[ke,KU (by lia),Ts (by rw[ke];lia),Ts (by rw[ke];lia)];simp
  refine⟨c,d,_,_,rfl,rfl,Zr.of ((Zh.laid hd) _ _ Zd),Zr.of Zd,?_,fun j x y ex ey=>?_,_,rfl,YD ?_⟩
  ·rw[U,U,ke,ke,Kr,Kr,la,lb]
  ·rw[U,kE,qR] at ex;rw[U,kE,qR] at ey;obtain⟨p,e1,rfl⟩:=k8.mp ex;obtain⟨u,e2,rfl⟩:=k8.mp ey;have hu:u∉O:=fun h=>we u h (kT e2);exact IS (v:=W (i+1+j)) (Z _ _ (J _ _ (by lia) e1)) (Z _ _ (S u _ (rb _ _ e2) hu))
  ·exact⟨_,rfl,fun c o e h=>Z _ _ (S c o e h),fun r p h1 e=>Z _ _ (J r p h1 e)⟩
 ·rintro σ G ⟨v2,rfl,fr,I⟩;exact k _ fr
theorem ZmE {l b:Addr}{xs zs:QH}{Q:VK}(I:H l=some (.lst xs))(hb:H b=some (.lst zs))(hz:xs.length+zs.length<=sizeLine)(h:∀p H',H p=none->Zh H H'->H' p=some (.lst (xs++zs))->Q (.ref p) H'):Pk (.ref l) (.ref b) H Q:=
 ⟨l,b,xs,zs,rfl,rfl,I,hb,hz,fun p F=>h p _ F (Zh.laid F) Zd⟩
inductive AK(C:Addr)(vs:QH)(H:Hp)(Q:VK)(_E:XK):Prop|mk(a:Addr)(_:vs = [.ref a,.int 4])(_:H a=some (.ext (isX a C)))(_:∀H',Zh H H'->Q (.bl true) H')
abbrev Ro:Stmt:=top 67
theorem GH:Zw ["_law_e", "_law_due", "_law_kinds"] ["_law_e", "_law_due"] (Zj Ro):={}
theorem Znw {GK GL Wh WC Wy JL GF WA:Addr}(F:JD K "_law_only" "_law_only" Ro f fd)(Wd:mg "NoHeights" = some (.ref Yi))(lX:mg "TooMany" = some (.ref GK))(lY:mg "NoTable" = some (.ref GL))(lZ:mg "NoSetting" = some (.ref Wh))(J9:mg "NoBanding" = some (.ref Zm))(l5:mg "NoMove" = some (.ref WC))(l6:mg "NoName" = some (.ref Wy))(l8:mg "NoPaper" = some (.ref JL))(l9:mg "NoRow" = some (.ref GF))(lg:mg "NoText" = some (.ref WA))(I:C5 K Zm)(q0:kQQ K Zm Yi)(q1:kQQ K Zm GK)(q2:kQQ K Zm GL)(q3:kQQ K Zm Wh)(q4:PySem.W.kitOne K (.ref Zm) (.ref Zm)=some true)(q5:kQQ K Zm WC)(q6:kQQ K Zm Wy)(q7:kQQ K Zm JL)(q8:kQQ K Zm GF)(q9:kQQ K Zm WA)(qv:PySem.W.kitOne K (.ref Zm) (.type "ValueError")=some true)(ZA:mg "isinstance" = none)(li:mg "ValueError" = none)(ZM:mg "range" = none):
  DD P w K mg base 1 f fd ["_law_e", "_law_due"] (AK Zm):=by
 refine F.okQ1 GH fun aB A outer s H vs Q hr hq h=>?_;obtain⟨a,rfl,ha,k⟩:=h;have qa:PySem.W.kitAny K (.ref Zm) [.ref WC,.ref Wy,.ref JL,.ref GF,.ref WA]=some false:=by simp only[PySem.W.kitAny,q5,q6,q7,q8,q9]
 refine⟨_,(Zc (Zz (i:=2) GH.nd (Zx (Za (Zs (WN (K:=K)) (by rfl) ZA K8 (Za (pv 0) (Za (W4 (v:=.ref Yi) (by rfl) Wd rfl) Zb))) (Za (Zs (WN (K:=K)) (by rfl) ZA K8 (Za (pv 0) (Za (W4 (v:=.ref GK) (by rfl) lX rfl) Zb))) (Za (Zs (WN (K:=K)) (by rfl) ZA K8 (Za (pv 0) (Za (W4 (v:=.ref GL) (by rfl) lY rfl) Zb))) (Za (Zs (WN (K:=K)) (by rfl) ZA K8 (Za (pv 0) (Za (W4 (v:=.ref Wh) (by rfl) lZ rfl) Zb))) Zb))))))
  (Zc (Zz (i:=2) GH.nd (Zk YX (pv 2) (Zx (Za (Zs (WN (K:=K)) (by rfl) ZA K8 (Za (pv 0) (Za (W4 (v:=.ref Zm) (by rfl) J9 rfl) Zb))) (Za (Zs (WN (K:=K)) (by rfl) ZA K8 (Za (pv 0) (Za (ZN (Za (W4 (v:=.ref WC) (by rfl) l5 rfl) (Za (W4 (v:=.ref Wy) (by rfl) l6 rfl) (Za (W4 (v:=.ref JL) (by rfl) l8 rfl) (Za (W4 (v:=.ref GF) (by rfl) l9 rfl) (Za (W4 (v:=.ref WA) (by rfl) lg rfl) Zb)))))) Zb))) Zb)))))
  (Zf (Zv (LU (Zs (WN (K:=K)) (by rfl) ZA K8 (Za (pv 0) (Za (Uq (v:=.ty "ValueError") (by rfl) li PyProof.Rows.Boot.«ValueError» rfl) Zb))) (Lf (Yn (Sm (K:=K) rfl hr.units) (pv 2) (Zqv (Ls:=["_law_k"]) (Fs:=["_law_due"]) (fi:=[1]) GH.lc (ZjW rfl (by rfl) ZM (Za Ze Zb)) (fun cl C U H3 ex=>⟨(YC (i:=0)),YB,(Yn Yp (pv 1) (pv 0) (Zt _))⟩)) (Zt _)))))))),?_⟩
 refine⟨_,rfl,a,_,_,false,rfl,ha,I,.inl ⟨_,rfl,q0⟩,_,rfl,a,_,_,false,rfl,ha,I,.inl ⟨_,rfl,q1⟩,_,rfl,a,_,_,false,rfl,ha,I,.inl ⟨_,rfl,q2⟩,_,rfl,a,_,_,false,rfl,ha,I,.inl ⟨_,rfl,q3⟩,(by show 4<=sizeLine;decide),fun p1 Z=>?_⟩;refine lay2 (o:=.lst [.bl false,.bl false,.bl false,.bl false]) Z fun H1 s1 e1=>?_;have J:=s1 _ _ ha;refine⟨_,rfl,_,rfl,a,_,_,true,rfl,J,I,.inl ⟨_,rfl,q4⟩,_,rfl,(by show 5<=sizeLine;decide),fun p2 wj=>?_⟩;refine lay2 (o:=.tup [.ref WC,.ref Wy,.ref JL,.ref GF,.ref WA]) wj fun H2 s2 e2=>?_;have O:=s2 _ _ J;refine⟨a,_,_,false,rfl,O,I,.inr (.inr ⟨p2,[WC,Wy,JL,GF,WA],rfl,e2,qa⟩),sz2,fun p3 wk=>?_⟩;refine lay2 (o:=.lst [.bl true,.bl false]) wk fun H3 U e3=>?_;refine ZmE (U _ _ (s2 _ _ e1)) e3 (by show 6<=sizeLine;decide) (fun p4 H4 hp4 s4 e4=>?_);have wp:=s4 _ _ (U _ _ O);have S:Zh H H4:=((s1.trans s2).trans U).trans s4;refine⟨_,rfl,a,_,_,true,rfl,wp,I,.inr (.inl ⟨_,rfl,qv⟩),?_⟩;refine⟨true,rfl,JU ?_⟩;refine⟨_,rfl,6,rfl,by decide,by decide,ZmW (n:=6) (by rw[kY];decide) (fun i zs G=>Zh H4 G/\zs=(List.range i).map fun j=>V.bl (decide (j=4))) ⟨Zh.refl _,rfl⟩ (fun i zs G q=>by rw[q.2,ke,qj];exact km _) (fun zs G q=>hq.same (S.trans q.1)) (fun i zs G hi q=>?_) (fun zs G q D hD=>?_)⟩
 ·obtain⟨Y,rfl⟩:=q;refine lcG ⟨_,rfl,_,rfl,rfl,Y,?_⟩;have:decide (V.int 4=V.int (0+(i:Int)))=decide (i=4):=qP.mpr ⟨fun z=>by injection z with z;lia,fun z=>by subst z;rfl⟩;rw[this,KN,kP];rfl
 ·obtain⟨Y,rfl⟩:=q;refine⟨p4,D,_,_,rfl,rfl,Zr.of ((Y.step hD) _ _ e4),Zr.of Zd,rfl,fun i x y hx hy=>?_,k _ ((S.trans Y).step hD)⟩;have e:([V.bl false,V.bl false,V.bl false,V.bl false] ++ [V.bl true,V.bl false])=(List.range 6).map fun j=>V.bl (decide (j=4)):=rfl;rw[e] at hx;rw[hx] at hy;cases hy;obtain⟨j,_,rfl⟩:=Kw.mp (kT hx);exact .flat rfl
inductive AL(vs:QH)(H:Hp)(Q:VK)(_E:XK):Prop|mk(l:Addr)(v:V)(lit:Lit)(sc:Int)(ls:QB)(g:QX)(_:vs = [.ref l,.int sc,v])(_:sc=0∨sc=1)(_:Drw H l ls)(_:HG sc ls g)(_:Wl H v lit)(_:okL 3 lit=true)(_:Ja ls g lit=false)(_:∀H',Zh H H'->Q (.bl true) H')
abbrev Uc:Stmt:=top 69
theorem AM:Zw ["_law_drawing_here", "_law_scale", "_law_thing", "_law_e"] nN (Zj Uc):={}
theorem Zil {YW:Addr}(F:JD K "_law_refused" "_law_refused" Uc f fd)(lj:mg "FrontError" = some (.ref YW))(mB:PySem.W.excIn K YW bmV "ValueError.__new__" = true)(mC:PySem.W.mroIn K Zm (.ref YW)=some true)
  (Yv:Lw P w K mg base 13 "partners_of" nP (IE Zm)) (mE:Ik P w K mg base 1 "_law_only" ["_law_e", "_law_due"] (AK Zm)) (Ya:mg "list" = none):Yc P w K mg base JZ 14 f fd nN AL:=by
 refine F.ok1 AM fun Z A outer s H vs Q E V h=>?_;obtain⟨l,v,S,sc,ls,g,rfl,U,dr,hg,rl,ok,nb,k⟩:=h
 let bu:Addr->Hp->Prop:=fun C H'=>C=Zm/\Zh H H'
 have I:∀C H',bu C H'->PySem.W.mroIn K C (.ref YW)=some true:=fun C H' z=>by rw[z.1];exact mC
 refine⟨_,(Zc (Qd bu (fun pins=>(Zf (ZY (DA Yv (V.mono (by decide)) (Qb rfl) (Za (ZZ (YY (K:=K)) (by rfl) Ya Xi (Za (pv 0) Zb)) (Za (pv 1) (Za (pv 2) Zb))))))) (fun pins a_x=>(Zf (Zv (Zm0 mE ((V.mono (by decide)).suite _) rfl (Za (pv 3) (Za Ze Zb)))))) (by rfl) lj mB I AM.nd (i:=3) rfl rfl)
  (Zf (Zv Wf))),?_⟩
 refine⟨?_,fun a C H1 hR ha=>?_⟩
 ·obtain⟨xs,hl,hL,hW,J⟩:=id dr;refine⟨_,rfl,l,_,rfl,.inl (Zr.of hl),fun c fc=>?_⟩;refine lay2 (o:=.lst xs) fc fun H1 O e1=>?_;exact⟨_,rfl,_,rfl,c,v,S,sc,ls,g,rfl,U,⟨xs,e1,hL.same O,hW,J⟩,hg,rl.same O,ok,fun _ H' s'=>⟨Zm,rfl,rfl,O.trans s'⟩,fun z=>absurd (nb.symm.trans z) kO⟩
 ·obtain⟨rfl,O⟩:=hR;have s2:Zh H1 (upd H1 a (.ext (isX a C))):=Zh.laid ha;have Y:(upd H1 a (.ext (isX a C))) a=some (.ext (isX a C)):=Zd;generalize upd H1 a (.ext (isX a C))=H2 at *;exact⟨_,rfl,fun x e=>by cases e;exact⟨a,C,rfl,Y⟩,a,rfl,Y,fun H' s3=>k H' ((O.trans s2).trans s3)⟩
theorem Zkn (h:J6 ls z ch ls.length≠none)(I:t<ls.length)(O:ch t=true):∃q,ls[t]? = some q/\q.1 = "cross" := by
 obtain⟨q,J⟩:∃q,ls[t]? = some q:=⟨_,ko I⟩;refine⟨q,J,?_⟩;obtain⟨ps,S⟩:=Ac (s:=t) (Kv I) h;obtain⟨r,F⟩:=Ac (s:=t+1) I h;rw[Iw S J,O] at F;unfold nxt at F;cases hm:Wm ps q with
 | none=>rw[hm] at F;cases F
 | some r'=>
  rw[hm] at F;dsimp only at F;rw[kj rfl] at F;split at F
  ·rename_i e;exact e.1
  ·cases F
theorem ZmS (F:ls[t]? = some q)(I:q.1 = "cross"):(t:Int)∈crI ls:=by show (t:Int)∈Ym ls _ ls.length;unfold Ym;exact KZ.mpr ⟨t,Ku.mpr (kC.mp F).1,by rw[kj (by rw[Ut F,I];rfl)]⟩
theorem ZqL {c:Int}(h:c∈crI ls):0<=c/\c<(ls.length:Int):=by
 replace h:c∈Ym ls _ ls.length:=h;unfold Ym at h;obtain⟨t,F,e⟩:=KZ.mp h;have:=Ku.mp F;split at e
 ·cases e;lia
 ·cases e
theorem Znn :(cs.map Lit.int).all (okI al)=true ↔ ∀c∈cs,c∈al:=by
 rw[Ks];constructor
 ·intro h c F;exact kI (h _ (Kw.mpr ⟨c,F,rfl⟩))
 ·intro h x I;obtain⟨c,F,rfl⟩:=Kw.mp I;exact kH (h c F)
theorem ints_map (cs:QG):(cs.map Lit.int).map MW=cs:=by rw[T8];exact(M0 fun _ _=>rfl).trans (List.map_id _)
theorem UT :Ja ls g (.lst (cs.map Lit.int))=true ↔ (∀c∈cs,c∈crI ls)/\MT cs=true/\J6 ls (zfA g ls) (chA cs) ls.length≠none:=by unfold Ja;rw[show Lz (crI ls) (.lst (cs.map Lit.int))=((cs.map Lit.int).all (okI (crI ls))&&MT ((cs.map Lit.int).map MW)) from rfl,show csL (.lst (cs.map Lit.int))=(cs.map Lit.int).map MW from rfl,ints_map,Kc,Kc,Znn,Option.isSome_iff_ne_none,and_assoc]
theorem Zmq (hb:∀c∈cs,0<=c/\c<(ls.length:Int))(J:MT cs=true)(I:J6 ls (zfA g ls) (chA cs) ls.length≠none):Ja ls g (.lst (cs.map Lit.int))=true:=by refine UT.mpr ⟨fun c F=>?_,J,I⟩;obtain⟨t,rfl⟩:=kF (hb c F).1;obtain⟨q,O,e⟩:=Zkn I (t:=t) (by have:=(hb _ F).2;lia) (kH F);exact ZmS O e
theorem AN:∀{ls:List Lit},ls.all Uz=true->ls=(ls.map MW).map Lit.int
 | [],_=>rfl
 | x::ls,h=>by
  rw[TH,Kc] at h;rw[Ko,Ko,<- AN h.2];cases x with
  | int i=>rfl
  | _=>cases h.1
theorem Zlu {l:Lit}(h:okI al l=true):Uz l=true:=by
 cases l with
 | int i=>rfl
 | _=>cases h
theorem Zkm {lit:Lit}(h:Ja ls g lit=true):Dg lit=true:=by
 unfold Ja at h;rw[Kc] at h;cases lit with
 | lst l=>
  have:=(XS.mp (show (l.all (okI (crI ls))&&MT (l.map MW))=true from h.1)).1;rw[Ks] at this;exact Ks.mpr fun x F=>Zlu (this x F)
 | _=>cases h.1
theorem AO:∀(L:QB){n:Int},Fwd n L->n<=2*(L.length:Int)
 | [],n,h=>by have:n=0:=h;subst this;decide
 | q::L,n,⟨m,F,h⟩=>by have I:=AO L h;rw[Kk];obtain⟨_,F⟩:=F;rcases F with⟨_,_,e⟩ | ⟨_,_,e⟩ | ⟨_,_,e⟩<;>lia
theorem Zne (F:Wk ls 0)(J:ls.length<=60)(hi:i<=ls.length)(h:J6 ls z ch i=some ps):ps.length<=60:=by obtain⟨n,I,al⟩:=Iz (z:=z) (ch:=ch) F i hi;obtain⟨_,O⟩:=al ps h;have h1:=L6 I;have h2:=AO (ls.drop i) (IL (ls.drop i) (a:=ls.take i) (by rw[KP];exact F) I);rw[kK] at h1;rw[Kr] at h2;lia
theorem Rp {H:Hp}:∀cs:QG,J8 H (cs.map V.int) (cs.map Lit.int)
 | []=>.nil
 | _::cs=>.cons (.int _) (Rp cs)
theorem AQ (h:cs.length<=62):okL 3 (.lst (cs.map Lit.int))=true:=by simp only[okL,Kc,Ks,Km];refine⟨by rw[ke];exact h,fun x F=>?_⟩;obtain⟨c,_,rfl⟩:=Kw.mp F;rfl
theorem Zj3 (cs:QG):Dg (.lst (cs.map Lit.int))=true:=by show (cs.map Lit.int).all Uz=true;rw[Mp,Ks];exact fun _ _=>rfl
theorem AR:∀cs:QG,MT cs=true ↔ cs.Pairwise (· < ·)
 | []=>⟨fun _=>.nil,fun _=>rfl⟩
 | [a]=>⟨fun _=>N4 _ _,fun _=>rfl⟩
 | a::b::l=>by
  have I:=AR (b::l);have e:MT (a::b::l)=(decide (a<b)&&MT (b::l)):=rfl;rw[e,Kc,I,Km];constructor
  ·rintro⟨h1,h2⟩;refine qd.mpr ⟨fun x F=>?_,h2⟩;rcases kQ.mp F with rfl | F
   ·exact h1
   ·have:=(qd.mp h2).1 x F;lia
  ·intro h;obtain⟨h1,h2⟩:=qd.mp h;exact⟨h1 b kS,h2⟩
theorem Znd {ks os:QG}(nd:ks.Nodup)(mem:∀x,x∈ks ↔ x∈cs)(pm:os.Perm ks)(F:os.Pairwise (· <= ·)):os=cs ↔ MT cs=true:=by
 rw[AR];constructor
 ·rintro rfl;have n:=pm.nodup_iff.mpr nd;rw[K0] at n;exact(F.and n).imp fun⟨a,b⟩=>by lia
 ·intro h;have n:cs.Nodup:=K0.mpr (h.imp fun z=>by lia);have p:ks.Perm cs:=(Nr nd n).mpr mem;exact CS (pm.trans p) F (h.imp fun z=>by lia)
inductive AS(vs:QH)(H:Hp)(Q:VK)(_E:XK):Prop|mk(l:Addr)(v:V)(lit:Lit)(sc:Int)(ls:QB)(g:QX)(_:vs = [.ref l,.int sc,v])(_:sc=0∨sc=1)(_:Drw H l ls)(_:HG sc ls g)(_:Wl H v lit)(_:okL 3 lit=true)(_:∀H',Zh H H'->Q (.bl (Ja ls g lit)) H')
abbrev Wu:Stmt:=top 70
theorem Ue:Zw nN nN (Zj Wu):={}
theorem Znp (F:JD K "_law_is_banding" "_law_is_banding" Wu f fd)(Y7:Jk P w K mg base 2 "_law_numbers" nK Rb)(Wg:Jk P w K mg base 6 "_law_walk" nS Rh)(UZ:mg "all" = none)(Yl:mg "len" = none)(mF:mg "set" = none)(YT:mg "sorted" = none):Yc P w K mg base JZ 7 f fd nN AS:=by
 refine F.ok1 Ue fun aB A outer s H vs Q E Y h=>?_;obtain⟨l,v,O,sc,ls,g,rfl,aW,dr,hg,rl,ok,k⟩:=h;refine⟨_,(Zc (ZP (PW.pt (MX (J4 (JC (Zp Y7 Y (Za (pv 2) Zb)))) (MX (Zu (Zn3 (K:=K) rfl Y.units) (Zs (Zd1 (P:=P) (w:=w) rfl rfl rfl) (by rfl) YT TQ (Za (ZZ (Zih (P:=P) (w:=w) rfl rfl rfl) (by rfl) mF PyProof.Rows.boot_set (Za (pv 2) Zb)) Zb)) (pv 2) (Zt _)) (LS (J4 (JC (Zs (U4 (K:=K) rfl rfl) (by rfl) UZ boot_all (Za (WI (Ls:=["_law_one"]) (Fs:=nF) (fi:=[0]) Ue.lc rfl (ZU (K:=K) rfl (pv 2)) (fun cl C s3 H3 ex=>⟨(YC (i:=0)),YB,(RN EL W9 Ze (pv 0) (Zs (Yq (K:=K)) (by rfl) Yl KR (Za (pv 1) Zb)))⟩)) Zb)))))))) (Zf (Zv Wf)) ZF)
  (Zf (Zv (Yn Pd (Zp Wg Y (Za (pv 0) (Za (pv 1) (Za (pv 2) Zb)))) Jx (Zt _))))),?_⟩
 obtain⟨xs,hl,hL,hW,Z⟩:=id dr;have aF:=hL.len;refine⟨_,rfl,v,O,rfl,rl,ok,fun H1 s1=>⟨_,rfl,?_⟩⟩;have S:Ja ls g O=false -> ∀H',Zh H H'->Q (.bl false) H':=fun z H' s'=>by
  have:=k H' s'
  rwa [z] at this
 cases hn:Dg O with
 | false=>
  refine JU (JU (S ?_ H1 s1));cases hb:Ja ls g O with
  | false=>rfl
  | true=>rw[Zkm hb] at hn;cases hn
 | true=>
 refine YD ?_;rcases B8 (K:=K) rl with⟨p,us,ll,rfl,rfl,hp,rs⟩ | ⟨_,_,_,nl⟩
 rotate_left
 ·cases O with
  | lst ll=>exact absurd rfl (nl ll)
  | _=>cases hn
 obtain⟨pZ,_⟩:=IA ok;obtain⟨cs,wq⟩:∃cs,cs=ll.map MW:=⟨_,rfl⟩;have el:=AN (show ll.all Uz=true from hn);rw[<- wq] at el;subst el;have ex:=ID rs;subst ex;have lc:cs.length<=62:=by rw[ke] at pZ;exact pZ
 have I:=s1 _ _ hp;have U:=s1 _ _ hl;have W:cs.length<=100:=by lia
 refine⟨_,rfl,p,cs,rfl,I,lc,fun sa ks wt nd mem=>?_⟩;have lk:ks.length<=62:=Kb (Bf nd fun x hx=>(mem x).mp hx) lc;refine lay2 (o:=Dd P w sa ks) wt fun J1 j1 d1=>?_;refine⟨sa,ks,rfl,d1,by lia,fun so os wu pm pw=>?_⟩;refine lay2 (o:=.lst (os.map V.int)) wu fun J2 j2 d2=>?_;have sJ:=s1.trans (j1.trans j2);refine⟨_,rfl,so,p,os,cs,rfl,rfl,Zr.of d2,Zr.of ((j1.trans j2) _ _ I),_,rfl,?_⟩;have pc:=Znd nd mem pm pw;cases ha:MT cs with
 | false=>
  rw[Kh fun z=>by rw[pc.mp z] at ha;cases ha];refine JU (S ?_ J2 sJ);cases hbl:Ja ls g (.lst (cs.map Lit.int)) with
  | false=>rfl
  | true=>rw[(UT.mp hbl).2.1] at ha;cases ha
 | true=>
 rw[kH (pc.mpr ha)];refine YD ?_;clear I U;have I:=sJ _ _ hp;have U:=sJ _ _ hl;refine⟨_,rfl,p,rfl,⟨_,Zr.of I⟩,YZ (K:=K) (xs:=cs.map V.int) (by rw[ke,kY];lia) (fun i zs G=>Zh J2 G/\zs=((cs.map fun c=>decide (0<=c/\c<(ls.length:Int))).take i).map V.bl) ⟨Zh.refl _,rfl⟩
  (fun i zs G ⟨_,z⟩=>by rw[z,ke,kK];lia) (fun i zs G ⟨s',_⟩=>Zr.of (s' _ _ I)) (fun i x zs G hx q=>?_) (fun zs G q D hD=>?_)⟩
 ·obtain⟨s',rfl⟩:=q;rw[kE] at hx;obtain⟨c,hc,rfl⟩:=k8.mp hx;refine lcG ⟨_,rfl,_,_,rfl,rfl,_,rfl,?_⟩;have tk:=Ag (fun c:Int=>decide (0<=c/\c<(ls.length:Int))) hc;refine Z7 (fun h0=>?_) (fun h0=>?_)
  ·refine⟨_,rfl,l,_,rfl,.inl (Zr.of (s' _ _ U)),_,_,rfl,rfl,s',?_⟩;rw[<- tk,aF];have:decide (c<(ls.length:Int))=decide (0<=c/\c<(ls.length:Int)):=qP.mpr ⟨fun z=>⟨kI h0,z⟩,fun z=>z.2⟩;rw[<- this]
  ·refine⟨s',?_⟩;rw[<- tk];have:decide (0<=c/\c<(ls.length:Int))=false:=Kh fun z=>h0 (kH z.1);rw[this]
 obtain⟨s',rfl⟩:=q;rw[kL (by rw[ke,ke];exact km _)];refine lay2 (o:=.lst ((cs.map fun c=>decide (0<=c/\c<(ls.length:Int))).map V.bl)) hD fun G1 t1 e1=>?_;have fL:=s'.trans t1;have J:=sJ.trans fL;refine⟨D,_,rfl,Zr.of e1,_,rfl,?_⟩;cases hb:(cs.map fun c=>decide (0<=c/\c<(ls.length:Int))).all id with
 | false=>
  refine JU (S ?_ G1 J);cases hbl:Ja ls g (.lst (cs.map Lit.int)) with
  | false=>rfl
  | true=>
   have z:=(UT.mp hbl).1;rw[Mp,List.all_eq_false] at hb;obtain⟨c,hc,hz⟩:=hb;exact absurd (show (id ∘ fun c:Int=>decide (0<=c/\c<(ls.length:Int))) c=true from kH (ZqL (z c hc))) hz
 | true=>
 rw[Mp,Ks] at hb;have gL:∀c∈cs,0<=c/\c<(ls.length:Int):=fun c hc=>kI (hb c hc);refine YD ?_;refine⟨_,rfl,_,rfl,_,rfl,l,p,sc,ls,g,cs,rfl,aW,⟨xs,J _ _ hl,hL.same J,hW,Z⟩,hg,J _ _ hp,W,fun zn H' s'=>⟨rfl,?_⟩,fun r ws rows H' s' _ _ _ _ lr Y=>⟨rfl,?_⟩⟩
 ·refine S ?_ H' (J.trans s');cases hbl:Ja ls g (.lst (cs.map Lit.int)) with
  | false=>rfl
  | true=>exact absurd zn (UT.mp hbl).2.2
 ·have:=k H' (J.trans s')
  rwa [Zmq gL ha (by rw[Y _ (km _),ko (by lia)];exact fun z=>nomatch z)] at this
theorem AU {H:Hp}:∀{zs:QH}{vs:QA},MR H zs vs -> ∃bs:List Addr,zs=bs.map V.ref/\Paired (fun a w=>H a=some (.lst (w.map V.int))) bs vs
 | _,_,.nil=>⟨[],rfl,.nil⟩
 | _,_,.cons ⟨a,e,h⟩ t=>by obtain⟨bs,F,p⟩:=AU t;exact⟨a::bs,by rw[e,F];rfl,.cons h p⟩
inductive AV(vs:QH)(H:Hp)(Q:VK)(_E:XK):Prop|mk(l p:Addr)(sc:Int)(ls:QB)(g:QX)(cs:QG)(_:vs = [.ref l,.int sc,.ref p])(_:sc=0∨sc=1)(_:Drw H l ls)(_:HG sc ls g)(_:H p=some (.lst (cs.map V.int)))(_:cs.length<=62)(_:Ja ls g (.lst (cs.map Lit.int))=true)(_:∀H',Zh H H'->Q (.bl true) H')
abbrev Rq:Stmt:=top 68
theorem JO:Zw ["_law_drawing_here", "_law_scale", "_law_one", "_law_due", "_law_handed", "_law_turn", "_law_told"] nW (Zj Rq):={}
theorem ZnV (F:JD K "_law_good" "_law_good" Rq f fd)(Yv:Lw P w K mg base 13 "partners_of" nP (IE Zm))(Wg:Jk P w K mg base 6 "_law_walk" nS Rh)(Y7:Jk P w K mg base 2 "_law_numbers" nK Rb)(mG:Jk P w K mg base 1 "_law_own" ["_law_lists", "_law_due"] AI)(Ya:mg "list" = none)(ZM:mg "range" = none)(ZA:mg "isinstance" = none)(UZ:mg "all" = none):Yc P w K mg base JZ 14 f fd nW AV:=by
 refine F.ok1 JO fun aB A outer s H vs Q E hr h=>?_;obtain⟨l,p,sc,ls,g,cs,rfl,aW,dr,hg,ep,nc,bt,k⟩:=h;refine⟨_,(Zc (Zz (i:=3) JO.nd (Zp Wg hr (Za (pv 0) (Za (pv 1) (Za (pv 2) Zb)))))
  (Zc (Zz (i:=4) JO.nd (Zx (Za (ZZ (YY (K:=K)) (by rfl) Ya Xi (Za (pv 0) Zb)) (Za (ZZ (YY (K:=K)) (by rfl) Ya Xi (Za (pv 2) Zb)) Zb))))
  (Zc (Yr Ka rfl (YA (by rfl) ZM (Za Ze Zb)) (ZT (i:=5) JO.nd) (Zc (Zz (i:=6) JO.nd (DA Yv (hr.mono (by decide)) Rg (Za (Zy (Zl (K:=K)) (pv 4) Ze (fun _ _=>rfl)) (Za (pv 1) (Za (Zy (Zl (K:=K)) (pv 4) Ze (fun _ _=>rfl)) Zb)))))
  (Zc (ZP (PW.pt (MX (J4 (JC (Zs (Jf (K:=K)) (by rfl) ZA K8 (Za (pv 6) (Za (Uq (v:=.ty "list") (by rfl) Ya Xi rfl) Zb))))) (MX (Zu (Pq (K:=K) rfl hr.units) (pv 6) (pv 3) (Zt _)) (LS (J4 (JC (Zs (U4 (K:=K) rfl rfl) (by rfl) UZ boot_all (Za (WI (Ls:=["_law_row"]) (Fs:=[]) (fi:=[]) JO.lc rfl (ZU (K:=K) rfl (pv 6)) (fun cl C s3 H3 ex=>⟨(YC (i:=0)),YB,(Zp Y7 hr (Za (pv 0) Zb))⟩)) Zb)))))))) (Zf (Zv Wf)) ZF)
  (Zc (ZP (Zu (Pq (K:=K) rfl hr.units) (pv 4) (Zx (Za (pv 0) (Za (pv 2) Zb))) (Zt _)) (Zf (Zv Wf)) ZF)
  (Zc (ZP (J4 (JC (Zp mG hr (Za (pv 6) (Za (pv 3) Zb))))) (Zf (Zv Wf)) ZF)
  (Zf (ZY (Yd (K:=K) rfl (Yw kJ kU kW ZL (pv 6) (Za Jx Zb))))))))))
  (Zf (Zv Wf))))),?_⟩
 obtain⟨xs,hl,hL,hW,Y⟩:=id dr;have ww:=(UT.mp bt).2.2;refine⟨_,rfl,_,rfl,_,rfl,l,p,sc,ls,g,cs,rfl,aW,dr,hg,ep,by lia,fun zn H' s'=>absurd zn ww,fun r ws I H1 s1 fr er lw fw lr hJ=>?_⟩;obtain⟨bs,rfl,pb⟩:=AU lw;refine⟨_,rfl,l,_,rfl,.inl (Zr.of (s1 _ _ hl)),fun ha wz=>?_⟩;refine lay2 (o:=.lst xs) wz fun H2 s2 e2=>?_;refine⟨_,rfl,p,_,rfl,.inl (Zr.of (s2 _ _ (s1 _ _ ep))),fun hb xA=>?_⟩;refine lay2 (o:=.lst (cs.map V.int)) xA fun H3 s3 e3=>?_;refine⟨sz2,fun hd xB=>?_⟩;refine lay2 (o:=.lst [.ref ha,.ref hb]) xB fun H4 s4 e4=>?_;have U:=(s2.trans s3).trans s4;have bn:=s1.trans U;have pd:=MU pb;have mH:∀w∈I,w.length<=60:=fun w hw=>by obtain⟨i,hi,rfl⟩:=MY hw;exact Zne hW Y (i:=i) (by lia) ((hJ i (by lia)).trans (ko hi))
 obtain⟨W,eW⟩:∃W:Nat->List Int,W=fun r=>I.getD r []:=⟨_,rfl⟩;have Z:∀r,(W r).length<=60:=fun r=>by
  rw[eW];show (I.getD r []).length<=60;rw[k7];cases h:I[r]? with
  | none=>simp
  | some w=>exact mH w (kT h)
 have fg:∀{r:Nat}{w:QG},I[r]? = some w->W r=w:=fun {r w} h=>by rw[eW];show I.getD r []=w;rw[k7,h];rfl
 refine⟨2,rfl,by decide,by decide,Jl (n:=2) (fun i σ G=>∃v5 v6:QI,σ = [some (.ref l),some (.int sc),some (.ref p),some (.ref r),some (.ref hd),v5,v6]/\Zh H4 G) ⟨_,_,rfl,Zh.refl _⟩ ?_ ?_⟩
 ·rintro i σ G hi ⟨v5,v6,rfl,S⟩;have mI:=bn.trans S;have mJ:=S _ _ e4;have rB:=((s3.trans s4).trans S) _ _ e2;have rC:=(s4.trans S) _ _ e3;refine⟨_,rfl,hd,_,0,.ref ha,rfl,rfl,Zr.of mJ,rfl,_,rfl,_,rfl,hd,_,1,.ref hb,rfl,rfl,Zr.of mJ,rfl,ha,.ref hb,.lst (cs.map Lit.int),sc,ls,g,rfl,aW,⟨xs,rB,hL.same mI,hW,Y⟩,hg,.lst rC (Rp cs),AQ nc,fun z=>absurd (bt.symm.trans z) (fun q=>kO q.symm),fun _ d as J G1 g1 fd ed nd fa pa lr2 gh=>?_⟩;rw[show csL (.lst (cs.map Lit.int))=cs from ints_map cs] at gh;obtain rfl:J=I:=XI fun t=>by
   by_cases c:t<=ls.length
   ·exact(gh t c).symm.trans (hJ t c)
   ·rw[XF (by lia),XF (by lia)]
  have la:=MU pa;have rD:=U.trans (S.trans g1);have bU:=rD _ _ er;have ta:IQ G1 d J.length W as:=⟨ed,la,fun r p e=>by obtain⟨w,h1,h2⟩:=LN pa e;rw[fg h1];exact h2⟩
  have tb:IQ G1 r J.length W bs:=⟨bU,pd,fun r p e=>by obtain⟨w,h1,h2⟩:=LN pb e;rw[fg h1];exact rD _ _ h2⟩
  refine⟨_,rfl,_, "list", _,true,rfl,.lst ed,by rfl,true,rfl,YD ?_⟩;refine⟨_,rfl,_,rfl,d,r,_,_,rfl,rfl,Zr.of ed,Zr.of bU,(by rw[ke,ke,la,pd]),fun j x y ex ey=>?_,_,rfl,YD ?_⟩
  ·rw[kE] at ex ey;obtain⟨q,e1,rfl⟩:=k8.mp ex;obtain⟨u,fI,rfl⟩:=k8.mp ey;exact IS (v:=W j) (ta.2.2 _ _ e1) (tb.2.2 _ _ fI)
  refine⟨_,rfl,d,rfl,⟨_,Zr.of ed⟩,YZ (K:=K) (a:=d) (xs:=as.map V.ref) (by rw[ke,kY];lia) (fun i ys G=>Zh G1 G/\ys=(List.replicate i true).map V.bl) ⟨Zh.refl _,rfl⟩ (fun i ys G p=>by rw[p.2];simp) (fun i ys G p=>Zr.of (p.1 _ _ ed)) (fun j x ys G hx p=>?_) (fun ys G p D hD=>?_)⟩
  ·obtain⟨sm,rfl⟩:=p;rw[kE] at hx;obtain⟨u,e1,rfl⟩:=k8.mp hx;refine lcG ⟨_,rfl,.ref u,.lst ((W j).map Lit.int),rfl,.lst (sm _ _ (ta.2.2 _ _ e1)) (Rp _),AQ (Kb (Z j) (by decide)),fun G' s'=>⟨sm.trans s',?_⟩⟩;rw[Zj3,Xl,kP];rfl
  obtain⟨sm,rfl⟩:=p;have sD:=Zh.laid (o:=.lst ((List.replicate (as.map V.ref).length true).map V.bl)) hD;have rE:=sm.trans sD;refine⟨D,_,rfl,Zr.of Zd,_,rfl,?_⟩;rw[show (List.replicate (as.map V.ref).length true).all id=true by simp];refine YD ?_;generalize upd G D (.lst ((List.replicate (as.map V.ref).length true).map V.bl))=G4 at *;have gD:=g1.trans rE;have gW:=gD _ _ mJ;refine⟨_,rfl,_,rfl,_,rfl,sz2,fun pr xC=>?_⟩;refine lay2 (o:=.lst [.ref l,.ref p]) xC fun G5 s5 e5=>?_;have g5:=gD.trans s5;refine⟨hd,pr,_,_,rfl,rfl,Zr.of (s5 _ _ gW),Zr.of e5,rfl,fun j x y ex ey=>?_,_,rfl,YD ?_⟩
  ·rcases j with _ | _ | j
   ·cases ex;cases ey;refine .lst (Zr.of (g5 _ _ rB)) (Zr.of (g5 _ _ (mI _ _ hl))) rfl fun n x y a1 a2=>?_;obtain⟨q',t,_,rfl,_⟩:=hL.get a1;rw[a1] at a2;cases a2;exact .same
   ·cases ex;cases ey;exact IS (g5 _ _ rC) (g5 _ _ (mI _ _ ep))
   ·cases ex
  have O:=rE.trans s5;have fH:∀a∈as,H4 a=none:=fun a ha=>S.free (fa a ha).1;refine⟨_,rfl,_,rfl,d,r,J.length,W,as,bs,rfl,⟨O _ _ ta.1,ta.2.1,fun r p e=>O _ _ (ta.2.2 r p e)⟩,⟨O _ _ tb.1,tb.2.1,fun r p e=>O _ _ (tb.2.2 r p e)⟩,by lia,fun r=>Kb (Z r) (by decide),nd,fun h=>(fa d h).2 rfl,fun h=>?_,fun q hp hb=>?_,fun H5 f5=>⟨_,rfl,YD ?_⟩⟩
  ·have:=fH r h;rw[U _ _ er] at this;cases this
  ·obtain⟨w',_,h2⟩:=Paired.mem1 pb q hb;have:=fH q hp;rw[U _ _ h2] at this;cases this
  have rF:=f5 _ _ (O _ _ ed) (fun h=>(fa d h).2 rfl);refine⟨_,rfl,.inl ⟨rfl,_,Zr.of rF⟩,d,_,_,rfl,rfl,rF,(by rw[ke,kY];lia),?_⟩;refine⟨_,_,rfl,fun c o e=>?_⟩;have xD:H4 d=none:=S.free fd;rw[Zi (Zg e xD)];exact f5 c o ((g1.trans O) _ _ (S _ _ e)) (fun h=>by rw[fH c h] at e;cases e)
 ·rintro σ G ⟨v5,v6,rfl,S⟩;exact k _ (bn.trans S)
theorem AW {xs:QH}{lo hi:QW}(h:v∈J5 xs lo hi):v∈xs:=MP (TN h)
theorem ZnN {b:Addr}{o:HO}(h:Bag H b)(n:f≠b):Bag (upd H f o) b:=let ⟨g,r,h0,e⟩:=h;⟨g,r,h0,by rw[Zi (KA n)];exact e⟩
def Num (b:Addr)(H:Hp)(v:V):Prop:=∃(o:Addr)(ns:QG),v = .ref o/\H o=some (.lst (ns.map V.int))/\ns.length<=60/\o≠b
theorem Num.frm {b:Addr}(h:Num b H v)(f:Y5 b H H'):Num b H' v:=let ⟨o,ns,e,h1,h2,h3⟩:=h;⟨o,ns,e,f _ _ h1 h3,h2,h3⟩
theorem Num.put {b L:Addr}{us:QH}{o':HO}(h:Num b H v)(e:H L=some (.lst us))(F:∃r,V.ref r∈us):Num b (upd H L o') v:=by
 obtain⟨o,ns,I,h1,h2,J⟩:=h;refine⟨o,ns,I,?_,h2,J⟩;rw[Zi fun z=>?_]
 ·exact h1
 ·rw[z,e] at h1;injection h1 with h1
  injection h1 with h1
  obtain⟨r,F⟩:=F;rw[h1] at F;obtain⟨_,_,hz⟩:=Kw.mp F;cases hz
theorem ZlI {lit:Lit}(r:Wl H v lit)(h:Ja ls g lit=true)(ok:okL 3 lit=true):∃(p:Addr)(cs:QG),v = .ref p/\H p=some (.lst (cs.map V.int))/\cs.length<=62/\lit = .lst (cs.map Lit.int):=by
 have F:Lz (crI ls) lit=true:=by unfold Ja at h;exact(XS.mp h).1
 obtain⟨p,e,ep,n⟩:=Al r F ok;refine⟨p,csL lit,e,ep,n,?_⟩;cases lit with
 | lst l=>exact Kx Lit.lst (IC (XS.mp F).1)
 | _=>cases F
inductive IT(K:QF)(vs:QH)(H:Hp)(Q:VK)(_E:XK):Prop|mk(a:Addr)(ns:QG)(_:vs = [.ref a])(_:Zr K H a (ns.map V.int))(_:ns.length<=63)(_:∀H',Q (.bl true) H')
abbrev DH:Stmt:=top 71
theorem GV:Zw ["_law_script", "_law_k", "_law_drawing_here", "_law_scale", "_law_bag_here", "_law_known", "_law_some", "_law_turn", "_law_one", "_law_thing"] ["_law_script"] (Zj DH):={}
theorem Zpg (F:JD K "law" "law" DH f fd)(hV:Jk P w K mg base 1 "_law_bag" ["_law_script", "_law_at"] (Fi K))(Zq:Jk P w K mg base 1 "_law_take" nJ UC)(mK:Jk P w K mg base 4 "_law_front" nI FX)(UB:Jk P w K mg base 5 "_law_scales" nF F0)(GA:Jk P w K mg base 6 "_law_bandings" nG AD)(Gp:Jk P w K mg base 2 "_law_odd_list" ["_law_bag_here", "_law_some"] AH)(Wv:Jk P w K mg base 7 "_law_is_banding" nN AS)(mL:Jk P w K mg base 14 "_law_good" nW AV)(GW:Jk P w K mg base 14 "_law_refused" nN AL)(Yv:Lw P w K mg base 13 "partners_of" nP (IE Zm))
  (ZM:mg "range" = none) (Yl:mg "len" = none) (Gf:mg "max" = none) (bJ:mg "min" = none) (GY:mg "int" = none) (Jg:mg "tuple" = none):Yc P w K mg base JZ 15 f fd ["_law_script"] (IT K):=by
 refine F.ok1 GV fun aB A outer s H vs Q E J h=>?_;obtain⟨a,ns,rfl,hS,aA,k⟩:=h;refine⟨_,(Zc (Yr Ka rfl (YA (by rfl) ZM (Za (Zs (WK rfl) (by rfl) Gf N6 (Za Ze (Za (Zs (CH rfl) (by rfl) bJ boot_min (Za Ze (Za (Zs (Yq (K:=K)) (by rfl) Yl KR (Za (pv 0) Zb)) Zb))) Zb))) Zb)) (ZT (i:=1) GV.nd) (Zc (Zz (i:=2) GV.nd (Zp mK J (Za (Zp hV J (Za (pv 0) (Za (pv 1) Zb))) (Za Ze Zb))))
  (Zf (Yr Ka rfl (ZU (K:=K) rfl (Zp UB J (Za (pv 2) Zb))) (ZT (i:=3) GV.nd) (Zc (LV (i:=4) GV.nd rfl (Or.inr rfl) (Zp hV J (Za (pv 0) (Za (Zk ZC (Zk ZC (pv 1) Ze) (Zk Wn Ze (pv 3))) Zb))))
  (Zc (Zz (i:=5) GV.nd (Zp GA J (Za (pv 2) (Za (pv 3) Zb))))
  (Zc (Zz (i:=6) GV.nd (Zk YX (Zk YX (ZW (Yf (K:=K)) (pv 5) Yt (ZQ Ze)) (ZW (Yf (K:=K)) (pv 5) (ZQ (UY WO Ze)) Yt)) (Zx (Za (Zx Zb) (Za (WI (Ls:=["_law_t"]) (Fs:=["_law_bag_here"]) (fi:=[4]) GV.lc rfl (YA (by rfl) ZM (Za (Zs (Yq (K:=K)) (by rfl) Yl KR (Za (pv 2) Zb)) Zb)) (fun cl C s3 H3 ex=>⟨(YC (i:=0)),(Dr (Zu Yp (Zp Zq J (Za (pv 1) (Za Ze Zb))) Ze (Zt _))),(pv 0)⟩)) Zb)))))
  (Zc (Yr Ka rfl (YA (by rfl) ZM (Za (Zk Wn Ze (ZZ U1 (by rfl) GY N7 (Za (Yn (SS (K:=K) rfl J.units) (pv 5) (Zx Zb) (Zt _)) Zb))) Zb)) (ZT (i:=7) GV.nd) (Zf (ZY (Yd (K:=K) rfl (Yw kJ kU kW ZL (pv 6) (Za (Zy (Zl (K:=K)) (pv 5) (Zp Zq J (Za (pv 4) (Za (Zs (Yq (K:=K)) (by rfl) Yl KR (Za (pv 5) Zb)) Zb))) (fun _ _=>rfl)) Zb))))))
  (Zf (Yr Ka rfl (ZU (K:=K) rfl (pv 6)) (ZT (i:=8) GV.nd) (Zf (Yr Ka rfl (ZU (K:=K) rfl (PEc.out (PV (WB (C1 (pv 8)) (WB (C1 (Zp Gp J (Za (pv 4) (Za (pv 8) Zb)))) (WB (VO YX (C1 (pv 8)) (PV (WB (VP WO VM) PU S2))) (WB S4 (WB VN (WB (C1 (ZZ W7 (by rfl) Jg Mo (Za (pv 8) Zb))) (WB (PV (WB S4 PU Yx)) PU S1) (by rfl)) Yx) Yx) S3) (by rfl)) VJ)))) (ZT (i:=9) GV.nd) (Zf (ZP (JC (Zp Wv J (Za (pv 2) (Za (pv 3) (Za (pv 9) Zb))))) (Zf (ZP (J4 (JC (Zp mL J (Za (pv 2) (Za (pv 3) (Za (pv 9) Zb)))))) (Zf (Zv Wf)) ZF)) (Zf (ZP (J4 (JC (Zp GW J (Za (pv 2) (Za (pv 3) (Za (pv 9) Zb)))))) (Zf (Zv Wf)) ZF))))))))))))))))
  (Zf (Zv (Yn (Sm (K:=K) rfl J.units) (DA Yv (J.mono (by decide)) Rg (Za (Zx Zb) (Za Ze (Za (Zx Zb) Zb)))) (Zx (Za (Zx Zb) Zb)) (Zt _))))),?_⟩
 refine⟨_,rfl,a,_,rfl,.inl hS,_,_,rfl,_,_,rfl,_,rfl,?_,?_,Jl (fun i σ H'=>∃v1 v2 v3 v4 v5 v6 U v8 S:QI,σ = [some (.ref a),v1,v2,v3,v4,v5,v6,U,v8,S]/\Zh H H') ⟨none,none,none,none,none,none,none,none,none,rfl,Zh.refl _⟩ ?_ ?_⟩
 ·split<;>(try split)<;>lia
 ·rw[ke];split<;>(try split)<;>lia
 ·rintro i σ H0 hi ⟨v1,v2,v3,v4,v5,v6,U,v8,S,rfl,sm⟩;have iT:i<900:=by
   rw[ke] at hi;revert hi;split<;>(try split)<;>lia
  refine⟨_,rfl,_,rfl,a,_,ns,rfl,sm.seq hS,by lia,by lia,fun b0 H1 cO s1 af=>?_⟩;refine⟨b0,8,rfl,af,by decide,by decide,fun l H2 ls hl bE f2 dr nx cr=>?_⟩;refine⟨_,rfl,l,ls,rfl,dr,fun p H3 scs s3 fp ep sl aW=>?_⟩;refine⟨p,rfl,⟨_,Zr.of ep⟩,JA (K:=K) (a:=p) (xs:=scs.map V.int) (fun j σ G=>∃v3 v4 v5 v6 U v8 S:QI,σ = [some (.ref a),some (.int (0+(i:Int))),some (.ref l),v3,v4,v5,v6,U,v8,S]/\Zh H3 G) ⟨_,_,_,_,_,_,_,rfl,Zh.refl _⟩ (fun j σ G _ ⟨_,_,_,_,_,_,_,_,s'⟩=>Zr.of (s' _ _ ep)) ?_ ?_⟩
  ·rintro j y σ G hy ⟨v3,v4,v5,v6,U,v8,S,rfl,sG⟩;rw[kE] at hy;obtain⟨sc,e1,rfl⟩:=k8.mp hy;obtain⟨W,g,hg⟩:=aW sc (kT e1);obtain⟨xs,aF,hL,hW,rG⟩:=id dr;have hxn:=hL.len;have mM:=s3.trans sG;have gw:Zh H G:=fun c o e=>sG c o (s3 c o (f2 c o (s1 c o (sm c o e)) (Zg (sm c o e) cO)));refine⟨_,rfl,_,rfl,_,_,rfl,rfl,_,rfl,_,_,rfl,rfl,.inl ⟨by decide,by decide⟩,_,_,rfl,rfl,a,_,ns,rfl,gw.seq hS,?_,?_,fun b G1 fb sb hX=>?_⟩
   ·rcases W with rfl | rfl<;>lia
   ·rcases W with rfl | rfl<;>lia
   have lb:l≠b:=Zg (mM _ _ aF) fb;have cR:=sb _ _ (mM _ _ aF);have bh:=hL.same (mM.trans sb);have dF:∀{G':Hp},Y5 b G1 G'->Drw G' l ls:=fun f=>⟨xs,f _ _ cR lb,bh.frm f hX,hW,rG⟩;refine⟨_,rfl,_,rfl,l,sc,ls,g,rfl,W,dF (Y5.refl _ _),hg,⟨nx,cr⟩,fun q G2 zs vs s2 fq eq lr fr pv rise=>?_⟩;have nq:q≠b:=Ju hX fq;have cg:=ZG s2 hX;have rH:zs.length<64:=by rw[MU lr,pv.length_eq,ke];exact AB cr hW
   have rJ:∀v∈zs,Num b G2 v:=fun v I=>by obtain⟨j,hj⟩:=Xd.mp I;obtain⟨ns,jN,o,rfl,eo⟩:=LN lr hj;obtain⟨o',e,fo⟩:=fr _ I;cases e;refine⟨o,ns,rfl,eo,?_,Ju hX fo⟩;obtain⟨r,J,rfl⟩:=Kw.mp (pv.mem_iff.mp (kT jN));have:=AE ls.length (km _) r J;rw[Xs] at this;lia
   clear lr fr pv rise;refine⟨_,rfl,_,rfl,q,_,rfl,Zr.of eq,fun c1 ah=>?_⟩;obtain⟨u1,xE,m1,l1⟩:∃u1,J5 zs none (some 1)=u1/\(∀v∈u1,v∈zs)/\u1.length<=64:=⟨_,rfl,fun v=>AW,Kb (Uu _ _ _) (Kv rH)⟩;rw[xE];refine lay2 (o:=.lst u1) ah fun X1 t1 d1=>?_;refine⟨_,rfl,_,rfl,_,rfl,q,_,rfl,Zr.of (t1 _ _ eq),fun c2 aQ=>?_⟩;obtain⟨u2,xF,m2,l2⟩:∃u2,J5 zs (some (-1)) none=u2/\(∀v∈u2,v∈zs)/\u2.length<=64:=⟨_,rfl,fun v=>AW,Kb (Uu _ _ _) (Kv rH)⟩;rw[xF];refine lay2 (o:=.lst u2) aQ fun X2 t2 d2=>?_;refine⟨c1,c2,_,_,rfl,rfl,t2 _ _ d1,d2,(by rw[kY];lia),fun c3 aj=>?_⟩;obtain⟨u3,xG,m3,l3⟩:∃u3,u1++u2=u3/\(∀v∈u3,v∈zs)/\u3.length<=128:=⟨_,rfl,fun v I=>(Kg.mp I).elim (m1 v) (m2 v),by rw[ki];lia⟩;rw[xG];refine lay2 (o:=.lst u3) aj fun X3 t3 d3=>?_;refine⟨sz0,fun c4 dW=>?_⟩;refine lay2 (o:=.lst []) dW fun X4 t4 d4=>?_;have mO:=((t1.trans t2).trans t3).trans t4;have g7:=ZG mO cg;have h8:Y5 b G1 X4:=s2.frm.trans mO.frm;refine⟨_,rfl,l,_,rfl,.inl (Zr.of (h8 _ _ cR lb)),_,rfl,by lia,by lia,CO (n:=((xs.length:Nat):Int).toNat) (by rw[kM,kY];lia) (fun m zs G'=>Y5 b X4 G'/\Bag G' b /\ ∃ms:QG,zs=ms.map V.int/\ms.length<=m) ⟨Y5.refl _ _,g7,[],rfl,km _⟩ (fun m zs G' ⟨_,_,ms,e,l⟩=>by rw[e,ke];exact l) (fun m zs G' hm q'=>?_) (fun pQ G' q' D hD=>?_)⟩
   ·obtain⟨f',h9,ms,rfl,lm⟩:=q';refine⟨_,rfl,b,2,rfl,h9,by decide,by decide,fun d Y1 d0 d1 iA f1=>⟨rfl,_,rfl,Z7 (fun _=>?_) (fun _=>?_)⟩⟩
    ·exact⟨_,rfl,f'.trans f1,iA,ms ++ [_],by rw[kP];rfl,by rw[ki];show ms.length+1<=m+1;lia⟩
    ·exact⟨f'.trans f1,iA,ms,rfl,by lia⟩
   obtain⟨f',h9,ms,rfl,lm⟩:=q';rw[kM] at lm;have nD:=Ju h9 hD;refine lay2 (o:=.lst (ms.map V.int)) hD fun X5 t5 d5=>?_;refine⟨sz2,fun c5 cf=>?_⟩;refine lay2 (o:=.lst [.ref c4,.ref D]) cf fun X6 t6 d6=>?_;have dX:Y5 b X4 X6:=f'.trans (t5.trans t6).frm;have n3:c3≠b:=Ju (ZG (t1.trans t2) cg) aj;have n4:c4≠b:=Ju (ZG ((t1.trans t2).trans t3) cg) dW;refine⟨c3,c5,_,_,rfl,rfl,dX _ _ (t4 _ _ d3) n3,d6,(by rw[kY];show u3.length+2<=_;lia),fun L hL=>?_⟩;have mP:=ZG (t5.trans t6) h9;have nL:L≠b:=Ju mP hL;have ck:Y5 b G2 X6:=mO.frm.trans dX;have mQ:∀v∈u3 ++ [.ref c4,.ref D],Num b X6 v:=fun v I=>by
    rcases Kg.mp I with z | z
    ·exact(rJ v (m3 v z)).frm ck
    ·rcases kQ.mp z with rfl | z
     ·exact⟨c4,[],rfl,dX _ _ d4 n4,Kn _,n4⟩
     ·rw[kR.mp z];exact⟨D,ms,rfl,t6 _ _ d5,by lia,nD⟩
   obtain⟨O,mR,mS,mT⟩:∃O,u3 ++ [.ref c4,.ref D]=O/\(∃r,V.ref r∈O)/\O.length<=130:=⟨_,rfl,⟨c4,KH _ (.head _)⟩,by rw[ki];show u3.length+2<=130;lia⟩;rw[mR] at mQ ⊢;refine lay2 (o:=.lst O) hL fun X7 t7 d7=>?_;have xH:∀v∈O,Num b X7 v:=fun v I=>(mQ v I).frm t7.frm;have dO:=ZG t7 mP;have fj:Y5 b G2 X7:=ck.trans t7.frm;have mU:Y5 b G1 X7:=s2.frm.trans fj;have xI:G1 L=none:=(s2.frm.trans ck).free mP hL;have qL:q≠L:=Zg (ck _ _ eq nq) hL;have mV:∀v∈zs,∃(o:Addr)(ns:QG),v = .ref o/\X7 o=some (.lst (ns.map V.int))/\ns.length<=60/\o≠b/\o≠L:=fun v I=>by obtain⟨o,ns,e,h1,h2,h3⟩:=(rJ v I).frm ck;exact⟨o,ns,e,t7 _ _ h1,h2,h3,Zg h1 hL⟩
   clear mQ t1 t2 t3 t4 h8 dX;refine⟨_,rfl,sz0,fun e he=>?_⟩;refine lay2 (o:=.lst []) he fun X8 t8 d8=>?_;refine⟨q,e,zs,rfl,rfl,Zr.of (t8 _ _ (fj _ _ eq nq)),Zr.of d8,.inr ⟨_,rfl,_,_,rfl,rfl,.inl ⟨by decide,by decide⟩,?_⟩⟩;have xJ:=ZG t8 dO;have mW:Y5 b G2 X8:=fj.trans t8.frm;refine⟨_,rfl,(by split<;>decide),(by split<;>decide),Jl (n:=(3*(if (!zs.isEmpty)=true then(1:Int) else 0)).toNat) (fun i' σ Y=>∃(U:QI)(us:QH),σ = [some (.ref a),some (.int (0+(i:Int))),some (.ref l),some (.int sc),some (.ref b),some (.ref q),some (.ref L),U,v8,S]/\Bag Y b/\(∀c o,X8 c=some o->c≠b->c≠L->Y c=some o)/\Y L=some (.lst us)/\(∃r,V.ref r∈us)/\us.length<=130+i' /\ ∀v∈us,Num b Y v)
    ⟨_,O,rfl,xJ,fun c o e _ _=>e,t8 _ _ d7,mS,mT,fun v I=>(xH v I).frm t8.frm⟩ ?_ ?_⟩
   ·rintro i' σ Y rK ⟨U,us,rfl,ai,fY,eL,iB,rL,mX⟩;have nz:0<zs.length:=by
     cases zs with
     | nil=>exact absurd rK (Mt _)
     | cons _ _=>exact Nat.succ_pos _
    have i3:i'<3:=Kt rK (by split<;>decide);have rM:=fY _ _ (mW _ _ eq nq) nq qL;refine⟨_,rfl,.inl ⟨rfl,_,Zr.of eL⟩,_,rfl,_,rfl,_,rfl,q,_,rfl,.inl (Zr.of rM),b,_,rfl,ai,by lia,by lia,fun d Y1 d0 d1 iA f1=>?_⟩;obtain⟨dn,rfl⟩:=kF d0;obtain⟨x,hx⟩:∃x,zs[dn]? = some x:=⟨_,ko (by lia)⟩;refine⟨q,zs,_,_,rfl,rfl,Zr.of (f1 _ _ rM nq),Zn hx,?_⟩;have mY:=f1 _ _ eL nL;have xK:Num b Y1 x:=by obtain⟨o,ns,e,h1,h2,h3,h4⟩:=mV x (kT hx);exact⟨o,ns,e,f1 _ _ (fY _ _ (t8 _ _ h1) h3 h4) h3,h2,h3⟩
    refine⟨L,_,_,rfl,rfl,mY,(by rw[kY];lia),?_⟩;refine⟨_,us ++ [x],rfl,ZnN iA nL,fun c o e n1 n2=>by rw[Zi n2];exact f1 c o (fY c o e n1 n2) n1,Zd,iB.imp fun r h=>K9 _ h,by rw[ki];show us.length+1<=_;lia,fun v I=>?_⟩;rcases Kg.mp I with z | z
    ·exact((mX v z).frm f1).put mY iB
    ·rw[kR.mp z];exact xK.put mY iB
   ·rintro σ Y ⟨U,us,rfl,ai,fY,eL,iB,rL,mX⟩;have xL:us.length<=133:=Kb rL (by split<;>decide);have fv:Y5 b G1 Y:=fun c o e n=>fY c o (t8 c o (mU c o e n)) n (Zg e xI);have mZ:∀{Z:Hp},Y5 b G1 Z->Zh H3 Z:=fun f c o e=>f c o (sb c o (sG c o e)) (Zg (sG c o e) fb);refine⟨_,rfl,L,rfl,⟨_,Zr.of eL⟩,JA (K:=K) (a:=L) (xs:=us) (fun m σ Z=>∃v8 S:QI,σ = [some (.ref a),some (.int (0+(i:Int))),some (.ref l),some (.int sc),some (.ref b),some (.ref q),some (.ref L),U,v8,S]/\Bag Z b/\Y5 b Y Z) ⟨_,_,rfl,ai,Y5.refl _ _⟩ (fun m σ Z _ ⟨_,_,_,_,f⟩=>Zr.of (f _ _ eL nL)) ?_ ?_⟩
    rotate_left
    ·rintro σ Z ⟨v8,S,rfl,bZ,fZ⟩;exact⟨_,_,_,_,_,_,_,rfl,mZ (fv.trans fZ)⟩
    rintro m x σ Z hx ⟨v8,S,rfl,bZ,fZ⟩;obtain⟨o,ns',rfl,eo,ln,no⟩:=(mX x (kT hx)).frm fZ;refine⟨_,rfl,_,rfl,_,rfl,b,o,ns',rfl,bZ,eo,by lia,no,fun Z1 w1 xM rN ok1=>?_⟩;have m4:=rN _ _ eo no;refine⟨_,rfl,_,rfl,sz1,fun k1 im=>?_⟩;refine lay2 (o:=.lst [.int (-1)]) im fun Z2 g2 j2=>?_;refine⟨o,k1,_,_,rfl,rfl,g2 _ _ m4,j2,(by rw[ke,kY];show ns'.length+1<=_;lia),fun k2 bc=>?_⟩;obtain⟨iC,em,xN⟩:∃iC:QG,ns'.map V.int ++ [V.int (-1)]=iC.map V.int/\iC.length<=62:=⟨ns' ++ [-1],by rw[kP];rfl,by rw[ki];show ns'.length+1<=62;lia⟩;rw[em];refine lay2 (o:=.lst (iC.map V.int)) bc fun Z3 g3 j3=>?_;refine⟨_,rfl,o,_,rfl,(g2.trans g3) _ _ m4,fun k3 xO=>?_⟩;refine lay2 (o:=.tup (ns'.map V.int)) xO fun Z4 g4 j4=>?_;refine⟨sz1,fun k4 xP=>?_⟩;refine lay2 (o:=.lst [.non]) xP fun Z5 g5 j5=>?_;refine⟨(by show 7<=sizeLine;decide),fun k5 xQ=>?_⟩;refine lay2 (o:=.lst [.ref o,w1,.ref k2,.non,.str "-", .ref k3,.ref k4]) xQ fun Z6 g6 j6=>?_;have xR:=((g3.trans g4).trans g5).trans g6;have iD:=g2.trans xR;have a7:∀v ∈ [V.ref o,w1,.ref k2,.non,.str "-", .ref k3,.ref k4],OkV 3 Z6 v:=fun v I=>by
     simp only[kQ,List.mem_nil_iff,NY] at I;rcases I with rfl | rfl | rfl | rfl | rfl | rfl | rfl
     ·exact UL (iD _ _ m4) (by lia)
     ·exact(ZnF ok1).same iD
     ·exact UL (((g4.trans g5).trans g6) _ _ j3) xN
     ·exact⟨_,.non,rfl⟩
     ·exact⟨_,.str _,rfl⟩
     ·exact AF (d:=1) ((g5.trans g6) _ _ j4) fun v I=>by obtain⟨z,_,rfl⟩:=Kw.mp I;exact Cs z
     ·exact⟨_,.lst (g6 _ _ j5) (.cons .non .nil),rfl⟩
    have l7:[V.ref o,w1,.ref k2,.non,.str "-", .ref k3,.ref k4].length=7:=rfl;generalize [V.ref o,w1,.ref k2,.non,.str "-", .ref k3,.ref k4]=u7 at *;have rO:Y5 b Z Z6:=rN.trans iD.frm;have xS:=dF ((fv.trans fZ).trans rO);obtain⟨xT,xU,gR,_,_⟩:=id xS;refine⟨k5,rfl,⟨_,Zr.of j6⟩,JA (K:=K) (a:=k5) (xs:=u7) (fun n σ Z'=>∃S:QI,σ = [some (.ref a),some (.int (0+(i:Int))),some (.ref l),some (.int sc),some (.ref b),some (.ref q),some (.ref L),U,some (.ref o),S]/\Zh Z6 Z') ⟨_,rfl,Zh.refl _⟩ (fun n σ Z' _ ⟨_,_,s'⟩=>Zr.of (s' _ _ j6)) ?_ ?_⟩
    ·rintro n x σ Z' gj ⟨xV,rfl,sZ⟩;obtain⟨lit,rl,m5⟩:=(a7 x (kT gj)).same sZ;have m6:∀{rP:Hp},Zh Z6 rP->Drw rP l ls:=fun s=>⟨xT,s _ _ xU,gR.same s,hW,rG⟩;refine⟨_,rfl,_,rfl,_,rfl,l,x,lit,sc,ls,g,rfl,W,m6 sZ,hg,rl,m5,fun V1 y1=>⟨_,rfl,?_⟩⟩;have iE:=sZ.trans y1;cases hb:Ja ls g lit with
     | true=>
      obtain⟨p',xW,rfl,ip,xX,rfl⟩:=ZlI (rl.same y1) hb m5;exact JU ⟨_,rfl,_,rfl,_,rfl,l,p',sc,ls,g,xW,rfl,W,m6 iE,hg,ip,xX,hb,fun V2 y2=>⟨_,rfl,YD ⟨_,rfl,iE.trans y2⟩⟩⟩
     | false=>
      exact YD ⟨_,rfl,_,rfl,_,rfl,l,x,lit,sc,ls,g,rfl,W,m6 iE,hg,rl.same y1,m5,hb,fun V2 y2=>⟨_,rfl,YD ⟨_,rfl,iE.trans y2⟩⟩⟩
    ·rintro σ Z' ⟨xV,rfl,sZ⟩;exact⟨_,_,rfl,ZG (iD.trans sZ) xM,(fZ.trans rO).trans sZ.frm⟩
  ·rintro σ G ⟨v3,v4,v5,v6,U,v8,S,rfl,sG⟩;refine⟨_,_,_,_,_,_,_,_,_,rfl,fun c o e=>?_⟩;have nb:=Zg (sm c o e) cO;exact sG c o (s3 c o (f2 c o (s1 c o (sm c o e)) nb))
 ·rintro σ H0 ⟨v1,v2,v3,v4,v5,v6,U,v8,S,rfl,sm⟩;refine⟨sz0,fun d0 f0=>?_⟩;refine lay2 (o:=.lst []) f0 fun Z1 a1 b1=>?_;refine⟨sz0,fun d1 f1=>?_⟩;refine lay2 (o:=.lst []) f1 fun Z2 a2 b2=>?_;refine⟨d0,.ref d1,.lst [],1,[],fun _=>0,rfl,.inr rfl,⟨[],a2 _ _ b1,.nil,.nil,Kn _⟩,.inl ⟨rfl,rfl⟩,.lst b2 .nil,rfl,fun z=>absurd (show Ja [] (fun _=>0) (.lst [])=true from rfl) (fun q=>kO (z.symm.trans q)),fun _ d as rows Z3 a3 fd ed nd fa pa lr hJ=>?_⟩;obtain⟨w0,rfl⟩:∃w0,rows = [w0]:=by
   match rows,lr with
   | [w0],_=>exact⟨w0,rfl⟩
  have e0:w0 = []:=by have:=hJ 0 (Kn _);have h:J6 [] (zfA (fun _=>0) []) (chA (csL (.lst []))) 0=some []:=rfl;rw[h] at this;exact(k9 this).symm
  subst e0;obtain⟨a0,rfl,gl⟩:∃a0,as = [a0]/\Z3 a0=some (.lst []):=by
   cases pa with
   | cons h t=>cases t;exact⟨_,rfl,h⟩
  refine⟨sz0,fun d2 f2=>?_⟩;refine lay2 (o:=.lst []) f2 fun Z4 a4 b4=>?_;refine⟨sz1,fun d3 f3=>?_⟩;refine lay2 (o:=.lst [.ref d2]) f3 fun Z5 a5 b5=>?_;refine⟨d,d3,_,_,rfl,rfl,Zr.of (a5 _ _ (a4 _ _ ed)),Zr.of b5,rfl,fun j x y ex ey=>?_,k _⟩;rcases j with _ | j
  ·cases ex;cases ey;exact IS (v:=[]) (a5 _ _ (a4 _ _ gl)) (a5 _ _ b4)
  ·cases ex
end
theorem Zo3 {P:Program}{w:World}{x:Str}{ps:QP}{sp:Sp}(G:Yc P w K mg base JZ k f fd ps sp)(m:mg x=some (.ref f))(kp:PySem.W.keepIn K (.ref f)=true)(b:Binds K fd ps []):Jk P w K mg base k x ps sp:=⟨f,fd,G,m,kp,b⟩
theorem Zok {P:Program}{w:World}{x:Str}{ps:QP}{sp:Sp}(G:Yc P w K mg base (CX1 P w) k f fd ps sp)(m:mg x=some (.ref f))(kp:PySem.W.keepIn K (.ref f)=true)(b:Binds K fd ps []):Lw P w K mg base k x ps sp:=⟨f,fd,G,m,kp,b⟩
theorem Zn1 {P:Program}{w:World}{x:Str}{ps:QP}{sp:Sp}(G:DD P w K mg base k f fd ps sp)(m:mg x=some (.ref f))(kp:PySem.W.keepIn K (.ref f)=true)(b:Binds K fd ps []):Ik P w K mg base k x ps sp:=⟨f,fd,G,m,kp,b⟩
section
theorem us1 {P:List α -> Prop}(h:∀a,P [a]):∀us:List α,us.length=1->P us
 | [_],_=>h _
theorem us2 {P:List α -> Prop}(h:∀a b,P [a,b]):∀us:List α,us.length=2->P us
 | [_,_],_=>h _ _
theorem us3 {P:List α -> Prop}(h:∀a b c,P [a,b,c]):∀us:List α,us.length=3->P us
 | [_,_,_],_=>h _ _ _
structure Df (K:QF)(x:Str)(st:Stmt)(f:Addr)(d:FuncData):Prop where
 a:PySem.W.nsIn K mainGlobals x=some (some (.ref f))
 l:JD K x x st f d
abbrev nB (K:QF)(x:Str):Prop:=PySem.W.nsIn K mainGlobals x=some none
abbrev nR (K:QF)(x:Str)(f:Addr):Prop:=PySem.W.nsIn K mainGlobals x=some (some (.ref f))
theorem nz (X:K.In h)(G:h.Ns mainGlobals mg){x:Str}(z:nB K x):mg x=none:=PySem.W.mg_none_of X G z
theorem nr (X:K.In h)(G:h.Ns mainGlobals mg){x:Str}(z:nR K x f):mg x=some (.ref f):=PySem.W.mg_of X G z
theorem Df.has {P:Program}{w:World}{K:QF}{mg:QN}{base:Heap}{h:Heap}(X:K.In h)(G:h.Ns mainGlobals mg){x:Str}{st:Stmt}{f:Addr}{d:FuncData}{k:Nat}{ps:QP}{sp:Sp}(D:Df K x st f d)(o:Yc P w K mg base JZ k f d ps sp)
 (b:∀(kV doc pm:Value)(an:Option Addr)(F ct:Value)(us:QJ),us.length=ps.length->bindArgs (PySem.W.fnOf x x (Uw st) (Jt st) (Zj st) .none kV doc pm an F ct) ⟨us,[]⟩=pure (ps.zip us):=by first | exact fun _ _ _ _ _ _=>us1 fun _=>rfl | exact fun _ _ _ _ _ _=>us2 fun _ _=>rfl | exact fun _ _ _ _ _ _=>us3 fun _ _ _=>rfl | exact fun _ _ _ _ _ _=>us4 fun _ _ _ _=>rfl):Jk P w K mg base k x ps sp:=Zo3 o (nr X G D.a) D.l.kp (D.l.binds b)
theorem Df.hasQ {P:Program}{w:World}{K:QF}{mg:QN}{base:Heap}{h:Heap}(X:K.In h)(G:h.Ns mainGlobals mg){x:Str}{st:Stmt}{f:Addr}{d:FuncData}{k:Nat}{ps:QP}{sp:Sp}(D:Df K x st f d)(o:DD P w K mg base k f d ps sp)
 (b:∀(kV doc pm:Value)(an:Option Addr)(F ct:Value)(us:QJ),us.length=ps.length->bindArgs (PySem.W.fnOf x x (Uw st) (Jt st) (Zj st) .none kV doc pm an F ct) ⟨us,[]⟩=pure (ps.zip us):=by first | exact fun _ _ _ _ _ _=>us1 fun _=>rfl | exact fun _ _ _ _ _ _=>us2 fun _ _=>rfl | exact fun _ _ _ _ _ _=>us3 fun _ _ _=>rfl | exact fun _ _ _ _ _ _=>us4 fun _ _ _ _=>rfl):Ik P w K mg base k x ps sp:=Zn1 o (nr X G D.a) D.l.kp (D.l.binds b)
theorem Df.hasX {P:Program}{w:World}{K:QF}{mg:QN}{base:Heap}{h:Heap}(X:K.In h)(G:h.Ns mainGlobals mg){x:Str}{st:Stmt}{f:Addr}{d:FuncData}{k:Nat}{ps:QP}{sp:Sp}(D:Df K x st f d)(o:Yc P w K mg base (CX1 P w) k f d ps sp)
 (b:∀(kV doc pm:Value)(an:Option Addr)(F ct:Value)(us:QJ),us.length=ps.length->bindArgs (PySem.W.fnOf x x (Uw st) (Jt st) (Zj st) .none kV doc pm an F ct) ⟨us,[]⟩=pure (ps.zip us):=by first | exact fun _ _ _ _ _ _=>us1 fun _=>rfl | exact fun _ _ _ _ _ _=>us2 fun _ _=>rfl | exact fun _ _ _ _ _ _=>us3 fun _ _ _=>rfl | exact fun _ _ _ _ _ _=>us4 fun _ _ _ _=>rfl):Lw P w K mg base k x ps sp:=Zok o (nr X G D.a) D.l.kp (D.l.binds b)
theorem all_mk {l:PySem.W.OpenLaw}{w:World}{fa:Addr}(X:K.In h)(G:h.Ns mainGlobals mg)(F:mg "law" = some (.ref fa))
  {f0 f1 f2 f3 f4 f5 f6 f7 f8 f9 iW xY xZ x5 h8 x6 x8 mU x9 xa xb xc xf xg xh xi ck fj mW xj xk xl xm xn xo xp xq xr xu xw xx xy xz yA yB yC dX yD yE yF yG yH yI yJ yK:Addr}{d0 d1 d2 d3 d4 d5 d6 d7 d8 d9 yL yM yN yO yP yQ yR yS yT yU cz dA yV yW yX yY yZ y4 yb yc ye yf yg yh yi yj yk ym yn yo yp yq yr yt yu yv yw yx yy yz lV lW zA zB zC:FuncData}
  {YW:Addr} (zD:nR K "FrontError" YW)
   (zE:nR K "NoHeights" Yi)
  {GK:Addr} (zF:nR K "TooMany" GK)
  {GL:Addr} (zG:nR K "NoTable" GL)
  {Wh:Addr} (zH:nR K "NoSetting" Wh)
   (zI:nR K "NoBanding" Zm)
  {WC:Addr} (zJ:nR K "NoMove" WC)
  {Wy:Addr} (zK:nR K "NoName" Wy)
  {JL:Addr} (zL:nR K "NoPaper" JL)
  {GF:Addr} (zM:nR K "NoRow" GF)
  {WA:Addr} (zN:nR K "NoText" WA)
  (mB:kQX K YW)
  (jc:kQX K Yi)
  (lE:kQX K Zm)
  (mC:PySem.W.mroIn K Zm (.ref YW)=some true)
  (I:L2.C5 K Zm)
  (O:kQQ K Zm Yi)
  (S:kQQ K Zm GK)
  (U:kQQ K Zm GL)
  (V:kQQ K Zm Wh)
  (Y:PySem.W.kitOne K (.ref Zm) (.ref Zm)=some true)
  (Z:kQQ K Zm WC)
  (q6:kQQ K Zm Wy)
  (q7:kQQ K Zm JL)
  (q8:kQQ K Zm GF)
  (q9:kQQ K Zm WA)
  (qv:PySem.W.kitOne K (.ref Zm) (.type "ValueError")=some true)
  (D0:Df K "_law_take" Bg f0 d0)
  (D1:Df K "_law_bag" Bh f1 d1)
  (D2:Df K "_law_drawing" GZ f2 d2)
  (D3:Df K "_law_plat" Bi f3 d3)
  (D4:Df K "_law_any" Bj f4 d4)
  (D5:Df K "threads" Bk f5 d5)
  (D6:Df K "_law_rows" Bl f6 d6)
  (D7:Df K "letters_of" Bn f7 d7)
  (D8:Df K "ends_of" Bo f8 d8)
  (D9:Df K "names_of" Bp f9 d9)
  (rQ:Df K "pairs_ahead" Ux iW yL)
  (rR:Df K "end_pairs" Bs xY yM)
  (rS:Df K "born_with" Bu xZ yN)
  (rT:Df K "end_mates" Bw x5 yO)
  (rV:Df K "tour_from" Bx h8 yP)
  (rW:Df K "tours" BA x6 yQ)
  (rX:Df K "_law_walks" BF x8 yR)
  (rY:Df K "uppers_at_ends" WZ mU yS)
  (rZ:Df K "steps_down" BJ x9 yT)
  (r6:Df K "turns" BK xa yU)
  (r9:Df K "heights_along" Gq xb cz)
  (rd:Df K "has_scale" BP xc dA)
  (rf:Df K "thread_heights" WW xf yV)
  (rg:Df K "_law_heights" GU xg yW)
  (rh:Df K "_law_curled" UA xh yX)
  (ri:Df K "name_heights" Ul xi yY)
  (rj:Df K "_law_name_heights" JT ck yZ)
  (rk:Df K "_law_front" BU fj y4)
  (rn:Df K "_law_scales" UD mW yb)
  (rp:Df K "_law_letter_heights" Jr xj yc)
  (rq:Df K "partners_born" Gs xk ye)
  (rz:Df K "partners_ended" WJ xl yf)
  (sB:Df K "partners_kept" Gm xm yg)
  (sC:Df K "is_tangled" BY xn yh)
  (sE:Df K "ways_on" BZ xo yi)
  (sF:Df K "_law_is_apart" Gv xp yj)
  (sH:Df K "_law_moved_on" Gi xq yk)
  (sI:Df K "is_whole" B9 xr ym)
  (sK:Df K "_law_whole" Ra xu yn)
  (sL:Df K "_law_numbers" Ub xw yo)
  (sM:Df K "crossings_of" GX xx yp)
  (sN:Df K "is_rising" Rc xy yq)
  (sO:Df K "heights_by_name" WG xz yr)
  (sP:Df K "partners_through" J3 yA yt)
  (sQ:Df K "banding_rows" Uj yB yu)
  (sR:Df K "partners_of" Uy yC yv)
  (sS:Df K "_law_walk" Ri dX yw)
  (sT:Df K "_law_bandings" Gr yD yx)
  (sU:Df K "_law_odd_list" Gw yE yy)
  (sV:Df K "_law_own" Rn yF yz)
  (sW:Df K "_law_only" Ro yG lV)
  (sh:Df K "_law_refused" Uc yH lW)
  (si:Df K "_law_good" Rq yI zA)
  (sj:Df K "_law_is_banding" Wu yJ zB)
  (m7:Df K "law" DH yK zC)
  (zO:nB K "enumerate")
  (zP:nB K "list")
  (zQ:nB K "len")
  (zR:nB K "range")
  (zS:nB K "abs")
  (zT:nB K "sum")
  (zU:nB K "zip")
  (zV:nB K "sorted")
  (zW:nB K "isinstance")
  (zX:nB K "int")
  (zY:nB K "bool")
  (zZ:nB K "all")
  (z5:nB K "max")
  (z6:nB K "min")
  (z7:nB K "ValueError")
  (z8:nB K "dict")
  (z9:nB K "tuple")
  (za:nB K "set"):
  ∃fd:FuncData,(∀(s:Shared)(v:Value),BindsTo s fd ⟨[v],[]⟩ [("_law_script", v)]) /\ ∀base:Heap,K.In base->base.Ns mainGlobals mg->Yc l.prog w K mg base JZ 15 fa fd ["_law_script"] (IT K):=by
 have e:=F.symm.trans (nr X G m7.a);cases e;have ZE:=nz X G zO;have Ya:=nz X G zP;have Yl:=nz X G zQ;have ZM:=nz X G zR;have bD:=nz X G zS;have dJ:=nz X G zT;have bR:=nz X G zU;have YT:=nz X G zV;have ZA:=nz X G zW;have GY:=nz X G zX;have dQ:=nz X G zY;have UZ:=nz X G zZ;have Gf:=nz X G z5;have bJ:=nz X G z6;have li:=nz X G z7;have ku:=nz X G z8;have Jg:=nz X G z9;have mF:=nz X G za;have lj:=nr X G zD;have Wd:=nr X G zE;have lX:=nr X G zF;have lY:=nr X G zG;have lZ:=nr X G zH;have J9:=nr X G zI;have l5:=nr X G zJ;have l6:=nr X G zK;have l8:=nr X G zL;have l9:=nr X G zM;have lg:=nr X G zN;obtain⟨oc,od,kV,dc,pm,an,cd,ct,sl,rfl,_,_⟩:=m7.l.ex;refine⟨PySem.W.fnOf "law" "law" (Uw DH) (Jt DH) (Zj DH) .none kV dc pm an cd ct,fun s v=>.of_eq rfl,fun base _ _=>?_⟩;have J:=@Df.has l.prog w K mg base _ X G;have JQ:=@Df.hasQ l.prog w K mg base _ X G;have JX:=@Df.hasX l.prog w K mg base _ X G;have Zq:=J D0 (Zm1 D0.l);have hV:=J D1 (Zpe D1.l Yl bD);have Ud:=J D2 (Zng D2.l Zq ZM);have Wi:=J D3 (Zof D3.l Zq ZM);have js:=J D4 (Zp2 D4.l Zq Wi Ud);have jM:=J D5 (ZhI D5.l Ya);have YS:=J D6 (Znv D6.l Ya);have JM:=J D7 (Zh0 D7.l ZE);have JG:=J D8 (Znk D8.l JM);have WT:=J D9 (Zk0 D9.l ZE);have Jo:=J rQ (ZlN rQ.l jM);have Wj:=J rR (ZfE rR.l Jo JG);have Jz:=J rS (ZrO rS.l);have jO:=J rT (Zlo rT.l Wj Yl);have jP:=J rV (ZnI rV.l Jz);have dI:=J rW (Zmf rW.l jO jP Yl ZM);have je:=J rX (Zlr rX.l YS ZE YT bD);have YG:=J rY (Zkd rY.l JG Wj Yl);have JN:=J rZ (Zk9 rZ.l Jz ZE);have jb:=J r6 (Zk8 r6.l YG JN dI bD dJ);have Gy:=J r9 (ZqY r9.l JN Yl bR);have jd:=J rd (Zrp rd.l jb);have W2:=JX rf (Zry rf.l Wd jc jd JG dI YG Gy Yl);have Uh:=J rg (Zrm rg.l je YS ZE dJ Yl ZM);have UH:=J rh (Zky rh.l Zq Ya ZM Yl Gf);have Uk:=JX ri (Zrj ri.l W2 Jo WT);have Yu:=J rj (Zpn rj.l Uh YS ZE);have mK:=J rk (Zmy rk.l Zq js Wi UH ZM Yl Gf bJ);have UB:=J rn (Zj0 rn.l Yu);have Yj:=J rp (ZnH rp.l Yu Ya);have Gx:=J rq (ZlZ rq.l Jg);have WU:=J rz (ZnT rz.l Jg);have Gk:=J sB (Zmm sB.l Jg Ya);have jz:=J sC (Zob sC.l YT);have lC:=J sE (ZnU sE.l Gx WU Gk jz);have YN:=J sF (Zmx sF.l bJ Gf);have YO:=J sH (ZlQ sH.l GY);have ka:=J sI (ZhQ sI.l ZA GY dQ);have kB:=J sK (ZjY sK.l ZA GY dQ);have Y7:=J sL (ZlF sL.l kB ZA Ya UZ);have Ua:=J sM (Zgq sM.l JM);have lB:=J sN (Zj7 sN.l ka ZA Ya UZ bR);have Ww:=J sO (Zre sO.l WT Uk ku bR);have J7:=J sP (Zns sP.l Ww lB Ua lC ZE);have Ui:=JX sQ (ZlA sQ.l J9 lE J7);have Yv:=JX sR (ZpU sR.l Ui Ya);have Wg:=J sS (Zom sS.l Yj YO YN ZE Ya);have GA:=J sT (Zk4 sT.l Yj YO YN ZE YT);have Gp:=J sU (ZqC sU.l Zq Yl Gf Jg);have mG:=J sV (Zn2 sV.l ZM Yl);have mE:=JQ sW (Znw sW.l Wd lX lY lZ J9 l5 l6 l8 l9 lg I O S U V Y Z q6 q7 q8 q9 qv ZA li ZM);have GW:=J sh (Zil sh.l lj mB mC Yv mE Ya);have mL:=J si (ZnV si.l Yv Wg Y7 mG Ya ZM ZA UZ);have Wv:=J sj (Znp sj.l Y7 Wg UZ Yl mF YT);exact Zpg m7.l hV Zq mK UB GA Gp Wv mL GW Yv ZM Yl Gf bJ GY Jg
theorem walk {l:PySem.W.OpenLaw}{q:Program}{aN:QP}{XP:QN->Heap->Prop}{YP:World->Heap->Prop}{d:DefRec}{K:Params->PySem.W.Frag}(O:l.most=some 63)(I:d.params.defaults = [])
  (S:∀(w:World)(h:Heap),YP w h->(K w.params).In h)
  (F:∀(w:World)(mg:QN)(J:Addr)(h:Heap),(K w.params).In h->h.Ns mainGlobals mg->mg d.name=some (.ref J) ->
   ∃fd:FuncData,(∀(s:Shared)(u:Value),BindsTo s fd ⟨[u],[]⟩ [("_law_script", u)]) /\ ∀base:Heap,(K w.params).In base->base.Ns mainGlobals mg->Yc l.prog w (K w.params) mg base JZ 15 J fd ["_law_script"] (IT (K w.params))):
  PySem.W.WalkO q aN XP YP l.row.toRowW d [] (fun f vs=>PySem.call f vs):=
 L2.HL (n:=63) (k:=15) (x := "_law_script") (CX:=fun _=>JZ) (sp:=fun w=>IT (K w.params)) O (by decide) I ⟨rfl,by decide,by decide⟩ S F (fun _ _ a ns U _ V=>⟨a,ns,rfl,V,U,fun _=>rfl⟩) fun _ _ _ _ _ z=>z
end
end Qk38
namespace PySem.W.Fast
def tw9553926037837696294:=0
def tw8051550789921966122:=0
def tw11279161636460425498:=0
def tw1994985885285007955:=0
def tw6728516130560493480:=0
def tw17782176875904960175:=0
def tw16142039885625323936:=0
def tw4413813788641832637:=0
def tw11688208213909229083:=0
def tw6215935602981448065:=0
def tw18191016543820102428:=0
def tw2379874265418659098:=0
def tw14127411883873410498:=0
def tw10558016365064592549:=0
def tw14697994710891469862:=0
def tw10148601773644543557:=0
def tw13139556563181318977:=0
def tw13389990780303985885:=0
def tw3871176493768591052:=0
def tw5458097192652634604:=0
def tw11091324504487748145:=0
def tw11882356450201991410:=0
def tw3347541296424225964:=0
def tw18034882973684712313:=0
def tw109651823158049099:=0
def tw9733906466527596309:=0
def tw6709427524645451539:=0
def tw6387294854126628042:=0
def tw14409277835925860291:=0
def tw15118970301858867105:=0
def tw5389134974617692511:=0
def tw2755848291463945926:=0
def tw1065125753209475508:=0
def tw3014194055070189161:=0
def tw6151969958917862938:=0
def tw10817593802611016810:=0
def tw17203611147232484563:=0
def tw5641533950862581603:=0
def tw8451236533296037995:=0
def tw1511589917979754259:=0
def tw6104745577418828817:=0
def tw17267597100998906586:=0
def tw3506761335028564011:=0
def tw4006726973564065706:=0
def tw10499342594499127012:=0
def tw15310923743450661618:=0
def tw3569579902316748221:=0
def tw8449093516909570090:=0
def tw11941554000077718062:=0
def tw13456071044914619705:=0
def tw4980929436807189127:=0
def tw7056093367220333490:=0
def tw14139434569585110371:=0
def tw18386319779548523748:=0
def tw11911323863273006472:=0
def tw8519288077177426212:=0
def tw17734769491554213976:=0
def tw3911554877208596565:=0
def tw6967088204492912071:=0
def tw629073640130515049:=0
def tw3178114833371304505:=0
def tw6989347794906545052:=0
def tw11799360593878481630:=0
def tw7749100814313358196:=0
def tw16922923260904977896:=0
def tw11809357839600412141:=0
def tw11691409429542441903:=0
def tw9907183159393990934:=0
def tw11472460991034086296:=0
def tw1282384538510363305:=0
def tw1621853482609486811:=0
def tw8259611320453818580:=0
def tw2632021514143597964:=0
def tw1304778387241924021:=0
def tw7146308174907729883:=0
def tw3125217819534871763:=0
def tw14928149278187155376:=0
def tw2697525612346929863:=0
def tw18364247569888739833:=0
def tw16190795283324294722:=0
def tw12297581037885255793:=0
def tw16375358859146309670:=0
def tw9304606204603532223:=0
def tw1606429352688669239:=0
def tw1620928478201926326:=0
def tw16345379797489840350:=0
def tw1494220116223420057:=0
def tw14002889513916211908:=0
def tw2930080001471303807:=0
def tw12760576328911794430:=0
def tw15646012585641920803:=0
def tw16167089029646741049:=0
def tw27865953943946255:=0
def tw17786054532194650630:=0
def tw9540496261287689750:=0
def tw11688330136976777550:=0
def tw1729506040284256343:=0
def tw4426325157876540430:=0
def tw13055659054251299903:=0
def tw8928030283819203847:=0
def tw12083510536933540014:=0
def tw8422293734732389279:=0
def tw7197047508128160895:=0
def tw10010716580386358560:=0
def tw11690153222454940624:=0
def tw16120323280019891755:=0
def tw13224899034352075911:=0
def tw15269348785678020791:=0
def tw8009562165528016971:=0
def tw15670976251241169930:=0
def tw1932854788542825499:=0
def tw2313665985187246653:=0
def tw1714450602690235276:=0
def tw130411337824922645:=0
def tw9783246782528356925:=0
def tw15629241948385778367:=0
def tw3337017027453188198:=0
def tw15767711876599404936:=0
def tw11792632029733615462:=0
def tw15333108119817912614:=0
def tw7888761292838369869:=0
def tw13674678244542908978:=0
def tw12747441825965184411:=0
def tw17268095045097485596:=0
def tw2416279878660952982:=0
def tw14001977592814179113:=0
def tw15129435489688168481:=0
def tw556233040836457354:=0
def tw12368147311492775239:=0
def tw1208346616202996936:=0
def tw1686431943373212307:=0
def tw10876326702056645590:=0
def tw14597727554182030448:=0
def tw9016406665039107449:=0
def tw9978790262080952403:=0
def tw17285936470956223762:=0
def tw14336328522705612540:=0
def tw8215450042467719192:=0
def tw1215957391145444279:=0
def tw5453015119611838327:=0
def tw9441115961288800278:=0
def tw15418764778094256794:=0
def tw3624592614918691252:=0
def tw3367653569759764031:=0
def tw11882133569301732610:=0
def tw3010166770723543503:=0
def tw6477365909910199730:=0
def tw4819193856944879020:=0
def tw16338246539321335104:=0
def tw613484560163837599:=0
def tw14648088621300181874:=0
def tw14966245566380174441:=0
def tw11664103244168395230:=0
def tw11685477970599351692:=0
def tw11949814799175770775:=0
def tw6030952131175599057:=0
def tw504158600603152448:=0
def tw10954509902736029333:=0
def tw7928716238932368798:=0
def tw5220210448405219939:=0
def tw4396451933672067351:=0
def tw13850742438053953712:=0
def tw4552874367571232988:=0
def tw13384200040867842966:=0
def tw18387474731998474937:=0
def tw8160717021665356766:=0
def tw7993998823873644313:=0
def tw15470958673186696565:=0
def tw5388833118971049695:=0
def tw3709683800571649433:=0
def tw17376498591106385263:=0
def tw12944563120554165986:=0
def tw10625762730250216358:=0
def tw12040141941413915796:=0
def tw2431639449569214008:=0
def tw6029374350492468029:=0
def tw6027272531054527639:=0
def tw15866505499167035959:=0
def tw8285947552102749349:=0
def tw30286845129978739:=0
def tw4875341896893001759:=0
def tw13340645505024168602:=0
def tw7319738856682981921:=0
def tw18007391070195669069:=0
def tw15492460979979699339:=0
def tw7050181421937090546:=0
def tw325434432371460287:=0
def tw4202870807119673234:=0
def tw8734619299869940040:=0
def tw3234177504239983054:=0
def tw18123265893922382194:=0
def tw9896797819883643794:=0
def tw11353699666229686297:=0
def tw4710734450737644655:=0
def tw8091435338255469306:=0
def tw6418701073623261599:=0
def tw9264397699768775390:=0
def tw772193763560754783:=0
def tw7033591572851751507:=0
def tw6108590075307158661:=0
def tw16932542878267250899:=0
def tw14969214803982911419:=0
def tw11051897211783687091:=0
def tw5254596112459304014:=0
def tw6387350847990661807:=0
def tw10217458387946920424:=0
def tw3845864765006264999:=0
def tw2702584836013226974:=0
def tw9730985457343855846:=0
def tw7275984391862935121:=0
def tw9219160753758104018:=0
def tw14398007013668083447:=0
def tw2319069302852542117:=0
def tw1686546314696736115:=0
def tw8934337947918856252:=0
def tw14479178736291976391:=0
def tw8708055295385846326:=0
def tw10215535369390802614:=0
def tw16579148881148897130:=0
def tw1334582793242820653:=0
def tw7001909712926597526:=0
def tw7125692466593835287:=0
def tw14559335175919370214:=0
def tw1206954110082737071:=0
def tw4766872679303399818:=0
def tw7543925462749340895:=0
def tw6619817902486797741:=0
def tw354117303842668721:=0
def tw14177879437702831350:=0
def tw10068439760299634639:=0
def tw14030169211977424403:=0
def tw15564854698400477511:=0
def tw4002463465981056332:=0
def tw14681302841378624433:=0
def tw1733577191527944115:=0
def tw16514423634536429412:=0
def tw2660200588844738165:=0
end PySem.W.Fast
open PySem PySem.W PyProof.Rows
set_option maxRecDepth 100000 in
set_option maxHeartbeats 0 in
theorem PySem.Challenge.cw_bendfronts_k38_partners_told_holds : PySem.Challenge.rw_bendfronts_k38_partners_told.Holds := by
 w_on; o_law; k_head; (case hw => w_witness2)
 k_fill
 refine Qk38.walk (l := PySem.Challenge.rw_bendfronts_k38_partners_told) rfl rfl (fun w h Y => PySem.W.kIn_of Y) ?F
 case F =>
  intro w mg fa h KX G hmg;apply Qk38.all_mk KX G hmg
  all_goals first | (show _ = _; first | k_is | k_exc | rfl | decide +kernel) | exact⟨by k_is, L2.HN (by k_is) (by k_is) (by k_is)⟩ | (refine ⟨?_,?_,?_,?_,?_,?_⟩ <;> first | k_is | rfl | decide +kernel)

import PyProof.Rows.All
import Wide.All
import OpenK.AllK
import Wide.FinOn
import Lean
import PyProof.EqAt
import PyProof.EqKinds
import PyProof.TupleCall
import PyProof.AttrMissHeap
import PyProof.FactsAll.zip_1
import KE.KDictOf
import PyProof.Draws
import KE.KRevIter
import PyProof.FactsAll.range
import PyProof.Rows.RuleM_int
import KE.BitLaws
import PyProof.DictItems
import PySem.Challenge.RW_bendfronts_k36_bandings_known
set_option Elab.async false
set_option linter.all false
set_option maxRecDepth 100000
def ke:=@List.length_map
def kg:=@PySem.wpAny_bind
def kh:=@List.length_append
def ki:=@if_neg
def kj:=@Nat.le_refl
def km:=@if_pos
def ko:=@List.getElem?_eq_getElem
def kr:=@List.size_toArray
def kz:=@List.getElem?_eq_some_iff
def kC:=@PySem.Heap.get?_push_of_some
def kE:=@decide_eq_true
def kF:=@List.getElem?_map
def kG:=@of_decide_eq_true
def kH:=@PySem.wpAny_pure
def kI:=@Int.eq_ofNat_of_zero_le
def kJ:=@List.take_of_length_le
def kK:=@PySem.F.plainAttrs_list
def kL:=@List.length_take
def kM:=@Int.toNat_natCast
def kO:=@List.mem_cons
def kP:=@Bool.false_ne_true
def kQ:=@List.map_append
def kR:=@PySem.W.mg_of
def kS:=@List.mem_cons_self
def kT:=@List.mem_singleton
def kU:=@List.mem_cons_of_mem
def kW:=@PySem.F.slot_list_append
def kX:=@PySem.F.type_list_append
def kY:=@Array.length_toList
def kZ:=@List.mem_of_getElem?
def k9:=@PySem.sizeLine_eq
def Ka:=@Option.some.inj
def Kb:=@Nat.le_trans
def Kc:=@PySem.Heap.lt_size
def Ke:=@Option.map_eq_some_iff
def Kf:=@List.length_singleton
def Kg:=@PySem.PassesOwn.never
def Kh:=@List.getD_eq_getElem?_getD
def Ki:=@List.take_add_one
def Kj:=@Bool.and_eq_true
def Kk:=@List.mem_append
def Kl:=@PySem.Heap.get?_push_size
def Km:=@decide_eq_false
def Kn:=@Nat.ne_of_lt
def Ko:=@List.getElem?_append_right
def Kq:=@List.map_cons
def Kr:=@Nat.zero_le
def Ks:=@List.length_drop
def Kt:=@List.append_assoc
def Ku:=@decide_eq_true_eq
def Kv:=@List.length_cons
def Kw:=@List.mem_range
def Kx:=@PyProof.Rows.wpS_bind
def Ky:=@PySem.W.mg_none_of
def Kz:=@Nat.le_of_lt
def KA:=@List.all_eq_true
def KC:=@congrArg
def KD:=@Nat.lt_of_lt_of_le
def KG:=@Ne.symm
def KH:=@List.mem_map
def KJ:=@List.getElem?_append_left
def KL:=@PySem.wpAny_holding
def KN:=@List.length_replicate
def KO:=@PySem.boot_len
def KP:=@List.length_range
def KQ:=@PyProof.Rows.wpS_pure
def KR:=@List.range_succ
def KS:=@List.mem_flatMap
def KU:=@List.mem_append_right
def KW:=@List.nodup_cons
def KY:=@List.length_set
def KZ:=@PySem.wpAny_truthy_bool
def K0:=@List.mem_filterMap
def K6:=@PySem.wpAny_mono
def K7:=@List.filterMap_cons
def K8:=@List.drop_eq_getElem_cons
def K9:=@Nat.min_eq_right
def qa:=@PyProof.Rows.callWith_type1
def qc:=@PyProof.Rows.slot_tuple_getitem
def qd:=@Array.getElem?_toList
def qe:=@List.append_nil
def qf:=@Nat.min_eq_left
def qg:=@List.lookup_cons
def qh:=@List.getElem?_set
def qi:=@List.drop_eq_nil_of_le
def qj:=@PySem.Paired.length
def qm:=@PySem.SetTable.toList_insertAt
def qo:=@Nat.max_eq_right
def qp:=@PySem.wpAny_newObj_type
def qq:=@List.length_eq_zero_iff
def qr:=@List.nodup_iff_pairwise_ne
def qt:=@Array.getElem?_eq_some_iff
def qu:=@PySem.W.kia_one
def qv:=@Nat.max_eq_left
def qw:=@Nat.le_add_right
def qy:=@PySem.wpAny_field
def qz:=@List.take_append_drop
def qA:=@Nat.le_add_left
def qB:=@List.pairwise_cons
def qC:=@PySem.wpAny_call_entry
def qD:=@List.map_drop
def qE:=@List.nodup_append
def qF:=@beq_eq_false_iff_ne
def qG:=@PySem.mem_of_lookup
def qH:=@Array.getElem?_eq_getElem
def qI:=@Bool.false_eq_true
def qJ:=@Int.emod_lt_of_pos
def qK:=@Nat.lt_irrefl
def qL:=@PySem.wpAny_typeOf
def qM:=@List.map_take
def qN:=@List.take_append_of_le_length
def qO:=@Int.le_refl
def qP:=@PySem.Around.under_plainId
def qQ:=@PySem.wpAny_callSpecial?_slot
def qR:=@Nat.exists_eq_add_of_le
def qS:=@Option.map_some
def qT:=@Bool.eq_iff_iff
def qU:=@PyProof.Rows.boot_isinstance
def qV:=@List.flatten_append
def qW:=@List.map_set
def qX:=@decide_eq_decide
def qY:=@PySem.Heap.get?_update_self
def qZ:=@List.Perm.append_left
def Xa:=@Classical.byContradiction
def Xb:=@PySem.wpAny_passesOwn
def Xc:=@PySem.codeAny_builtin
def Xd:=@Int.emod_nonneg
def Xe:=@List.mem_append_left
def Xf:=@Nat.ne_of_gt
def Xg:=@List.flatten_cons
def Xh:=@List.pairwise_map
def Xi:=@List.replicate_succ
def Xj:=@List.not_mem_nil
def Xk:=@PySem.F.slot_zip_getattribute
def Xl:=@List.take_length
def Xm:=@PySem.F.slot_list_count
def Xn:=@PySem.F.type_list_count
def Xo:=@PySem.F.called_set
def Xp:=@List.getElem?_drop
def Xq:=@List.nil_append
def Xr:=@Bool.or_eq_true
def Xs:=@List.length_nil
def Xt:=@List.find?_cons
def Xu:=@PySem.wpAny_ite_split
def Xv:=@PySem.wpAny_standAt
def Xw:=@PyProof.Rows.boot_list
def Xx:=@PySem.builtinLookup_eq_fast
def Xy:=@List.mem_iff_getElem?
def Xz:=@List.length_filter_le
def XA:=@PySem.wpAny_rule
def XB:=@if_false
def XC:=@Nat.le_succ
def XD:=@PySem.wpAny_listPart
def XE:=@PySem.Paired.snoc
def XF:=@List.replicate_succ'
def XG:=@List.countP_cons
def XH:=@PySem.wpAny_askSetting
def XI:=@Nat.zero_add
def XJ:=@PyProof.Rows.wpS_forRange
def XM:=@Nat.add_zero
def XN:=@List.getElem?_zip_eq_some
def XO:=@PySem.Heap.SameBut.update
def XQ:=@PySem.F.args_tuple_add_2
def XR:=@List.any_cons
def XS:=@List.length_erase_of_mem
def XT:=@List.length_zip
def XU:=@PySem.wpAny_Call_Name_kw
def XW:=@PySem.Heap.IsSliceOf.new
def XX:=@PySem.W.KFB.if_not
def XY:=@PySem.tupleKind_room_in1
def XZ:=@PySem.Obj.data_mapFields
def X0:=@List.getElem?_take
def X9:=@PySem.F.entry_tuple_add
def Ta:=@PyProof.Rows.F.plain_set_update_loop
def Tb:=@PySem.F.slot_tuple_add
def Tc:=@PySem.Heap.get?_update_other
def Td:=@PySem.wpAny_seqItems
def Te:=@PySem.wpAny_setState_of
def Tf:=@List.filterMap_append
def Th:=@List.perm_append_comm
def Ti:=@PySem.F.slot_dict_get
def Tj:=@PySem.F.slot_list_pop
def To:=@PySem.F.type_list_pop
def Tp:=@List.countP_singleton
def Tq:=@PySem.call_meets
def Tr:=@List.getElem_mem
def Ts:=@bne_iff_ne
def Tt:=@List.nodup_range
def Tu:=@if_true
def Tv:=@PySem.evalPart_none
def Tw:=@List.all_cons
def Tx:=@PySem.plainId_quiet
def Tz:=@PySem.Calls.evalArgs_plain
def TB:=@PySem.wpAny_of_eq
def TC:=@or_false
def TF:=@PySem.codeAny_call_builtin
def TH:=@PyProof.Rows.boot_sorted
def TJ:=@List.singleton_perm_singleton
def TK:=@PySem.wpAny_execs_nil
def TL:=@PySem.SeqAt.EqAt.same
def TM:=@PySem.typeLookup_type
def TN:=@List.sum_append
def TQ:=@List.dropLast_concat_getLast
def TR:=@PyProof.Rows.getElem?_mirror_all
def TU:=@List.length_reverse
def TV:=@Nat.sub_self
def TY:=@List.map_map
def TZ:=@List.idxOf_lt_length_of_mem
def T1:=@PySem.Calls.Name_function_global
def T2:=@PyProof.Rows.assignInOrder_cons
def T3:=@PySem.Calls.spliced_cons
def T4:=@Nat.lt_of_le_of_lt
def T5:=@PySem.F.excBase_ValueError
def T6:=@List.length_eraseIdx_of_lt
def T7:=@Array.perm_iff_toList_perm
def T8:=@List.pairwise_iff_getElem
def T9:=@List.findIdx?_eq_none_iff
def Na:=@List.getElem?_eq_none_iff
def Nb:=@Decidable.byContradiction
def Nc:=@Sum.inl.inj
def Nd:=@PySem.wpAny_pyIter_list
def Nf:=@PySem.Calls.spliced_nil
def Ng:=@List.take_sublist
def Nh:=@PySem.wpAny_sequenceKey
def Ni:=@PySem.slot_list_getitem
def Nj:=@Nat.lt_trichotomy
def Nk:=@List.ext_getElem?
def Nl:=@List.find?_append
def Nm:=@Option.isSome_iff_exists
def Nn:=@PySem.wpAny_getItem_list_slice
def Np:=@PySem.wpAny_comprehension_free
def Nq:=@List.length_filterMap_le
def Nr:=@List.Pairwise.imp_of_mem
def Nt:=@PySem.F.slot_list_insert
def Nu:=@PySem.F.type_list_insert
def Nv:=@List.sum_cons
def Nw:=@List.getElem?_replicate
def Nx:=@PySem.noFill_tuple_add
def Ny:=@Option.getD_none
def Nz:=@PySem.IsL.isList
def NA:=@Nat.le_of_not_lt
def NB:=@List.eraseIdx_cons_succ
def NC:=@List.cons_append
def ND:=@PySem.wpAny_pyIter_zip
def NH:=@PySem.wpAny_isInstance
def NI:=@PySem.F.args_dict_get_2
def NJ:=@Array.toList_map
def NK:=@PyProof.Rows.boot_max
def NL:=@PyProof.Rows.boot_int
def NM:=@List.mem_nil_iff
def NO:=@List.getElem?_set_self
def NR:=@PyProof.noPylong_small
def NS:=@PySem.codeAny_mono
def NT:=@PySem.W.cellsFrom_some
def NW:=@List.map_nil
def NX:=@beq_iff_eq
def NY:=@List.Perm.append_right
def NZ:=@Nat.mod_lt
def N1:=@Array.getElem?_eq_none
def N2:=@PySem.F.entry_dict_get
def N3:=@PyProof.Rows.pairsOf_size
def N4:=@List.length_pos_of_mem
def N5:=@List.mem_filter
def N6:=@List.of_mem_zip
def N7:=@PySem.wpAny_specialOf
def N8:=@Nat.not_lt_zero
def Ma:=@List.set_append_right
def Md:=@List.getElem?_eq_none
def Me:=@List.getElem?_set_ne
def Mg:=@Bool.false_and
def Mh:=@PySem.wpAny_Slice
def Mi:=@PySem.seqIndex_of
def Mj:=@PySem.Heap.size_push
def Mk:=@List.mem_iff_getElem
def Mm:=@PySem.isSubtype_type
def Mn:=@PySem.entryFor_alias
def Mo:=@PyProof.Rows.wpS_mono
def Mp:=@List.drop_zero
def Mq:=@Nat.pow_le_pow_right
def Mr:=@List.pairwise_append
def Ms:=@List.mem_of_mem_take
def Mt:=@PySem.F.slot_list_lt
def Mv:=@List.mem_erase_of_ne
def Mw:=@Bool.and_eq_true_iff
def MB:=@List.countP_eq_zero
def MC:=@List.map_congr_left
def MD:=@List.getElem?_range
def ME:=@PySem.wpAny_release
def MF:=@PySem.seq_tuple_add
def MG:=@PySem.wpAny_attempt
def MH:=@List.take_nil
def ML:=@List.filterMap_map
def MO:=@Option.isNone_none
def MR:=@Nat.and_one_is_mod
def MT:=@PySem.intKind_is
def MU:=@List.findIdx?_cons
def MV:=@List.countP_append
def MW:=@List.filter_append
def MX:=@List.map_singleton
def MY:=@Nat.add_sub_cancel
def M0:=@List.Perm.cons_inv
def M3:=@of_decide_eq_false
def Lc:=@Int.le_trans
def Ld:=@Nat.le_of_eq
def Lk:=@Nat.sub_zero
def Lr:=@List.all_map
namespace L2
open PySem PySem.Spec PyProof.Rows
theorem sz0:0<=sizeLine:=by decide
theorem sz1:1<=sizeLine:=by decide
theorem sz2:2<=sizeLine:=by decide
theorem sz3:3<=sizeLine:=by decide
abbrev Key:=Sum Int Str
def ZfM:Key->Value->Bool
 | .inl k,v=>Value.isInt k v
 | .inr x,v=>Value.isStrOf x v
def ZsD (w:World):Key->Int
 | .inl k=>hashInt k
 | .inr x=>hashStr w x
theorem YF:∀{k:Key}{v:Value},ZfM k v=true->(∃i t,k=Sum.inl i/\v=Value.int i t)∨(∃x t,k=Sum.inr x/\v=Value.str x t)
 | .inl i,v,h=>by
  obtain⟨t,e⟩:=Value.isInt_shape (k:=i) (v:=v) h;exact .inl ⟨i,t,rfl,e⟩
 | .inr x,v,h=>by obtain⟨t,e⟩:=Value.isStrOf_shape (x:=x) (v:=v) h;exact .inr ⟨x,t,rfl,e⟩
theorem ZkI (i:Int)(t:Tok):ZfM (.inl i) (.int i t)=true:=by simp[ZfM,Value.isInt]
theorem Zlb (x:Str)(t:Tok):ZfM (.inr x) (.str x t)=true:=by simp[ZfM,Value.isStrOf]
theorem Zq9 (a b:Int):decide ((Sum.inl a:Key)=Sum.inl b)=(a==b):=by
 by_cases e:a=b
 ·subst e;simp
 ·have h:¬(Sum.inl a:Key)=Sum.inl b:=fun q=>e (Nc q);rw[Km h];exact(qF.mpr e).symm
theorem Zqi (a b:Str):decide ((Sum.inr a:Key)=Sum.inr b)=decide (a=b):=by
 by_cases e:a=b
 ·subst e;simp
 ·have h:¬(Sum.inr a:Key)=Sum.inr b:=fun q=>e (Sum.inr.inj q);rw[Km h,Km e]
theorem ZqA (a:Int)(b:Str):decide ((Sum.inl a:Key)=Sum.inr b)=false:=Km (fun q=>nomatch q)
theorem Zqf (a:Str)(b:Int):decide ((Sum.inr a:Key)=Sum.inl b)=false:=Km (fun q=>nomatch q)
def Z9 (prog:Program)(w:World):PySem.KeyKind prog w Key where
 is:=ZfM
 hash:=ZsD w
 inj:=fun v a b ha hb=>by
  rcases YF ha with⟨i,t,rfl,rfl⟩ | ⟨x,t,rfl,rfl⟩
  ·rcases YF hb with⟨j,u,rfl,e⟩ | ⟨y,u,rfl,e⟩
   ·injection e with e1 _;rw[e1]
   ·exact nomatch e
  ·rcases YF hb with⟨j,u,rfl,e⟩ | ⟨y,u,rfl,e⟩
   ·exact nomatch e
   ·injection e with e1 _;rw[e1]
 byValue:=fun k v h=>by rcases YF h with⟨i,t,rfl,rfl⟩ | ⟨x,t,rfl,rfl⟩<;>rfl
 pyHash:=fun hv h=>by
  rcases YF hv with⟨i,t,rfl,rfl⟩ | ⟨x,t,rfl,rfl⟩
  ·exact wpAny_pyHash_int h
  ·exact wpAny_pyHash_str h
 eqBool:=fun hu hv h=>by
  rcases YF hu with⟨i,t,rfl,rfl⟩ | ⟨x,t,rfl,rfl⟩
  ·rcases YF hv with⟨j,u,rfl,rfl⟩ | ⟨y,u,rfl,rfl⟩
   ·rw[Zq9] at h;exact wpAny_eqBool_int h
   ·rw[ZqA] at h;exact SeqAt.EqAt.int_str i t y u _ _ _ _ h
  ·rcases YF hv with⟨j,u,rfl,rfl⟩ | ⟨y,u,rfl,rfl⟩
   ·rw[Zqf] at h;exact SeqAt.EqAt.str_int x t j u _ _ _ _ h
   ·rw[Zqi] at h;exact wpAny_eqBool_str h
 «strs»:=fun k x t v h=>by
  rcases YF h with⟨i,u,rfl,e⟩ | ⟨y,u,rfl,e⟩
  ·exact nomatch e
  ·injection e with e1 _
   subst e1;cases v<;>rfl
theorem ZhF (prog:Program)(w:World)(i:Int)(t:Tok):(Z9 prog w).is (.inl i) (.int i t)=true:=ZkI i t
theorem ZhN (prog:Program)(w:World)(x:Str)(t:Tok):(Z9 prog w).is (.inr x) (.str x t)=true:=Zlb x t
inductive V where
 | non | bl (b:Bool) | int (i:Int) | str (x:Str) | byt (b:Array UInt8) | flt (b:UInt64) | ref (a:Addr) | ty (n:String)
 deriving DecidableEq
def RelV:V->Value->Prop
 | .non,u=>u=Value.none
 | .bl b,u=>u=Value.bool b
 | .int i,u=>∃t,u=Value.int i t
 | .str x,u=>∃t,u=Value.str x t
 | .byt b,u=>∃t,u=Value.bytes b t
 | .flt b,u=>∃t,u=Value.float b t
 | .ref a,u=>u=Value.ref a
 | .ty n,u=>u=Value.type n
abbrev Vals:List V->List Value->Prop:=Paired RelV
theorem Vals.length {xs:List V}{us:List Value}(r:Vals xs us):xs.length=us.length:=qj r
theorem Vals.get:∀{xs:List V}{us:List Value}{i:Nat}{x:V},Vals xs us->xs[i]? = some x -> ∃u,us[i]? = some u/\RelV x u
 | _,_,_,_,.nil,e=>by simp at e
 | _,_,0,_,.cons r _,e=>by simp at e;subst e;exact⟨_,rfl,r⟩
 | _,_,i+1,x,.cons _ t,e=>by obtain⟨u,h1,h2⟩:=Vals.get (i:=i) (x:=x) t (by simpa using e);exact⟨u,by simpa using h1,h2⟩
theorem Vals.set {x:V}{u:Value}(r:RelV x u):∀{xs:List V}{us:List Value}(i:Nat),Vals xs us->Vals (xs.set i x) (us.set i u)
 | _,_,_,.nil=>.nil
 | _,_,0,.cons _ t=>.cons r t
 | _,_,i+1,.cons q t=>.cons q (Vals.set r i t)
theorem Vals.append:∀{xs ys:List V}{us ws:List Value},Vals xs us->Vals ys ws->Vals (xs++ys) (us++ws)
 | _,_,_,_,.nil,s=>s
 | _,_,_,_,.cons r t,s=>.cons r (Vals.append t s)
theorem Vals.take:∀{xs:List V}{us:List Value}(n:Nat),Vals xs us->Vals (xs.take n) (us.take n)
 | _,_,0,_=>.nil
 | _,_,_+1,.nil=>.nil
 | _,_,n+1,.cons r t=>.cons r (Vals.take n t)
theorem Vals.drop:∀{xs:List V}{us:List Value}(n:Nat),Vals xs us->Vals (xs.drop n) (us.drop n)
 | _,_,0,r=>r
 | _,_,_+1,.nil=>.nil
 | _,_,n+1,.cons _ t=>Vals.drop n t
def ZcM:Option V->Option Value->Prop
 | some v,some u=>RelV v u
 | none,none=>True
 | _,_=>False
def KV {κ:Type}:List (κ × V)->List (κ × Value)->Prop:=Paired fun(p:κ × V) (q:κ × Value)=>p.1=q.1/\RelV p.2 q.2
def kV:Key->V
 | .inl i=>.int i
 | .inr x=>.str x
inductive HO where
 | lst (xs:List V)
 | tup (xs:List V)
 | dK (kvs:List (Key×V)) | dT (kvs:List (List Key×V))
 | set (S:Int->Bool) (n:Nat)
 | ins (C dx:Addr) (fs:List (Str×V))
 | own (x:Addr)
 | xd (fs:List (Str×V))
 | met (f x:Addr)
 | rng (lo hi:Int)
 | frz (o:Obj) (u:HO)
 | tbl (ps:Array Value)
 | ext (φ:Heap->Prop)
abbrev Hp:=Addr->Option HO
def upd (H:Hp)(a:Addr)(o:HO):Hp:=fun b=>if b=a then some o else H b
theorem Zc {H:Hp}{a:Addr}{o:HO}:upd H a o a=some o:=by unfold upd;rw[km rfl]
theorem Zi {H:Hp}{a b:Addr}{o:HO}(h:b≠a):upd H a o b=H b:=by unfold upd;rw[ki h]
theorem JM {H:Hp}{a:Addr}{o u:HO}:upd (upd H a o) a u=upd H a u:=by funext b;unfold upd;split<;>rfl
theorem Zee {H:Hp}{a b:Addr}{o u:HO}(h:H a=some o)(h':H b=some u)(d:o≠u):a≠b:=by intro e;subst e;rw[h] at h';exact d (Ka h')
theorem Zf {H:Hp}{a b:Addr}{o:HO}(h:H a=some o)(h':H b=none):a≠b:=by intro e;subst e;rw[h] at h';cases h'
section
variable (P:Program)(w:World)
def YA (H:Hp)(h:Heap)(a:Addr):HO->Prop
 | .lst xs=>xs.length<=sizeLine /\ ∃(its:List Value)(n:Nat),Vals xs its/\h.get? a=some { cls:=.type "list", data:=.seq its.toArray n }
 | .tup xs=>xs.length<=sizeLine /\ ∃its:List Value,Vals xs its/\IsTup h a its.toArray
 | .dK kvs=>kvs.length<=sizeLine/\(a==sysModules)=false /\ ∃vs,KV kvs vs/\h.DictOf (Z9 P w) a vs
 | .dT kvs=>kvs.length<=sizeLine/\(a==sysModules)=false /\ ∃xs:List (List Key×Addr×Value),
   Paired (fun(p:List Key×V) (q:List Key×Addr×Value)=>p.1=q.1/\H q.2.1=some (.tup (p.1.map kV))/\RelV p.2 q.2.2) kvs xs /\
   ∃o es ep,h.get? a=some o/\o.ExactDict/\o.data = .dict es ep/\es.toList=xs.map (entryOfKey (tupleKind (Z9 P w)))/\(xs.map (·.1)).Nodup
 | .set S n=>h.SetOf (intKind P w) a S n
 | .ins C dx fs=>H dx=some (.own a)/\fs.length<=1000/\dx≠a/\h.get? a=some (PySem.W.instObj C dx) /\
   ∃mA,h.Ns1 dx mA/\(∀f,ZcM (fs.lookup f) (mA f))/\PySem.Within mA (fs.map (·.1))
 | .own _=>∃o,h.get? a=some o
 | .xd fs=>∃mA,h.Ns1 a mA /\ ∀f,ZcM (fs.lookup f) (mA f)
 | .rng lo hi=>∃t u v,h.get? a=some { cls:=.type "range", data:=.fields #[.int lo t,.int hi u,.int 1 v] }
 | .frz o u=>h.get? a=some o/\YA H h a u
 | .tbl ps=>h.get? a=some { cls:=.none,data:=.fields ps }
 | .met f x=>h.get? a=some (PySem.W.methodObj (.ref f) (.ref x))
 | .ext φ=>φ h/\(∃o,h.get? a=some o) /\ ∀h1 h2:Heap,φ h1->(∀o,h1.get? a=some o->h2.get? a=some o) -> φ h2
def UX (H:Hp)(h:Heap):Prop:=∀a o,H a=some o->YA P w H h a o
end
section
variable {P:Program}{w:World}{H H':Hp}{h h':Heap}{a:Addr}{o:HO}
theorem YA.lt (x:YA P w H h a o):a<h.objs.size:=by
 cases o with
 | lst xs=>obtain⟨_,_,_,_,e⟩:=x;exact Kc e
 | tup xs=>obtain⟨_,_,_,p⟩:=x;exact p.lt
 | dK kvs=>obtain⟨_,_,_,_,o,_,_,e,_⟩:=x;exact Kc e
 | dT kvs=>obtain⟨_,_,_,_,o,_,_,e,_⟩:=x;exact Kc e
 | set S n=>obtain⟨o,_,_,_,e,_⟩:=x;exact Kc e
 | ins C dx fs=>obtain⟨_,_,_,e,_⟩:=x;exact Kc e
 | own y=>obtain⟨_,e⟩:=x;exact Kc e
 | xd fs=>obtain⟨_,⟨_,_,_,e,_⟩,_⟩:=x;exact Kc e
 | rng lo hi=>obtain⟨_,_,_,e⟩:=x;exact Kc e
 | frz ob u=>obtain⟨e,_⟩:=x;exact Kc e
 | tbl ps=>exact Kc (show h.get? a=some _ from x)
 | met f y=>exact Kc (show h.get? a=some _ from x)
 | ext φ=>obtain⟨_,⟨_,e⟩,_⟩:=x;exact Kc e
theorem Paired.mapP {α β:Type}{F G:α -> β -> Prop}:∀{l₁:List α}{l₂:List β},Paired F l₁ l₂->(∀a b,F a b->G a b)->Paired G l₁ l₂
 | _,_,.nil,_=>.nil
 | _,_,.cons r t,f=>.cons (f _ _ r) (Paired.mapP t f)
theorem Paired.imp' {α β:Type}{F G:α -> β -> Prop}(f:∀a b,F a b->G a b){l₁:List α}{l₂:List β}(r:Paired F l₁ l₂):Paired G l₁ l₂:=Paired.mapP r f
theorem YA.stay (x:YA P w H h a o)(k:∀b u,(b=a∨H b=some (.own a))->h.get? b=some u->h'.get? b=some u)
  (ho:∀b,H b=some (.own a)->H' b=some (.own a)) (ht:∀b xs,H b=some (.tup xs)->H' b=some (.tup xs)):YA P w H' h' a o:=by
 induction o with
 | lst xs=>obtain⟨z,its,n,r,e⟩:=x;exact⟨z,its,n,r,k _ _ (.inl rfl) e⟩
 | tup xs=>obtain⟨z,its,r,ob,e,c⟩:=x;exact⟨z,its,r,ob,k _ _ (.inl rfl) e,c⟩
 | dK kvs=>obtain⟨z,y,vs,r,ob,es,ep,e,c⟩:=x;exact⟨z,y,vs,r,ob,es,ep,k _ _ (.inl rfl) e,c⟩
 | dT kvs=>
  obtain⟨z,y,xs,r,ob,es,ep,e,c⟩:=x;exact⟨z,y,xs,Paired.mapP r fun p q z=>⟨z.1,ht _ _ z.2.1,z.2.2⟩,ob,es,ep,k _ _ (.inl rfl) e,c⟩
 | set S n=>obtain⟨ob,es,ep,t,e,c⟩:=x;exact⟨ob,es,ep,t,k _ _ (.inl rfl) e,c⟩
 | ins C dx fs=>
  obtain⟨d,z,ne,e,mA,⟨od,es,ep,e2,c⟩,r⟩:=x;exact⟨ho _ d,z,ne,k _ _ (.inl rfl) e,mA,⟨od,es,ep,k _ _ (.inr d) e2,c⟩,r⟩
 | own y=>obtain⟨ob,e⟩:=x;exact⟨ob,k _ _ (.inl rfl) e⟩
 | xd fs=>obtain⟨mA,⟨od,es,ep,e,c⟩,r⟩:=x;exact⟨mA,⟨od,es,ep,k _ _ (.inl rfl) e,c⟩,r⟩
 | rng lo hi=>obtain⟨t,u,v,e⟩:=x;exact⟨t,u,v,k _ _ (.inl rfl) e⟩
 | frz ob u ih=>obtain⟨e,q⟩:=x;exact⟨k _ _ (.inl rfl) e,ih q⟩
 | tbl ps=>
  have e:h.get? a=some { cls:=.none,data:=.fields ps }:=x;show h'.get? a=some { cls:=.none,data:=.fields ps };exact k a _ (.inl rfl) e
 | met f y=>
  have e:h.get? a=some (PySem.W.methodObj (.ref f) (.ref y)):=x;show h'.get? a=some (PySem.W.methodObj (.ref f) (.ref y));exact k a _ (.inl rfl) e
 | ext φ=>obtain⟨p,⟨o,e⟩,st⟩:=x;exact⟨st _ _ p fun o q=>k _ _ (.inl rfl) q,⟨o,k _ _ (.inl rfl) e⟩,st⟩
theorem UX.lt (x:UX P w H h)(e:H a=some o):a<h.objs.size:=(x a o e).lt
theorem UX.fresh (x:UX P w H h)(e:h.objs.size<=a):H a=none:=by
 cases q:H a with
 | none=>rfl
 | some u=>exact absurd (KD (x.lt q) e) (qK _)
theorem UX.kept (x:UX P w H h)(k:∀b u,h.get? b=some u->h'.get? b=some u):UX P w H h':=fun a o e=>
 (x a o e).stay (fun b u _ q=>k b u q) (fun _ q=>q) fun _ _ q=>q
theorem UX.laid (x:UX P w H h)(k:∀b u,h.get? b=some u->h'.get? b=some u)(hp:h.objs.size<=a)(new:YA P w (upd H a o) h' a o):UX P w (upd H a o) h':=fun b u e=>by
 have hn:=x.fresh hp;by_cases hb:b=a
 ·subst hb;rw[Zc] at e;cases e;exact new
 ·rw[Zi hb] at e;exact(x b u e).stay (fun c v _ q=>k c v q) (fun c q=>by rw[Zi (Zf q hn)];exact q) fun c xs q=>by rw[Zi (Zf q hn)];exact q
end
def Rd (H:Hp)(a:Addr)(u:HO):Prop:=H a=some u ∨ ∃o,H a=some (.frz o u)
theorem Rd.ok {P:Program}{w:World}{H:Hp}{h:Heap}{a:Addr}{u:HO}(r:Rd H a u)(x:UX P w H h):YA P w H h a u:=by
 rcases r with r | ⟨o,r⟩
 ·exact x a u r
 ·obtain⟨_,q⟩:=x a _ r;exact q
def Mut:Option HO->Prop
 | some (.lst _)=>True
 | some (.dK _)=>True
 | some (.dT _)=>True
 | some (.set _ _)=>True
 | some (.ins _ _ _)=>True
 | some (.ext _)=>True
 | _=>False
section
variable {P:Program}{w:World}{H:Hp}{h h':Heap}{x e:Addr}{o':HO}
theorem UX.write (ok:UX P w H h)(mu:Mut (H x))(he:e=x∨H e=some (.own x))(k:∀b u,b≠e->h.get? b=some u->h'.get? b=some u)(heo:∃u,h'.get? e=some u)
  (new:YA P w (upd H x o') h' x o'):UX P w (upd H x o') h':=fun b u q=>by
 have nown:∀c y,H c=some (.own y)->c≠x:=fun c y r z=>by subst z;rw[r] at mu;exact mu
 have ntup:∀c xs,H c=some (.tup xs)->c≠x:=fun c xs r z=>by subst z;rw[r] at mu;exact mu
 by_cases hb:b=x
 ·subst hb;rw[Zc] at q;cases q;exact new
 ·rw[Zi hb] at q;by_cases hbe:b=e
  ·have q':H b=some (.own x):=by
    rcases he with z | z
    ·exact absurd (hbe.trans z) hb
    ·rw[hbe];exact z
   rw[q] at q';cases q';obtain⟨v,hv⟩:=heo;exact⟨v,by rw[hbe];exact hv⟩
  ·refine(ok b u q).stay (fun c v hc r=>k c v ?_ r) (fun c r=>by rw[Zi (nown c b r)];exact r) fun c xs r=>by rw[Zi (ntup c xs r)];exact r
   rcases hc with rfl | hc
   ·exact hbe
   ·rintro rfl;rcases he with z | z
    ·exact nown c b hc z
    ·rw[hc] at z;cases z;exact hb rfl
end
structure Un (fs ex:List Addr)(H H':Hp)(h h':Heap):Prop where
 keep:∀b o,h.get? b=some o->H b=none->b∉fs->b∉ex->h'.get? b=some o
 slot:∀b o,h.get? b=some o->H b=none->b∈fs->b∉ex -> ∃sl,h'.get? b=some { o with slots:=sl }
 free:∀b o,h.get? b=some o->H b=none->b∉ex->H' b=none
 there:∀b o,h.get? b=some o->b∉ex -> ∃o',h'.get? b=some o'
 tups:∀b xs,H b=some (.tup xs)->H' b=some (.tup xs)
 frzs:∀b o u,H b=some (.frz o u)->H' b=some (.frz o u)
 tbls:∀b ps,H b=some (.tbl ps) -> ∃more,H' b=some (.tbl (ps++more))
section
variable {fs fs' ex ex':List Addr}{H H1 H2:Hp}{h h1 h2 h':Heap}{a x e:Addr}{o:HO}
theorem Un.any (u:Un fs ex H H1 h h1){b:Addr}{ob:Obj}(q:h.get? b=some ob)(n:H b=none)(hx:b∉ex):∃sl,h1.get? b=some { ob with slots:=sl }:=by
 by_cases hb:b∈fs
 ·exact u.slot b ob q n hb hx
 ·exact⟨ob.slots,u.keep b ob q n hb hx⟩
theorem Un.kept (k:∀b u,h.get? b=some u->h'.get? b=some u):Un fs ex H H h h':=
 ⟨fun b ob q _ _ _=>k b ob q,fun b ob q _ _ _=>⟨ob.slots,k b ob q⟩,fun _ _ _ n _=>n,fun b ob q _=>⟨ob,k b ob q⟩,fun _ _ q=>q,fun _ _ _ q=>q,fun _ ps q=>⟨#[],by rw[q];simp⟩⟩
theorem Un.refl:Un fs ex H H h h:=Un.kept fun _ _ q=>q
theorem Un.laid (k:∀b u,h.get? b=some u->h'.get? b=some u)(hp:h.objs.size<=a)(hn:H a=none):Un fs ex H (upd H a o) h h' where
 keep:=fun b u q _ _ _=>k b u q
 slot:=fun b u q _ _ _=>⟨u.slots,k b u q⟩
 free:=fun b u q n _=>by rw[Zi (Kn (KD (Kc q) hp))];exact n
 there:=fun b u q _=>⟨u,k b u q⟩
 tups:=fun b xs q=>by rw[Zi (Zf q hn)];exact q
 frzs:=fun b u xs q=>by rw[Zi (Zf q hn)];exact q
 tbls:=fun b ps q=>⟨#[],by rw[Zi (Zf q hn),q];simp⟩
theorem Un.write (mu:Mut (H x))(he:e=x∨H e=some (.own x))(k:∀b u,b≠e->h.get? b=some u->h'.get? b=some u)(heo:∃u,h'.get? e=some u):Un fs ex H (upd H x o) h h':=by
 have hx:∀b,H b=none->b≠x:=fun b n z=>by subst z;rw[n] at mu;exact mu
 have hb:∀b,H b=none->b≠e:=fun b n z=>by
  subst z;rcases he with r | r
  ·exact hx b n r
  ·rw[n] at r;cases r
 have hm:∀b u,H b=some u -> ¬Mut (some u)->b≠x:=fun b u q nm z=>by subst z;rw[q] at mu;exact nm mu
 refine⟨fun b u q n _ _=>k b u (hb b n) q,fun b u q n _ _=>⟨u.slots,k b u (hb b n) q⟩,fun b u q n _=>by rw[Zi (hx b n)];exact n,fun b u q _=>?_,
  fun b xs q=>by rw[Zi (hm b _ q fun z=>z)];exact q,fun b u xs q=>by rw[Zi (hm b _ q fun z=>z)];exact q,fun b ps q=>⟨#[],by rw[Zi (hm b _ q fun z=>z),q];simp⟩⟩
 by_cases hbe:b=e
 ·subst hbe;exact heo
 ·exact⟨u,k b u hbe q⟩
end
def trk (h:Heap)(H:Hp):List Addr:=(List.range h.objs.size).filter fun a=>(H a).isSome
def ZgI (h:Heap)(H:Hp):Heap:=PySem.W.hideAll h (trk h H)
theorem ZkM (h:Heap)(H:Hp):(ZgI h H).objs.size=h.objs.size:=PySem.W.hideAll_size _ _
theorem ZmR {h:Heap}{H:Hp}{b:Addr}{o:Obj}(e:h.get? b=some o)(n:H b=none):(ZgI h H).get? b=some o:=
 PySem.W.hideAll_get _ e fun hm=>by have q:(H b).isSome=true:=(N5.mp hm).2;rw[n] at q;simp at q
theorem Znz {h:Heap}{H:Hp}{b:Addr}{o:Obj}(e:(ZgI h H).get? b=some o):h.get? b=some o/\H b=none:=by
 have e':h.get? b=some o:=PySem.W.of_hideAll (trk h H) e;refine⟨e',?_⟩;cases q:H b with
 | none=>rfl
 | some x=>
  have hm:b∈trk h H:=N5.mpr ⟨Kw.mpr (Kc e'),by simp[q]⟩;have z:(ZgI h H).get? b=none:=PySem.W.hideAll_none (trk h H) hm;rw[z] at e;cases e
def WO (g h:Heap)(L:Addr):List (Addr×Obj):=(List.range h.objs.size).filterMap fun a=>if a=L∨(g.get? a).isSome=true then none else(h.get? a).map fun o=>(a,o)
theorem Uj {g h:Heap}{L a:Addr}{o:Obj}(h1:a≠L)(h2:g.get? a=none)(h3:h.get? a=some o):(a,o)∈WO g h L:=
 K0.mpr ⟨a,Kw.mpr (Kc h3),by simp[h1,h2,h3]⟩
theorem Zea {g h:Heap}{L:Addr}{p:Addr×Obj}(hp:p∈WO g h L):p.1≠L/\g.get? p.1=none/\h.get? p.1=some p.2:=by
 obtain⟨b,_,e⟩:=K0.mp hp;split at e
 ·cases e
 ·rename_i hn
  cases q:h.get? b with
  | none=>rw[q] at e;simp at e
  | some u=>
   rw[q] at e;simp only[qS,Option.some.injEq] at e;subst e;refine⟨fun z=>hn (.inl z),?_,q⟩;show g.get? b=none;cases r:g.get? b with
   | none=>rfl
   | some v=>exact(hn (.inr (by simp[r]))).elim
theorem ZeM {g h:Heap}{L:Addr}:News g L h (WO g h L):=fun p hp=>let ⟨a,b,c⟩:=Zea hp;⟨c,a,b⟩
structure Mod (K:PySem.W.Frag)(mg:Str->Option Value)(base:Heap):Prop where
 kin:K.In base
 glob:base.Ns mainGlobals mg
 blt:∃mb,base.Ns builtinsNs mb /\ ∀x:Str,x ≠ "__name__" -> mb x=bootBuiltins x
 nolimit:base.NoLimit
structure Cx where
 prog:Program
 w:World
 K:PySem.W.Frag
 mg:Str->Option Value
 base:Heap
 A:Around
 N:List Str
 s₀:Shared
 H₀:Hp
 env:Env
 outer:List Env
 stack:List Env
 ex:List Addr
 fn:Str->Bool
 calm:Bool
 pn:List (Addr×Obj)
 xe:Value->Shared->Prop
def frs (l:List Env):List Addr:=l.filterMap (·.frame)
abbrev Cx.fs (X:Cx):List Addr:=frs X.outer
def Vis (sc:Scope)(x:Str):Prop:=sc.names.lookup x=some .local∨sc.names.lookup x=some .cell∨sc.names.lookup x=some .free
def Loc (sc:Scope)(x:Str):Prop:=sc.names.lookup x=some .local∨sc.names.lookup x=some .cell
def Look (env:Env)(h:Heap)(m:Str->Option Value)(x:Str)(u:Value):Prop:=
 (env.kindOf x=some .local/\m x=some u)∨((env.kindOf x=some .cell∨env.kindOf x=some .free) /\ ∃c,env.cells.lookup x=some c/\h.IsCell c (some u))
structure Cx.Ok (X:Cx):Prop where
 mod:Mod X.K X.mg X.base
 kind:X.env.scope.kind = .function
 glob:X.env.globals=mainGlobals
 blt:X.env.builtins=builtinsNs
 above:X.s₀.heap.objs.size<=X.env.locals
 inj:∀x y c,X.env.cells.lookup x=some c->X.env.cells.lookup y=some c->x=y
 has:∀x,(X.env.kindOf x=some .cell∨X.env.kindOf x=some .free) -> ∃c,X.env.cells.lookup x=some c
 cab:∀x c,X.fn x=true->X.env.cells.lookup x=some c->X.s₀.heap.objs.size<=c
 hd:X.calm=true->X.A.handled=none
 frames:X.A.frames=some X.stack
 stk:X.stack=X.outer∨(X.stack=X.env::X.outer/\X.env.frame=some X.env.locals)
 exf:∀b∈X.ex,b≠X.env.locals /\ ∀x c,X.env.cells.lookup x=some c->c≠b
 bs:∀b o,X.base.get? b=some o->X.s₀.heap.get? b=some o/\X.H₀ b=none
 bsz:X.base.objs.size<=X.s₀.heap.objs.size
 noex:∀b o,X.base.get? b=some o->b∉X.ex
 exfs:∀b∈X.ex,b∉X.fs
 funs:X.s₀.heap.FunFrames X.base X.outer
 frf:∀b∈X.fs,X.H₀ b=none
structure Inv (X:Cx)(pins:List (Addr×Obj))(σ:List (Option V))(H:Hp)(s:Shared):Prop where
 ok:X.Ok
 os:s.os=X.s₀.os
 bare:AllBare s.gens
 base:Un X.fs X.ex X.H₀ H X.s₀.heap s.heap
 loc:∃m,s.heap.Ns X.env.locals m /\ ∀(i:Nat)(x:Str)(v:V),X.N[i]? = some x -> σ[i]? = some (some v)->Vis X.env.scope x -> ∃u,RelV v u/\Look X.env s.heap m x u
 cell:∀x c,X.env.cells.lookup x=some c -> ∃v,s.heap.IsCell c v
 free:H X.env.locals=none
 freeC:∀x c,X.env.cells.lookup x=some c->H c=none
 pin:∀p∈X.pn++pins,s.heap.get? p.1=some p.2/\H p.1=none/\p.1≠X.env.locals/\p.1∉X.fs /\ ∀v,p.2.data ≠ .cell v
 hok:UX X.prog X.w H s.heap
 len:σ.length=X.N.length
section
variable {X:Cx}{pins:List (Addr×Obj)}{σ:List (Option V)}{H H':Hp}{s:Shared}{h':Heap}
theorem Cx.Ok.nofr (ok:X.Ok){b:Addr}{o:Obj}(e:X.base.get? b=some o):b∉X.fs:=fun hb=>by have:=(ok.funs.mem hb).1;rw[e] at this;cases this
theorem Inv.bs (I:Inv X pins σ H s):∀b o,X.base.get? b=some o->s.heap.get? b=some o/\H b=none:=fun b o e=>
 ⟨I.base.keep b o (I.ok.bs b o e).1 (I.ok.bs b o e).2 (I.ok.nofr e) (I.ok.noex b o e),I.base.free b o (I.ok.bs b o e).1 (I.ok.bs b o e).2 (I.ok.noex b o e)⟩
theorem Inv.bk (I:Inv X pins σ H s):∀b o,X.base.get? b=some o->s.heap.get? b=some o:=fun b o e=>(I.bs b o e).1
theorem Inv.mod (I:Inv X pins σ H s):Mod X.K X.mg X.base:=I.ok.mod
theorem Inv.kIn (I:Inv X pins σ H s):X.K.In s.heap:=I.ok.mod.kin.keeps I.bk
theorem Inv.fr (I:Inv X pins σ H s):∃m,Fr X.base X.env.locals s.heap m:=
 let ⟨m,hn,_⟩:=I.loc
 ⟨m,hn,I.bk,Kb I.ok.bsz I.ok.above⟩
theorem Inv.lt (I:Inv X pins σ H s):X.env.locals<s.heap.objs.size:=let ⟨_,hn,_⟩:=I.loc;hn.lt
theorem Inv.sz (I:Inv X pins σ H s):X.s₀.heap.objs.size<=s.heap.objs.size:=Kb I.ok.above (Kz I.lt)
theorem Inv.nofs (I:Inv X pins σ H s){a:Addr}(h:s.heap.objs.size<=a):a∉X.fs:=fun hb=>by obtain⟨_,o,ho,_⟩:=I.ok.funs.mem hb;exact absurd (KD (Kc ho) (Kb I.sz h)) (qK _)
theorem Inv.cne (I:Inv X pins σ H s):∀x c,X.env.cells.lookup x=some c->c≠X.env.locals:=fun x c e z=>by obtain⟨v,o,ho,hd⟩:=I.cell x c e;obtain⟨m,⟨o',es,ep,ho',hd',_⟩,_⟩:=I.loc;rw[z,ho'] at ho;cases ho;rw[hd'] at hd;cases hd
theorem Inv.funs (I:Inv X pins σ H s):s.heap.FunFrames X.base X.outer:=by
 have all:∀(l:List Env),(∀b∈frs l,b∈X.fs)->X.s₀.heap.FunFrames X.base l->s.heap.FunFrames X.base l:=by
  intro l
  induction l with
  | nil=>intro _ _;trivial
  | cons env r ih=>
   intro hs hl;obtain⟨hk,⟨L,o,hf,hn,ho,hd⟩,hr⟩:=hl;have hL:L∈X.fs:=hs L (by unfold frs;rw[K7,hf];exact kS);obtain⟨sl,e⟩:=I.base.slot L o ho (I.ok.frf L hL) hL fun z=>I.ok.exfs L z hL;exact⟨hk,⟨L,_,hf,hn,e,hd⟩,ih (fun b hb=>hs b (by unfold frs;rw[K7,hf];exact kU _ hb)) hr⟩
 exact all X.outer (fun _ hb=>hb) I.ok.funs
theorem Inv.stack (I:Inv X pins σ H s):s.heap.FunFrames X.base X.stack:=by
 rcases I.ok.stk with e | ⟨e,hf⟩
 ·rw[e];exact I.funs
 ·rw[e];obtain⟨m,hn,_⟩:=I.loc;refine .cons (by rw[I.ok.kind];decide) hf hn ?_ I.funs;exact Heap.get?_none_of_le (Kb I.ok.bsz I.ok.above)
theorem Inv.stkSub (I:Inv X pins σ H s):∀b∈frs X.stack,b∈X.env.locals::X.fs:=fun b hb=>by
 rcases I.ok.stk with e | ⟨e,hf⟩
 ·rw[e] at hb;exact kU _ hb
 ·rw[e] at hb;unfold frs at hb;rw[K7,hf] at hb;exact hb
theorem Inv.stkFree (I:Inv X pins σ H s):∀b∈frs X.stack,H b=none:=fun b hb=>by
 rcases kO.mp (I.stkSub b hb) with e | hb
 ·rw[e];exact I.free
 ·obtain⟨_,o,ho,_⟩:=I.ok.funs.mem hb;exact I.base.free b o ho (I.ok.frf b hb) fun z=>I.ok.exfs b z hb
theorem Inv.step {g':Array GenState}{t':Nat}{d':Drawn}{ch:List Addr}(I:Inv X pins σ H s)
  (hch:∀b∈ch,(b∈X.ex∨X.s₀.heap.objs.size<=b)/\b≠X.env.locals/\(∀x c,X.env.cells.lookup x=some c->c≠b) /\ ∀p∈X.pn++pins,p.1≠b)
  (keep:∀b o,b≠X.env.locals->b∉X.fs->b∉ch->s.heap.get? b=some o->H b=none->h'.get? b=some o)
  (slot:∀b o,b≠X.env.locals->b∈X.fs->b∉ch->s.heap.get? b=some o->H b=none -> ∃sl,h'.get? b=some { o with slots:=sl }) (free:∀b o,b∉ch->s.heap.get? b=some o->H b=none->H' b=none)
  (there:∀b o,b∉ch->s.heap.get? b=some o -> ∃o',h'.get? b=some o')
  (tups:∀b xs,H b=some (.tup xs)->H' b=some (.tup xs)) (frzs:∀b o u,H b=some (.frz o u)->H' b=some (.frz o u)) (tbls:∀b ps,H b=some (.tbl ps) -> ∃more,H' b=some (.tbl (ps++more)))
  (ns:∀m,s.heap.Ns X.env.locals m->h'.Ns X.env.locals m) (hok:UX X.prog X.w H' h') (hg:AllBare g'):
  Inv X pins σ H' { s with heap:=h',gens:=g',drawn:=d',toks:=t' }:=by
 have neL:∀b o,X.s₀.heap.get? b=some o->b≠X.env.locals:=fun b o e=>Kn (KD (Kc e) I.ok.above);have neC:∀b o,X.s₀.heap.get? b=some o->b∉X.ex->b∉ch:=fun b o e hx hb=>by
  rcases(hch b hb).1 with z | z
  ·exact hx z
  ·exact absurd (KD (Kc e) z) (qK _)
 have cellK:∀x c,X.env.cells.lookup x=some c -> ∀v,s.heap.IsCell c v->h'.IsCell c v:=fun x c e v ⟨o,ho,hd⟩=>by
  have nch:c∉ch:=fun z=>(hch c z).2.2.1 x c e rfl;by_cases hc:c∈X.fs
  ·obtain⟨sl,q⟩:=slot c o (I.cne x c e) hc nch ho (I.freeC x c e);exact⟨_,q,hd⟩
  ·exact⟨o,keep c o (I.cne x c e) hc nch ho (I.freeC x c e),hd⟩
 refine⟨I.ok,I.os,hg,⟨fun b o e n hb hx=>?_,fun b o e n hb hx=>?_,fun b o e n hx=>?_,fun b o e hx=>?_,fun b xs e=>tups b xs (I.base.tups b xs e),fun b o xs e=>frzs b o xs (I.base.frzs b o xs e),fun b ps e=>?_⟩,?_,fun x c e=>?_,?_,fun x c e=>?_,fun p hp=>?_,hok,I.len⟩
 ·exact keep b o (neL b o e) hb (neC b o e hx) (I.base.keep b o e n hb hx) (I.base.free b o e n hx)
 ·obtain⟨sl,e1⟩:=I.base.slot b o e n hb hx;obtain⟨sl',e2⟩:=slot b _ (neL b o e) hb (neC b o e hx) e1 (I.base.free b o e n hx);exact⟨sl',e2⟩
 ·obtain⟨o',e1⟩:=I.base.there b o e hx;exact free b o' (neC b o e hx) e1 (I.base.free b o e n hx)
 ·obtain⟨o',e1⟩:=I.base.there b o e hx;exact there b o' (neC b o e hx) e1
 ·obtain⟨m1,e1⟩:=I.base.tbls b ps e;obtain⟨m2,e2⟩:=tbls b _ e1;exact⟨m1++m2,by rw[e2,Array.append_assoc]⟩
 ·obtain⟨m,hn,hl⟩:=I.loc;refine⟨m,ns m hn,fun i x v e1 e2 e3=>?_⟩;obtain⟨u,r,l⟩:=hl i x v e1 e2 e3;refine⟨u,r,?_⟩;rcases l with l | ⟨k,c,e,z⟩
  ·exact .inl l
  ·exact .inr ⟨k,c,e,cellK x c e _ z⟩
 ·obtain⟨v,z⟩:=I.cell x c e;exact⟨v,cellK x c e v z⟩
 ·obtain⟨m,⟨o,_,_,ho,_⟩,_⟩:=I.loc;exact free _ o (fun z=>(hch _ z).2.1 rfl) ho I.free
 ·obtain⟨v,o,ho,hd⟩:=I.cell x c e;exact free c o (fun z=>(hch c z).2.2.1 x c e rfl) ho (I.freeC x c e)
 ·obtain⟨e,n,ne,nf,d⟩:=I.pin p hp;have nch:p.1∉ch:=fun z=>(hch p.1 z).2.2.2 p hp rfl;exact⟨keep p.1 p.2 ne nf nch e n,free p.1 p.2 nch e n,ne,nf,d⟩
theorem Inv.un {t':Nat}(I:Inv X pins σ H s)(u:Un X.fs [] H H' s.heap h')(hok:UX X.prog X.w H' h'):Inv X pins σ H' { s with heap:=h',toks:=t' }:=by
 obtain⟨m,⟨o,es,ep,ho,r⟩,_⟩:=id I.loc;obtain⟨sl,hL⟩:=u.any ho I.free (by simp);exact I.step (g':=s.gens) (d':=s.drawn) (ch:=[]) (fun _ z=>nomatch z) (fun b o _ hb _ e n=>u.keep b o e n hb (by simp)) (fun b o _ hb _ e n=>u.slot b o e n hb (by simp)) (fun b o _ e n=>u.free b o e n (by simp)) (fun b o _ e=>u.there b o e (by simp)) u.tups u.frzs u.tbls (fun m' hm=>by obtain⟨o',es',ep',ho',r'⟩:=hm;rw[ho] at ho';cases ho';exact⟨_,es',ep',hL,r'⟩) hok I.bare
theorem Inv.call {g':Array GenState}{t':Nat}{d':Drawn}{ch:List Addr}(I:Inv X pins σ H s)(u:Un (frs X.stack) ch H H' s.heap h')(hok:UX X.prog X.w H' h')(hg:AllBare g')
  (hch:∀b∈ch,(b∈X.ex∨X.s₀.heap.objs.size<=b)/\b≠X.env.locals/\(∀x c,X.env.cells.lookup x=some c->c≠b) /\ ∀p∈X.pn++pins,p.1≠b):
  Inv X pins σ H' { s with heap:=h',gens:=g',drawn:=d',toks:=t' }:=by
 obtain⟨m,⟨o,es,ep,ho,r⟩,_⟩:=id I.loc;obtain⟨sl,hL⟩:=u.any ho I.free fun z=>(hch _ z).2.1 rfl;exact I.step (ch:=ch) hch (fun b o hL hb hc e n=>u.keep b o e n (fun z=>(kO.mp (I.stkSub b z)).elim hL hb) hc) (fun b o _ _ hc e n=>u.any e n hc) (fun b o hc e n=>u.free b o e n hc) (fun b o hc e=>u.there b o e hc) u.tups u.frzs u.tbls (fun m' hm=>by obtain⟨o',es',ep',ho',r'⟩:=hm;rw[ho] at ho';cases ho';exact⟨_,es',ep',hL,r'⟩) hok hg
theorem Inv.turned {t':Nat}{it:Addr}(I:Inv X pins σ H s)(k:∀b o,b≠it->s.heap.get? b=some o->h'.get? b=some o)(hn:H it=none)(hL:it≠X.env.locals)
  (h1:it∈X.ex∨X.s₀.heap.objs.size<=it) (h2:∀x c,X.env.cells.lookup x=some c->c≠it) (h3:∀p∈X.pn++pins,p.1≠it):Inv X pins σ H { s with heap:=h',toks:=t' }:=by
 have nit:∀b u,H b=some u->b≠it:=fun b u e z=>by rw[z,hn] at e;cases e
 refine I.step (g':=s.gens) (d':=s.drawn) (ch:=[it]) (fun b hb=>?_) (fun b o _ _ hc e _=>k b o (fun z=>hc (by simp[z])) e) (fun b o _ _ hc e _=>⟨o.slots,k b o (fun z=>hc (by simp[z])) e⟩) (fun _ _ _ _ n=>n)
  (fun b o hc e=>⟨o,k b o (fun z=>hc (by simp[z])) e⟩) (fun _ _ e=>e) (fun _ _ _ e=>e) (fun b ps e=>⟨#[],by rw[e];simp⟩) (fun m hm=>?_) (fun b u e=>?_) I.bare
 ·have e:b=it:=by simpa using hb
  subst e;exact⟨h1,hL,h2,h3⟩
 ·obtain⟨o,es,ep,ho,r⟩:=hm;exact⟨o,es,ep,k _ o (KG hL) ho,r⟩
 ·refine(I.hok b u e).stay (fun c v hc q=>k c v ?_ q) (fun _ q=>q) fun _ _ q=>q;rcases hc with z | z
  ·rw[z];exact nit b u e
  ·exact nit c _ z
theorem Inv.tok (I:Inv X pins σ H s)(t:Nat):Inv X pins σ H { s with toks:=t }:=I.un (h':=s.heap) (t':=t) Un.refl I.hok
theorem Inv.kept {t':Nat}(I:Inv X pins σ H s)(k:∀b u,s.heap.get? b=some u->h'.get? b=some u):Inv X pins σ H { s with heap:=h',toks:=t' }:=I.un (Un.kept k) (I.hok.kept k)
theorem Inv.laid {a:Addr}{o:HO}{t':Nat}(I:Inv X pins σ H s)(k:∀b u,s.heap.get? b=some u->h'.get? b=some u)(hp:s.heap.objs.size<=a)(new:YA X.prog X.w (upd H a o) h' a o):
  Inv X pins σ (upd H a o) { s with heap:=h',toks:=t' }:=I.un (Un.laid k hp (I.hok.fresh hp)) (I.hok.laid k hp new)
theorem Inv.write {x e:Addr}{o:HO}{t':Nat}(I:Inv X pins σ H s)(mu:Mut (H x))(he:e=x∨H e=some (.own x))(k:∀b u,b≠e->s.heap.get? b=some u->h'.get? b=some u)(heo:∃u,h'.get? e=some u)
  (new:YA X.prog X.w (upd H x o) h' x o):Inv X pins σ (upd H x o) { s with heap:=h',toks:=t' }:=I.un (Un.write mu he k heo) (I.hok.write mu he k heo new)
theorem Inv.pins_of {pins':List (Addr×Obj)}(I:Inv X pins σ H s)(h:∀p∈pins',s.heap.get? p.1=some p.2/\H p.1=none/\p.1≠X.env.locals/\p.1∉X.fs /\ ∀v,p.2.data ≠ .cell v):Inv X pins' σ H s:=
 ⟨I.ok,I.os,I.bare,I.base,I.loc,I.cell,I.free,I.freeC,fun p hp=>(Kk.mp hp).elim (fun z=>I.pin p (Xe _ z)) (h p),I.hok,I.len⟩
theorem ZhM {N:List Str}(hN:N.Nodup){i j:Nat}{x:Str}(a:N[i]? = some x)(b:N[j]? = some x):i=j:=by obtain⟨h1,e1⟩:=kz.mp a;obtain⟨h2,e2⟩:=kz.mp b;exact(List.getElem_inj hN).mp (e1.trans e2.symm)
theorem ZfI {M:Model}{A:Around}{E:Value->Shared->Prop}{i:Nat}{x:Str}{v:V}{u:Value}{Q:Unit->Shared->Prop}(I:Inv X pins σ H s)(hN:X.N.Nodup)(hi:X.N[i]? = some x)(hx:Loc X.env.scope x)(r:RelV v u)
  (h:∀s',Inv X pins (σ.set i (some v)) H s'->(∃a,Heap.SameBut a s.heap s'.heap/\(a=X.env.locals∨X.env.cells.lookup x=some a))->Q () s') (hf:X.fn x=true∨X.env.scope.names.lookup x=some .local:=by first | exact .inl rfl | exact .inr rfl | assumption):wpAny M A (storeName X.env x u) Q E s:=by
 obtain⟨m,hn,hl⟩:=id I.loc;have hcls:(X.env.scope.kind == .class||(X.env.scope.kind == .module&&X.env.locals != X.env.globals))=false:=by rw[I.ok.kind];rfl
 have hiσ:i < σ.length:=by rw[I.len];exact(kz.mp hi).1
 have cne:=I.cne;have tracked:∀{a:Addr}{h':Heap},(∃o,s.heap.get? a=some o/\H a=none)->Heap.SameBut a s.heap h'->UX X.prog X.w H h':=fun {a h'} ha hs b ob e=>by
  obtain⟨_,_,hfree⟩:=ha;refine(I.hok b ob e).stay (fun c w' hc q=>(hs.2 c ?_).trans q) (fun _ q=>q) fun _ _ q=>q;rintro rfl;rcases hc with rfl | hc
  ·rw[hfree] at e;cases e
  ·rw[hfree] at hc;cases hc
 rcases hx with hk | hk
 ·refine wpAny_storeName_local hk hn (fun h' hn' hs=>?_) hcls;obtain⟨oL,_,_,hoL,_⟩:=id hn;refine h _ ⟨I.ok,I.os,I.bare,⟨fun b o e n hb hx=>?_,fun b o e n hb hx=>?_,I.base.free,fun b o e hx=>?_,I.base.tups,I.base.frzs,I.base.tbls⟩,⟨_,hn',fun j y v' e1 e2 e3=>?_⟩,fun y c e=>?_,I.free,I.freeC,fun p hp=>?_,tracked ⟨oL,hoL,I.free⟩ hs,by simpa using I.len⟩ ⟨_,hs,.inl rfl⟩
  ·exact(hs.2 b (Kn (KD (Kc e) I.ok.above))).trans (I.base.keep b o e n hb hx)
  ·obtain⟨sl,e1⟩:=I.base.slot b o e n hb hx;exact⟨sl,(hs.2 b (Kn (KD (Kc e) I.ok.above))).trans e1⟩
  ·obtain⟨o',e1⟩:=I.base.there b o e hx;exact⟨o',(hs.2 b (Kn (KD (Kc e) I.ok.above))).trans e1⟩
  ·by_cases hj:j=i
   ·subst hj;rw[hi] at e1;cases e1;rw[NO hiσ] at e2;cases e2;exact⟨u,r,.inl ⟨hk,by simp⟩⟩
   ·rw[Me (KG hj)] at e2;obtain⟨u',r',q⟩:=hl j y v' e1 e2 e3;refine⟨u',r',?_⟩;rcases q with⟨k,e⟩ | ⟨k,c,e,z⟩
    ·refine .inl ⟨k,?_⟩;have:y≠x:=fun e=>hj (ZhM hN e1 (e ▸ hi));simp[this,e]
    ·exact .inr ⟨k,c,e,z.sameBut hs (cne y c e)⟩
  ·obtain⟨w',z⟩:=I.cell y c e;exact⟨w',z.sameBut hs (cne y c e)⟩
  ·obtain⟨e,n,ne,nf,d⟩:=I.pin p hp;exact⟨(hs.2 p.1 ne).trans e,n,ne,nf,d⟩
 ·have hfn:X.fn x=true:=by
   rcases hf with z | z
   ·exact z
   ·rw[z] at hk;cases hk
  obtain⟨c,hc⟩:=I.ok.has x (.inl hk);obtain⟨w',z⟩:=I.cell x c hc;refine wpAny_storeName_cell I.ok.kind hk hc z (fun h' hc' hs=>?_);obtain⟨oc,hoc,hocd⟩:=id z;refine h { s with heap:=h' } ⟨I.ok,I.os,I.bare,⟨fun b o e n hb hx=>?_,fun b o e n hb hx=>?_,I.base.free,fun b o e hx=>?_,I.base.tups,I.base.frzs,I.base.tbls⟩,⟨m,hn.sameBut hs (KG (cne x c hc)),fun j y v' e1 e2 e3=>?_⟩,fun y c' e=>?_,I.free,I.freeC,fun p hp=>?_,tracked ⟨oc,hoc,I.freeC x c hc⟩ hs,by simpa using I.len⟩ ⟨c,hs,.inr hc⟩
  ·exact(hs.2 b (Kn (KD (Kc e) (I.ok.cab x c hfn hc)))).trans (I.base.keep b o e n hb hx)
  ·obtain⟨sl,e1⟩:=I.base.slot b o e n hb hx;exact⟨sl,(hs.2 b (Kn (KD (Kc e) (I.ok.cab x c hfn hc)))).trans e1⟩
  ·obtain⟨o',e1⟩:=I.base.there b o e hx;exact⟨o',(hs.2 b (Kn (KD (Kc e) (I.ok.cab x c hfn hc)))).trans e1⟩
  ·by_cases hj:j=i
   ·subst hj;rw[hi] at e1;cases e1;rw[NO hiσ] at e2;cases e2;exact⟨u,r,.inr ⟨.inl hk,c,hc,hc'⟩⟩
   ·rw[Me (KG hj)] at e2;obtain⟨u',r',q⟩:=hl j y v' e1 e2 e3;refine⟨u',r',?_⟩;rcases q with q | ⟨k,c',e,z'⟩
    ·exact .inl q
    ·refine .inr ⟨k,c',e,z'.sameBut hs ?_⟩;rintro rfl;exact hj (ZhM hN e1 (I.ok.inj _ _ _ e hc ▸ hi))
  ·by_cases hcc:c'=c
   ·subst hcc;exact⟨_,hc'⟩
   ·obtain⟨w2,z2⟩:=I.cell y c' e;exact⟨w2,z2.sameBut hs hcc⟩
  ·obtain⟨e,n,ne,nf,d⟩:=I.pin p hp;refine⟨(hs.2 p.1 ?_).trans e,n,ne,nf,d⟩;intro q;rw[q,hoc] at e;have q':oc=p.2:=Ka e;exact d w' (by rw[<- q'];exact hocd)
theorem ZaJ {M:Model}{A:Around}{E:Value->Shared->Prop}{i:Nat}{x:Str}{v:V}{u:Value}{Q:Unit->Shared->Prop}(I:Inv X pins σ H s)(hN:X.N.Nodup)(hi:X.N[i]? = some x)(hx:Loc X.env.scope x)(r:RelV v u)
  (h:∀s',Inv X pins (σ.set i (some v)) H s'->Q () s') (hf:X.fn x=true∨X.env.scope.names.lookup x=some .local:=by first | exact .inl rfl | exact .inr rfl | assumption):wpAny M A (storeName X.env x u) Q E s:=
 ZfI I hN hi hx r (fun s' I' _=>h s' I') hf
theorem Inv.call' {s':Shared}{ch:List Addr}(I:Inv X pins σ H s)(ho:s'.os=s.os)(u:Un (frs X.stack) ch H H' s.heap s'.heap)(hok:UX X.prog X.w H' s'.heap)(hg:AllBare s'.gens)
  (hch:∀b∈ch,(b∈X.ex∨X.s₀.heap.objs.size<=b)/\b≠X.env.locals/\(∀x c,X.env.cells.lookup x=some c->c≠b) /\ ∀p∈X.pn++pins,p.1≠b):Inv X pins σ H' s':=by
 obtain⟨h',g',d',t',o'⟩:=s';have e:o'=s.os:=ho;subst e;exact I.call (g':=g') (t':=t') (d':=d') u hok hg hch
end
abbrev XK:=Value->Option Addr->Hp->Prop
abbrev St:=List (Option V)
abbrev VK:=V->Hp->Prop
abbrev _root_.QA:=List (List Int)
abbrev _root_.QB:=List (Str×Int)
abbrev _root_.QC:=List (Addr×Obj)
abbrev _root_.QD:=List (Key×V)
abbrev _root_.QE:=Value->Shared->Prop
abbrev _root_.QF:=PySem.W.Frag
abbrev _root_.QG:=List Int
abbrev _root_.QH:=List V
abbrev _root_.QI:=Option V
abbrev _root_.QJ:=List Value
abbrev _root_.QL:=List (Int×Int)
abbrev _root_.QN:=Str->Option Value
abbrev _root_.QP:=List Str
abbrev _root_.QS:=Array Keyed
abbrev _root_.QT:=St->Hp->Prop
abbrev _root_.QV:=List Expr
abbrev _root_.QW:=Option Int
abbrev _root_.QX:=Int->Int
abbrev _root_.QY:=Array Value
abbrev TE:=St->Hp->VK->Prop
abbrev TT:=St->Hp->(Bool->Hp->Prop)->Prop
abbrev TA:=St->Hp->(List V->Hp->Prop)->Prop
structure Ends where
 nx:QT
 rt:VK
 bk:QT:=fun _ _=>False
 ct:QT:=fun _ _=>False
abbrev TS:=Ends->St->Hp->Prop
inductive EP (X:Cx)(pins:QC)(σ:St)(Q:VK)(u:Value)(s':Shared):Prop | mk (v:V) (H':Hp) (I:Inv X pins σ H' s') (r:RelV v u) (q:Q v H')
inductive TP (X:Cx)(pins:QC)(σ:St)(Q:Bool->Hp->Prop)(b:Bool)(s':Shared):Prop | mk (H':Hp) (I:Inv X pins σ H' s') (q:Q b H')
inductive AP (X:Cx)(pins:QC)(σ:St)(Q:List V->Hp->Prop)(us:QJ)(s':Shared):Prop | mk (vs:QH) (H':Hp) (I:Inv X pins σ H' s') (r:Vals vs us) (q:Q vs H')
def SP (X:Cx)(pins:QC)(D:Ends)(f:Flow)(s':Shared):Prop:=
 match f with
 | .next=>∃ σ' H',Inv X pins σ' H' s'/\D.nx σ' H'
 | .brk=>∃ σ' H',Inv X pins σ' H' s'/\D.bk σ' H'
 | .cont=>∃ σ' H',Inv X pins σ' H' s'/\D.ct σ' H'
 | .ret u=>∃v σ' H',Inv X pins σ' H' s'/\RelV v u/\D.rt v H'
def PE (X:Cx)(e:Expr)(t:TE):Prop:=
 ∀(pins:QC)(s:Shared)(σ:St)(H:Hp)(Q:VK),Inv X pins σ H s->t σ H Q->wpAny (model X.prog X.w) X.A (eval e X.env) (EP X pins σ Q) X.xe s
def PT (X:Cx)(e:Expr)(t:TT):Prop:=
 ∀(pins:QC)(s:Shared)(σ:St)(H:Hp)(Q:Bool->Hp->Prop),Inv X pins σ H s->t σ H Q->wpAny (model X.prog X.w) X.A (isTrue e X.env (eval e X.env)) (TP X pins σ Q) X.xe s
def PW (X:Cx)(e:Expr)(t:TT):Prop:=
 ∀(whole:Sem Value)(pins:QC)(s:Shared)(σ:St)(H:Hp)(Q:Bool->Hp->Prop),Inv X pins σ H s->t σ H Q->wpAny (model X.prog X.w) X.A (isTrue e X.env whole) (TP X pins σ Q) X.xe s
theorem PW.pt {X:Cx}{e:Expr}{t:TT}(h:PW X e t):PT X e t:=h _
def PA (X:Cx)(es:QV)(t:TA):Prop:=
 ∀(pos:Pos)(pins:QC)(s:Shared)(σ:St)(H:Hp)(Q:List V->Hp->Prop),Inv X pins σ H s->t σ H Q->wpAny (model X.prog X.w) X.A (spliced (backTo pos (starEach es X.env))) (AP X pins σ Q) X.xe s
def PS (X:Cx)(st:Stmt)(t:TS):Prop:=
 ∀(pins:QC)(s:Shared)(σ:St)(H:Hp)(D:Ends),Inv X pins σ H s->t D σ H->wpAny (model X.prog X.w) X.A (exec st X.env) (SP X pins D) X.xe s
def PSs (X:Cx)(st:List Stmt)(t:TS):Prop:=
 ∀(pins:QC)(s:Shared)(σ:St)(H:Hp)(D:Ends),Inv X pins σ H s->t D σ H->wpAny (model X.prog X.w) X.A (execs st X.env) (SP X pins D) X.xe s
theorem YN {α:Type}{t:Sem α}{Q Q':α -> Shared->Prop}{M:Model}{A:Around}{E:QE}{s:Shared}(h:wpAny M A t Q E s)(hQ:∀a s,Q a s->Q' a s):wpAny M A t Q' E s:=K6 h hQ fun _ _ x=>x
section
variable {X:Cx}
inductive ZcJ(i:Nat)(σ:St)(H:Hp)(Q:VK):Prop|mk(v)(_:σ[i]? = some (some v))(_:Q v H)
def tC (v:V):TE:=fun _ H Q=>Q v H
theorem ZpR {i:Nat}{x:Str}{pos:Pos}(hN:X.N[i]? = some x)(hv:Vis X.env.scope x)(hd:(x==("__debug__" : Str))=false:=by decide)(hcd:(x==("__classdict__" : Str))=false:=by decide):PE X (.Name x pos) (ZcJ i):=by
 intro pins s σ H Q I h;obtain⟨v,e,h⟩:=h;obtain⟨m,hn,hl⟩:=I.loc;obtain⟨u,r,l⟩:=hl i x v hN e hv;have fin:EP X pins σ Q u s:=⟨v,H,I,r,h⟩;rcases l with⟨hk,hm⟩ | ⟨hk,c,hc,hcell⟩
 ·exact wpAny_Name (wpAny_loadName_local I.ok.kind hk hn hm fin) hd
 ·rcases hk with hk | hk
  ·exact wpAny_Name (wpAny_loadName_cell I.ok.kind hk hc hcell fin) hd
  ·exact wpAny_Name (wpAny_loadName_free I.ok.kind hk hc hcell fin hcd) hd
theorem Ze {i j pos}:PE X (.Constant (.int i) j pos) (tC (.int i)):=fun _ _ _ H _ I h=>wpAny_Constant_int ⟨.int i,H,I.tok _,⟨_,rfl⟩,h⟩
theorem Gs {b j pos}:PE X (.Constant (.bool b) j pos) (tC (.bl b)):=fun _ _ _ H _ I h=>Constant_bool ⟨.bl b,H,I,rfl,h⟩
theorem JP {j pos}:PE X (.Constant .none j pos) (tC .non):=fun _ _ _ H _ I h=>Constant_none ⟨.non,H,I,rfl,h⟩
theorem ZI {x j pos}:PE X (.Constant (.str x) j pos) (tC (.str x)):=fun _ _ _ H _ I h=>Calls.Constant_str ⟨.str x,H,I.tok _,⟨_,rfl⟩,h⟩
def Gl (X:Cx)(x:Str):Prop:=X.env.kindOf x=some .globalImplicit
theorem Zj9 {E:QE}{pins:QC}{s:Shared}{σ:St}{H:Hp}{x:Str}{u:Value}{pos:Pos}{Q:QE}(I:Inv X pins σ H s)(hg:Gl X x)(hm:X.mg x=some u)(h:Q u s)
  (hd:(x==("__debug__" : Str))=false:=by decide):wpAny (model X.prog X.w) X.A (eval (.Name x pos) X.env) Q E s:=
 T1 I.ok.kind hg (Calls.loadGlobal_global (by rw[I.ok.glob];exact I.mod.glob.keeps I.bk) hm h) hd
theorem UU {E:QE}{pins:QC}{s:Shared}{σ:St}{H:Hp}{x:Str}{u:Value}{pos:Pos}{Q:QE}(I:Inv X pins σ H s)(hg:Gl X x)(hm:X.mg x=none)(hv:bootBuiltins x=some u)(h:Q u s)
  (hn:x ≠ "__name__" := by decide) (hd:(x==("__debug__" : Str))=false:=by decide):wpAny (model X.prog X.w) X.A (eval (.Name x pos) X.env) Q E s:=by
 obtain⟨mb,h1,h2⟩:=I.mod.blt;exact T1 I.ok.kind hg (Calls.loadGlobal_builtin (by rw[I.ok.glob];exact I.mod.glob.keeps I.bk) hm (by rw[I.ok.blt];exact h1.keeps I.bk) ((h2 x hn).trans hv) h) hd
theorem Ue {x:Str}{v:V}{u:Value}{pos:Pos}(hg:Gl X x)(hm:X.mg x=none)(hv:bootBuiltins x=some u)(r:RelV v u)(hn:x ≠ "__name__" := by decide)(hd:(x==("__debug__" : Str))=false:=by decide):PE X (.Name x pos) (tC v):=
 fun _ _ _ H _ I h=>UU I hg hm hv ⟨v,H,I,r,h⟩ hn hd
variable {a b:Expr}{ta tb:TE}{pos:Pos}
def PC (X:Cx)(op:CmpOp)(a b:Expr)(t:TE):Prop:=
 ∀(pins:QC)(s:Shared)(σ:St)(H:Hp)(Q:VK),Inv X pins σ H s->t σ H Q ->
  wpAny (model X.prog X.w) X.A (eval a X.env) (fun v s₁=>wpAny (model X.prog X.w) X.A (eval b X.env) (fun u s₂=>wpAny (model X.prog X.w) X.A (compareOp op v u) (EP X pins σ Q) X.xe s₂) X.xe s₁) X.xe s
inductive isB (x:V)(H:Hp)(Q:Bool->Hp->Prop):Prop | mk (c:Bool) (e:x = .bl c) (q:Q c H)
def tB (t:TE):TT:=fun σ H Q=>t σ H fun x H1=>isB x H1 Q
theorem Zf3 {op:CmpOp}{t:TE}(h:PC X op a b t)(h1:behindInMarks op b=false:=by first | exact nobehind _ (by decide) (by decide) | rfl):PT X (.Compare a [op] [b] pos) (tB t):=by intro pins s σ H Q I hw;refine wpAny_isTrue_Compare1 (YN (h pins s σ H _ I hw) fun v s1 h1=>YN h1 fun u s2 h2=>YN h2 fun c s3 ⟨x,H1,I1,r1,q1⟩=>?_) h1;obtain⟨d,rfl,q⟩:=q1;cases r1;exact KZ ⟨H1,I1,q⟩
theorem Ww {e:Expr}{t:TE}(h:PE X e t)(he:∀whole,isTrue e X.env whole=(do let v <- whole;standAt e.pos;holding [v] (truthy v)):=by intro _;rfl):PT X e (tB t):=by intro pins s σ H Q I hw;refine isTrue_plain (YN (h pins s σ H _ I hw) fun v s1 ⟨x,H1,I1,r1,q1⟩=>?_) (he _);obtain⟨d,rfl,q⟩:=q1;cases r1;exact KZ ⟨H1,I1,q⟩
variable {tA tB':TT}{rest:QV}
def ZrM (t u:TT):TT:=fun σ H Q=>t σ H fun c H1=>if c=true then u σ H1 Q else Q false H1
def tOr (t u:TT):TT:=fun σ H Q=>t σ H fun c H1=>if c=true then Q true H1 else u σ H1 Q
def ZsC (t:TT):TT:=fun σ H Q=>t σ H fun c H1=>Q (!c) H1
theorem UT (ha:PT X a tA):PW X (.BoolOp .And [a] pos) tA:=by
 intro wh pins s σ H Q I h;refine isTrue_and (YN (ha pins s σ H Q I h) fun c s1 e=>?_);cases c with
 | true=>exact isTrue_and_nil e
 | false=>exact e
theorem ZbM (ha:PT X a tA):PW X (.BoolOp .Or [a] pos) tA:=by
 intro wh pins s σ H Q I h;refine isTrue_or (YN (ha pins s σ H Q I h) fun c s1 e=>?_);cases c with
 | false=>exact isTrue_or_nil e
 | true=>exact e
theorem Ur (ha:PT X a tA)(hb:PW X (.BoolOp .And (b::rest) pos) tB'):PW X (.BoolOp .And (a::b::rest) pos) (ZrM tA tB'):=by
 intro wh pins s σ H Q I h;refine isTrue_and (YN (ha pins s σ H _ I h) fun c s1 ⟨H1,I1,q1⟩=>?_);cases c with
 | true=>exact hb wh pins s1 σ H1 Q I1 q1
 | false=>exact⟨H1,I1,q1⟩
theorem Zc3 (ha:PT X a tA)(hb:PW X (.BoolOp .Or (b::rest) pos) tB'):PW X (.BoolOp .Or (a::b::rest) pos) (tOr tA tB'):=by
 intro wh pins s σ H Q I h;refine isTrue_or (YN (ha pins s σ H _ I h) fun c s1 ⟨H1,I1,q1⟩=>?_);cases c with
 | true=>exact⟨H1,I1,q1⟩
 | false=>exact hb wh pins s1 σ H1 Q I1 q1
theorem Gj (ha:PT X a tA):PT X (.UnaryOp .Not a pos) (ZsC tA):=by intro pins s σ H Q I h;exact isTrue_not (YN (ha pins s σ H (fun c H1=>Q (!c) H1) I h) fun c s1 ⟨H1,I1,q1⟩=>⟨H1,I1,q1⟩)
def ZrT (ta tb:TE):TE:=fun σ H Q=>ta σ H fun x H1=>isB x H1 fun c H2=>if c=true then tb σ H2 Q else Q (.bl false) H2
def ZsB (ta tb:TE):TE:=fun σ H Q=>ta σ H fun x H1=>isB x H1 fun c H2=>if c=true then Q (.bl true) H2 else tb σ H2 Q
def Zr2 (ta:TE):TE:=fun σ H Q=>ta σ H fun x H1=>isB x H1 fun c H2=>Q (.bl (!c)) H2
theorem ZaK {op}{t:TE} (h:PE X a t):PE X (.BoolOp op [a] pos) t:=fun pins s σ H Q I hw=>BoolOp_one (h pins s σ H Q I hw)
theorem ZcS (ha:PE X a ta)(hb:PE X (.BoolOp .And (b::rest) pos) tb):PE X (.BoolOp .And (a::b::rest) pos) (ZrT ta tb):=by
 intro pins s σ H Q I h;refine BoolOp_and (YN (ha pins s σ H _ I h) fun v s1 ⟨x,H1,I1,r1,q1⟩=>?_);obtain⟨c,rfl,q1⟩:=q1;cases r1;refine KZ ?_;cases c with
 | true=>exact hb pins s1 σ H1 Q I1 q1
 | false=>exact⟨.bl false,H1,I1,rfl,q1⟩
theorem Zji (ha:PE X a ta)(hb:PE X (.BoolOp .Or (b::rest) pos) tb):PE X (.BoolOp .Or (a::b::rest) pos) (ZsB ta tb):=by
 intro pins s σ H Q I h;refine BoolOp_or (YN (ha pins s σ H _ I h) fun v s1 ⟨x,H1,I1,r1,q1⟩=>?_);obtain⟨c,rfl,q1⟩:=q1;cases r1;refine KZ ?_;cases c with
 | false=>exact hb pins s1 σ H1 Q I1 q1
 | true=>exact⟨.bl true,H1,I1,rfl,q1⟩
theorem Zmv (ha:PE X a ta):PE X (.UnaryOp .Not a pos) (Zr2 ta):=by intro pins s σ H Q I h;refine UnaryOp_ (YN (ha pins s σ H _ I h) fun v s1 ⟨x,H1,I1,r1,q1⟩=>?_);obtain⟨c,rfl,q1⟩:=q1;cases r1;exact not_of (KZ ⟨.bl (!c),H1,I1,rfl,q1⟩)
def tIf (t:TT)(ta tb:TE):TE:=fun σ H Q=>t σ H fun c H1=>if c=true then ta σ H1 Q else tb σ H1 Q
theorem Zcr {c:Expr}(hc:PT X c tA)(ha:PE X a ta)(hb:PE X b tb):PE X (.IfExp c a b pos) (tIf tA ta tb):=by
 intro pins s σ H Q I h;refine wpAny_IfExp (YN (hc pins s σ H _ I h) fun d s1 ⟨H1,I1,q1⟩=>?_);cases d with
 | true=>exact ha pins s1 σ H1 Q I1 q1
 | false=>exact hb pins s1 σ H1 Q I1 q1
end
def Zt (K:QF)(H:Hp)(a:Addr)(xs:QH):Prop:=
 Rd H a (.lst xs) ∨
  ∃(o:Obj)(its:QY)(n:Nat),K.lookup a=some o/\o.cls = .type "list" /\ o.dict=none/\o.data = .seq its n/\its.size<=sizeLine/\Vals xs its.toList
def Y9 (K:QF)(H:Hp)(a:Addr)(xs:QH):Prop:=
 Rd H a (.tup xs) ∨
  ∃(o:Obj)(its:QY)(n:Nat),K.lookup a=some o/\o.cls = .type "tuple" /\ o.data = .seq its n/\its.size<=sizeLine/\Vals xs its.toList
def ZsU:Value->Option V
 | .none=>some .non
 | .bool b=>some (.bl b)
 | .int i _=>some (.int i)
 | .str x _=>some (.str x)
 | .bytes b _=>some (.byt b)
 | .float b _=>some (.flt b)
 | .ref a=>some (.ref a)
 | .type n=>some (.ty n)
 | _=>none
theorem RelV.abs {x:V}{u:Value}(r:RelV x u):ZsU u=some x:=by
 cases x with
 | non=>cases r;rfl
 | bl _=>cases r;rfl
 | int _=>obtain⟨t,rfl⟩:=r;rfl
 | str _=>obtain⟨t,rfl⟩:=r;rfl
 | byt _=>obtain⟨t,rfl⟩:=r;rfl
 | flt _=>obtain⟨t,rfl⟩:=r;rfl
 | ref _=>cases r;rfl
 | ty _=>cases r;rfl
theorem RelV.inj {x y:V}{u:Value}(r:RelV x u)(q:RelV y u):x=y:=Ka (r.abs.symm.trans q.abs)
theorem Vals.inj:∀{xs ys:QH}{us:QJ},Vals xs us->Vals ys us->xs=ys
 | _,_,_,.nil,.nil=>rfl
 | _,_,_,.cons r t,.cons r' t'=>by rw[r.inj r',Vals.inj t t']
section
variable {X:Cx}{pins:QC}{σ:St}{H:Hp}{s:Shared}{a:Addr}{xs ys:QH}
theorem Zt.of {K:QF}(h:H a=some (.lst xs)):Zt K H a xs:=.inl (.inl h)
theorem Y9.of {K:QF}(h:H a=some (.tup xs)):Y9 K H a xs:=.inl (.inl h)
theorem Inv.list (I:Inv X pins σ H s)(h:Zt X.K H a xs):∃its:QJ,Vals xs its/\PlainL s.heap a its.toArray/\xs.length<=sizeLine:=by
 rcases h with h | ⟨o,its,n,hk,hc,hd,hs,hz,r⟩
 ·obtain⟨z,its,n,r,e⟩:=h.ok I.hok;exact⟨its,r,⟨_,n,e,rfl,rfl,rfl⟩,z⟩
 ·refine⟨its.toList,r,⟨o,n,I.kIn a o hk,hc,hd,by simpa using hs⟩,?_⟩;have e:=r.length;simp only[kY] at e;lia
theorem Inv.tuple (I:Inv X pins σ H s)(h:Y9 X.K H a xs):∃its:QJ,Vals xs its/\IsTup s.heap a its.toArray/\xs.length<=sizeLine:=by
 rcases h with h | ⟨o,its,n,hk,hc,hs,hz,r⟩
 ·obtain⟨z,its,r,p⟩:=h.ok I.hok;exact⟨its,r,p,z⟩
 ·refine⟨its.toList,r,⟨o,I.kIn a o hk,hc,n,by simpa using hs⟩,?_⟩;have e:=r.length;simp only[kY] at e;lia
theorem Inv.list_inj (I:Inv X pins σ H s)(h:Zt X.K H a xs)(h':Zt X.K H a ys):xs=ys:=by
 obtain⟨its,r,⟨o,n,e,_,_,d⟩,_⟩:=I.list h;obtain⟨its',r',⟨o',n',e',_,_,d'⟩,_⟩:=I.list h';rw[e] at e';cases e';rw[d] at d';injection d' with d1 _
 have:its=its':=by simpa using KC Array.toList d1
 subst this;exact r.inj r'
theorem Inv.tuple_inj (I:Inv X pins σ H s)(h:Y9 X.K H a xs)(h':Y9 X.K H a ys):xs=ys:=by
 obtain⟨its,r,⟨o,e,_,n,d⟩,_⟩:=I.tuple h;obtain⟨its',r',⟨o',e',_,n',d'⟩,_⟩:=I.tuple h';rw[e] at e';cases e';rw[d] at d';injection d' with d1 _
 have:its=its':=by simpa using KC Array.toList d1
 subst this;exact r.inj r'
end
abbrev Cx.wish (X:Cx)(E:QE):Cx:={ X with xe:=E }
abbrev Cx.nox (X:Cx):Cx:=X.wish fun _ _=>False
theorem Cx.Ok.wish {X:Cx}(ok:X.Ok)(E:QE):(X.wish E).Ok:=
 ⟨ok.mod,ok.kind,ok.glob,ok.blt,ok.above,ok.inj,ok.has,ok.cab,ok.hd,ok.frames,ok.stk,ok.exf,ok.bs,ok.bsz,ok.noex,ok.exfs,ok.funs,ok.frf⟩
theorem Cx.Ok.unwish {X:Cx}{E:QE}(ok:(X.wish E).Ok):X.Ok:=
 ⟨ok.mod,ok.kind,ok.glob,ok.blt,ok.above,ok.inj,ok.has,ok.cab,ok.hd,ok.frames,ok.stk,ok.exf,ok.bs,ok.bsz,ok.noex,ok.exfs,ok.funs,ok.frf⟩
section
variable {X:Cx}{pins:QC}{σ:St}{H:Hp}{s:Shared}{E:QE}
theorem Inv.wish (I:Inv X pins σ H s)(E:QE):Inv (X.wish E) pins σ H s:=⟨I.ok.wish E,I.os,I.bare,I.base,I.loc,I.cell,I.free,I.freeC,I.pin,I.hok,I.len⟩
theorem Inv.unwish (I:Inv (X.wish E) pins σ H s):Inv X pins σ H s:=⟨I.ok.unwish,I.os,I.bare,I.base,I.loc,I.cell,I.free,I.freeC,I.pin,I.hok,I.len⟩
theorem SP.unwish {D:Ends}{f:Flow}{s':Shared}(h:SP (X.wish E) pins D f s'):SP X pins D f s':=by
 cases f with
 | next=>obtain⟨σ',H',I,q⟩:=h;exact⟨σ',H',I.unwish,q⟩
 | brk=>obtain⟨σ',H',I,q⟩:=h;exact⟨σ',H',I.unwish,q⟩
 | cont=>obtain⟨σ',H',I,q⟩:=h;exact⟨σ',H',I.unwish,q⟩
 | ret u=>obtain⟨v,σ',H',I,r,q⟩:=h;exact⟨v,σ',H',I.unwish,r,q⟩
theorem PSs.nox {st:List Stmt}{t:TS}(h:PSs X.nox st t):PSs X st t:=fun pins s σ H D I hw=>
 K6 (h pins s σ H D (I.wish _) hw) (fun _ _ q=>q.unwish) fun _ _ z=>False.elim z
end
section
variable {X:Cx}{st:Stmt}{rest:List Stmt}{t u:TS}{e:Expr}{te:TE}{pos:Pos}
def Zo8:TS:=fun D σ H=>D.nx σ H
def Zsc (t u:TS):TS:=fun D σ H=>t { D with nx:=u D } σ H
theorem ZG:PSs X [] Zo8:=fun _ _ σ H _ I h=>TK ⟨σ,H,I,h⟩
theorem Zd (h1:PS X st t)(h2:PSs X rest u):PSs X (st::rest) (Zsc t u):=by
 intro pins s σ H D I h;refine wpAny_execs_cons (YN (h1 pins s σ H { D with nx:=u D } I h) fun f s1 q=>?_);cases f with
 | next=>
  obtain⟨σ',H',I',q⟩:=q;exact h2 pins s1 σ' H' D I' q
 | ret v=>exact q
 | brk=>exact q
 | cont=>exact q
theorem Zg (h1:PS X st t):PSs X [st] t:=by
 intro pins s σ H D I h;refine wpAny_execs_cons (YN (h1 pins s σ H D I h) fun f s1 q=>?_);cases f with
 | next=>exact TK q
 | ret v=>exact q
 | brk=>exact q
 | cont=>exact q
theorem Inv.quiet {pins:QC}{σ:St}{H:Hp}{s:Shared}(I:Inv X pins σ H s):interactive X.env=false:=by simp[interactive,I.ok.kind]
def Zsa (te:TE):TS:=fun D σ H=>te σ H fun _ H1=>D.nx σ H1
theorem Z8 (he:PE X e te)(hs:swapsWith e none pos.line X.env=pure false:=by rfl):PS X (.Expr e pos) (Zsa te):=by intro pins s σ H D I h;exact wpAny_Expr_any (YN (he pins s σ H _ I h) fun v s1 ⟨x,H1,I1,r1,q1⟩=>⟨σ,H1,I1,q1⟩) I.quiet hs
def ZrD (te:TE):TS:=fun D σ H=>te σ H D.rt
theorem Zw (he:PE X e te):PS X (.Return (some e) pos) (ZrD te):=by intro pins s σ H D I h;exact wpAny_Return_some (YN (he pins s σ H _ I h) fun v s1 ⟨x,H1,I1,r1,q1⟩=>⟨x,σ,H1,I1,r1,q1⟩)
def ZkC (c:TT)(t u:TS):TS:=fun D σ H=>c σ H fun b H1=>if b=true then t D σ H1 else u D σ H1
theorem ZQ {c:Expr}{a b:List Stmt}{tc:TT}(hc:PT X c tc)(ha:PSs X a t)(hb:PSs X b u):PS X (.If c a b pos) (ZkC tc t u):=by
 intro pins s σ H D I h;refine wpAny_If (YN (hc pins s σ H _ I h) fun d s1 ⟨H1,I1,q1⟩=>?_);cases d with
 | true=>exact ha pins s1 σ H1 D I1 q1
 | false=>exact hb pins s1 σ H1 D I1 q1
end
abbrev TG:=V->St->Hp->QT->Prop
abbrev TGs:=List V->St->Hp->QT->Prop
def PG (X:Cx)(target:Expr)(t:TG):Prop:=
 ∀(pins:QC)(s:Shared)(σ:St)(H:Hp)(v:V)(u:Value)(Q:QT),Inv X pins σ H s->RelV v u->t v σ H Q ->
  wpAny (model X.prog X.w) X.A (assign target X.env u) (fun _ s'=>∃ σ' H',Inv X pins σ' H' s'/\Q σ' H') X.xe s
def PGs (X:Cx)(ts:QV)(t:TGs):Prop:=
 ∀(pins:QC)(s:Shared)(σ:St)(H:Hp)(vs:QH)(us:QJ)(Q:QT),Inv X pins σ H s->Vals vs us->t vs σ H Q ->
  wpAny (model X.prog X.w) X.A (assignInOrder ((assignEach ts X.env).map (·.2)) us) (fun _ s'=>∃ σ' H',Inv X pins σ' H' s'/\Q σ' H') X.xe s
abbrev Zp4:=V->V->V->Hp->(Hp->Prop)->Prop
def ZqM (X:Cx)(t:Zp4):Prop:=
 ∀(pins:QC)(s:Shared)(σ:St)(H:Hp)(o i v:V)(ov iv u:Value)(Q:Hp->Prop),Inv X pins σ H s->RelV o ov->RelV i iv->RelV v u->t o i v H Q ->
  wpAny (model X.prog X.w) X.A (setItem ov iv u) (fun _ s'=>∃H',Inv X pins σ H' s'/\Q H') X.xe s
abbrev TIp:=V->V->Hp->VK->Prop
def PIp (X:Cx)(op:Operator)(t:TIp):Prop:=
 ∀(pins:QC)(s:Shared)(σ:St)(H:Hp)(x y:V)(v u:Value)(Q:VK),Inv X pins σ H s->RelV x v->RelV y u->t x y H Q ->
  wpAny (model X.prog X.w) X.A (inplaceOp op v u) (EP X pins σ Q) X.xe s
section
variable {X:Cx}{pos:Pos}
def ZfJ (i:Nat):TG:=fun v σ H Q=>Q (σ.set i (some v)) H
theorem Zk {i:Nat}{x:Str}(hN:X.N.Nodup)(hi:X.N[i]? = some x)(hx:Loc X.env.scope x)(hf:X.fn x=true∨X.env.scope.names.lookup x=some .local:=by first | exact .inl rfl | exact .inr rfl | assumption):PG X (.Name x pos) (ZfJ i):=by intro pins s σ H v u Q I r h;exact wpAny_assign_Name (ZaJ I hN hi hx r (fun s' I'=>⟨_,H,I',h⟩) hf)
inductive ZrS(vs:QH)(σ:St)(H:Hp)(Q:QT):Prop|mk(_:vs = [])(_:Q σ H)
inductive ZoX(t:TG)(u:TGs)(vs:QH)(σ:St)(H:Hp)(Q:QT):Prop|mk(v r)(_:vs=v::r)(_:t v σ H fun σ' H'=>u r σ' H' Q)
theorem ZO:PGs X [] ZrS:=by intro pins s σ H vs us Q I r h;obtain⟨e,h⟩:=h;subst e;cases r;exact assignInOrder_nil ⟨σ,H,I,h⟩
theorem Zm {e:Expr}{es:QV}{t:TG}{u:TGs}(h1:PG X e t)(h2:PGs X es u)
  (hs:(assignEach (e::es) X.env).map (·.2)=assign e X.env::(assignEach es X.env).map (·.2):=by rfl):PGs X (e::es) (ZoX t u):=by
 intro pins s σ H vs us Q I r h;obtain⟨v,vr,e1,h⟩:=h;subst e1;cases r with
 | cons r rr=>
  rw[hs];refine T2 (YN (h1 pins s σ H _ _ _ I r h) fun _ s1 ⟨σ1,H1,I1,q1⟩=>?_);exact h2 pins s1 σ1 H1 _ _ Q I1 rr q1
inductive Zp6(K:QF)(n:Nat)(t:TGs)(v:V)(σ:St)(H:Hp)(Q:QT):Prop|mk(a xs)(_:v = .ref a)(_:Y9 K H a xs)(_:xs.length=n)(_:t xs σ H Q)
theorem Zp3 {es:QV}{k:Nat}{t:TGs}{n:Nat}(hc:X.calm=true)(h:PGs X es t)
  (hn:(assignEach es X.env).length=n:=by rfl) (hst:(assignEach es X.env).findIdx? (·.1)=none:=by rfl):PG X (.Tuple es k pos) (Zp6 X.K n t):=by
 intro pins s σ H v u Q I r hw;obtain⟨a,xs,e1,hq,hl,hw⟩:=hw;subst e1;cases r;obtain⟨its,rv,ht,hz⟩:=I.tuple hq;refine assign_Tuple_tuple (I.ok.hd hc) ht (by simp[hn,<- hl,rv.length]) hst fun h' hx=>?_;have I1:Inv X pins σ H { s with heap:=h' }:=I.kept (t':=s.toks) fun b o e=>hx b o (Kn (Kc e)) e;exact h pins _ σ H xs _ Q I1 (by simpa using rv) hw
def Zpu (to ti:TE)(t:Zp4):TG:=fun v σ H Q=>to σ H fun o H1=>ti σ H1 fun i H2=>t o i v H2 fun H3=>Q σ H3
theorem YJ {o i:Expr}{to ti:TE}{t:Zp4}(ho:PE X o to)(hi:PE X i ti)(hs:ZqM X t)
  (ha:∀v,assign (.Subscript o i pos) X.env v=(do
   let ov <- holding [v] (eval o X.env)
   let iv <- holding [v,ov] (eval i X.env)
   standAt pos
   holding [v,ov,iv] (setItem ov iv v)
   release [v,ov,iv] []):=by intro _;rfl):PG X (.Subscript o i pos) (Zpu to ti t):=by
 intro pins s σ H v u Q I r h;rw[ha];refine kg (KL (YN (ho pins s σ H _ I h) fun ov s1 ⟨x,H1,I1,r1,q1⟩=>?_));refine kg (KL (YN (hi pins s1 σ H1 _ I1 q1) fun iv s2 ⟨y,H2,I2,r2,q2⟩=>?_));refine kg (Xv (kg (KL (YN (hs pins s2 σ H2 x y v ov iv u _ I2 r1 r2 r q2) fun _ s3 ⟨H3,I3,q3⟩=>?_))));exact ME ⟨σ,H3,I3,q3⟩
def Zma (te:TE)(g:TG):TS:=fun D σ H=>te σ H fun x H1=>g x σ H1 D.nx
theorem YB {tg e:Expr}{te:TE}{g:TG}(he:PE X e te)(hg:PG X tg g)(hs:swapsWithSole [tg] e pos.line X.env=pure false:=by rfl)(hw:swappedStores [tg] e X.env=pure none:=by rfl)
  (h1:(assignEach [tg] X.env).map (·.2) = [assign tg X.env]:=by rfl):PS X (.Assign [tg] e pos) (Zma te g):=by
 intro pins s σ H D I h;refine wpAny_Assign_stores (YN (he pins s σ H _ I h) fun v s1 ⟨x,H1,I1,r1,q1⟩=>?_) hs hw;rw[h1];exact YN (hg pins s1 σ H1 x v _ I1 r1 q1) fun _ s2 q=>q
theorem Zp {i:Nat}{x:Str}{e:Expr}{te:TE}{pos':Pos}(hN:X.N.Nodup)(hi:X.N[i]? = some x)(hx:Loc X.env.scope x)(he:PE X e te)(hs:swapsWith e (some (.Name x pos')) pos.line X.env=pure false:=by rfl)(hf:X.fn x=true∨X.env.scope.names.lookup x=some .local:=by first | exact .inl rfl | exact .inr rfl | assumption):
  PS X (.Assign [.Name x pos'] e pos) (Zma te (ZfJ i)):=by
 intro pins s σ H D I h;refine wpAny_Assign_Name (YN (he pins s σ H _ I h) fun v s1 ⟨y,H1,I1,r1,q1⟩=>?_) hs;exact ZaJ I1 hN hi hx r1 (fun s2 I2=>⟨_,H1,I2,q1⟩) hf
inductive Zpp(i j:Nat)(D:Ends)(σ:St)(vs:QH)(H1:Hp):Prop|mk(v w)(_:vs = [v,w])(_:D.nx ((σ.set i (some v)).set j (some w)) H1)
def ZsF (i j:Nat)(ta:TA):TS:=fun D σ H=>ta σ H fun vs H1=>Zpp i j D σ vs H1
theorem Zm3 {i j:Nat}{x y:Str}{a b:Expr}{ta:TA}{px py pt:Pos}{kt k2 pt2} (hc:X.calm=true) (hN:X.N.Nodup) (hi:X.N[i]? = some x) (hj:X.N[j]? = some y) (hij:i≠j)
  (hx:X.env.scope.names.lookup x=some .local) (hy:X.env.scope.names.lookup y=some .local) (ha:PA X [a,b] ta)
  (hw:swappedStores [.Tuple [.Name x px,.Name y py] kt pt] (.Tuple [a,b] k2 pt2) X.env=pure (some [x,y]))
  (hs:swapsWithSole [.Tuple [.Name x px,.Name y py] kt pt] (.Tuple [a,b] k2 pt2) pos.line X.env=pure false:=by rfl):
  PS X (.Assign [.Tuple [.Name x px,.Name y py] kt pt] (.Tuple [a,b] k2 pt2) pos) (ZsF i j ta):=by
 intro pins s σ H D I h;rw[exec_Assign_arm];refine kg (Xv ?_);rw[hs];refine kg (kH ?_);rw[ki (by decide)];refine kg (Tuple_ (YN (ha _ pins s σ H _ I h) fun us s1 ⟨vs,H1,I1,r1,q1⟩=>?_));obtain⟨v,w,e1,q1⟩:=q1;subst e1;obtain⟨u1,u2,rfl,rv,rw'⟩:∃u1 u2,us = [u1,u2]/\RelV v u1/\RelV w u2:=by
  cases r1 with
  | cons p q=>
   cases q with
   | cons p' q'=>
    cases q';exact⟨_,_,rfl,p,p'⟩
 refine qp ?_ sz2;have I2:Inv X pins σ H1 { s1 with heap:=s1.heap.push { cls:=.type "tuple", data:=.seq [u1,u2].toArray } }:=I1.kept (t':=s1.toks) fun b o e=>kC _ e;rw[hw];refine kg (kH ?_);show wpAny (model X.prog X.w) X.A (do rule "assign.swapped-stores"; let items <- unpackItems (.ref s1.heap.objs.size) 2 none;assignInOrder [fun v=>bindName X.env y v,fun v=>bindName X.env x v] items.reverse;pure Flow.next) _ _ _;refine kg (XA (kg (unpackItems_tuple (items:=#[u1,u2]) (I.ok.hd hc) (IsTup.new s1.heap _) fun h' hx'=>?_)));have I3:=I2.kept (h':=h') (t':=s1.toks) fun b o e=>hx' b o (Kn (Kc e)) e;show wpAny _ _ (assignInOrder [fun v=>bindName X.env y v,fun v=>bindName X.env x v] [u2,u1] >>= fun _=>pure Flow.next) _ _ _;refine kg (T2 (wpAny_bindName (ZaJ I3 hN hj (.inl hy) rw' (fun s2 I4=>?_) (.inr hy))));refine T2 (wpAny_bindName (ZaJ I4 hN hi (.inl hx) rv (fun s3 I5=>assignInOrder_nil (kH ?_)) (.inr hx)));rw[List.set_comm _ _ (KG hij)] at I5;exact⟨_,H1,I5,q1⟩
inductive ZrN(i:Nat)(te:TE)(ti:TIp)(D:Ends)(σ:St)(H:Hp):Prop|mk(x)(_:σ[i]? = some (some x))(_:te σ H fun y H1=>ti x y H1 fun z H2=>D.nx (σ.set i (some z)) H2)
theorem Zm2 {i:Nat}{x:Str}{e:Expr}{te:TE}{op:Operator}{ti:TIp}{pos':Pos}(hN:X.N.Nodup)(hi:X.N[i]? = some x)(hx:Loc X.env.scope x)(he:PE X e te)(ho:PIp X op ti)(hf:X.fn x=true∨X.env.scope.names.lookup x=some .local:=by first | exact .inl rfl | exact .inr rfl | assumption):
  PS X (.AugAssign (.Name x pos') op e pos) (ZrN i te ti):=by
 intro pins s σ H D I h;obtain⟨v,e1,h⟩:=h;obtain⟨m,hn,hl⟩:=I.loc;have vis:Vis X.env.scope x:=by rcases hx with k | k;exact .inl k;exact .inr (.inl k)
 obtain⟨u,r,l⟩:=hl i x v hi e1 vis;refine wpAny_AugAssign_Name ?_;have go:wpAny (model X.prog X.w) X.A (eval e X.env) (fun w s₂=>wpAny (model X.prog X.w) X.A (inplaceOp op u w) (fun r s₃=>wpAny (model X.prog X.w) X.A (storeName X.env x r) (fun _=>SP X pins D .next) X.xe s₃) X.xe s₂) X.xe s:=by refine YN (he pins s σ H _ I h) fun w s1 ⟨y,H1,I1,r1,q1⟩=>?_;refine YN (ho pins s1 σ H1 v y u w _ I1 r r1 q1) fun z s2 ⟨zv,H2,I2,r2,q2⟩=>?_;exact ZaJ I2 hN hi hx r2 (fun s3 I3=>⟨_,H2,I3,q2⟩) hf
 rcases l with⟨hk,hm⟩ | ⟨hk,c,hc,hcell⟩
 ·exact wpAny_loadName_local I.ok.kind hk hn hm go
 ·rcases hk with hk | hk
  ·exact wpAny_loadName_cell I.ok.kind hk hc hcell go
  ·rcases hx with k | k
   ·have:X.env.scope.names.lookup x=some .free:=hk;rw[k] at this;cases this
   ·have:X.env.scope.names.lookup x=some .free:=hk;rw[k] at this;cases this
inductive ipI(f:Int->Int->Int)(x y:V)(H:Hp)(Q:VK):Prop|mk(i j)(_:x = .int i)(_:y = .int j)(_:Q (.int (f i j)) H)
theorem ZpY:PIp X .Add (ipI fun i j=>i+j):=by intro pins s σ H x y v u Q I r1 r2 h;obtain⟨i,j,e1,e2,q⟩:=h;subst e1;subst e2;obtain⟨t,rfl⟩:=r1;obtain⟨t',rfl⟩:=r2;exact iadd_int ⟨.int _,H,I.tok _,⟨_,rfl⟩,q⟩
theorem Zpv:PIp X .Sub (ipI fun i j=>i-j):=by intro pins s σ H x y v u Q I r1 r2 h;obtain⟨i,j,e1,e2,q⟩:=h;subst e1;subst e2;obtain⟨t,rfl⟩:=r1;obtain⟨t',rfl⟩:=r2;exact isub_int ⟨.int _,H,I.tok _,⟨_,rfl⟩,q⟩
inductive Zme (c:TT)(tb:TS)(D:Ends)(σ:St)(H:Hp):Prop | mk (W:Nat->St->Hp->Prop) (h:∃m,W m σ H) (t:∀m σ H,W m σ H ->
 c σ H fun b H1=>if b=true then ∃N:QT,(∀ σ' H',N σ' H' -> ∃m',m'<m/\W m' σ' H')/\tb { D with nx:=N,ct:=N,bk:=D.nx } σ H1 else D.nx σ H1)
theorem Zco {c:Expr}{body:List Stmt}{tc:TT}{tb:TS}(hp:PassesOwn (model X.prog X.w) X.A X.env X.xe)(hc:PT X c tc)(hb:PSs X body tb):PS X (.While c body [] pos) (Zme tc tb):=by
 intro pins s σ H D I h;obtain⟨W,⟨m0,w0⟩,turn⟩:=h;refine wpAny_While (codeAny_whileLoop (fun n s'=>∃ σ' H',Inv X pins σ' H' s'/\W n σ' H') ?_ m0 ⟨σ,H,I,w0⟩);rintro n s1 ⟨σ1,H1,I1,w1⟩;refine Xb hp (YN (hc pins s1 σ1 H1 _ I1 (turn n σ1 H1 w1)) fun b s2 ⟨H2,I2,q2⟩=>?_);cases b with
 | true=>
  obtain⟨N,hN,q2⟩:=q2;rw[km rfl];refine Xb hp (YN (hb pins s2 σ1 H2 _ I2 q2) fun f s3 q3=>?_);cases f with
  | next=>
   obtain⟨σ3,H3,I3,n3⟩:=q3;obtain⟨m',hm,w3⟩:=hN σ3 H3 n3;exact⟨m',hm,σ3,H3,I3,w3⟩
  | cont=>
   obtain⟨σ3,H3,I3,n3⟩:=q3;obtain⟨m',hm,w3⟩:=hN σ3 H3 n3;exact⟨m',hm,σ3,H3,I3,w3⟩
  | brk=>exact q3
  | ret v=>exact q3
 | false=>
  rw[ki kP];exact TK ⟨σ1,H2,I2,q2⟩
end
structure It where
 go:Nat->Hp->Prop
 yld:Nat->Hp->V->Hp->Prop
 stop:Nat->Hp->Prop
def Zdo (X:Cx)(pins:QC)(H:Hp)(b:Addr):Prop:=
 H b=none/\b≠X.env.locals/\b∉X.fs/\(b∈X.ex∨X.s₀.heap.objs.size<=b)/\(∀x c,X.env.cells.lookup x=some c->c≠b) /\ ∀p∈X.pn++pins,p.1≠b
theorem Inv.fpOk {X:Cx}{pins:QC}{σ:St}{H H':Hp}{s:Shared}{b:Addr}(I:Inv X pins σ H s)(hb:s.heap.objs.size<=b)(hn:H' b=none):Zdo X pins H' b:=by
 refine⟨hn,Xf (KD I.lt hb),I.nofs hb,.inr (Kb I.sz hb),fun x c e z=>?_,fun p hp z=>?_⟩
 ·obtain⟨v,q⟩:=I.cell x c e;exact absurd (KD q.lt (by rw[z];exact hb)) (qK _)
 ·exact absurd (KD (Kc (I.pin p hp).1) (by rw[z];exact hb)) (qK _)
structure Turn (P:Program)(w:World)(K:QF)(tg:Expr)(J:It)(fp:List Addr)(it:Addr)(tn:Nat->Heap->Prop):Prop where
 mem:it∈fp
 obj:∀i h,tn i h -> ∀b∈fp,∃o,h.get? b=some o /\ ∀v,o.data ≠ .cell v
 keep:∀i h h',tn i h->(∀b∈fp,∀o,h.get? b=some o->h'.get? b=some o)->tn i h'
 item:∀(X:Cx),X.prog=P->X.w=w->X.K=K->X.calm=true -> ∀(i:Nat)(pins:QC)(s:Shared)(σ:St)(H:Hp)(E:QE),Inv X pins σ H s->(∀b∈fp,Zdo X pins H b)->tn i s.heap->J.go i H ->
  wpAny (model P w) X.A (pyNext (.ref it)) (fun r s1=>∃u,r=some u /\
   wpAny (model P w) X.A (letOwnedTupleGo tg (.ref it) u) (fun _ s2=>∃x H',Inv X pins σ H' s2/\RelV x u/\J.yld i H x H'/\tn (i+1) s2.heap /\ ∀b∈fp,H' b=none) E s1) E s
 done:∀(X:Cx),X.prog=P->X.w=w->X.K=K->X.calm=true -> ∀(i:Nat)(pins:QC)(s:Shared)(σ:St)(H:Hp)(E:QE),Inv X pins σ H s->(∀b∈fp,Zdo X pins H b)->tn i s.heap->J.stop i H ->
  wpAny (model P w) X.A (pyNext (.ref it)) (fun r s1=>r=none/\Inv X pins σ H s1) E s
 self:∀(A:Around)(i:Nat)(s:Shared)(Q:QE)(E:QE),tn i s.heap->Q (.ref it) s->wpAny (model P w) A (pyIter (.ref it)) Q E s
abbrev TI:=St->Hp->(It->Hp->Prop)->Prop
inductive PIE(X:Cx)(pins:QC)(σ:St)(tg:Expr)(R:It->Hp->Prop)(itv:Value)(s2:Shared):Prop|mk(it:Addr)(fp:List Addr)(tn:Nat->Heap->Prop)(J:It)(H':Hp)(_:itv = .ref it)(_:Inv X pins σ H' s2)(_:Turn X.prog X.w X.K tg J fp it tn)(_:tn 0 s2.heap)(_:∀b∈fp,Zdo X pins H' b)(_:R J H')
def PI (X:Cx)(tg iter:Expr)(wi:TI):Prop:=
 ∀(pins:QC)(s:Shared)(σ:St)(H:Hp)(R:It->Hp->Prop),Inv X pins σ H s->wi σ H R ->
  wpAny (model X.prog X.w) X.A (eval iter X.env) (fun v s1=>wpAny (model X.prog X.w) X.A (pyIter v) (PIE X pins σ tg R) X.xe s1) X.xe s
theorem Zj6 {M:Model}{A:Around}{E:QE}{s:Shared}{tg:Expr}{it:Addr}{u:Value}{o:Obj}{n:String}{vs:QY}{Q:Unit->Shared->Prop}(ho:s.heap.get? it=some o)(hc:o.cls = .type n)(hd:o.data = .fields vs)
    (hn:["enumerate", "zip", "dict_itemiterator", "dict_reverseitemiterator", "odict_iterator", "itertools.zip_longest", "itertools.pairwise"].contains n=false) (hQ:Q () s):wpAny M A (letOwnedTupleGo tg (.ref it) u) Q E s:=by
  unfold letOwnedTupleGo;cases tg<;>first
    | exact kH hQ
    | (cases u<;>first
        | exact kH hQ
        | (refine kg (wpAny_load ho ?_)
           rw[hc,hd];show wpAny M A (if (["enumerate", "zip", "dict_itemiterator", "dict_reverseitemiterator", "odict_iterator", "itertools.zip_longest", "itertools.pairwise"].contains n&&vs[0]? == some (rawInt _))=true then _ else _) Q E s;rw[ki (by intro h;rw[hn,Mg] at h;cases h)];exact kH hQ))
def Itl (K:QF)(a:Addr):It:=
 ⟨fun i H=>∃xs x,Zt K H a xs/\xs[i]? = some x,fun i H x H'=>H'=H /\ ∀xs,Zt K H a xs->xs[i]? = some x,fun i H=>∃xs,Zt K H a xs/\xs.length<=i⟩
def Itt (K:QF)(a:Addr):It:=
 ⟨fun i H=>∃xs x,Y9 K H a xs/\xs[i]? = some x,fun i H x H'=>H'=H /\ ∀xs,Y9 K H a xs->xs[i]? = some x,fun i H=>∃xs,Y9 K H a xs/\xs.length<=i⟩
def Itr (lo:Int)(n:Nat):It:=⟨fun i _=>i<n,fun i H x H'=>H'=H/\x = .int (lo+i),fun i _=>n<=i⟩
theorem ZkW {P:Program}{w:World}{K:QF}{tg:Expr}(a it:Addr):Turn P w K tg (Itl K a) [it] it (fun i h=>h.IsListIter it a i) where
 mem:=by simp
 obj:=fun i h st b hb=>by
  have e:b=it:=by simpa using hb
  subst e;obtain⟨o,e,c,d⟩:=st;exact⟨o,e,fun v z=>by rw[d] at z;cases z⟩
 keep:=fun i h h' st k=>st.at fun o e=>k it (by simp) o e
 item:=by intro X hP hw hK hc i pins s σ H E I hf st hg;subst hP hw hK;obtain⟨xs,x,hq,hx⟩:=hg;obtain⟨its,rv,p,hz⟩:=I.list hq;obtain⟨u,hu,ru⟩:=rv.get hx;obtain⟨f0,f1,f2,f3,f4,f5⟩:=hf it (by simp);refine wpAny_pyNext_list_item st p.isList (x:=u) (by simpa using hu) fun h' st' sb=>?_;have I1:Inv X pins σ H { s with heap:=h' }:=I.turned (t':=s.toks) (fun b o hb e=>(sb.2 b hb).trans e) f0 f1 f3 f4 f5;obtain⟨o,e,c,d⟩:=id st';exact⟨u,rfl,Zj6 (s:={ s with heap:=h' }) e c d (by decide) ⟨x,H,I1,ru,⟨rfl,fun ys hy=>by rw[I.list_inj hy hq];exact hx⟩,st',fun b hb=>(hf b hb).1⟩⟩
 done:=by intro X hP hw hK hc i pins s σ H E I hf st hg;subst hP hw hK;obtain⟨xs,hq,hx⟩:=hg;obtain⟨its,rv,p,hz⟩:=I.list hq;obtain⟨f0,f1,f2,f3,f4,f5⟩:=hf it (by simp);have hl:=rv.length;exact wpAny_pyNext_list_end (I.ok.hd hc) st p.isList (by simp;lia) fun h' eb=>⟨rfl,I.turned (t':=s.toks) (fun b o hb e=>eb b o hb e) f0 f1 f3 f4 f5⟩
 self:=fun _ _ _ _ _ st h=>wpAny_pyIter_listiter st h
theorem ZiR {P:Program}{w:World}{K:QF}{tg:Expr}(a it:Addr):Turn P w K tg (Itt K a) [it] it (fun i h=>h.IsTupleIter it a i) where
 mem:=by simp
 obj:=fun i h st b hb=>by
  have e:b=it:=by simpa using hb
  subst e;obtain⟨o,e,c,d⟩:=st;exact⟨o,e,fun v z=>by rw[d] at z;cases z⟩
 keep:=fun i h h' st k=>st.at fun o e=>k it (by simp) o e
 item:=by intro X hP hw hK hc i pins s σ H E I hf st hg;subst hP hw hK;obtain⟨xs,x,hq,hx⟩:=hg;obtain⟨its,rv,p,hz⟩:=I.tuple hq;obtain⟨u,hu,ru⟩:=rv.get hx;obtain⟨f0,f1,f2,f3,f4,f5⟩:=hf it (by simp);refine wpAny_pyNext_tuple_item st (show s.heap.IsTuple a its.toArray from p) (x:=u) (by simpa using hu) fun h' st' sb=>?_;have I1:Inv X pins σ H { s with heap:=h' }:=I.turned (t':=s.toks) (fun b o hb e=>(sb.2 b hb).trans e) f0 f1 f3 f4 f5;obtain⟨o,e,c,d⟩:=id st';exact⟨u,rfl,Zj6 (s:={ s with heap:=h' }) e c d (by decide) ⟨x,H,I1,ru,⟨rfl,fun ys hy=>by rw[I.tuple_inj hy hq];exact hx⟩,st',fun b hb=>(hf b hb).1⟩⟩
 done:=by intro X hP hw hK hc i pins s σ H E I hf st hg;subst hP hw hK;obtain⟨xs,hq,hx⟩:=hg;obtain⟨its,rv,p,hz⟩:=I.tuple hq;obtain⟨f0,f1,f2,f3,f4,f5⟩:=hf it (by simp);have hl:=rv.length;exact wpAny_pyNext_tuple_end (I.ok.hd hc) st (show s.heap.IsTuple a its.toArray from p) (by simp;lia) fun h' eb=>⟨rfl,I.turned (t':=s.toks) (fun b o hb e=>eb b o hb e) f0 f1 f3 f4 f5⟩
 self:=fun _ _ _ _ _ st h=>wpAny_pyIter_tupleiter st h
theorem Zil {P:Program}{w:World}{K:QF}{tg:Expr}(it:Addr)(lo:Int)(n:Nat):Turn P w K tg (Itr lo n) [it] it (fun i h=>IsRangeIter h it (lo+(i:Nat)*1) ((n:Int)-(i:Nat)) 1) where
 mem:=by simp
 obj:=fun i h st b hb=>by
  have e:b=it:=by simpa using hb
  subst e;exact⟨_,st,fun v z=>by have z':Data.fields _=Data.cell v:=z;cases z'⟩
 keep:=fun i h h' st k=>k it (by simp) _ st
 item:=by intro X hP hw hK hc i pins s σ H E I hf st hg;subst hP hw hK;obtain⟨f0,f1,f2,f3,f4,f5⟩:=hf it (by simp);have W:=Walks.range (prog:=X.prog) (w:=X.w) (I.ok.hd hc) it lo 1 n;refine W.item i s _ _ hg st fun v h' tk hv st' kk=>?_;obtain⟨t,rfl⟩:=hv;have I1:Inv X pins σ H { s with heap:=h',toks:=tk }:=I.turned (fun b o hb e=>kk b o (by simpa using hb) e) f0 f1 f3 f4 f5;refine⟨_,rfl,Zj6 (s:={ s with heap:=h',toks:=tk }) (n := "range_iterator") st' rfl rfl (by decide) ⟨.int (lo+i),H,I1,⟨t,?_⟩,⟨rfl,rfl⟩,st',fun b hb=>(hf b hb).1⟩⟩;rw[Int.mul_one]
 done:=by intro X hP hw hK hc i pins s σ H E I hf st hg;subst hP hw hK;obtain⟨f0,f1,f2,f3,f4,f5⟩:=hf it (by simp);exact wpAny_pyNext_range_end (I.ok.hd hc) st (by have:n<=i:=hg;lia) fun h' eb=>⟨rfl,I.turned (t':=s.toks) (fun b o hb e=>eb b o hb e) f0 f1 f3 f4 f5⟩
 self:=fun _ _ _ _ _ st h=>wpAny_pyIter_rangeiter st h
section
variable {X:Cx}{tg:Expr}
inductive Zmf(K:QF)(R:It->Hp->Prop)(x:V)(H1:Hp):Prop|mk(a)(_:x = .ref a)(_:∃xs,Zt K H1 a xs)(_:R (Itl K a) H1)
def Zpk (K:QF)(tl:TE):TI:=fun σ H R=>tl σ H fun x H1=>Zmf K R x H1
inductive Zpa(K:QF)(R:It->Hp->Prop)(x:V)(H1:Hp):Prop|mk(a)(_:x = .ref a)(_:∃xs,Y9 K H1 a xs)(_:R (Itt K a) H1)
def Zrm (K:QF)(tl:TE):TI:=fun σ H R=>tl σ H fun x H1=>Zpa K R x H1
theorem Znx {l:Expr}{tl:TE}(hl:PE X l tl):PI X tg l (Zpk X.K tl):=by
 intro pins s σ H R I h;refine YN (hl pins s σ H _ I h) fun v s1 ⟨x,H1,I1,r1,q1⟩=>?_;obtain⟨a,e,⟨xs,hq⟩,q⟩:=q1;subst e;cases r1;obtain⟨its,rv,p,hz⟩:=I1.list hq;refine Nd p.isList ?_;refine⟨s1.heap.objs.size,[s1.heap.objs.size],_,_,H1,rfl,I1.kept (t':=s1.toks) fun b o e=>kC _ e,ZkW a _,⟨_,Kl _ rfl,rfl,rfl⟩,fun b hb=>?_,q⟩;have e:b=s1.heap.objs.size:=by simpa using hb
 subst e;exact I1.fpOk (kj _) (I1.hok.fresh (kj _))
theorem Zqe {l:Expr}{tl:TE}(hl:PE X l tl):PI X tg l (Zrm X.K tl):=by
 intro pins s σ H R I h;refine YN (hl pins s σ H _ I h) fun v s1 ⟨x,H1,I1,r1,q1⟩=>?_;obtain⟨a,e,⟨xs,hq⟩,q⟩:=q1;subst e;cases r1;obtain⟨its,rv,p,hz⟩:=I1.tuple hq;refine wpAny_pyIter_tuple (show s1.heap.IsTuple a its.toArray from p) ?_;refine⟨s1.heap.objs.size,[s1.heap.objs.size],_,_,H1,rfl,I1.kept (t':=s1.toks) fun b o e=>kC _ e,ZiR a _,⟨_,Kl _ rfl,rfl,rfl⟩,fun b hb=>?_,q⟩;have e:b=s1.heap.objs.size:=by simpa using hb
 subst e;exact I1.fpOk (kj _) (I1.hok.fresh (kj _))
theorem Zlz {pins:QC}{σ:St}{H:Hp}{s:Shared}{R:It->Hp->Prop}{E:QE}{lo hi:Int}{t u v:Tok}{tk:Nat}(I:Inv X pins σ H s)(h1 : -(2 ^ 62)<=lo)(h2:lo<2 ^ 62)(h3 : -(2 ^ 62)<=hi)(h4:hi<2 ^ 62)
  (q:R (Itr lo (hi-lo).toNat) H):wpAny (model X.prog X.w) X.A (pyIter (.ref s.heap.objs.size)) (PIE X pins σ tg R) E { s with heap:=s.heap.push { cls:=.type "range", data:=.fields #[.int lo t,.int hi u,.int 1 v] },toks:=tk }:=by
 refine wpAny_pyIter_range (IsRange.new ..) (small_one h1 h2 h3 h4) ?_;have I1:Inv X pins σ H { s with heap:=s.heap.push { cls:=.type "range", data:=.fields #[.int lo t,.int hi u,.int 1 v] },toks:=tk }:=I.kept fun b o e=>kC _ e;refine⟨(s.heap.push { cls:=.type "range", data:=.fields #[.int lo t,.int hi u,.int 1 v] }).objs.size,[(s.heap.push { cls:=.type "range", data:=.fields #[.int lo t,.int hi u,.int 1 v] }).objs.size],_,_,H,rfl,
  I1.kept (t':=tk) fun b o e=>kC _ e,Zil _ lo (hi-lo).toNat,?_,fun b hb=>?_,q⟩
 ·have e1:lo+((0:Nat):Int)*1=lo:=by simp
  have e2:(((hi-lo).toNat:Nat):Int)-((0:Nat):Int)=Builtin.Range.rangeSize lo hi 1:=by rw[rangeSize_one];split<;>lia
  show IsRangeIter _ _ (lo+((0:Nat):Int)*1) ((((hi-lo).toNat:Nat):Int)-((0:Nat):Int)) 1;rw[e1,e2];exact Kl _ rfl
 ·have e:b=(s.heap.push { cls:=.type "range", data:=.fields #[.int lo t,.int hi u,.int 1 v] }).objs.size:=by simpa using hb
  subst e;exact I1.fpOk (kj _) (I1.hok.fresh (kj _))
inductive ZmB(R:It->Hp->Prop)(vs:QH)(H1:Hp):Prop|mk(j:Int)(_:vs = [.int j])(_:-(2 ^ 62)<=j)(_:j<2 ^ 62)(_:R (Itr 0 j.toNat) H1)
def Zrp (ta:TA):TI:=fun σ H R=>ta σ H fun vs H1=>ZmB R vs H1
theorem YR {a:Expr}{ta:TA}{p pos:Pos}(hg:Gl X "range")(hm:X.mg "range" = none)(ha:PA X [a] ta)(hs:starEach [a] X.env = [(false,eval a X.env)]:=by rfl):PI X tg (.Call (.Name "range" p) [a] [] pos) (Zrp ta):=by
 intro pins s σ H R I h;refine Call_ (UU I hg hm boot_range (qa (YN (ha pos pins s σ H _ I h) fun us s1 ⟨vs,H1,I1,r1,q1⟩=>?_) hs rfl));obtain⟨j,e,q1,q2,q⟩:=q1;subst e;cases r1 with
 | cons r rr=>
  cases rr;obtain⟨t,rfl⟩:=r;exact call_range_1 (Zlz I1 (by lia) (by lia) q1 q2 (by simpa using q))
inductive Zfp (J:It)(g:TG)(tb:TS)(D:Ends)(σ:St)(H1:Hp):Prop | mk (W:Nat->Nat->St->Hp->Prop) (h:∃m,W 0 m σ H1) (t:∀i m σ H,W i m σ H ->
 (J.stop i H/\D.nx σ H)∨(J.go i H /\ ∃N:QT,(∀ σ' H',N σ' H' -> ∃m',m'<m/\W (i+1) m' σ' H') /\ ∀x H',J.yld i H x H'->g x σ H' fun σ2 H2=>tb { D with nx:=N,ct:=N,bk:=D.nx } σ2 H2))
def ZsT (wi:TI)(g:TG)(tb:TS):TS:=fun D σ H=>wi σ H fun J H1=>Zfp J g tb D σ H1
def Zd8 (fp:List Addr)(h:Heap):QC:=fp.filterMap fun b=>(h.get? b).map fun o=>(b,o)
theorem U8 {fp:List Addr}{h:Heap}{b:Addr}{o:Obj}(hb:b∈fp)(e:h.get? b=some o):(b,o)∈Zd8 fp h:=K0.mpr ⟨b,hb,by rw[e];rfl⟩
theorem ZkE {fp:List Addr}{h:Heap}{p:Addr×Obj}(hp:p∈Zd8 fp h):p.1∈fp/\h.get? p.1=some p.2:=by
 obtain⟨b,hb,e⟩:=K0.mp hp;cases q:h.get? b with
 | none=>rw[q] at e;cases e
 | some o=>
  rw[q] at e;have e':(b,o)=p:=Ka e;subst e';exact⟨hb,q⟩
theorem Inv.pinned {pins:QC}{σ:St}{H:Hp}{s:Shared}{fp:List Addr}(I:Inv X pins σ H s)(hf:∀b∈fp,Zdo X pins H b)(ho:∀b∈fp,∃o,s.heap.get? b=some o /\ ∀v,o.data ≠ .cell v):Inv X (pins++Zd8 fp s.heap) σ H s:=
 I.pins_of fun p hp=>(Kk.mp hp).elim (fun z=>I.pin p (KU _ z)) fun z=>by obtain⟨hb,e⟩:=ZkE z;obtain⟨f0,f1,f2,_⟩:=hf p.1 hb;obtain⟨o,e',d⟩:=ho p.1 hb;rw[e] at e';cases e';exact⟨e,f0,f1,f2,d⟩
theorem Inv.unpinned {pins pl:QC}{σ:St}{H:Hp}{s:Shared}(I:Inv X (pins++pl) σ H s):Inv X pins σ H s:=I.pins_of fun p hp=>I.pin p (KU _ (Xe _ hp))
theorem Yw {iter:Expr}{body:List Stmt}{wi:TI}{g:TG}{tb:TS}{pos:Pos}(hp:PassesOwn (model X.prog X.w) X.A X.env X.xe)(hc:X.calm=true)(hi:PI X tg iter wi)(hg:PG X tg g)(hb:PSs X body tb)
  (hs:∀x,foldedSetIterable iter X.env x=pure x:=by intro _;rfl):PS X (.For tg iter body [] pos) (ZsT wi g tb):=by
 intro pins s σ H D I h;refine wpAny_For (YN (hi pins s σ H _ I h) fun v s1 h1=>YN h1 fun itv s2 h2=>?_) hs;obtain⟨it,fp,tn,J,H2,e,I2,T,st2,f2,W,⟨m0,w0⟩,turn⟩:=h2;subst e;have stat:∀{H':Hp},(∀b∈fp,H' b=none) -> ∀b∈fp,Zdo X pins H' b:=fun hn b hb=>⟨hn b hb,(f2 b hb).2⟩;refine codeAny_forLoop_any (fun n s'=>∃i σ' H',Inv X pins σ' H' s'/\tn i s'.heap/\(∀b∈fp,H' b=none)/\W i n σ' H') ?_ m0 ⟨0,σ,H2,I2,st2,fun b hb=>(f2 b hb).1,w0⟩;rintro n s3 ⟨i,σ3,H3,I3,st3,fr3,w3⟩;rcases turn i n σ3 H3 w3 with⟨stop,qn⟩ | ⟨go,N,hN,step⟩
 ·refine Xb hp (YN (T.done X rfl rfl rfl hc i pins s3 σ3 H3 X.xe I3 (stat fr3) st3 stop) fun r s4 ⟨hr,I4⟩=>?_);subst hr;exact TK ⟨σ3,H3,I4,qn⟩
 ·refine Xb hp (YN (T.item X rfl rfl rfl hc i pins s3 σ3 H3 X.xe I3 (stat fr3) st3 go) fun r s4 ⟨u,hr,h4⟩=>?_);subst hr;refine Xb hp (YN h4 fun _ s5 ⟨x,H5,I5,r5,y5,st5,fr5⟩=>?_);have I5':=I5.pinned (stat fr5) (T.obj _ _ st5);refine Xb hp (YN (hg _ s5 σ3 H5 x u _ I5' r5 (step x H5 y5)) fun _ s6 ⟨σ6,H6,I6,q6⟩=>?_);refine Xb hp (YN (hb _ s6 σ6 H6 _ I6 q6) fun f s7 q7=>?_);have again:∀{σ7:St}{H7:Hp},Inv X (pins++Zd8 fp s5.heap) σ7 H7 s7->N σ7 H7 -> ∃m,m<n /\ ∃i σ' H',Inv X pins σ' H' s7/\tn i s7.heap/\(∀b∈fp,H' b=none)/\W i m σ' H':=fun {σ7 H7} I7 n7=>by
   obtain⟨m',hm,w7⟩:=hN σ7 H7 n7;refine⟨m',hm,i+1,σ7,H7,I7.unpinned,T.keep _ _ _ st5 fun b hb o e=>(I7.pin (b,o) (KU _ (KU _ (U8 hb e)))).1,fun b hb=>?_,w7⟩;obtain⟨o,e,d⟩:=T.obj _ _ st5 b hb;exact(I7.pin (b,o) (KU _ (KU _ (U8 hb e)))).2.1
  cases f with
  | next=>obtain⟨σ7,H7,I7,n7⟩:=q7;exact again I7 n7
  | cont=>obtain⟨σ7,H7,I7,n7⟩:=q7;exact again I7 n7
  | brk=>obtain⟨σ7,H7,I7,q7⟩:=q7;exact⟨σ7,H7,I7.unpinned,q7⟩
  | ret v=>obtain⟨x7,σ7,H7,I7,r7,q7⟩:=q7;exact⟨x7,σ7,H7,I7.unpinned,r7,q7⟩
end
theorem JX {K:QF}{a:Addr}{xs:QH}{g:TG}{tb:TS}{D:Ends}{σ:St}{H:Hp}(Pv:Nat->St->Hp->Prop)(h0:Pv 0 σ H)(hl:∀i σ H,i<=xs.length->Pv i σ H->Zt K H a xs)
  (hs:∀i x σ H,xs[i]? = some x->Pv i σ H->g x σ H fun σ2 H2=>tb { D with nx:=Pv (i+1),ct:=Pv (i+1),bk:=D.nx } σ2 H2) (hd:∀ σ H,Pv xs.length σ H->D.nx σ H):
  Zfp (Itl K a) g tb D σ H:=by
 refine⟨fun i m σ H=>m=xs.length-i/\i<=xs.length/\Pv i σ H,⟨xs.length,by simp,Kr _,h0⟩,?_⟩;rintro i m σ H ⟨rfl,hi,p⟩;have q:=hl i σ H hi p;by_cases hlt:i<xs.length
 ·refine .inr ⟨⟨xs,xs[i],q,by simp[hlt]⟩,Pv (i+1),fun σ' H' p'=>⟨xs.length-(i+1),by lia,rfl,hlt,p'⟩,fun x H' y=>?_⟩;obtain⟨e,y⟩:=y;subst e;exact hs i x σ _ (y xs q) p
 ·have e:i=xs.length:=by lia
  subst e;exact .inl ⟨⟨xs,q,kj _⟩,hd σ H p⟩
theorem JL {lo:Int}{n:Nat}{g:TG}{tb:TS}{D:Ends}{σ:St}{H:Hp}(Pv:Nat->St->Hp->Prop)(h0:Pv 0 σ H)
  (hs:∀i σ H,i<n->Pv i σ H->g (.int (lo+i)) σ H fun σ2 H2=>tb { D with nx:=Pv (i+1),ct:=Pv (i+1),bk:=D.nx } σ2 H2) (hd:∀ σ H,Pv n σ H->D.nx σ H):
  Zfp (Itr lo n) g tb D σ H:=by
 refine⟨fun i m σ H=>m=n-i/\i<=n/\Pv i σ H,⟨n,by simp,Kr _,h0⟩,?_⟩;rintro i m σ H ⟨rfl,hi,p⟩;by_cases hlt:i<n
 ·refine .inr ⟨hlt,Pv (i+1),fun σ' H' p'=>⟨n-(i+1),by lia,rfl,hlt,p'⟩,fun x H' y=>?_⟩;obtain⟨e,y⟩:=y;subst e y;exact hs i σ _ hlt p
 ·have e:i=n:=by lia
  subst e;exact .inl ⟨kj _,hd σ H p⟩
theorem ZmD {c:TT}{tb:TS}{D:Ends}{σ:St}{H:Hp}(Pv:QT)(μ:St->Hp->Nat)(h0:Pv σ H)
  (hs:∀ σ H,Pv σ H->c σ H fun b H1=>if b=true then tb { D with nx:=fun σ' H'=>Pv σ' H' /\ μ σ' H' < μ σ H,ct:=fun σ' H'=>Pv σ' H' /\ μ σ' H' < μ σ H,bk:=D.nx } σ H1 else D.nx σ H1)
  (mono:∀ σ H Q Q',(∀b H1,Q b H1->Q' b H1)->c σ H Q->c σ H Q'):Zme c tb D σ H:=by
 refine⟨fun m σ H=>m = μ σ H/\Pv σ H,⟨_,rfl,h0⟩,?_⟩;rintro m σ H ⟨rfl,p⟩;refine mono σ H _ _ (fun b H1 q=>?_) (hs σ H p);cases b with
 | true=>exact⟨_,fun σ' H' ⟨p',l⟩=>⟨_,l,rfl,p'⟩,q⟩
 | false=>exact q
abbrev R2:=V->V->Hp->VK->Prop
def Us (X:Cx)(f:Value->Value->Sem Value)(r:R2):Prop:=
 ∀(pins:QC)(s:Shared)(σ:St)(H:Hp)(x y:V)(v u:Value)(Q:VK),Inv X pins σ H s->RelV x v->RelV y u->r x y H Q ->
  wpAny (model X.prog X.w) X.A (f v u) (EP X pins σ Q) X.xe s
def UnR (X:Cx)(f:Value->Sem Value)(r:V->Hp->VK->Prop):Prop:=
 ∀(pins:QC)(s:Shared)(σ:St)(H:Hp)(x:V)(v:Value)(Q:VK),Inv X pins σ H s->RelV x v->r x H Q ->
  wpAny (model X.prog X.w) X.A (f v) (EP X pins σ Q) X.xe s
def YT (X:Cx)(f:Value)(r:List V->Hp->VK->Prop):Prop:=
 ∀(pins:QC)(s:Shared)(σ:St)(H:Hp)(xs:QH)(us:QJ)(Q:VK),Inv X pins σ H s->Vals xs us->r xs H Q ->
  wpAny (model X.prog X.w) X.A (call f us) (EP X pins σ Q) X.xe s
def ZsQ (X:Cx)(r:V->Hp->(Bool->Hp->Prop)->Prop):Prop:=
 ∀(pins:QC)(s:Shared)(σ:St)(H:Hp)(x:V)(v:Value)(Q:Bool->Hp->Prop),Inv X pins σ H s->RelV x v->r x H Q ->
  wpAny (model X.prog X.w) X.A (truthy v) (TP X pins σ Q) X.xe s
def tOp (r:R2)(ta tb:TE):TE:=fun σ H Q=>ta σ H fun x H1=>tb σ H1 fun y H2=>r x y H2 Q
def tUn (r:V->Hp->VK->Prop)(ta:TE):TE:=fun σ H Q=>ta σ H fun x H1=>r x H1 Q
inductive rI(C:Int->Int->Prop)(g:Int->Int->V)(x y:V)(H:Hp)(Q:VK):Prop|mk(i j)(_:x = .int i)(_:y = .int j)(_:C i j)(_:Q (g i j) H)
inductive rI0(g:Int->Int->V)(x y:V)(H:Hp)(Q:VK):Prop|mk(i j)(_:x = .int i)(_:y = .int j)(_:Q (g i j) H)
inductive rU(g:Int->V)(x:V)(H:Hp)(Q:VK):Prop|mk(i)(_:x = .int i)(_:Q (g i) H)
section
variable {X:Cx}{a b c:Expr}{ta tb tc:TE}{pos:Pos}
theorem ZpN (ha:PE X a ta)(hb:PE X b tb){pins:QC}{s:Shared}{σ:St}{H:Hp}{R:V->V->Hp->Prop}(I:Inv X pins σ H s)
  (h:ta σ H fun x H1=>tb σ H1 fun y H2=>R x y H2) {Q:QE}{f:Value->Value->Sem Value}
  (hf:∀v u s2 x y H2,Inv X pins σ H2 s2->RelV x v->RelV y u->R x y H2->wpAny (model X.prog X.w) X.A (f v u) Q X.xe s2):
  wpAny (model X.prog X.w) X.A (eval a X.env) (fun v s₁=>wpAny (model X.prog X.w) X.A (eval b X.env) (fun u s₂=>wpAny (model X.prog X.w) X.A (f v u) Q X.xe s₂) X.xe s₁) X.xe s:=by
 refine YN (ha pins s σ H _ I h) fun v s1 ⟨x,H1,I1,r1,q1⟩=>?_;refine YN (hb pins s1 σ H1 _ I1 q1) fun u s2 ⟨y,H2,I2,r2,q2⟩=>?_;exact hf v u s2 x y H2 I2 r1 r2 q2
theorem Zl {op:Operator}{r:R2}(ho:Us X (binaryOp op) r)(ha:PE X a ta)(hb:PE X b tb):PE X (.BinOp a op b pos) (tOp r ta tb):=by intro pins s σ H Q I h;exact wpAny_BinOp (ZpN ha hb I h fun v u s2 x y H2 I2 rx ry q=>ho pins s2 σ H2 x y v u Q I2 rx ry q)
theorem Ug {op:UnaryOp}{r:V->Hp->VK->Prop}(ho:UnR X (unaryOp op) r)(ha:PE X a ta):PE X (.UnaryOp op a pos) (tUn r ta):=by intro pins s σ H Q I h;exact UnaryOp_ (YN (ha pins s σ H _ I h) fun v s1 ⟨x,H1,I1,r1,q1⟩=>ho pins s1 σ H1 x v Q I1 r1 q1)
theorem opI {f:Value->Value->Sem Value}{C:Int->Int->Prop}{g:Int->Int->Int}
  (rule:∀(i j:Int)(t u:Tok)(s:Shared)(Q:QE)(E:QE),C i j->Q (.int (g i j) s.toks) { s with toks:=s.toks+1 } -> wpAny (model X.prog X.w) X.A (f (.int i t) (.int j u)) Q E s):
  Us X f (rI C fun i j=>.int (g i j)):=by
 intro pins s σ H x y v u Q I rx ry h;obtain⟨i,j,rfl,rfl,hc,q⟩:=h;obtain⟨t,rfl⟩:=rx;obtain⟨t',rfl⟩:=ry;exact rule i j t t' s _ _ hc ⟨.int (g i j),H,I.tok _,⟨_,rfl⟩,q⟩
theorem ZnR {f:Value->Value->Sem Value}{g:Int->Int->Int}
  (rule:∀(i j:Int)(t u:Tok)(s:Shared)(Q:QE)(E:QE),Q (.int (g i j) s.toks) { s with toks:=s.toks+1 } -> wpAny (model X.prog X.w) X.A (f (.int i t) (.int j u)) Q E s):
  Us X f (rI0 fun i j=>.int (g i j)):=by
 intro pins s σ H x y v u Q I rx ry h;obtain⟨i,j,rfl,rfl,q⟩:=h;obtain⟨t,rfl⟩:=rx;obtain⟨t',rfl⟩:=ry;exact rule i j t t' s _ _ ⟨.int (g i j),H,I.tok _,⟨_,rfl⟩,q⟩
theorem ZnQ {f:Value->Value->Sem Value}{g:Int->Int->Bool}
  (rule:∀(i j:Int)(t u:Tok)(s:Shared)(Q:QE)(E:QE),Q (.bool (g i j)) s->wpAny (model X.prog X.w) X.A (f (.int i t) (.int j u)) Q E s):
  Us X f (rI0 fun i j=>.bl (g i j)):=by
 intro pins s σ H x y v u Q I rx ry h;obtain⟨i,j,rfl,rfl,q⟩:=h;obtain⟨t,rfl⟩:=rx;obtain⟨t',rfl⟩:=ry;exact rule i j t t' s _ _ ⟨.bl (g i j),H,I,rfl,q⟩
def ZsR (i j:Int):Prop:=0<j/\j<1073741824
def ZpB (i j:Int):Prop:=0<=j/\j<=1000000/\i.natAbs<2 ^ 64
def Zq1 (i j:Int):Prop:=(-(2 ^ 64)<i/\i<2 ^ 64)∨(-(2 ^ 64)<j/\j<2 ^ 64)
theorem Zq1.ok {i j:Int}(h:Zq1 i j):IntMulOk i j:=by
 rcases h with⟨h1,h2⟩ | ⟨h1,h2⟩
 ·exact .of_left (intBits_le_64 h1 h2)
 ·exact .of_right (intBits_le_64 h1 h2)
theorem ZD:Us X (binaryOp .Add) (rI0 fun i j=>.int (i+j)):=ZnR fun _ _ _ _ _ _ _ q=>add_int q
theorem Jd:Us X (binaryOp .Sub) (rI0 fun i j=>.int (i-j)):=ZnR fun _ _ _ _ _ _ _ q=>sub_int q
theorem Wu:Us X (binaryOp .Mult) (rI Zq1 fun i j=>.int (i*j)):=opI fun _ _ _ _ _ _ _ hc q=>mul_int q hc.ok
theorem Zb2:Us X (binaryOp .FloorDiv) (rI ZsR fun i j=>.int (i / j)):=opI fun i j _ _ _ _ _ hc q=>by have h1:(0:Int)<j:=hc.1;have h2:j<1073741824:=hc.2;exact floordiv_int (by lia) (by rw[Int.fdiv_eq_ediv_of_nonneg i (by lia)];exact q) (.inl (NR (by lia)))
theorem GJ:Us X (binaryOp .Mod) (rI (fun _ j=>0<j) fun i j=>.int (i % j)):=opI fun i j _ _ _ _ _ hc q=>by have h1:(0:Int)<j:=hc;exact mod_int' (by lia) (by rw[Int.fmod_eq_emod_of_nonneg i (by lia)];exact q)
theorem ZgB:Us X (binaryOp .Pow) (rI ZpB fun i j=>.int (i ^ j.toNat)):=opI fun _ _ _ _ _ _ _ hc q=>pow_int_small hc.1 hc.2.1 hc.2.2 q
theorem ZqF:Us X (binaryOp .BitAnd) (rI0 fun i j=>.int (Builtin.bitAnd i j)):=ZnR fun _ _ _ _ _ _ _ q=>and_int q
theorem Zp1:Us X (binaryOp .BitXor) (rI0 fun i j=>.int (Builtin.bitXor i j)):=ZnR fun _ _ _ _ _ _ _ q=>xor_int q
theorem unI {f:Value->Sem Value}{g:QX}
  (rule:∀(i:Int)(t:Tok)(s:Shared)(Q:QE)(E:QE),Q (.int (g i) s.toks) { s with toks:=s.toks+1 } -> wpAny (model X.prog X.w) X.A (f (.int i t)) Q E s):
  UnR X f (rU fun i=>.int (g i)):=by
 intro pins s σ H x v Q I rx h;obtain⟨i,rfl,q⟩:=h;obtain⟨t,rfl⟩:=rx;exact rule i t s _ _ ⟨.int (g i),H,I.tok _,⟨_,rfl⟩,q⟩
theorem Wm:UnR X (unaryOp .USub) (rU fun i=>.int (-i)):=unI fun _ _ _ _ _ q=>neg_int q
end
def Zro:V->V->Bool
 | .non,.non=>true | .non,.int _=>true | .int _,.non=>true | .non,.bl _=>true | .bl _,.non=>true | .non,.str _=>true | .str _,.non=>true
 | .int _,.int _=>true | .bl _,.bl _=>true | .str _,.str _=>true | .byt _,.byt _=>true
 | .int _,.str _=>true | .str _,.int _=>true | .bl _,.str _=>true | .str _,.bl _=>true
 | _,_=>false
inductive rEq(x y:V)(H:Hp)(Q:VK):Prop|mk(_:Zro x y=true)(_:Q (.bl (decide (x=y))) H)
inductive rNe(x y:V)(H:Hp)(Q:VK):Prop|mk(_:Zro x y=true)(_:Q (.bl (!decide (x=y))) H)
theorem ZjS {i j:Int}:decide (V.int i=V.int j)=(i==j):=by rw[qT];simp
theorem Zmn {i j:Bool}:decide (V.bl i=V.bl j)=(i==j):=by rw[qT];simp
theorem Zjf {i j:Str}:decide (V.str i=V.str j)=(i==j):=by rw[qT];simp
theorem ZjI {i j:Array UInt8}:decide (V.byt i=V.byt j)=(i.toList==j.toList):=by rw[qT];cases i;cases j;simp
section
variable {X:Cx}{a b c:Expr}{ta tb tc:TE}{pos:Pos}
theorem Yh {pins:QC}{σ:St}{H:Hp}{s:Shared}{Q:VK}{k k':Bool}(I:Inv X pins σ H s)(q:Q (.bl k) H)(e:k=k'):EP X pins σ Q (.bool k') s:=by subst e;exact⟨.bl k,H,I,rfl,q⟩
theorem Yo:Us X (compareOp .Eq) rEq:=by
 intro pins s σ H x y v u Q I rx ry h;obtain⟨hs,q⟩:=h;cases x with
 | non=>
  cases rx;cases y with
  | non=>cases ry;exact PySem.EqNone.eq_none_none (Yh I q (by simp))
  | bl j=>cases ry;exact PySem.EqNone.eq_none_bool (Yh I q (by simp))
  | int j=>obtain⟨t',rfl⟩:=ry;exact PySem.EqNone.eq_none_int (Yh I q (by simp))
  | str j=>obtain⟨t',rfl⟩:=ry;exact PySem.EqNone.eq_none_str (Yh I q (by simp))
  | _=>exact absurd (show false=true from hs) kP
 | bl i=>
  cases rx;cases y with
  | non=>cases ry;exact PySem.EqNone.eq_bool_none (Yh I q (by simp))
  | bl j=>cases ry;exact eq_bool (Yh I q Zmn)
  | str j=>obtain⟨t',rfl⟩:=ry;exact PySem.EqMixed.eq_bool_str (Yh I q (by simp))
  | _=>exact absurd (show false=true from hs) kP
 | int i=>
  obtain⟨t,rfl⟩:=rx;cases y with
  | non=>cases ry;exact PySem.EqNone.eq_int_none (Yh I q (by simp))
  | int j=>obtain⟨t',rfl⟩:=ry;exact eq_int (Yh I q ZjS)
  | str j=>obtain⟨t',rfl⟩:=ry;exact PySem.EqMixed.eq_int_str (Yh I q (by simp))
  | _=>exact absurd (show false=true from hs) kP
 | str i=>
  obtain⟨t,rfl⟩:=rx;cases y with
  | non=>cases ry;exact PySem.EqNone.eq_str_none (Yh I q (by simp))
  | bl j=>cases ry;exact PySem.EqMixed.eq_str_bool (Yh I q (by simp))
  | int j=>obtain⟨t',rfl⟩:=ry;exact PySem.EqMixed.eq_str_int (Yh I q (by simp))
  | str j=>obtain⟨t',rfl⟩:=ry;exact eq_str (Yh I q Zjf)
  | _=>exact absurd (show false=true from hs) kP
 | byt i=>
  obtain⟨t,rfl⟩:=rx;cases y with
  | byt j=>obtain⟨t',rfl⟩:=ry;exact PySem.W.eq_bytes (Yh I q ZjI)
  | _=>exact absurd (show false=true from hs) kP
 | _=>cases y<;>exact absurd (show false=true from hs) kP
theorem Zck:Us X (compareOp .NotEq) rNe:=by
 intro pins s σ H x y v u Q I rx ry h;obtain⟨hs,q⟩:=h;cases x with
 | non=>
  cases rx;cases y with
  | non=>cases ry;exact PySem.EqNone.ne_none_none (Yh I q (by simp))
  | bl j=>cases ry;exact PySem.EqNone.ne_none_bool (Yh I q (by simp))
  | int j=>obtain⟨t',rfl⟩:=ry;exact PySem.EqNone.ne_none_int (Yh I q (by simp))
  | str j=>obtain⟨t',rfl⟩:=ry;exact PySem.EqNone.ne_none_str (Yh I q (by simp))
  | _=>exact absurd (show false=true from hs) kP
 | bl i=>
  cases rx;cases y with
  | non=>cases ry;exact PySem.EqNone.ne_bool_none (Yh I q (by simp))
  | bl j=>cases ry;exact ne_bool (Yh I q (KC not Zmn))
  | str j=>obtain⟨t',rfl⟩:=ry;exact PySem.EqMixed.ne_bool_str (Yh I q (by simp))
  | _=>exact absurd (show false=true from hs) kP
 | int i=>
  obtain⟨t,rfl⟩:=rx;cases y with
  | non=>cases ry;exact PySem.EqNone.ne_int_none (Yh I q (by simp))
  | int j=>obtain⟨t',rfl⟩:=ry;exact ne_int (Yh I q (KC not ZjS))
  | str j=>obtain⟨t',rfl⟩:=ry;exact PySem.EqMixed.ne_int_str (Yh I q (by simp))
  | _=>exact absurd (show false=true from hs) kP
 | str i=>
  obtain⟨t,rfl⟩:=rx;cases y with
  | non=>cases ry;exact PySem.EqNone.ne_str_none (Yh I q (by simp))
  | bl j=>cases ry;exact PySem.EqMixed.ne_str_bool (Yh I q (by simp))
  | int j=>obtain⟨t',rfl⟩:=ry;exact PySem.EqMixed.ne_str_int (Yh I q (by simp))
  | str j=>obtain⟨t',rfl⟩:=ry;exact ne_str (Yh I q (KC not Zjf))
  | _=>exact absurd (show false=true from hs) kP
 | byt i=>
  obtain⟨t,rfl⟩:=rx;cases y with
  | byt j=>obtain⟨t',rfl⟩:=ry;exact PySem.W.ne_bytes (Yh I q (KC not ZjI))
  | _=>exact absurd (show false=true from hs) kP
 | _=>cases y<;>exact absurd (show false=true from hs) kP
theorem Ws:Us X (compareOp .Lt) (rI0 fun i j=>.bl (decide (i<j))):=ZnQ fun _ _ _ _ _ _ _ q=>lt_int q
theorem Zrv:Us X (compareOp .LtE) (rI0 fun i j=>.bl (decide (i<=j))):=ZnQ fun _ _ _ _ _ _ _ q=>le_int q
theorem Zcu:Us X (compareOp .Gt) (rI0 fun i j=>.bl (decide (j<i))):=ZnQ fun _ _ _ _ _ _ _ q=>gt_int q
theorem Zmi:Us X (compareOp .GtE) (rI0 fun i j=>.bl (decide (j<=i))):=ZnQ fun _ _ _ _ _ _ _ q=>ge_int q
inductive Zrk(x y:V)(H:Hp)(Q:VK):Prop|mk(_:y = .non)(_:Q (.bl (decide (x = .non))) H)
theorem Zmh:Us X (compareOp .Is) Zrk:=by
 intro pins s σ H x y v u Q I rx ry h;obtain⟨rfl,q⟩:=h;cases ry;refine is_none_gen (Yh I q ?_);cases x<;>first
  | (cases rx;rfl)
  | (obtain⟨t,rfl⟩:=rx;rfl)
inductive Zps(x y:V)(H:Hp)(Q:VK):Prop|mk(_:y = .non)(_:Q (.bl (!decide (x = .non))) H)
theorem ZdD:Us X (compareOp .IsNot) Zps:=by
 intro pins s σ H x y v u Q I rx ry h;obtain⟨rfl,q⟩:=h;cases ry;refine isnot_none_gen (Yh I q ?_);cases x<;>first
  | (cases rx;rfl)
  | (obtain⟨t,rfl⟩:=rx;rfl)
theorem Zs (b:Expr){op:CmpOp}(h:op ≠ .In:=by decide)(h2:op ≠ .NotIn:=by decide):behindInMarks op b=false:=by
 have e1:(op==CmpOp.In)=false:=by cases op<;>first | rfl | exact absurd rfl h
 have e2:(op==CmpOp.NotIn)=false:=by cases op<;>first | rfl | exact absurd rfl h2
 cases b<;>simp[behindInMarks,e1,e2]
theorem Yl {op:CmpOp}{r:R2}(ho:Us X (compareOp op) r)(ha:PE X a ta)(hb:PE X b tb)(hm:behindInMarks op b=false):PE X (.Compare a [op] [b] pos) (tOp r ta tb):=by intro pins s σ H Q I h;exact wpAny_Compare1 (ZpN ha hb I h fun v u s2 x y H2 I2 rx ry q=>ho pins s2 σ H2 x y v u Q I2 rx ry q) hm
def Zpe (t:TE):TT:=fun σ H Q=>t σ H fun x H'=>isB x H' Q
theorem Zu {op:CmpOp}{r:R2}(ho:Us X (compareOp op) r)(ha:PE X a ta)(hb:PE X b tb)(hm:behindInMarks op b=false):PT X (.Compare a [op] [b] pos) (Zpe (tOp r ta tb)):=by
 intro pins s σ H Q I h;refine wpAny_isTrue_Compare1 (YN (ha pins s σ H _ I h) fun v s1 ⟨x,H1,I1,r1,q1⟩=>YN (hb pins s1 σ H1 _ I1 q1) fun u s2 ⟨y,H2,I2,r2,q2⟩=>
  YN (ho pins s2 σ H2 x y v u _ I2 r1 r2 q2) fun c s3 ⟨z,H3,I3,r3,k,e,q3⟩=>?_) hm
 subst e;cases r3;exact KZ ⟨H3,I3,q3⟩
def Zmx (r r':R2)(ta tb tc:TE):TE:=fun σ H Q=>ta σ H fun x H1=>tb σ H1 fun y H2=>r x y H2 fun z H3=>isB z H3 fun k H3=>if k=true then tc σ H3 fun w' H4=>r' y w' H4 Q else Q (.bl false) H3
theorem Zhc {op op':CmpOp}{r r':R2}(ho:Us X (compareOp op) r)(ho':Us X (compareOp op') r')(ha:PE X a ta)(hb:PE X b tb)(hc:PE X c tc)
  (hm:lastMarks [op,op'] [b,c]=false:=by with_unfolding_all rfl):PE X (.Compare a [op,op'] [b,c] pos) (Zmx r r' ta tb tc):=by
 intro pins s σ H Q I h;refine Compare_chain (YN (ha pins s σ H _ I h) fun v s1 ⟨x,H1,I1,r1,q1⟩=>chain_link (YN (hb pins s1 σ H1 _ I1 q1) fun u s2 ⟨y,H2,I2,r2,q2⟩=>
  YN (ho pins s2 σ H2 x y v u _ I2 r1 r2 q2) fun d s3 ⟨z,H3,I3,r3,k,e,q3⟩=>?_)) hm
 subst e;cases r3;refine KZ ?_;cases k with
 | false=>exact ite_ff ⟨.bl false,H3,I3,rfl,q3⟩
 | true=>exact ite_tt (chain_last (YN (hc pins s3 σ H3 _ I3 q3) fun w' s4 ⟨z',H4,I4,r4,q4⟩=>ho' pins s4 σ H4 y z' u w' Q I4 r2 r4 q4))
theorem Zlq {op op':CmpOp}{r r':R2}(ho:Us X (compareOp op) r)(ho':Us X (compareOp op') r')(ha:PE X a ta)(hb:PE X b tb)(hc:PE X c tc)
  (hm:lastMarks [op,op'] [b,c]=false:=by with_unfolding_all rfl):PT X (.Compare a [op,op'] [b,c] pos) (Zpe (Zmx r r' ta tb tc)):=by
 intro pins s σ H Q I h;refine isTrue_chain (YN (ha pins s σ H _ I h) fun v s1 ⟨x,H1,I1,r1,q1⟩=>test_link (YN (hb pins s1 σ H1 _ I1 q1) fun u s2 ⟨y,H2,I2,r2,q2⟩=>
  YN (ho pins s2 σ H2 x y v u _ I2 r1 r2 q2) fun d s3 ⟨z,H3,I3,r3,k,e,q3⟩=>?_)) hm
 subst e;cases r3;refine KZ ?_;cases k with
 | false=>
  obtain⟨k',e',q'⟩:=q3;cases e';exact ite_ff ⟨H3,I3,q'⟩
 | true=>
  refine ite_tt (test_last (YN (hc pins s3 σ H3 _ I3 q3) fun w' s4 ⟨z',H4,I4,r4,q4⟩=>YN (ho' pins s4 σ H4 y z' u w' _ I4 r2 r4 q4) fun d' s5 ⟨z2,H5,I5,r5,k2,e2,q5⟩=>?_));subst e2;cases r5;exact KZ ⟨H5,I5,q5⟩
def ZsY (K:QF)(x:V)(H:Hp)(k:Bool):Prop:=
 match x with
 | .non=>k=false
 | .bl b=>k=b
 | .int i=>k=(i != 0)
 | .str y=>y.length<=sizeLine/\k=((y.length:Int) != 0)
 | .byt y=>y.size<=sizeLine/\k=((y.size:Int) != 0)
 | .ref p=>(∃xs,Zt K H p xs/\k = !xs.isEmpty)∨(∃xs,Y9 K H p xs/\k = !xs.isEmpty) ∨ ∃kvs,H p=some (.dK kvs)/\k = !kvs.isEmpty
 | _=>False
theorem Zie {κ:Type}{kvs:List (κ × V)}{vs:List (κ × Value)}(r:KV kvs vs):(!vs.isEmpty) = !kvs.isEmpty:=by cases r<;>rfl
theorem ZdU {xs:QH}{its:QJ}(r:Vals xs its):(!its.toArray.isEmpty) = !xs.isEmpty:=by cases r<;>simp
theorem Zez:(sizeLine:Nat)<2 ^ 63:=by rw[k9];decide
inductive Zmy(K:QF)(x:V)(H:Hp)(Q:Bool->Hp->Prop):Prop|mk(k)(_:ZsY K x H k)(_:Q k H)
theorem Zp7:ZsQ X (Zmy X.K):=by
 intro pins s σ H x v Q I rx h;obtain⟨k,e,q⟩:=h;have hl:=Zez;have hs:sizeLine=16777216:=k9;cases x with
 | non=>
  cases rx;have e':k=false:=e;subst e';exact truthy_none ⟨H,I,q⟩
 | bl b=>
  cases rx;have e':k=b:=e;subst e';exact KZ ⟨H,I,q⟩
 | int i=>
  obtain⟨t,rfl⟩:=rx;have e':k=(i != 0):=e;subst e';exact PySem.P.truthy_int ⟨H,I,q⟩
 | str y=>
  obtain⟨t,rfl⟩:=rx;obtain⟨hy,e'⟩:y.length<=sizeLine/\k=((y.length:Int) != 0):=e;subst e';exact PySem.P.truthy_str (by lia) ⟨H,I.tok _,q⟩
 | byt y=>
  obtain⟨t,rfl⟩:=rx;obtain⟨hy,e'⟩:y.size<=sizeLine/\k=((y.size:Int) != 0):=e;subst e';exact PySem.W.truthy_bytes (by lia) ⟨H,I.tok _,q⟩
 | ref p=>
  cases rx;have e':(∃xs,Zt X.K H p xs/\k = !xs.isEmpty)∨(∃xs,Y9 X.K H p xs/\k = !xs.isEmpty) ∨ ∃kvs,H p=some (.dK kvs)/\k = !kvs.isEmpty:=e;rcases e' with⟨xs,hx,e'⟩ | ⟨xs,hx,e'⟩ | ⟨kvs,hx,e'⟩
  ·subst e';obtain⟨its,r,pl,hz⟩:=I.list hx;have hlen:=r.length;exact wpAny_truthy_list pl.isList (by simp only[kr];lia) ⟨H,I.tok _,by rw[ZdU r];exact q⟩
  ·subst e';obtain⟨its,r,pl,hz⟩:=I.tuple hx;have hlen:=r.length;exact truthy_tuple pl (by simp only[kr];lia) ⟨H,I.tok _,by rw[ZdU r];exact q⟩
  ·subst e';obtain⟨hz,hS,vs,r,m⟩:kvs.length<=sizeLine/\(p==sysModules)=false /\ ∃vs,KV kvs vs/\s.heap.DictOf (Z9 X.prog X.w) p vs:=I.hok p _ hx;have hlen:kvs.length=vs.length:=qj r;exact wpAny_truthy_dict hS m (by lia) ⟨H,I.tok _,by rw[Zie r];exact q⟩
 | _=>exact(show False from e).elim
theorem Zg8 (ha:PE X a ta)(he:∀whole,isTrue a X.env whole=(do let v <- whole;standAt a.pos;holding [v] (truthy v))):
  PT X a (fun σ H Q=>ta σ H fun x H'=>Zmy X.K x H' Q):=by
 intro pins s σ H Q I h;exact isTrue_plain (YN (ha pins s σ H _ I h) fun v s1 ⟨x,H1,I1,r1,q1⟩=>Zp7 pins s1 σ H1 x v Q I1 r1 q1) (he _)
theorem vals1 {x:V}{us:QJ}(r:Vals [x] us):∃u,us = [u]/\RelV x u:=by
 cases r with
 | cons r1 r2=>cases r2;exact⟨_,rfl,r1⟩
theorem vals2 {x y:V}{us:QJ}(r:Vals [x,y] us):∃u w',us = [u,w']/\RelV x u/\RelV y w':=by
 cases r with
 | cons r1 r2=>
  cases r2 with
  | cons r3 r4=>cases r4;exact⟨_,_,rfl,r1,r3⟩
inductive Zrx(xs:QH)(H:Hp)(Q:VK):Prop|mk(i)(_:xs = [.int i])(_:Q (.int (if i<0 then -i else i)) H)
theorem ZcB:YT X (.builtin "abs") Zrx:=by intro pins s σ H xs us Q I r h;obtain⟨i,rfl,q⟩:=h;obtain⟨u,rfl,t,rfl⟩:=vals1 r;exact call_abs_int fun u tk=>⟨.int (if i<0 then -i else i),H,I.tok _,⟨_,rfl⟩,q⟩
inductive Zpj(xs:QH)(H:Hp)(Q:VK):Prop|mk(i j)(_:xs = [.int i,.int j])(_:Q (.int (if j>i then j else i)) H)
theorem WE (hc:X.calm=true):YT X (.builtin "max") Zpj:=by
 intro pins s σ H xs us Q I r h;obtain⟨i,j,rfl,q⟩:=h;obtain⟨u,w',rfl,⟨t,rfl⟩,⟨t',rfl⟩⟩:=vals2 r;refine max_two_ints (I.ok.hd hc) fun h' tk k=>⟨_,H,I.kept k,?_,q⟩;by_cases hj:j>i
 ·rw[km hj,km hj];exact⟨_,rfl⟩
 ·rw[ki hj,ki hj];exact⟨_,rfl⟩
inductive Zo2(xs:QH)(H:Hp)(Q:VK):Prop|mk(i j)(_:xs = [.int i,.int j])(_:Q (.int (if j<i then j else i)) H)
theorem Zbp (hc:X.calm=true):YT X (.builtin "min") Zo2:=by
 intro pins s σ H xs us Q I r h;obtain⟨i,j,rfl,q⟩:=h;obtain⟨u,w',rfl,⟨t,rfl⟩,⟨t',rfl⟩⟩:=vals2 r;refine min_two_ints (I.ok.hd hc) fun h' tk k=>⟨_,H,I.kept k,?_,q⟩;by_cases hj:j<i
 ·rw[km hj,km hj];exact⟨_,rfl⟩
 ·rw[ki hj,ki hj];exact⟨_,rfl⟩
theorem Ux:YT X (.type "int") (fun xs H Q=>(∃i,xs = [.int i]/\Q (.int i) H) ∨ ∃k,xs = [.bl k]/\Q (.int (if k then 1 else 0)) H):=by
 intro pins s σ H xs us Q I r h;rcases h with⟨i,rfl,q⟩ | ⟨k,rfl,q⟩
 ·obtain⟨u,rfl,t,rfl⟩:=vals1 r;exact call_int_int ⟨.int i,H,I,⟨_,rfl⟩,q⟩
 ·obtain⟨u,rfl,r1⟩:=vals1 r;cases r1;exact call_int_bool ⟨.int (if k then 1 else 0),H,I.tok _,⟨_,rfl⟩,q⟩
end
structure ZqX (h:Heap)(x dx C:Addr)(mA:QN):Prop where
 obj:h.get? x=some (PySem.W.instObj C dx)
 ns:h.Ns1 dx mA
 ne:dx≠x
theorem ZkK {h:Heap}{dx:Addr}{mA:QN}(n:h.Ns1 dx mA):∃od,h.get? dx=some od /\ ∀name,PySem.W.lookIn name od=some (mA name):=by
 obtain⟨o,es,ep,ho,hd,hk,_,hm⟩:=n;refine⟨o,ho,fun name=>?_⟩;have e:=hm name;unfold nsFind findBy at e;rw[<- Array.find?_toList] at e;unfold PySem.W.lookIn;rw[hd];dsimp only;split
 ·rename_i y q
  rw[q] at e;exact KC some e
 ·rename_i q
  rw[q] at e;have a:es.toList.any (·.refKey)=false:=by rw[List.any_eq_false];intro y hy;obtain⟨z,t,hkey⟩:=hk y (Array.mem_toList_iff.mp hy);simp[DictEntry.refKey,hkey]
  have a':¬es.toList.any (·.refKey)=true:=by rw[a];exact kP
  rw[ki a'];exact KC some e
theorem ZqX.look {h:Heap}{x dx C:Addr}{mA:QN}(I:ZqX h x dx C mA):∃od,PySem.W.InstAt h x (PySem.W.instObj C dx) C (some od) /\ ∀name,PySem.W.lookIn name od=some (mA name):=
 let ⟨od,ho,hl⟩:=ZkK I.ns
 ⟨od,⟨I.obj,rfl,rfl,ho⟩,hl⟩
theorem ZcM.some_of {v:V}{o:Option Value}(r:ZcM (some v) o):∃u,o=some u/\RelV v u:=by
 cases o with
 | none=>exact(show False from r).elim
 | some u=>exact⟨u,rfl,r⟩
section
variable {P:Program}{w:World}{H H':Hp}{h h':Heap}{a C dx:Addr}{fs fs':List (Str×V)}
theorem Zox (hok:UX P w H h)(e:H a=some (.ins C dx fs)):∃mA,ZqX h a dx C mA/\(∀f,ZcM (fs.lookup f) (mA f))/\PySem.Within mA (fs.map (·.1))/\fs.length<=1000/\H dx=some (.own a):=by obtain⟨d,z,ne,ob,mA,n,r,q⟩:=(show YA P w H h a (.ins C dx fs) from hok a _ e);exact⟨mA,⟨ob,n,ne⟩,r,q,z,d⟩
end
structure Cls (K:QF)(C:Addr):Prop where
 pg:PySem.W.plainGet K C Str.empty=true
 hd:PySem.W.hasDictIn K C=true
 po:PySem.W.plainOver K C=true
 sa:PySem.W.findIn K (.ref C) "__setattr__" = some (some (.builtin "object.__setattr__"))
theorem Cls.get {K:QF}{C:Addr}(c:Cls K C)(f:Str):PySem.W.plainGet K C f=true:=c.pg
section
variable {X:Cx}{pins:QC}{σ:St}{H:Hp}{s:Shared}{A:Around}{E:QE}{Q:QE}{c:Value}{b:Bool}
inductive Zb8 (K:QF)(H:Hp):V->Value->Prop where
 | non:Zb8 K H .non (.type "NoneType")
 | bl (x:Bool):Zb8 K H (.bl x) (.type "bool")
 | int (i:Int):Zb8 K H (.int i) (.type "int")
 | str (x:Str):Zb8 K H (.str x) (.type "str")
 | flt (x:UInt64):Zb8 K H (.flt x) (.type "float")
 | lst {a:Addr}{xs:QH} (e:H a=some (.lst xs)):Zb8 K H (.ref a) (.type "list")
 | frz {a:Addr}{o:Obj}{xs:QH} (e:H a=some (.frz o (.lst xs))):Zb8 K H (.ref a) (.type "list")
 | tup {a:Addr}{xs:QH} (e:H a=some (.tup xs)):Zb8 K H (.ref a) (.type "tuple")
 | dK {a:Addr}{kvs:QD} (e:H a=some (.dK kvs)):Zb8 K H (.ref a) (.type "dict")
 | dT {a:Addr}{kvs:List (List Key×V)} (e:H a=some (.dT kvs)):Zb8 K H (.ref a) (.type "dict")
 | ins {a C dx:Addr}{fs:List (Str×V)} (e:H a=some (.ins C dx fs)) (cl:Cls K C) (ha:PySem.W.findIn K (.ref C) "__class__" = some (some (.builtin "object.__class__")))
   (hn:PySem.W.specialIn K (.builtin "object.__class__") "__get__" = some (some (.builtin "getset_descriptor.__get__"))) (htk:PySem.W.takesIn K (.builtin "object.__class__")=some true)
   (hm:PySem.W.mroIn K C (.type "object")=some true):Zb8 K H (.ref a) (.ref C)
theorem ZkN {x:V}{u t:Value}(I:Inv X pins σ H s)(rx:RelV x u)(ty:Zb8 X.K H x t)(e:PySem.W.kitOne X.K t c=some b)(h:∀tk,Q (.bool b) { s with toks:=tk }):
  wpAny (model X.prog X.w) A (call (.builtin "isinstance") [u,c]) Q E s:=by
 cases ty with
 | non=>cases (show u=Value.none from rx);exact qu PySem.W.kitx_none I.kIn True.intro e (fun z=>nomatch z) h
 | bl y=>cases (show u=Value.bool y from rx);exact qu PySem.W.kitx_bool I.kIn True.intro e (fun z=>nomatch z) h
 | int i=>obtain⟨t,q⟩:=(show ∃t,u=Value.int i t from rx);cases q;exact qu PySem.W.kitx_int I.kIn True.intro e (fun z=>nomatch z) h
 | str y=>obtain⟨t,q⟩:=(show ∃t,u=Value.str y t from rx);cases q;exact qu PySem.W.kitx_str I.kIn True.intro e (fun z=>nomatch z) h
 | flt y=>obtain⟨t,q⟩:=(show ∃t,u=Value.float y t from rx);cases q;exact qu PySem.W.kitx_float I.kIn True.intro e (fun z=>nomatch z) h
 | @lst a xs ea=>
  cases (show u=Value.ref a from rx);obtain⟨_,_,n,_,h1⟩:=(show YA X.prog X.w H s.heap a (.lst xs) from I.hok a _ ea);exact qu PySem.W.kitx_list I.kIn ⟨_,h1,rfl⟩ e (fun z=>nomatch z) h
 | @frz a ob xs ea=>
  cases (show u=Value.ref a from rx);obtain⟨_,_,_,n,_,h1⟩:=(show YA X.prog X.w H s.heap a (.frz ob (.lst xs)) from I.hok a _ ea);exact qu PySem.W.kitx_list I.kIn ⟨_,h1,rfl⟩ e (fun z=>nomatch z) h
 | @tup a xs ea=>
  cases (show u=Value.ref a from rx);obtain⟨_,_,_,p⟩:=(show YA X.prog X.w H s.heap a (.tup xs) from I.hok a _ ea);obtain⟨o,h1,h2,_⟩:=p;exact qu PySem.W.kitx_tuple I.kIn ⟨o,h1,h2⟩ e (fun z=>nomatch z) h
 | @dK a kvs ea=>
  cases (show u=Value.ref a from rx);obtain⟨_,_,vs,_,p⟩:=(show YA X.prog X.w H s.heap a (.dK kvs) from I.hok a _ ea);obtain⟨o,es,ep,h1,h2,_⟩:=p;exact qu PySem.W.kitx_dict I.kIn ⟨o,h1,h2.1⟩ e (fun z=>nomatch z) h
 | @dT a kvs ea=>
  cases (show u=Value.ref a from rx);obtain⟨_,_,xs,_,o,es,ep,h1,h2,_⟩:=(show YA X.prog X.w H s.heap a (.dT kvs) from I.hok a _ ea);exact qu PySem.W.kitx_dict I.kIn ⟨o,h1,h2.1⟩ e (fun z=>nomatch z) h
 | @ins a C dx fs ea cl ha hn htk hm=>
  cases (show u=Value.ref a from rx);obtain⟨mA,O,_⟩:=Zox I.hok ea;obtain⟨od,J,_⟩:=O.look;exact qu (PySem.W.kitx_own (cl.get _) cl.hd ha hn htk hm) I.kIn J e (fun z=>nomatch z) h
end
structure Up (k:Nat)(A:Around):Prop where
 hd:A.handled=none
 dp:A.depth+3*k+5<recursionLimit
 un:A.units+16*k+200<cLine
theorem Up.mono {j k:Nat}{A:Around}(r:Up k A)(h:j<=k):Up j A:=⟨r.hd,by have:=r.dp;lia,by have:=r.un;lia⟩
theorem Up.deeper {k:Nat}{A:Around}(r:Up (k+1) A)(env:Env):Up k (A.deeper env):=
 ⟨r.hd,by have:=r.dp;show A.depth+1+3*k+5<_;lia,by have:=r.un;show A.units+3+16*k+200<_;lia⟩
theorem Up.depth {k:Nat}{A:Around}(r:Up k A):A.depth<recursionLimit:=by have:=r.dp;lia
theorem Up.units {k:Nat}{A:Around}(r:Up k A):A.units+64<cLine:=by have:=r.un;lia
def ZhD:TA:=fun _ H Q=>Q [] H
def Uv (ta:TE)(tr:TA):TA:=fun σ H Q=>ta σ H fun x H1=>tr σ H1 fun xs H2=>Q (x::xs) H2
section
variable {X:Cx}{e:Expr}{es:QV}{te:TE}{t:TA}{pos:Pos}
theorem Zb:PA X [] ZhD:=fun _ _ _ _ H Q I h=>Nf ⟨[],H,I,.nil,h⟩
theorem Za (ha:PE X e te)(hr:PA X es t)(hs:starEach (e::es) X.env=(false,eval e X.env)::starEach es X.env:=by rfl):PA X (e::es) (Uv te t):=by intro pos pins s σ H Q I h;rw[hs];show wpAny _ _ (spliced ((false,eval e X.env)::backTo pos (starEach es X.env))) _ _ s;refine T3 (YN (ha pins s σ H _ I h) fun u s1 ⟨x,H1,I1,r1,q1⟩=>?_);exact YN (hr pos pins s1 σ H1 _ I1 q1) fun us s2 ⟨xs,H2,I2,r2,q2⟩=>⟨x::xs,H2,I2,.cons r1 r2,q2⟩
inductive ZrL (Q:VK)(xs:QH)(H1:Hp):Prop | mk (h:xs.length<=sizeLine) (q:∀p,H1 p=none->Q (.ref p) (upd H1 p (.tup xs)))
def Zrw (t:TA):TE:=fun σ H Q=>t σ H fun xs H1=>ZrL Q xs H1
inductive ZrV (Q:VK)(xs:QH)(H1:Hp):Prop | mk (h:xs.length<=sizeLine) (q:∀p,H1 p=none->Q (.ref p) (upd H1 p (.lst xs)))
def ZkF (t:TA):TE:=fun σ H Q=>t σ H fun xs H1=>ZrV Q xs H1
theorem ZN {x1} (h:PA X es t):PE X (.Tuple es x1 pos) (Zrw t):=by intro pins s σ H Q I hq;refine wpAny_Tuple_spliced (YN (h pos pins s σ H _ I hq) fun us s1 ⟨xs,H1,I1,r,z,q⟩=>⟨by rw[<- r.length];exact z,?_⟩);have hf:H1 s1.heap.objs.size=none:=I1.hok.fresh (kj _);refine⟨.ref s1.heap.objs.size,upd H1 s1.heap.objs.size (.tup xs),I1.laid (t':=s1.toks) (fun b u e=>kC _ e) (kj _) ?_,rfl,q _ hf⟩;exact⟨z,us,r,⟨_,Kl _ rfl,rfl,_,rfl⟩⟩
theorem Zz (h:PA X es t):PE X (.List es pos) (ZkF t):=by intro pins s σ H Q I hq;refine wpAny_List_spliced (YN (h pos pins s σ H _ I hq) fun us s1 ⟨xs,H1,I1,r,z,q⟩=>⟨by rw[<- r.length];exact z,?_⟩);have hf:H1 s1.heap.objs.size=none:=I1.hok.fresh (kj _);refine⟨.ref s1.heap.objs.size,upd H1 s1.heap.objs.size (.lst xs),I1.laid (t':=s1.toks) (fun b u e=>kC _ e) (kj _) ?_,rfl,q _ hf⟩;exact⟨z,us,0,r,Kl _ rfl⟩
end
abbrev Sp:=List V->Hp->VK->XK->Prop
abbrev CXT:=List Env->Hp->Shared->XK->Value->Shared->Prop
structure Zok (P:Program)(w:World)(K:QF)(mg:QN)(base:Heap)(A:Around)(outer:List Env)(s:Shared)(H:Hp):Prop where
 frames:A.frames=some outer
 mod:Mod K mg base
 bs:∀b o,base.get? b=some o->s.heap.get? b=some o/\H b=none
 bsz:base.objs.size<=s.heap.objs.size
 funs:s.heap.FunFrames base outer
 frf:∀b∈frs outer,H b=none
 hok:UX P w H s.heap
 bare:AllBare s.gens
def CE (outer:List Env)(P:Program)(w:World)(H:Hp)(s:Shared)(Q:VK)(u:Value)(s':Shared):Prop:=
 ∃v H',s'.os=s.os/\AllBare s'.gens/\Un (frs outer) [] H H' s.heap s'.heap/\UX P w H' s'.heap/\RelV v u/\Q v H'
def CR (CX:CXT)(outer:List Env)(P:Program)(w:World)(H:Hp)(s:Shared)(Q:VK)(E:XK)(r:Result)(s':Shared):Prop:=
 match r with
 | .ok (.ret u)=>CE outer P w H s Q u s'
 | .ok _=>False
 | .error e=>CX outer H s E e s'
structure Yi (P:Program)(w:World)(K:QF)(mg:QN)(base:Heap)(CX:CXT)(k:Nat)(f:Addr)(fd:FuncData)(ps:QP)(sp:Sp):Prop where
 len:∀vs H Q E,sp vs H Q E->vs.length=ps.length
 run:∀(A:Around)(outer:List Env)(s:Shared)(H:Hp)(args:Args)(us:QJ)(vs:QH)(Q:VK)(E:XK),Up k A->Zok P w K mg base A outer s H->BindsTo s fd args (ps.zip us)->Vals vs us->sp vs H Q E ->
  codeAny (model P w) A (.call (.ref f) args) (CR CX outer P w H s Q E) s
section
variable {X:Cx}{pins:QC}{σ:St}{H:Hp}{s s':Shared}
theorem Inv.env0 (I:Inv X pins σ H s):Zok X.prog X.w X.K X.mg X.base X.A X.stack s H:=
 ⟨I.ok.frames,I.ok.mod,I.bs,Kb I.ok.bsz I.sz,I.stack,I.stkFree,I.hok,I.bare⟩
theorem Inv.after {Q:VK}{u:Value}(I:Inv X pins σ H s)(h:CE X.stack X.prog X.w H s Q u s'):EP X pins σ Q u s':=by obtain⟨v,H',os,bare,un,hok,r,q⟩:=h;obtain⟨hh,g,d,t,os'⟩:=s';obtain rfl:os'=s.os:=os;exact⟨v,H',I.call (h':=hh) (g':=g) (d':=d) (t':=t) (ch:=[]) un hok bare (fun b z=>absurd z (by simp)),r,q⟩
end
def ZjV (sp:Sp)(dvs:QH)(E:XK)(t:TA):TE:=fun σ H Q=>t σ H fun vs H1=>sp (vs++dvs) H1 Q E
def Binds (K:QF)(fd:FuncData)(ps:QP)(ds:QJ):Prop:=
 ∀(s:Shared)(us:QJ),K.In s.heap->(us++ds).length=ps.length->BindsTo s fd ⟨us,[]⟩ (ps.zip (us++ds))
theorem Binds.all {K:QF}{fd:FuncData}{ps:QP}(h:∀us:QJ,us.length=ps.length->bindArgs fd ⟨us,[]⟩=pure (ps.zip us)):Binds K fd ps []:=fun s us _ hl=>by rw[qe] at hl ⊢;exact .of_eq (h us hl)
def Passes (CX:CXT)(X:Cx)(E:XK):Prop:=∀(pins:QC)(σ:St)(H:Hp)(s:Shared)(e:Value)(s':Shared),Inv X pins σ H s->CX X.stack H s E e s'->X.xe e s'
section
variable {X:Cx}{CX:CXT}{k:Nat}{f C:Addr}{fd:FuncData}{ps:QP}{sp:Sp}{dvs:QH}{ds:QJ}{E:XK}{x m:Str}{p pos apos:Pos}{e o:Expr}{es:QV}{ta:TE}{t:TA}
theorem ZqQ {pins:QC}{σ:St}{H:Hp}{s:Shared}{Q:VK}{us:QJ}{vs:QH}(F:Yi X.prog X.w X.K X.mg X.base CX k f fd ps sp)(hr:Up k X.A)(hb:Binds X.K fd ps ds)(hd:Vals dvs ds)(hx:Passes CX X E)
  (I:Inv X pins σ H s) (r:Vals vs us) (h:sp (vs++dvs) H Q E):wpAny (model X.prog X.w) X.A (call (.ref f) us) (EP X pins σ Q) X.xe s:=by
 have r2:Vals (vs++dvs) (us++ds):=r.append hd;have hl:(us++ds).length=ps.length:=by rw[<- r2.length];exact F.len _ _ _ _ h
 refine wpAny_call (NS (F.run X.A X.stack s H ⟨us,[]⟩ (us++ds) (vs++dvs) Q E hr I.env0 (hb s us I.kIn hl) r2 h) fun r s' hq=>?_);cases r with
 | error e=>exact hx pins σ H s e s' I hq
 | ok fl=>
  cases fl with
  | ret u=>exact I.after hq
  | next=>exact False.elim hq
  | brk=>exact False.elim hq
  | cont=>exact False.elim hq
theorem Zj2 (F:Yi X.prog X.w X.K X.mg X.base CX k f fd ps sp)(hr:Up k X.A)(hg:Gl X x)(hm:X.mg x=some (.ref f))(hk:PySem.W.keepIn X.K (.ref f)=true)(hb:Binds X.K fd ps ds)(hd:Vals dvs ds)(hx:Passes CX X E)
  (ha:PA X (e::es) t) (hdb:(x==("__debug__" : Str))=false:=by decide) (he:starEach (e::es) X.env=(false,eval e X.env)::starEach es X.env:=by rfl) (hpl:(backTo pos (starEach es X.env)).any (·.1)=false:=by rfl):
  PE X (.Call (.Name x p) (e::es) [] pos) (ZjV sp dvs E t):=by
 intro pins s σ H Q I h;refine XU (Zj9 I hg hm ?_ hdb);refine PySem.W.callWith_K (h₀:=X.base) I.ok.mod.kin hk (YN (ha pos pins s σ H _ I h) fun us s1 ⟨vs,H1,I1,r,q⟩=>⟨I1.kIn,?_⟩) he hpl;exact ZqQ F hr hb hd hx I1 r q
end
structure Zy (N P:QP)(sc:Scope):Prop where
 kind:sc.kind = .function:=by rfl
 co:sc.isCoroutine=false:=by rfl
 gen:sc.isGenerator=false:=by rfl
 nd:N.Nodup:=by decide +kernel
 pre:N.take P.length=P:=by rfl
 par:∀x∈P,sc.names.lookup x=some .local∨sc.names.lookup x=some .cell:=by decide +kernel
 nofree:∀y∈sc.names,y.2 ≠ .free:=by decide +kernel
theorem Zfy {kindOf:Str->Option NameKind}{x:Str}:∀{binds:List (Str×Value)}{m:QN},(∀v,(x,v)∉binds)->bindL kindOf binds m x=m x
 | [],_,_=>rfl
 | (n,v)::r,m,h=>by
  unfold bindL;rw[Zfy fun w hw=>h w (kU _ hw)];split
  ·have:x≠n:=by rintro rfl;exact h v kS
   simp[this]
  ·rfl
theorem ZfG {kindOf:Str->Option NameKind}{x:Str}:∀{binds:List (Str×Value)}{m:QN},(∀v,(x,v)∉binds)->bindC kindOf binds m x=m x
 | [],_,_=>rfl
 | (n,v)::r,m,h=>by
  unfold bindC;rw[ZfG fun w hw=>h w (kU _ hw)];split
  ·rfl
  ·have:x≠n:=by rintro rfl;exact h v kS
   simp[this]
theorem Zfh {kindOf:Str->Option NameKind}{x:Str}{v:Value}:∀{P:QP}{vs:QJ}{i:Nat}{m:QN},P.Nodup->P[i]? = some x->vs[i]? = some v->kindOf x=some .local ->
  bindL kindOf (P.zip vs) m x=some v
 | [],_,_,_,_,h,_,_=>by simp at h
 | _::_,[],_,_,_,_,h,_=>by simp at h
 | p::P,w::vs,0,m,nd,h1,h2,hk=>by
  simp at h1 h2;subst h1;subst h2;show bindL kindOf ((p,w)::P.zip vs) m p=_;unfold bindL;rw[Zfy fun v hv=>(KW.mp nd).1 (N6 hv).1,km hk];simp
 | p::P,w::vs,i+1,m,nd,h1,h2,hk=>by show bindL kindOf ((p,w)::P.zip vs) m x=_;unfold bindL;exact Zfh (i:=i) (KW.mp nd).2 (by simpa using h1) (by simpa using h2) hk
theorem Ze8 {kindOf:Str->Option NameKind}{x:Str}{v:Value}:∀{P:QP}{vs:QJ}{i:Nat}{m:QN},P.Nodup->P[i]? = some x->vs[i]? = some v->kindOf x≠some .local ->
  bindC kindOf (P.zip vs) m x=some v
 | [],_,_,_,_,h,_,_=>by simp at h
 | _::_,[],_,_,_,_,h,_=>by simp at h
 | p::P,w::vs,0,m,nd,h1,h2,hk=>by
  simp at h1 h2;subst h1;subst h2;show bindC kindOf ((p,w)::P.zip vs) m p=_;unfold bindC;rw[ZfG fun v hv=>(KW.mp nd).1 (N6 hv).1,ki hk];simp
 | p::P,w::vs,i+1,m,nd,h1,h2,hk=>by show bindC kindOf ((p,w)::P.zip vs) m x=_;unfold bindC;exact Ze8 (i:=i) (KW.mp nd).2 (by simpa using h1) (by simpa using h2) hk
def start (N:QP)(vs:QH):St:=vs.map some++List.replicate (N.length-vs.length) none
def GD (CX:CXT)(P:Program)(w:World)(K:QF)(mg:QN)(base:Heap)(N:QP)(qual:Str)(scope:Scope)(f:Addr)(cd:Value)(A:Around)(outer:List Env)(s:Shared)(H:Hp)(E:XK):Cx where
 prog:=P
 w:=w
 K:=K
 mg:=mg
 base:=base
 A:=A.deeper (envOfC qual scope s.heap.objs.size f cd)
 N:=N
 s₀:=s
 H₀:=H
 env:=envOfC qual scope s.heap.objs.size f cd
 outer:=outer
 stack:=envOfC qual scope s.heap.objs.size f cd::outer
 ex:=[]
 calm:=true
 fn:=fun _=>true
 pn:=[]
 xe:=fun e s'=>wpAny (model P w) (A.deeper (envOfC qual scope s.heap.objs.size f cd)) (leaving (envOfC qual scope s.heap.objs.size f cd) e) (fun _ s''=>CX outer H s E e s'') (fun e' s''=>CX outer H s E e' s'') s'
theorem ZhZ {sc:Scope}{n:Nat}{x:Str}(h:sc.names.lookup x=some .cell):∃c,(cellsFrom n sc.names []).lookup x=some c:=by have q:=NT sc.names n [] (.inl h);exact Nm.mp q
theorem Zkz {CX:CXT}{P:Program}{w:World}{K:QF}{mg:QN}{base:Heap}{N ps:QP}{qual:Str}{scope:Scope}{f:Addr}{cd:Value}{A:Around}{outer:List Env}{s s1:Shared}{H:Hp}{E:XK}{us:QJ}{vs:QH}
  (S:Zy N ps scope) (hd:A.handled=none) (e0:Zok P w K mg base A outer s H) (hl:vs.length=ps.length) (r:Vals vs us)
  (x:InCallC s s.heap.objs.size (bindL (envOfC qual scope s.heap.objs.size f cd).kindOf (ps.zip us) fun _=>none) (cellsFrom (s.heap.objs.size+1) scope.names []) (bindC (envOfC qual scope s.heap.objs.size f cd).kindOf (ps.zip us) fun _=>none) s1):
  Inv (GD CX P w K mg base N qual scope f cd A outer s H E) [] (start N vs) H s1:=by
 have hpl:ps.length<=N.length:=by have:=KC List.length S.pre;rw[kL] at this;lia
 obtain⟨h1,tk,rfl,hk⟩:=x.done;have noA:∀b:Addr,b∉(GD CX P w K mg base N qual scope f cd A outer s H E).ex:=fun b z=>absurd (show b∈([]:List Addr) from z) (by simp);refine⟨⟨e0.mod,S.kind,rfl,rfl,kj _,fun y z c h1 h2=>?_,fun y hy=>?_,fun y c _ h=>?_,fun _=>hd,Around.frames_deeper e0.frames,.inr ⟨rfl,rfl⟩,fun b z=>absurd z (noA b),e0.bs,e0.bsz,fun b _ _=>noA b,fun b z=>absurd z (noA b),e0.funs,e0.frf⟩,
  rfl,e0.bare,Un.kept hk,⟨_,x.toInCall.ns,fun i y v h1 h2 h3=>?_⟩,fun y c h=>⟨_,x.cell y c h⟩,e0.hok.fresh (kj _),fun y c h=>?_,fun p hp=>absurd (show p∈([]:QC) from hp) (by simp),e0.hok.kept hk,?_⟩
 ·exact name_of_addr x.apart (qG h1) (qG h2)
 ·have hy:scope.names.lookup y=some .cell∨scope.names.lookup y=some .free:=hy;rcases hy with hy | hy
  ·exact ZhZ hy
  ·exact absurd rfl (S.nofree _ (qG hy))
 ·exact Kz (x.above y c (qG h))
 ·have hi:i<vs.length:=by
   unfold start at h2;by_cases hi:i<vs.length
   ·exact hi
   ·rw[Ko (by simpa using hi)] at h2;rw[Nw] at h2;split at h2<;>cases h2
  have ha:vs[i]? = some v:=by
   unfold start at h2;rw[KJ (by simpa using hi),kF] at h2;cases e:vs[i]? with
   | none=>rw[e] at h2;cases h2
   | some a=>rw[e] at h2;cases h2;rfl
  obtain⟨u,hu,rv⟩:=r.get ha;have hp:ps[i]? = some y:=by rw[<- S.pre,List.getElem?_take_of_lt (by lia)];exact h1
  have ndP:ps.Nodup:=by rw[<- S.pre];exact S.nd.sublist (Ng _ _)
  refine⟨u,rv,?_⟩;rcases S.par y (kZ hp) with k | k
  ·exact .inl ⟨k,Zfh ndP hp hu k⟩
  ·obtain⟨c,e⟩:=ZhZ (n:=s.heap.objs.size+1) k;refine .inr ⟨.inl k,c,e,?_⟩;have q:=x.cell y c e;rw[Ze8 ndP hp hu (by show scope.names.lookup y≠_;rw[k];decide)] at q;exact q
 ·exact e0.hok.fresh (Kz (x.above y c (qG h)))
 ·unfold start;show _=N.length;rw[kh,ke,KN];lia
theorem Zpn {CX:CXT}{P:Program}{w:World}{K:QF}{mg:QN}{base:Heap}{k:Nat}{f:Addr}{name qual:Str}{params:Arguments}{body:List Stmt}{scope:Scope}{dV kV doc pm cdv ct oc:Value}{an od:Option Addr}
  {osl:Array (Option Value)}{N ps:QP}{sp:Sp} (lk:K.lookup f=some ⟨oc,od,.func (PySem.W.fnOf name qual params body scope dV kV doc pm an cdv ct),osl⟩) (hcd:PySem.W.codeIn K cdv qual=true) (S:Zy N ps scope)
  (len:∀vs H Q E,sp vs H Q E->vs.length=ps.length)
  (hbody:∀(A:Around)(outer:List Env)(s:Shared)(H:Hp)(vs:QH)(Q:VK)(E:XK),Up k (A.deeper (envOfC qual scope s.heap.objs.size f cdv))->sp vs H Q E ->
   ∃t,PSs (GD CX P w K mg base N qual scope f cdv A outer s H E) body t/\t { nx:=fun _ H'=>Q .non H',rt:=Q } (start N vs) H):
  Yi P w K mg base CX (k+1) f (PySem.W.fnOf name qual params body scope dV kV doc pm an cdv ct) ps sp:=by
 refine⟨len,fun A outer s H args us vs Q E hr e0 hb r hsp=>?_⟩;have hl:=len _ _ _ _ hsp;have KX:K.In s.heap:=e0.mod.kin.keeps fun b o e=>(e0.bs b o e).1;have lim:s.heap.NoLimit:=e0.mod.nolimit.keeps fun b o e=>(e0.bs b o e).1;have hkind:∀y∈ps.zip us,scope.names.lookup y.1=some .local∨(scope.names.lookup y.1=some .cell/\((cellsFrom (s.heap.objs.size+1) scope.names []).lookup y.1).isSome=true):=fun⟨n,v⟩ hy=>by
  rcases S.par n (N6 hy).1 with q | q
  ·exact .inl q
  ·exact .inr ⟨q,NT _ _ _ (.inl q)⟩
 refine codeAny_call_function hr.depth (KX _ _ lk) rfl S.co S.gen rfl (PySem.W.codeRec_of KX hcd) (hb _ _ _ _ ?_);refine wpAny_newFunctionEnv_cells S.kind hkind fun env he s1 x=>?_;subst he;refine⟨lim.keeps x.toInCall.keep,codeAny_func ?_⟩;obtain⟨t,ht,hq⟩:=hbody A outer s H vs Q E (hr.deeper _) hsp;have I:Inv (GD CX P w K mg base N qual scope f cdv A outer s H E) [] (start N vs) H s1:=Zkz S hr.hd e0 hl r x;refine K6 (ht [] s1 (start N vs) H _ I hq) (fun fl s' hs=>?_) fun e s' hs=>hs;have fin:∀{σ':St}{H':Hp}{v:V}{u:Value},Inv (GD CX P w K mg base N qual scope f cdv A outer s H E) [] σ' H' s'->RelV v u->Q v H'->CE outer P w H s Q u s':=
  fun {σ' H' v u} J rv q=>⟨v,H',J.os,J.bare,J.base,J.hok,rv,q⟩
 cases fl with
 | ret u=>
  obtain⟨v,σ',H',J,rv,q⟩:=hs;exact fin J rv q
 | next=>
  obtain⟨σ',H',J,q⟩:=hs;exact fin (v:=V.non) (u:=Value.none) J rfl q
 | brk=>
  obtain⟨_,_,_,q⟩:=hs;exact False.elim q
 | cont=>
  obtain⟨_,_,_,q⟩:=hs;exact False.elim q
section
variable {X:Cx}{x:Str}{p pos:Pos}{e:Expr}{es:QV}{t:TA}{id T:String}{r:List V->Hp->VK->Prop}
def tCB (r:List V->Hp->VK->Prop)(t:TA):TE:=fun σ H Q=>t σ H fun vs H1=>r vs H1 Q
theorem Zv (hc:YT X (.builtin id) r)(hg:Gl X x)(hm:X.mg x=none)(hv:bootBuiltins x=some (.builtin id))(ha:PA X (e::es) t)(hn:x ≠ "__name__" := by decide)(hdb:(x==("__debug__" : Str))=false:=by decide)
  (he:starEach (e::es) X.env=(false,eval e X.env)::starEach es X.env:=by rfl) (hpl:(backTo pos (starEach es X.env)).any (·.1)=false:=by rfl):PE X (.Call (.Name x p) (e::es) [] pos) (tCB r t):=by
 intro pins s σ H Q I h;refine XU (UU I hg hm hv ?_ hn hdb);exact PyProof.Rows.callWith_builtin1 (YN (ha pos pins s σ H _ I h) fun us s1 ⟨vs,H1,I1,r1,q1⟩=>hc pins s1 σ H1 vs us Q I1 r1 q1) he hpl
theorem Yc (hc:YT X (.type T) r)(hg:Gl X x)(hm:X.mg x=none)(hv:bootBuiltins x=some (.type T))(ha:PA X (e::es) t)(hn:x ≠ "__name__" := by decide)(hdb:(x==("__debug__" : Str))=false:=by decide)
  (he:starEach (e::es) X.env=(false,eval e X.env)::starEach es X.env:=by rfl) (hpl:(backTo pos (starEach es X.env)).any (·.1)=false:=by rfl):PE X (.Call (.Name x p) (e::es) [] pos) (tCB r t):=by
 intro pins s σ H Q I h;refine XU (UU I hg hm hv ?_ hn hdb);exact qa (YN (ha pos pins s σ H _ I h) fun us s1 ⟨vs,H1,I1,r1,q1⟩=>hc pins s1 σ H1 vs us Q I1 r1 q1) he hpl
end
end L2
namespace HT
open PySem PyProof.Rows
section
open PySem.SeqAt
open PySem.AutoSeq1 (wpAny_loadPart')
open PySem.MeetsSeq PySem.MeetsSeq2 PySem.MeetsSeq3
end
section
variable {prog:Program}{w:World}{A:Around}{E:QE}{s:Shared}
theorem Zop {t b:Addr}{vs ws:QJ}{Q:QE}(ht:IsTup s.heap t vs.toArray)(hb:IsTup s.heap b ws.toArray)(hv:vs ≠ [])
  (h1:ws = []->Q (.ref t) s) (h2:ws ≠ []->Q (.ref s.heap.objs.size) { s with heap:=s.heap.push { cls:=.type "tuple", data:=.seq (vs++ws).toArray } })
  (hsz:vs.length+ws.length<=sizeLine):wpAny (model prog w) A (binaryOp .Add (.ref t) (.ref b)) Q E s:=by
 obtain⟨⟨cls,dd,data,sl⟩,ho,hc,n,hd⟩:=id ht;obtain⟨⟨cls2,dd2,data2,sl2⟩,ho2,hc2,n2,hd2⟩:=id hb;simp only at hc hd hc2 hd2;subst hc hd hc2 hd2;have e:vs.toArray++ws.toArray=(vs++ws).toArray:=by simp
 by_cases hw:ws = []
 ·exact concat_meets ⟨_,ho,rfl⟩ ⟨_,ho2,rfl⟩ Nx MF Tb X9 (XQ _ _)
   (tuple_addW1 t b vs.toArray ws.toArray n n2 dd dd2 sl sl2 (by simpa using hv) (by simp[hw])) ⟨ho,ho2,h1 hw⟩
 ·refine concat_meets ⟨_,ho,rfl⟩ ⟨_,ho2,rfl⟩ Nx MF Tb X9 (XQ _ _)
   (tuple_addW2 t b vs.toArray ws.toArray n n2 dd dd2 sl sl2 (by simpa using hv) (by simpa using hw) (by rw[kr,kr];exact hsz)) ⟨ho,ho2,?_⟩
  rw[e];exact h2 hw
def Jy (n d:Nat):Option Int->Nat
 | none=>d
 | some v=>if v<0 then(v+(n:Int)).toNat else min v.toNat n
theorem Zd9 (n d:Nat):Jy n d none=d:=rfl
theorem Zcb (n d k:Nat):Jy n d (some (k:Int))=min k n:=by show (if (k:Int)<0 then((k:Int)+(n:Int)).toNat else min (k:Int).toNat n)=min k n;rw[ki (by lia),kM]
theorem ZqD (n d:Nat)(hd:d<=n)(o:QW):Jy n d o<=n:=by
 cases o with
 | none=>exact hd
 | some v=>
  show (if v<0 then(v+(n:Int)).toNat else min v.toNat n)<=n;by_cases hv:v<0
  ·rw[km hv];lia
  ·rw[ki hv];exact Nat.min_le_right _ _
theorem Zkk (v:Int)(n d:Nat):(if v<0 then max (v+(n:Int)) 0 else min v (n:Int))=((Jy n d (some v):Nat):Int):=by
 show (if v<0 then max (v+(n:Int)) 0 else min v (n:Int))=(((if v<0 then(v+(n:Int)).toNat else min v.toNat n):Nat):Int);by_cases hv:v<0
 ·simp only[km hv];lia
 ·simp only[ki hv];lia
theorem Zif (lo hi:QW)(n:Nat):Builtin.Slice.sliceAdjust lo hi 1 (n:Int)=(((Jy n 0 lo:Nat):Int),((Jy n n hi:Nat):Int)):=by
 have h1:¬((1:Int)<0):=by lia
 unfold Builtin.Slice.sliceAdjust;simp only[h1,XB];refine Prod.ext ?_ ?_
 ·cases lo with
  | none=>rfl
  | some v=>exact Zkk v n 0
 ·cases hi with
  | none=>rfl
  | some v=>exact Zkk v n n
theorem ZiX (i j:Nat):Builtin.Slice.slicePlaces (i:Int) (j:Int) 1=j-i:=by
 unfold Builtin.Slice.slicePlaces;have h1:(1:Int)>0:=by lia
 simp only[h1,Tu,Int.ediv_one];split<;>lia
theorem ZeG {v:Value}{o:QW}{Q:Option Int->Shared->Prop}(p:IsPart v o)(h:Q o s):wpAny (model prog w) A (Builtin.Slice.slicePartIndex v) Q E s:=by
 cases p with
 | none=>exact slicePart_none h
 | int i t=>exact slicePart_int h
theorem UH {sl:Addr}{vl vu:Value}{lo hi:QW}{n:Nat}{Q:Int×Int×Nat->Shared->Prop}(hs:s.heap.IsSliceOf sl vl vu .none)(pl:IsPart vl lo)(pu:IsPart vu hi)
  (h:Q (((Jy n 0 lo:Nat):Int),1,Jy n n hi-Jy n 0 lo) s):wpAny (model prog w) A (Builtin.Slice.sliceApplied (.ref sl) (pure (n:Int))) Q E s:=by
 obtain⟨os,hos,hcs,hds⟩:=id hs;unfold Builtin.Slice.sliceApplied Builtin.Slice.sliceFields;refine kg (kg (qy hos hds (x:=vl) rfl (kg (qy hos hds (x:=vu) rfl (kg (qy hos hds (x:=.none) rfl (kH ?_)))))));refine kg (slicePart_none ?_);show wpAny _ _ (if ((1:Int)==0)=true then _ else _) _ _ s;rw[ki (by decide)];refine kg (ZeG pl (kg (ZeG pu (kg (kH ?_)))));show wpAny _ _ (match Builtin.Slice.sliceAdjust lo hi 1 (n:Int) with | (lo,hi)=>pure (lo,(1:Int),Builtin.Slice.slicePlaces lo hi 1)) _ _ s;rw[Zif lo hi n];show wpAny _ _ (pure (((Jy n 0 lo:Nat):Int),(1:Int),Builtin.Slice.slicePlaces ((Jy n 0 lo:Nat):Int) ((Jy n n hi:Nat):Int) 1)) _ _ s;rw[ZiX];exact kH h
theorem ZlP (xs:QY)(i k:Nat):((List.range k).filterMap fun(m:Nat)=>xs[((i:Int)+(m:Int)*1).toNat]?).toArray=((xs.toList.drop i).take k).toArray:=by
 have e:(fun(m:Nat)=>xs[((i:Int)+(m:Int)*1).toNat]?)=fun m=>xs[i+m]?:=by
  funext m;have:((i:Int)+(m:Int)*1).toNat=i+m:=by lia
  rw[this]
 rw[e];have:=pick_run xs i k;rw[ML] at this;have e2:((fun x=>xs[x]?) ∘ fun x=>i+x)=fun m=>xs[i+m]?:=rfl;rw[e2] at this;rw[this]
theorem Zb7 {t sl:Addr}{items:QY}{vl vu:Value}{lo hi:QW}{Q:QE}(ht:IsTup s.heap t items)(hs:s.heap.IsSliceOf sl vl vu .none)(pl:IsPart vl lo)(pu:IsPart vu hi)
  (hw:¬(Jy items.size 0 lo=0/\Jy items.size items.size hi=items.size))
  (h:Q (.ref s.heap.objs.size) { s with heap:=s.heap.push { cls:=.type "tuple", data:=.seq ((items.toList.drop (Jy items.size 0 lo)).take (Jy items.size items.size hi-Jy items.size 0 lo)).toArray } })
  (hsz:items.size<=sizeLine):wpAny (model prog w) A (getItem (.ref t) (.ref sl)) Q E s:=by
 have htake:sizeOk (.seq ((items.toList.drop (Jy items.size 0 lo)).take (Jy items.size items.size hi-Jy items.size 0 lo)).toArray):=by show ((items.toList.drop (Jy items.size 0 lo)).take (Jy items.size items.size hi-Jy items.size 0 lo)).toArray.size<=sizeLine;rw[kr,kL,Ks,kY];lia
 have hj:Jy items.size items.size hi<=items.size:=ZqD _ _ (kj _) hi;obtain⟨os,hos,hcs,hds⟩:=id hs;have hTs:s.TypeIs (.ref sl) "slice" := ⟨os,hos,hcs⟩;unfold getItem
 try with_reducible refine KL ?_
 first | refine kg (kH ?_) | skip
 refine kg (Nh ht.typeIs (by decide) ?_);refine kg (qQ (name:=Str.ofString "__getitem__") ht.typeIs qc
  (qC qc ht.typeIs entry_tuple_getitem ?_ (args_tuple_getitem _ _)))
 show wpAny _ _ (Builtin.Tuple.tupleItemsOf (.ref t) >>= _) _ _ s;refine kg (tupleItemsOf_ ht ?_);refine kg (qL hTs ?_);rw[km (by decide)];refine kg (UH hs pl pu ?_);have hno:¬((((Jy items.size 0 lo:Nat):Int)==0&&(1:Int)==1&&(Jy items.size items.size hi-Jy items.size 0 lo)==items.size)=true):=by intro q;rw[Kj,Kj] at q;have q1:((Jy items.size 0 lo:Nat):Int)=0:=eq_of_beq q.1.1;have q2:Jy items.size items.size hi-Jy items.size 0 lo=items.size:=eq_of_beq q.2;exact hw ⟨by lia,by lia⟩
 show wpAny _ _ (if (((Jy items.size 0 lo:Nat):Int)==0&&(1:Int)==1&&(Jy items.size items.size hi-Jy items.size 0 lo)==items.size)=true then _ else _) _ _ s;rw[ki hno,ZlP]
 first
  | exact kg (m:=Builtin.Tuple.tupleExact _) (qp (kH ⟨_,rfl,kH h⟩) htake)
  | exact kg (m:=Builtin.Tuple.tupleExact _) (qp (kg (kH (kH ⟨_,rfl,kH h⟩))) htake)
  | exact kg (kg (m:=Builtin.Tuple.tupleExact _) (qp (kH (kH ⟨_,rfl,kH h⟩)) htake))
  | exact kg (kg (m:=Builtin.Tuple.tupleExact _) (qp (kH ⟨_,rfl,kH h⟩) htake))
end
end HT
namespace L2
open PySem PySem.Spec PyProof.Rows
abbrev TO:=St->Hp->(Option Int->Hp->Prop)->Prop
def PO (X:Cx)(e:Option Expr)(t:TO):Prop:=
 ∀(pins:QC)(s:Shared)(σ:St)(H:Hp)(Q:Option Int->Hp->Prop),Inv X pins σ H s->t σ H Q ->
  wpAny (model X.prog X.w) X.A (evalPart e X.env) (fun u s'=>∃o H',Inv X pins σ H' s'/\IsPart u o/\Q o H') X.xe s
def Zbj:TO:=fun _ H Q=>Q none H
inductive Znp(Q:Option Int->Hp->Prop)(x:V)(H1:Hp):Prop|mk(i)(_:x = .int i)(_:Q (some i) H1)
def ZrI (t:TE):TO:=fun σ H Q=>t σ H fun x H1=>Znp Q x H1
section
variable {X:Cx}{e:Expr}{te:TE}{lo hi:Option Expr}{tl th:TO}{pos p2:Pos}
theorem Yy:PO X none Zbj:=by intro pins s σ H Q I h;rw[Tv];exact kH ⟨none,H,I,.none,h⟩
theorem ZW (h:PE X e te):PO X (some e) (ZrI te):=by intro pins s σ H Q I hw;rw[evalPart_some];refine YN (h pins s σ H _ I hw) fun u s1 ⟨x,H1,I1,r1,q1⟩=>?_;obtain⟨i,rfl,q⟩:=q1;obtain⟨t,rfl⟩:=r1;exact⟨some i,H1,I1,.int i t,q⟩
def SlR (X:Cx)(r:V->Option Int->Option Int->Hp->VK->Prop):Prop:=
 ∀(pins:QC)(s:Shared)(σ:St)(H:Hp)(x:V)(v vl vu:Value)(lo hi:QW)(sl:Addr)(Q:VK),Inv X pins σ H s->RelV x v->s.heap.IsSliceOf sl vl vu .none->IsPart vl lo->IsPart vu hi->r x lo hi H Q ->
  ∃T id,typeLookup (.type T) "__getitem__" = pure (some (.builtin id))/\s.TypeIs v T/\wpAny (model X.prog X.w) X.A (getItem v (.ref sl)) (EP X pins σ Q) X.xe s
def tSl (r:V->Option Int->Option Int->Hp->VK->Prop)(te:TE)(tl th:TO):TE:=fun σ H Q=>te σ H fun x H1=>tl σ H1 fun l H2=>th σ H2 fun u H3=>r x l u H3 Q
theorem Z7 {r:V->Option Int->Option Int->Hp->VK->Prop}(hr:SlR X r)(he:PE X e te)(hl:PO X lo tl)(hu:PO X hi th):PE X (.Subscript e (.Slice lo hi none p2) pos) (tSl r te tl th):=by intro pins s σ H Q I h;refine Subscript_ (YN (he pins s σ H _ I h) fun v s1 ⟨x,H1,I1,r1,q1⟩=>?_);refine Mh (YN (hl pins s1 σ H1 _ I1 q1) fun vl s2 ⟨l,H2,I2,pl,q2⟩=>YN (hu pins s2 σ H2 _ I2 q2) fun vu s3 ⟨u,H3,I3,pu,q3⟩=>?_);rw[Tv];refine kH ?_;have I4:Inv X pins σ H3 { s3 with heap:=s3.heap.push { cls:=.type "slice", data:=.fields #[vl,vu,.none] } }:=I3.kept (t':=s3.toks) fun b ob q=>kC _ q;obtain⟨T,id,hT,ht,hg⟩:=hr pins { s3 with heap:=s3.heap.push { cls:=.type "slice", data:=.fields #[vl,vu,.none] } } σ H3 x v vl vu l u s3.heap.objs.size Q I4 r1 (XW ..) pl pu q3;show wpAny (model X.prog X.w) X.A (subscriptTail e (.Slice lo hi none p2) v (.ref s3.heap.objs.size)) (EP X pins σ Q) X.xe { s3 with heap:=s3.heap.push { cls:=.type "slice", data:=.fields #[vl,vu,.none] } };exact tail_any (ops:=[.ref s3.heap.objs.size,v]) ht hT hg (by with_unfolding_all rfl)
def W3 (xs:QH)(lo hi:QW):QH:=(xs.drop (HT.Jy xs.length 0 lo)).take (HT.Jy xs.length xs.length hi-HT.Jy xs.length 0 lo)
theorem Zc4 (xs:QH)(lo hi:QW):(W3 xs lo hi).length<=xs.length:=by unfold W3;rw[kL,Ks];lia
inductive ZrO(K:QF)(x:V)(lo hi:QW)(H:Hp)(Q:VK):Prop|mk(a xs)(_:x = .ref a)(_:Y9 K H a xs)(_:¬(HT.Jy xs.length 0 lo=0/\HT.Jy xs.length xs.length hi=xs.length))(_:∀p,H p=none->Q (.ref p) (upd H p (.tup (W3 xs lo hi))))
theorem Zqn:SlR X (ZrO X.K):=by
 intro pins s σ H x v vl vu lo hi sl Q I rx hs pl pu h;obtain⟨a,xs,rfl,hx,hw,q⟩:=h;cases rx;obtain⟨its,r,ht,hz⟩:=I.tuple hx;have hlen:its.toArray.size=xs.length:=by rw[kr];exact r.length.symm
 refine⟨"tuple", _,qc.lookup,ht.typeIs,?_⟩;refine HT.Zb7 ht hs pl pu (by rw[hlen];exact hw) ?_ (by rw[hlen];exact hz);rw[hlen];refine⟨.ref s.heap.objs.size,_,I.laid (t':=s.toks) (o:=.tup (W3 xs lo hi)) (fun b ob q=>kC _ q) (kj _) ?_,rfl,q _ (I.hok.fresh (kj _))⟩;exact⟨Kb (Zc4 xs lo hi) hz,_,(r.drop (HT.Jy xs.length 0 lo)).take (HT.Jy xs.length xs.length hi-HT.Jy xs.length 0 lo),IsTup.new _ _⟩
end
def ixN (n:Nat)(i:Int):Option Nat:=if 0<=i then(if i<n then some i.toNat else none) else if -(n:Int)<=i then some (i+n).toNat else none
def atI {α:Type}(xs:List α)(i:Int):Option α:=(ixN xs.length i).bind fun j=>xs[j]?
theorem Zjg {n:Nat}{i:Int}{j:Nat}(h:ixN n i=some j):seqIndex? i n=some j/\j<n /\ -(n:Int)<=i/\i<n:=by
 unfold ixN at h;by_cases h0:0<=i
 ·rw[km h0] at h;by_cases h1:i<n
  ·rw[km h1] at h;have e:i.toNat=j:=Ka h;exact⟨by rw[Mi h0 h1,e],by lia,by lia,h1⟩
  ·rw[ki h1] at h;cases h
 ·rw[ki h0] at h;by_cases h1 : -(n:Int)<=i
  ·rw[km h1] at h;have e:(i+n).toNat=j:=Ka h;exact⟨by rw[seqIndex_neg (by lia) h1,e],by lia,h1,by lia⟩
  ·rw[ki h1] at h;cases h
theorem ZjJ {α:Type}{xs:List α}{i:Int}{v:α}(h:atI xs i=some v):∃j,seqIndex? i xs.length=some j/\xs[j]? = some v/\j<xs.length /\ -(xs.length:Int)<=i/\i<xs.length:=by
 unfold atI at h;cases e:ixN xs.length i with
 | none=>rw[e] at h;cases h
 | some j=>
  rw[e] at h;obtain⟨h1,h2,h3,h4⟩:=Zjg e;exact⟨j,h1,h,h2,h3,h4⟩
theorem Zo {α:Type}{xs:List α}{j:Nat}{v:α}(h:xs[j]? = some v):atI xs (j:Int)=some v:=by
 have hj:j<xs.length:=(kz.mp h).1;have e:ixN xs.length (j:Int)=some j:=by unfold ixN;rw[km (by lia),km (by lia)];simp
 unfold atI;rw[e];exact h
theorem Uz {α:Type}(xs:List α)(v:α):atI (xs ++ [v]) (-1)=some v:=by
 have hl:(xs ++ [v]).length=xs.length+1:=by simp
 have e:ixN (xs ++ [v]).length (-1)=some xs.length:=by unfold ixN;rw[hl,ki (by decide),km (by lia)];congr 1;lia
 unfold atI;rw[e];show (xs ++ [v])[xs.length]? = some v;simp
def Zon (b:Expr):Prop:=∀o i,subscripted b false o i=operate [o,i] (getItem o i)
def IxR (X:Cx)(r:R2):Prop:=
 ∀(value slice:Expr)(pins:QC)(s:Shared)(σ:St)(H:Hp)(x y:V)(v u:Value)(Q:VK),Inv X pins σ H s->RelV x v->RelV y u->r x y H Q ->
  subscripted slice false v u=operate [v,u] (getItem v u)->wpAny (model X.prog X.w) X.A (subscriptTail value slice v u) (EP X pins σ Q) X.xe s
def MtR (X:Cx)(id:String)(r:V->List V->Hp->VK->Prop):Prop:=
 ∀(pins:QC)(s:Shared)(σ:St)(H:Hp)(x:V)(xs:QH)(v:Value)(us:QJ)(Q:VK),Inv X pins σ H s->RelV x v->Vals xs us->r x xs H Q ->
  wpAny (model X.prog X.w) X.A (call (.builtin id) (v::us)) (EP X pins σ Q) X.xe s
section
variable {X:Cx}{a b:Expr}{ta tb:TE}{pos:Pos}
theorem Zx {r:R2}(hr:IxR X r)(ha:PE X a ta)(hb:PE X b tb)(hs:Zon b):PE X (.Subscript a b pos) (tOp r ta tb):=by intro pins s σ H Q I h;exact Subscript_ (ZpN ha hb I h fun v u s2 x y H2 I2 rx ry q=>hr a b pins s2 σ H2 x y v u Q I2 rx ry q (hs _ _))
inductive Znt(K:QF)(x y:V)(H:Hp)(Q:VK):Prop|mk(p xs i v)(_:x = .ref p)(_:y = .int i)(_:Zt K H p xs)(_:atI xs i=some v)(_:Q v H)
inductive Zq5(K:QF)(x y:V)(H:Hp)(Q:VK):Prop|mk(p xs i v)(_:x = .ref p)(_:y = .int i)(_:Y9 K H p xs)(_:atI xs i=some v)(_:Q v H)
theorem Zn8:IxR X (Znt X.K):=by
 intro value slice pins s σ H x y v u Q I rx ry h hs;obtain⟨p,xs,i,z,rfl,rfl,hq,he,q⟩:=h;cases rx;obtain⟨t,rfl⟩:=ry;obtain⟨its,r,pl,hz⟩:=I.list hq;obtain⟨j,h1,h2,h3,h4,h5⟩:=ZjJ he;obtain⟨w,ew,rw'⟩:=r.get h2;have hl:=r.length;have hn:=Zez;have fin:EP X pins σ Q w s:=⟨z,H,I,rw',q⟩;by_cases h0:0<=i
 ·have hj:i.toNat=j:=by
   rw[Mi h0 h5] at h1;exact Ka h1
  exact item_listR pl.isList h0 (by lia) (by rw[hj];simpa using ew) fin hs
 ·have hj:(i+(its.toArray.size:Int)).toNat=j:=by
   rw[seqIndex_neg (by lia) h4] at h1;rw[kr,<- hl];exact Ka h1
  exact subscriptTail_builtinR (x:=w) pl.isList.typeIs Ni.lookup
   (wpAny_getItem_list_neg (Q:=fun r s'=>r=w/\EP X pins σ Q r s') pl.isList (by lia) (by rw[kr]<;>lia) (by lia) (by rw[hj];simpa using ew) ⟨rfl,fin⟩) hs
theorem Zqq:IxR X (Zq5 X.K):=by
 intro value slice pins s σ H x y v u Q I rx ry h hs;obtain⟨p,xs,i,z,rfl,rfl,hq,he,q⟩:=h;cases rx;obtain⟨t,rfl⟩:=ry;obtain⟨its,r,pl,hz⟩:=I.tuple hq;obtain⟨j,h1,h2,h3,h4,h5⟩:=ZjJ he;obtain⟨w,ew,rw'⟩:=r.get h2;have hl:=r.length;have hn:=Zez;have fin:EP X pins σ Q w s:=⟨z,H,I,rw',q⟩;exact subscriptTail_builtinR (x:=w) pl.typeIs slot_tuple_getitem.lookup
  (getItem_tuple (j:=j) (Q:=fun r s'=>r=w/\EP X pins σ Q r s') pl (by lia) (by lia) (by rw[kr,<- hl];exact h1) (by simpa using ew) ⟨rfl,fin⟩) hs
theorem Zic (its:QJ)(n j:Nat)(u:Value):Obj.mapSeq (·.setIfInBounds j u) { cls:=.type "list", data:=.seq its.toArray n } = { cls:=.type "list", data:=.seq (its.set j u).toArray n }:=by simp[Obj.mapSeq]
theorem Inv.lst {pins:QC}{σ:St}{H:Hp}{s:Shared}{p:Addr}{xs:QH}(I:Inv X pins σ H s)(h:H p=some (.lst xs)):
  ∃(its:QJ)(n:Nat),Vals xs its/\s.heap.get? p=some { cls:=.type "list", data:=.seq its.toArray n } /\ xs.length<=sizeLine:=by
 obtain⟨z,its,n,r,e⟩:=I.hok p _ h;exact⟨its,n,r,e,z⟩
theorem Inv.lstUpd {pins:QC}{σ:St}{H:Hp}{s:Shared}{p:Addr}{xs ys:QH}{its its':QJ}{n n':Nat}{f:Obj->Obj}(I:Inv X pins σ H s)(h:H p=some (.lst xs))
  (ho:s.heap.get? p=some { cls:=.type "list", data:=.seq its.toArray n }) (hf:f { cls:=.type "list", data:=.seq its.toArray n } = { cls:=.type "list", data:=.seq its'.toArray n' }) (r:Vals ys its') (hz:ys.length<=sizeLine) (t:Nat):
  Inv X pins σ (upd H p (.lst ys)) { s with heap:=s.heap.update p f,toks:=t }:=by
 have e:(s.heap.update p f).get? p=some { cls:=.type "list", data:=.seq its'.toArray n' }:=by rw[qY f ho (by rw[hf]<;>rfl),hf]
 refine I.write (x:=p) (e:=p) (by rw[h];trivial) (.inl rfl) (fun b u hb q=>(Tc _ _ (KG hb)).trans q) ⟨_,e⟩ ?_;exact⟨hz,its',n',r,e⟩
inductive ZoY(o i v:V)(H:Hp)(Q:Hp->Prop):Prop|mk(p xs k j)(_:o = .ref p)(_:i = .int k)(_:H p=some (.lst xs))(_:ixN xs.length k=some j)(_:Q (upd H p (.lst (xs.set j v))))
theorem set_list:ZqM X ZoY:=by
 intro pins s σ H o i v ov iv u Q I ro ri rv h;obtain⟨p,xs,k,j,rfl,rfl,hp,hj,q⟩:=h;cases ro;obtain⟨t,rfl⟩:=ri;obtain⟨its,n,r,ho,hz⟩:=I.lst hp;obtain⟨h1,h2,h3,h4⟩:=Zjg hj;have hl:=r.length;have hn:=Zez;have I':Inv X pins σ (upd H p (.lst (xs.set j v))) { s with heap:=s.heap.update p (Obj.mapSeq (·.setIfInBounds j u)) }:=
  I.lstUpd hp ho (Zic its n j u) (r.set rv j) (by rw[KY];exact hz) s.toks
 by_cases h0:0<=k
 ·have hk:k.toNat=j:=by
   rw[Mi h0 h4] at h1;exact Ka h1
  exact PySem.W.ki_setAt ho h0 (by lia) (by rw[kr,<- hl];exact h4) (by rw[hk];exact⟨_,I',q⟩)
 ·have hk:(k+(its.toArray.size:Int)).toNat=j:=by
   rw[seqIndex_neg (by lia) h3] at h1;rw[kr,<- hl];exact Ka h1
  exact PySem.W.ki_setBack ho (by lia) (by rw[kr,<- hl];exact h3) (by lia) (by rw[hk];exact⟨_,I',q⟩)
theorem Zf6 (lo hi:QW)(n:Nat):(sliceBounds lo hi none n).1=((HT.Jy n 0 lo:Nat):Int)/\(sliceBounds lo hi none n).2.1=((HT.Jy n n hi:Nat):Int)/\(sliceBounds lo hi none n).2.2=1:=by
 refine⟨?_,?_,rfl⟩
 ·cases lo with
  | none=>simp[sliceBounds,HT.Jy]
  | some i=>
   simp only[sliceBounds,HT.Jy,Ny,show (1:Int)>0 by decide,Tu];by_cases h:i<0
   ·simp only[h,Tu]<;>lia
   ·simp only[h,XB]<;>lia
 ·cases hi with
  | none=>simp[sliceBounds,HT.Jy]
  | some i=>
   simp only[sliceBounds,HT.Jy,Ny,show (1:Int)>0 by decide,Tu];by_cases h:i<0
   ·simp only[h,Tu]<;>lia
   ·simp only[h,XB]<;>lia
theorem ZeW (its:QJ)(lo hi:QW):slicePick its.toArray lo hi none=((its.drop (HT.Jy its.length 0 lo)).take (HT.Jy its.length its.length hi-HT.Jy its.length 0 lo)).toArray:=by obtain⟨h1,h2,h3⟩:=Zf6 lo hi its.toArray.size;unfold slicePick;rw[h1,h2,h3];simp only[sliceRange_one,pick_run,kr]<;>rfl
inductive ZqZ(K:QF)(x:V)(lo hi:QW)(H:Hp)(Q:VK):Prop|mk(a xs)(_:x = .ref a)(_:Zt K H a xs)(_:∀p,H p=none->Q (.ref p) (upd H p (.lst (W3 xs lo hi))))
theorem ZoN:SlR X (ZqZ X.K):=by intro pins s σ H x v vl vu lo hi sl Q I rx hs pl pu h;obtain⟨a,xs,rfl,hx,q⟩:=h;cases rx;obtain⟨its,r,ht,hz⟩:=I.list hx;have hlen:=r.length;refine⟨"list", _,Ni.lookup,ht.isList.typeIs,?_⟩;refine Nn ht.isList hs pl pu .none (by simp) ?_ (by rw[kr]<;>lia);rw[ZeW,<- hlen];refine⟨.ref s.heap.objs.size,_,I.laid (t':=s.toks) (o:=.lst (W3 xs lo hi)) (fun b ob q=>kC _ q) (kj _) ?_,rfl,q _ (I.hok.fresh (kj _))⟩;exact⟨Kb (Zc4 xs lo hi) hz,_,0,(r.drop (HT.Jy xs.length 0 lo)).take (HT.Jy xs.length xs.length hi-HT.Jy xs.length 0 lo),Kl _ rfl⟩
def W8:V->Bool
 | .non=>true
 | .bl _=>true
 | .int _=>true
 | .str _=>true
 | _=>false
def eqV:V->V->Bool
 | .non,.non=>true
 | .bl a,.bl b=>a==b
 | .bl a,.int b=>(if a then 1 else 0)==b
 | .int a,.bl b=>a==(if b then 1 else 0)
 | .int a,.int b=>a==b
 | .str a,.str b=>a==b
 | _,_=>false
theorem Zl8 {A:Around}{s:Shared}{y x:V}{u v:Value}(ry:RelV y u)(rx:RelV x v)(fy:W8 y=true)(fx:W8 x=true):SeqAt.EqAt A s u v (eqV y x):=by
 cases y with
 | non=>
  cases ry;cases x with
  | non=>cases rx;exact TL _
  | bl b=>cases rx;exact SeqAt.EqAt.none_bool b
  | int b=>obtain⟨t,rfl⟩:=rx;exact SeqAt.EqAt.none_int b t
  | str b=>obtain⟨t,rfl⟩:=rx;exact SeqAt.EqAt.none_str b t
  | _=>exact absurd (show false=true from fx) kP
 | bl a=>
  cases ry;cases x with
  | non=>cases rx;exact SeqAt.EqAt.bool_none a
  | bl b=>cases rx;exact SeqAt.EqAt.bool_bool a b
  | int b=>obtain⟨t,rfl⟩:=rx;exact SeqAt.EqAt.bool_int a b t
  | str b=>obtain⟨t,rfl⟩:=rx;exact SeqAt.EqAt.bool_str a b t
  | _=>exact absurd (show false=true from fx) kP
 | int a=>
  obtain⟨t',rfl⟩:=ry;cases x with
  | non=>cases rx;exact SeqAt.EqAt.int_none a t'
  | bl b=>cases rx;exact SeqAt.EqAt.int_bool a t' b
  | int b=>obtain⟨t,rfl⟩:=rx;exact SeqAt.EqAt.int_int a t' b t
  | str b=>obtain⟨t,rfl⟩:=rx;exact SeqAt.EqAt.int_str a t' b t
  | _=>exact absurd (show false=true from fx) kP
 | str a=>
  obtain⟨t',rfl⟩:=ry;cases x with
  | non=>cases rx;exact SeqAt.EqAt.str_none a t'
  | bl b=>cases rx;exact SeqAt.EqAt.str_bool a t' b
  | int b=>obtain⟨t,rfl⟩:=rx;exact SeqAt.EqAt.str_int a t' b t
  | str b=>obtain⟨t,rfl⟩:=rx;exact SeqAt.EqAt.str_str a t' b t
  | _=>exact absurd (show false=true from fx) kP
 | _=>exact absurd (show false=true from fy) kP
def eqU (x:V)(u:Value):Bool:=match u with
 | .none=>eqV .non x
 | .bool b=>eqV (.bl b) x
 | .int i _=>eqV (.int i) x
 | .str z _=>eqV (.str z) x
 | _=>false
theorem ZiF {x y:V}{u:Value}(r:RelV y u)(f:W8 y=true):eqU x u=eqV y x:=by
 cases y with
 | non=>cases r;rfl
 | bl b=>cases r;rfl
 | int i=>obtain⟨t,rfl⟩:=r;rfl
 | str z=>obtain⟨t,rfl⟩:=r;rfl
 | _=>exact absurd (show false=true from f) kP
theorem Zcf {x:V}:∀{xs:QH}{us:QJ},Vals xs us->xs.all W8=true->us.any (eqU x)=xs.any fun y=>eqV y x
 | _,_,.nil,_=>rfl
 | y::xs,u::us,.cons r t,f=>by rw[Tw,Kj] at f;rw[XR,XR,ZiF r f.1,Zcf t f.2]
theorem UJ {A:Around}{s:Shared}{x:V}{v:Value}(rx:RelV x v)(fx:W8 x=true):∀{xs:QH}{us:QJ},Vals xs us->xs.all W8=true -> ∀u∈us,SeqAt.EqAt A s u v (eqU x u)
 | _,_,.nil,_=>fun u hu=>by cases hu
 | y::xs,u::us,.cons r t,f=>fun u' hu=>by
  rw[Tw,Kj] at f;rcases kO.mp hu with rfl | hu
  ·rw[ZiF r f.1];exact Zl8 r rx f.1 fx
  ·exact UJ rx fx t f.2 u' hu
def inV (x:V)(xs:QH):Bool:=xs.any fun y=>eqV y x
inductive rIn(K:QF)(neg:Bool)(x y:V)(H:Hp)(Q:VK):Prop|mk(p xs)(_:y = .ref p)(_:Zt K H p xs∨Y9 K H p xs)(_:W8 x=true)(_:xs.all W8=true)(_:Q (.bl (if neg then !inV x xs else inV x xs)) H)
theorem Zkr:Us X (compareOp .In) (rIn X.K false):=by
 intro pins s σ H x y v u Q I rx ry h;obtain⟨p,xs,rfl,hq,fx,fs,q⟩:=h;cases ry;rcases hq with hq | hq
 ·obtain⟨its,r,pl,hz⟩:=I.list hq;refine SeqAt.in_listAt (eqU x) pl.isList (fun w hw=>UJ rx fx r fs w (by simpa using hw)) ⟨.bl _,H,I,rfl,?_⟩;rw[show its.toArray.any (eqU x)=its.any (eqU x) by simp,Zcf r fs];exact q
 ·obtain⟨its,r,pl,hz⟩:=I.tuple hq;refine SeqAt.in_tupleAt (eqU x) pl (fun w hw=>UJ rx fx r fs w (by simpa using hw)) ⟨.bl _,H,I,rfl,?_⟩;rw[show its.toArray.any (eqU x)=its.any (eqU x) by simp,Zcf r fs];exact q
theorem Zgu:Us X (compareOp .NotIn) (rIn X.K true):=by
 intro pins s σ H x y v u Q I rx ry h;obtain⟨p,xs,rfl,hq,fx,fs,q⟩:=h;cases ry;rcases hq with hq | hq
 ·obtain⟨its,r,pl,hz⟩:=I.list hq;refine SeqAt.notIn_listAt (eqU x) pl.isList (fun w hw=>UJ rx fx r fs w (by simpa using hw)) ⟨.bl _,H,I,rfl,?_⟩;rw[show its.toArray.any (eqU x)=its.any (eqU x) by simp,Zcf r fs];exact q
 ·obtain⟨its,r,pl,hz⟩:=I.tuple hq;refine SeqAt.notIn_tupleAt (eqU x) pl (fun w hw=>UJ rx fx r fs w (by simpa using hw)) ⟨.bl _,H,I,rfl,?_⟩;rw[show its.toArray.any (eqU x)=its.any (eqU x) by simp,Zcf r fs];exact q
inductive Znb(K:QF)(xs:QH)(H:Hp)(Q:VK):Prop|mk(p ys)(_:xs = [.ref p])(_:Zt K H p ys∨Y9 K H p ys)(_:Q (.int ys.length) H)
theorem Zgs:YT X (.builtin "len") (Znb X.K):=by
 intro pins s σ H xs us Q I r h;obtain⟨p,ys,rfl,hq,q⟩:=h;obtain⟨u,rfl,rx⟩:=vals1 r;cases rx;have hn:=Zez;rcases hq with hq | hq
 ·obtain⟨its,r',pl,hz⟩:=I.list hq;have hlen:=r'.length;exact Calls.call_len_list pl.isList (by simp only[kr]<;>lia) ⟨.int ys.length,H,I.tok _,⟨s.toks+1,by rw[kr,hlen]⟩,q⟩
 ·obtain⟨its,r',pl,hz⟩:=I.tuple hq;have hlen:=r'.length;exact len_tuple pl (by simp only[kr]<;>lia) ⟨.int ys.length,H,I.tok _,⟨s.toks+1,by rw[kr,hlen]⟩,q⟩
inductive ZgV(K:QF)(xs:QH)(H:Hp)(Q:VK):Prop|mk(p ys)(_:xs = [.ref p])(_:Zt K H p ys∨Y9 K H p ys)(_:∀l,H l=none->Q (.ref l) (upd H l (.lst ys)))
theorem Zf5:YT X (.type "list") (ZgV X.K):=by
 intro pins s σ H xs us Q I r h;obtain⟨p,ys,rfl,hq,q⟩:=h;obtain⟨u,rfl,rx⟩:=vals1 r;cases rx;have fin:∀(its:QJ),Vals ys its->ys.length<=sizeLine -> ∀(h':Heap)(c':Nat),(∀b o',s.heap.get? b=some o'->h'.get? b=some o') ->
   h'.get? s.heap.objs.size=some { cls:=.type "list", dict:=none,data:=.seq its.toArray c',slots:=#[] } -> EP X pins σ Q (.ref s.heap.objs.size) { s with heap:=h' }:=fun its r' hz h' c' kp e=>
  ⟨.ref s.heap.objs.size,_,I.laid (t':=s.toks) kp (kj _) (show YA X.prog X.w _ h' _ (.lst ys) from⟨hz,its,c',r',e⟩),rfl,q _ (I.hok.fresh (kj _))⟩
 rcases hq with hq | hq
 ·obtain⟨its,r',pl,hz⟩:=I.list hq;have hlen:=r'.length;obtain⟨o,ho,hc,n,hd⟩:=pl.isList;exact call_list_seq p (.inl rfl) ho hc hd (fun h' c' kp e=>fin its r' hz h' c' kp e) (by simp only[kr]<;>lia)
 ·obtain⟨its,r',pl,hz⟩:=I.tuple hq;have hlen:=r'.length;obtain⟨o,ho,hc,n,hd⟩:=pl;exact call_list_seq p (.inr rfl) ho hc hd (fun h' c' kp e=>fin its r' hz h' c' kp e) (by simp only[kr]<;>lia)
inductive ZmK(K:QF)(xs:QH)(H:Hp)(Q:VK):Prop|mk(p ys)(_:xs = [.ref p])(_:(Zt K H p ys /\ ∀l,H l=none->Q (.ref l) (upd H l (.tup ys)))∨(Y9 K H p ys/\Q (.ref p) H))
theorem Ze0:YT X (.type "tuple") (ZmK X.K):=by
 intro pins s σ H xs us Q I r h;obtain⟨p,ys,rfl,h⟩:=h;obtain⟨u,rfl,rx⟩:=vals1 r;cases rx;rcases h with⟨hq,q⟩ | ⟨hq,q⟩
 ·obtain⟨its,r',pl,hz⟩:=I.list hq;have hlen:=r'.length;refine call_tuple_list pl.isList (fun h' kp=>?_) (by simp only[kr]<;>lia);have I1:Inv X pins σ H { s with heap:=h' }:=I.kept (t':=s.toks) kp;have I2:Inv X pins σ (upd H h'.objs.size (.tup ys)) { s with heap:=h'.push { cls:=.type "tuple", data:=.seq its.toArray } }:=
   I1.laid (t':=s.toks) (fun b o e=>kC _ e) (kj _) (show YA X.prog X.w _ _ _ (.tup ys) from⟨hz,its,r',IsTup.new _ _⟩)
  exact⟨.ref h'.objs.size,_,I2,rfl,q _ (I1.hok.fresh (kj _))⟩
 ·obtain⟨its,r',pl,hz⟩:=I.tuple hq;exact call_tuple_same pl ⟨.ref p,H,I,rfl,q⟩
def tyV (K:QF)(T:String)(x:V)(H:Hp):Prop:=match x with
 | .str _=>T = "str"
 | .int _=>T = "int"
 | .ref p=>(T = "list" /\ ∃xs,Zt K H p xs)∨(T = "tuple" /\ ∃o,K.lookup p=some o/\o.cls = .type "tuple" /\ o.dict=none) ∨
   (T = "dict" /\ ((∃kvs,H p=some (.dK kvs)) ∨ ∃kvs,H p=some (.dT kvs)))∨(T = "set" /\ ∃S n,H p=some (.set S n))
 | _=>False
theorem Zq2 {pins:QC}{σ:St}{H:Hp}{s:Shared}{T:String}{x:V}{v:Value}(I:Inv X pins σ H s)(r:RelV x v)(ty:tyV X.K T x H):
  s.TypeIs v T /\ ∀a,v = .ref a -> ∃ob,s.heap.get? a=some ob/\ob.dict=none:=by
 cases x with
 | str z=>
  obtain⟨t,rfl⟩:=r;cases (show T = "str" from ty);exact⟨typeIs_str s z t,fun _ e=>nomatch e⟩
 | int i=>
  obtain⟨t,rfl⟩:=r;cases (show T = "int" from ty);exact⟨typeIs_int s i t,fun _ e=>nomatch e⟩
 | ref p=>
  cases r;rcases ty with⟨rfl,xs,hq⟩ | ⟨rfl,o,hk,hc,hd⟩ | ⟨rfl,hk⟩ | ⟨rfl,S,n,hk⟩
  ·obtain⟨its,_,pl,_⟩:=I.list hq;refine⟨pl.isList.typeIs,fun a e=>?_⟩;cases e;obtain⟨o,n,e,c,hd,_⟩:=pl;exact⟨o,e,hd⟩
  ·refine⟨⟨o,I.kIn p o hk,hc⟩,fun a e=>?_⟩;cases e;exact⟨o,I.kIn _ o hk,hd⟩
  ·have z:∃o,s.heap.get? p=some o/\o.ExactDict:=by
    rcases hk with⟨kvs,hk⟩ | ⟨kvs,hk⟩
    ·obtain⟨_,_,_,_,o,_,_,e,ex,_⟩:=I.hok p _ hk;exact⟨o,e,ex⟩
    ·obtain⟨_,_,_,_,o,_,_,e,ex,_⟩:=I.hok p _ hk;exact⟨o,e,ex⟩
   obtain⟨o,e,ex⟩:=z;refine⟨⟨o,e,ex.1⟩,fun a e2=>?_⟩;cases e2;exact⟨o,e,ex.2.1⟩
  ·obtain⟨o,_,_,_,e,ex,_⟩:=I.hok p _ hk;refine⟨⟨o,e,ex.1⟩,fun a e2=>?_⟩;cases e2;exact⟨o,e,ex.2.1⟩
 | _=>exact False.elim ty
inductive Zsw (K:QF)(T:String)(r:V->List V->Hp->VK->Prop)(t:TA)(σ:St)(Q:VK)(x:V)(H1:Hp):Prop | mk (h:tyV K T x H1) (q:t σ H1 fun xs H2=>r x xs H2 Q)
def tBM (K:QF)(T:String)(r:V->List V->Hp->VK->Prop)(to:TE)(t:TA):TE:=fun σ H Q=>to σ H fun x H1=>Zsw K T r t σ Q x H1
variable {o e:Expr}{es:QV}{to:TE}{t:TA}{name:Str}{apos cpos:Pos}{T id:String}{r:V->List V->Hp->VK->Prop}
theorem YC (pa:PlainAttrs T)(slot:Slot T name id)(hty:typeOf (.builtin id)=pure (.type "method_descriptor"))(hm:MtR X id r)(ho:PE X o to)(ha:PA X (e::es) t)
  (hbase:attributeBase o name X.env (eval o X.env)=eval o X.env:=by rfl)
  (hfew:((backTo cpos (starEach (e::es) X.env)).all (fun x=>!x.1)&&(backToKw cpos (keywordEach [] X.env)).all (fun x=>x.1.isSome)
   && decide ((e::es).length+([]:List Keyword).length+(if ([]:List Keyword).isEmpty then 0 else 1)<30))=true:=by rfl)
  (hline:(apos.endLine==cpos.line)=true:=by rfl) (hs:starEach (e::es) X.env=(false,eval e X.env)::starEach es X.env:=by rfl) (hplain:(backTo cpos (starEach es X.env)).any (·.1)=false:=by rfl):
  PE X (.Call (.Attribute o name apos) (e::es) [] cpos) (tBM X.K T r to t):=by
 intro pins s σ H Q I h;refine wpAny_Call_method_late hbase hfew hline rfl (YN (ho pins s σ H _ I h) fun v s1 ⟨x,H1,I1,r1,ty,q1⟩=>?_);obtain⟨h1,h2⟩:=Zq2 I1 r1 ty;refine⟨T,id,pa,slot,hty,h1,h2,?_⟩;have hA:=ha cpos pins s1 σ H1 _ I1 q1;rw[hs] at hA ⊢;refine Calls.callWith_builtin (by show (false||(backTo cpos (starEach es X.env)).any (·.1))=false;rw[hplain]<;>rfl) (Tz ?_);exact YN hA fun us s2 ⟨vs,H2,I2,r2,q2⟩=>hm pins s2 σ H2 x vs v us Q I2 r1 r2 q2
end
def MtM (X:Cx)(id:String)(r:V->List V->Hp->VK->Prop):Prop:=
 ∀(pins:QC)(s:Shared)(σ:St)(H:Hp)(x:V)(xs:QH)(v:Value)(us:QJ)(Q:VK),Inv X pins σ H s->RelV x v->Vals xs us->r x xs H Q ->
  wpAny (model X.prog X.w) X.A (call (.builtin id) (v::us)) (EP X pins σ Q) X.xe s
theorem Vals.one:∀{x:V}{us:QJ},Vals [x] us -> ∃u,us = [u]/\RelV x u
 | _,_,.cons r .nil=>⟨_,rfl,r⟩
theorem Vals.two:∀{x y:V}{us:QJ},Vals [x,y] us -> ∃u v,us = [u,v]/\RelV x u/\RelV y v
 | _,_,_,.cons r (.cons q .nil)=>⟨_,_,rfl,r,q⟩
theorem Vals.eraseIdx:∀{xs:QH}{us:QJ}(i:Nat),Vals xs us->Vals (xs.eraseIdx i) (us.eraseIdx i)
 | _,_,_,.nil=>.nil
 | _,_,0,.cons _ t=>t
 | _,_,i+1,.cons r t=>.cons r (Vals.eraseIdx i t)
theorem Vals.rep {xs:QH}{us:QJ}(h:Vals xs us):∀k:Nat,Vals (List.replicate k xs).flatten (List.replicate k us).flatten
 | 0=>.nil
 | k+1=>by rw[Xi,Xi,Xg,Xg];exact Vals.append h (Vals.rep h k)
theorem ZfP {α:Type}:∀(l:List α)(i:Nat),(l.eraseIdx i).length<=l.length
 | [],_=>kj _
 | _::_,0=>XC _
 | _::r,i+1=>Nat.succ_le_succ (ZfP r i)
theorem foldl_rep (its:QJ):∀(k:Nat)(acc:QJ),
  List.foldl (fun x1 x2=>x1++x2) acc.toArray (List.replicate k its.toArray)=(acc++(List.replicate k its).flatten).toArray
 | 0,acc=>by simp
 | k+1,acc=>by
  have e:acc.toArray++its.toArray=(acc++its).toArray:=by simp
  have e2:(acc++its)++(List.replicate k its).flatten=acc++(List.replicate (k+1) its).flatten:=by rw[Xi,Xg,Kt]
  rw[<- e2,<- foldl_rep its k (acc++its),<- e,Xi,List.foldl_cons]
section
variable {X:Cx}{pins:QC}{σ:St}{H:Hp}{s:Shared}{l b:Addr}{xs ys zs:QH}
theorem Inv.lset {its its':QJ}{n:Nat}{f:Array Value->Array Value}{t':Nat}(I:Inv X pins σ H s)(hH:H l=some (.lst xs))
  (e:s.heap.get? l=some { cls:=.type "list", data:=.seq its.toArray n }) (hf:f its.toArray=its'.toArray) (hv:Vals ys its') (hz:ys.length<=sizeLine):
  Inv X pins σ (upd H l (.lst ys)) { s with heap:=s.heap.update l (Obj.mapSeq f),toks:=t' }:=by
 have q:=PySem.IsL.update e f;rw[hf] at q;refine I.write (x:=l) (e:=l) (by rw[hH];exact trivial) (.inl rfl) (fun b' u hb hu=>(Tc s.heap (Obj.mapSeq f) (KG hb)).trans hu) ⟨_,q⟩ ?_;exact⟨hz,its',_,hv,q⟩
theorem Inv.lnew {its:QJ}{t':Nat}(I:Inv X pins σ H s)(hv:Vals ys its)(hz:ys.length<=sizeLine):
  Inv X pins σ (upd H s.heap.objs.size (.lst ys)) { s with heap:=s.heap.push { cls:=.type "list", data:=.seq its.toArray },toks:=t' }:=
 I.laid (fun _ _ q=>kC _ q) (kj _) ⟨hz,its,0,hv,Kl _ rfl⟩
theorem Inv.fresh (I:Inv X pins σ H s):H s.heap.objs.size=none:=I.hok.fresh (kj _)
theorem Inv.lstM (I:Inv X pins σ H s)(hH:H l=some (.lst xs)):xs.length<=sizeLine /\ ∃(its:QJ)(n:Nat),Vals xs its/\xs.length=its.length/\s.heap.get? l=some { cls:=.type "list", data:=.seq its.toArray n }:=by obtain⟨z,its,n,r,e⟩:=I.hok l _ hH;exact⟨z,its,n,r,r.length,e⟩
theorem Zei {n:Nat}(h:n<=sizeLine):Builtin.List.listTooLong n=false:=by unfold Builtin.List.listTooLong;exact Km (by lia)
end
section
variable {X:Cx}
inductive ZjL(x:V)(vs:QH)(H:Hp)(Q:VK):Prop|mk(l xs y)(_:x = .ref l)(_:vs = [y])(_:H l=some (.lst xs))(_:xs.length<sizeLine)(_:Q .non (upd H l (.lst (xs ++ [y]))))
theorem ZP:MtM X "list.append" ZjL:=by intro pins s σ H x vs v us Q I rx rv h;obtain⟨l,xs,y,rfl,rfl,hH,hz,q⟩:=h;cases rx;obtain⟨u,rfl,ru⟩:=rv.one;obtain⟨z,its,n,r,hl,e⟩:=I.lstM hH;refine Tq F.slot_list_append ⟨_,e,rfl⟩ F.entry_list_append (F.args_list_append_2 _ _) (PySem.list_append l its.toArray n u (by rw[kr];lia)) ⟨e,?_⟩;refine⟨.non,_,I.lset (its':=its ++ [u]) hH e (by simp) (r.append (.cons ru .nil)) ?_,rfl,q⟩;rw[kh,Kf];lia
inductive ZmN(x:V)(vs:QH)(H:Hp)(Q:VK):Prop|mk(l xs i k y)(_:x = .ref l)(_:vs = [.int i])(_:H l=some (.lst xs))(_:-(2 ^ 63)<=i)(_:i<2 ^ 63)(_:seqIndex? i xs.length=some k)(_:xs[k]? = some y)(_:Q y (upd H l (.lst (xs.eraseIdx k))))
theorem ZeB:MtM X "list.pop" ZmN:=by
 intro pins s σ H x vs v us Q I rx rv h;obtain⟨l,xs,i,k,y,rfl,rfl,hH,h1,h2,hk,hy,q⟩:=h;cases rx;obtain⟨u,rfl,ru⟩:=rv.one;obtain⟨t,rfl⟩:=ru;obtain⟨z,its,n,r,hl,e⟩:=I.lstM hH;obtain⟨w,hw,rw'⟩:=r.get hy;refine Tq F.slot_list_pop ⟨_,e,rfl⟩ F.entry_list_pop (F.args_list_pop_2 _ _)
  (MeetsSeq.list_pop_at l its.toArray n i t k w (fitsIndex_both h1 h2) (by rw[kr,<- hl];exact hk) (by rw[<- qd];exact hw) (by rw[kr];lia)) ⟨e,?_⟩
 refine⟨y,_,I.lset (its':=its.eraseIdx k) hH e ?_ (r.eraseIdx k) ?_,rw',q⟩
 ·show its.toArray.eraseIdxIfInBounds k=(its.eraseIdx k).toArray;rw[List.eraseIdxIfInBounds_toArray]
 ·have:=ZfP xs k;lia
inductive ZpZ(x y:V)(H:Hp)(Q:VK):Prop|mk(l b xs zs)(_:x = .ref l)(_:y = .ref b)(_:H l=some (.lst xs))(_:H b=some (.lst zs))(_:xs.length+zs.length<=sizeLine)(_:∀p,H p=none->Q (.ref p) (upd H p (.lst (xs++zs))))
theorem Y8:Us X (binaryOp .Add) ZpZ:=by
 intro pins s σ H x y v u Q I rx ry h;obtain⟨l,b,xs,zs,rfl,rfl,hH,hB,hz,q⟩:=h;cases rx;cases ry;obtain⟨z,its,n,r,hl,e⟩:=I.lstM hH;obtain⟨z2,its2,n2,r2,hl2,e2⟩:=I.lstM hB;refine PySem.P.add_list e e2 ?_ (by rw[kr,kr];lia);have ea:its.toArray++its2.toArray=(its++its2).toArray:=by simp
 rw[ea];exact⟨.ref _,_,I.lnew (t':=s.toks) (r.append r2) (by rw[kh];lia),rfl,q _ I.fresh⟩
inductive ZoT(x y:V)(H:Hp)(Q:VK):Prop|mk(l k xs)(_:x = .ref l)(_:y = .int k)(_:H l=some (.lst xs))(_:-(2 ^ 63)<=k)(_:k<2 ^ 63)(_:xs.length*k.toNat<=sizeLine)(_:∀p,H p=none->Q (.ref p) (upd H p (.lst (List.replicate k.toNat xs).flatten)))
theorem len_rep {α:Type}(xs:List α)(k:Nat):(List.replicate k xs).flatten.length=k*xs.length:=by
 induction k with
 | zero=>simp
 | succ k ih=>rw[Xi,Xg,kh,ih,Nat.succ_mul,Nat.add_comm]
theorem ZbY:Us X (binaryOp .Mult) ZoT:=by
 intro pins s σ H x y v u Q I rx ry h;obtain⟨l,k,xs,rfl,rfl,hH,h1,h2,hz,q⟩:=h;cases rx;obtain⟨t,rfl⟩:=ry;obtain⟨z,its,n,r,hl,e⟩:=I.lstM hH;have hlen:its.toArray.size*k.toNat<=sizeLine:=by rw[kr,<- hl];exact hz
 have hcap:¬its.toArray.size*k.toNat>(2 ^ 63-1) / 8:=by
  have:(sizeLine:Nat)<=(2 ^ 63-1) / 8:=by decide
  lia
 have hfit:¬(!Builtin.List.listFitsIndex k)=true:=by rw[fitsIndex_both h1 h2];exact kP
 have hlong:¬Builtin.List.listTooLong (its.toArray.size*k.toNat)=true:=by rw[Zei hlen];exact kP
 have hnew:List.foldl (fun x1 x2=>x1++x2) #[] (List.replicate (if its.toArray.isEmpty=true then 0 else k.toNat) its.toArray)=(List.replicate k.toNat its).flatten.toArray:=by
  have f0:∀m:Nat,List.foldl (fun x1 x2=>x1++x2) #[] (List.replicate m its.toArray)=(List.replicate m its).flatten.toArray:=fun m=>by have:=foldl_rep its m [];rw[Xq] at this;exact this
  rw[f0];cases its with
  | nil=>simp
  | cons a r'=>rw[ki (by simp)]
 refine wpAny_binaryOp_repeat_ref (T := "list") (U := "int") (by decide) ⟨_,e,rfl⟩ (fun s'=>typeIs_int s' k t) noFill_list_mul F.fills_int_mul F.slot_int_rmul repeat_list F.slot_int_index.lookup
  (Tq F.slot_int_rmul (typeIs_int s k t) F.entry_int_rmul (F.args_int_rmul_2 _ _) (int___rmul___int_list k t l its.toArray n)
   ⟨e,rfl,⟨_,e,rfl⟩,Tq F.slot_list_mul ⟨_,e,rfl⟩ F.entry_list_mul (F.args_list_mul_2 _ _) (AutoListH.list___mul___list_int_3 l its.toArray n k t hfit hcap hlong) ⟨e,?_⟩⟩)
 rw[hnew];exact⟨.ref _,_,I.lnew (t':=s.toks) (r.rep k.toNat) (by rw[len_rep,Nat.mul_comm];exact hz),rfl,q _ I.fresh⟩
end
section
variable {prog:Program}{w:World}{A:Around}{E:QE}{s:Shared}
theorem ZkZ (its its2:QJ)(a c:Nat):its.toArray.extract 0 a++its2.toArray++its.toArray.extract c its.toArray.size=(its.take a++its2++its.drop c).toArray:=by
  apply Array.toList_inj.mp
  first
    | (simp
       exact kJ (by simp))
    | simp[kJ]
    | simp
theorem Zej {a c n:Nat}(hac:a<=c)(hc:c<=n):sliceBounds (some (a:Int)) (some (c:Int)) none n=((a:Int),(c:Int),1):=by
 simp only[sliceBounds,Ny];have h1:¬((a:Int)<0):=by lia
 have h2:¬((c:Int)<0):=by lia
 simp only[h1,h2,XB,show (1:Int)>0 by decide,Tu];congr 1
 ·lia
 ·congr 1;lia
set_option maxRecDepth 100000 in
theorem ZeX {l b sl:Addr}{items new:QY}{n n2:Nat}{vl vu:Value}{a c:Nat}{Q:Unit->Shared->Prop}
    (e:s.heap.get? l=some { cls:=.type "list", data:=.seq items n }) (e2:s.heap.get? b=some { cls:=.type "list", data:=.seq new n2 }) (hne:l≠b)
    (hs:s.heap.IsSliceOf sl vl vu .none) (pl:IsPart vl (some (a:Int))) (pu:IsPart vu (some (c:Int))) (hac:a<=c) (hc:c<=items.size)
    (hsz:items.size+new.size<=sizeLine) (h:Q () { s with heap:=s.heap.update l (Obj.mapSeq fun xs=>xs.extract 0 a++new++xs.extract c xs.size) }):
    wpAny (model prog w) A (setItem (.ref l) (.ref sl) (.ref b)) Q E s:=by
  have hl:s.heap.IsList l items:=Nz e;have hb:s.heap.IsList b new:=Nz e2;obtain⟨os,hos,hcs,hds⟩:=id hs;have hTs:s.TypeIs (.ref sl) "slice" := ⟨os,hos,hcs⟩;have hstep:¬((rawPart none==rawInt 0)=true):=kP;have hsame:Builtin.List.listSameRef (.ref l) (.ref b)=false:=by unfold Builtin.List.listSameRef;exact qF.mpr hne
  have hmax:(max (a:Int) (c:Int)).toNat=c:=by lia
  have hz':((fun xs:QY=>xs.extract 0 a++new++xs.extract c xs.size) items).size<=sizeLine+1:=by simp only[Array.size_append,Array.size_extract];lia
  unfold setItem
  try with_reducible refine KL ?_
  first | refine kg (kH ?_) | skip
  refine kg (Nh hl.typeIs (by decide) ?_);refine kg (qQ (name:=Str.ofString "__setitem__") hl.typeIs slot_list_setitem
    (qC slot_list_setitem hl.typeIs entry_list_setitem ?_ (args_list_setitem _ _ _)))
  show wpAny _ _ (Builtin.List.listSubscript? (.ref sl) >>= _) _ _ s;refine kg ?_;unfold Builtin.List.listSubscript?;refine kg (N7 hTs slice_no_index ?_);simp only[MO,Tu];refine kH ?_;show wpAny _ _ (typeOf (.ref sl) >>= _) _ _ s;refine kg (qL hTs ?_)
  first
    | rw[ki (by decide)]
    | refine XX (by decide) ?_
  rw[listSliceParts_eq];refine kg (kg (qy hos hds (x:=.none) rfl (kg (XD .none ?_))));rw[ki hstep];refine kg (qy hos hds (x:=vl) rfl (kg (XD pl ?_)));refine kg (qy hos hds (x:=vu) rfl (kg (XD pu (kH ?_))))
  first
    | simp only[hsame,qI,XB]
    | refine XX hsame ?_
    | (dsimp only
       rw[ki (by rw[hsame];exact kP)])
  refine kg (m:=Builtin.List.listAllItems (.ref b) "must assign iterable to extended slice") ?_;unfold Builtin.List.listAllItems;refine kg (qL hb.typeIs ?_)
  first
    | refine PySem.W.KFB.if_so (by decide) ?_
    | rw[km (by decide)]
    | simp only[beq_self_eq_true,Bool.true_or,Tu]
  unfold Builtin.List.listItems;refine kg (Td e2 rfl (kH ?_));refine kg (kg (Td e rfl (kH ?_)));refine kg (TB ((sliceIndices_raw (some (a:Int)) (some (c:Int)) none items.size (by simp)).trans (KC (pure:Int×Int×Int->Sem (Int×Int×Int)) (Zej hac hc))) ?_);show wpAny _ _ (if ((1:Int)==1)=true then _ else _) _ _ s;rw[km (by decide)];refine kg (XA ?_)
  first
    | simp only[Zei hsz,qI,XB]
    | refine XX (Zei hsz) ?_
  first | refine kg (kH ?_) | skip
  show wpAny _ _ (updateSeq l (fun xs=>xs.extract 0 ((a:Int)).toNat++new++xs.extract (max (a:Int) (c:Int)).toNat xs.size) >>= _) _ _ s;rw[hmax,kM];refine kg (wpAny_updateSeq (hz:=Kb (qw _ _) hsz) (_hz':=hz') e rfl ?_);refine kg (wpAny_letGo ?_)
  first
    | exact kg (kH (kH ⟨.none,rfl,kH h⟩))
    | exact kH ⟨.none,rfl,kH h⟩
end
section
variable {X:Cx}
theorem ZkV {pins:QC}{s:Shared}{σ:St}{H:Hp}{l b sl:Addr}{xs ys:QH}{a c:Int}{vl vu:Value}{Q:Unit->Shared->Prop}(I:Inv X pins σ H s)
  (hH:H l=some (.lst xs)) (hB:H b=some (.lst ys)) (hne:l≠b) (hs:s.heap.IsSliceOf sl vl vu .none) (ra:RelV (.int a) vl) (rc:RelV (.int c) vu) (h0:0<=a) (hac:a<=c) (hc:c<=xs.length)
  (hz:xs.length+ys.length<=sizeLine) (h:∀s',Inv X pins σ (upd H l (.lst (xs.take a.toNat++ys++xs.drop c.toNat))) s'->Q () s'):
  wpAny (model X.prog X.w) X.A (setItem (.ref l) (.ref sl) (.ref b)) Q X.xe s:=by
 obtain⟨ta,rfl⟩:=ra;obtain⟨tc,rfl⟩:=rc;obtain⟨z,its,n,r,hl,e⟩:=I.lstM hH;obtain⟨z2,its2,n2,r2,hl2,e2⟩:=I.lstM hB;obtain⟨a',rfl⟩:=kI h0;obtain⟨c',rfl⟩:=kI (Lc h0 hac);simp only[kM] at h;refine ZeX (a:=a') (c:=c') e e2 hne hs (.int _ _) (.int _ _) (by lia) (by rw[kr];lia) (by rw[kr,kr];lia) (h _ ?_);refine I.lset (its':=its.take a'++its2++its.drop c') (t':=s.toks) hH e ?_ (Vals.append (Vals.append (r.take _) r2) (r.drop _)) ?_
 ·exact ZkZ its its2 a' c'
 ·rw[kh,kh,kL,Ks];lia
end
end L2
namespace Att
open PySem PySem.W PySem.Calls PyProof.Rows
theorem Zdv {P:Params}{h:Heap}:∀(ns:QG)(vs:QJ),WellAll P h vs (ns.map WData.int)->IntsAre vs ns:=by
 intro ns
 induction ns with
 | nil=>
  intro vs w;rw[NW] at w;cases w;exact .nil
 | cons n ns ih=>
  intro vs w;rw[Kq] at w;cases w with
  | cons a b=>
   cases a;exact .cons _ _ (ih _ b)
theorem Zku {l:OpenLaw}{n:Nat}(hn:l.most=some n){P:Params}{h:Heap}{args:List WData}{vals:QJ}
  (hpre:l.row.toRowW.claim.pre args=true) (hwl:WellAll P h vals args):
  ∃a vs ns,vals = [Value.ref a]/\args = [WData.list (ns.map WData.int)]/\h.get? a=some { cls:=.type "list", data:=.seq vs.toArray } /\ IntsAre vs ns/\ns.length<=n:=by
 have hsh:WShape.hasAll [] args [.list .int]=true:=(pre_splitW hpre).1;have hc:l.pre.holds [] { args:=args } = true:=(pre_splitW hpre).2;obtain⟨d,r,rfl,h1,h2⟩:=hasAllW_cons hsh;obtain rfl:=hasAllW_nil h2;obtain⟨xs,rfl,h3⟩:=hasW_list h1;obtain⟨ns,rfl⟩:=items_int h3;have hlen:ns.length<=n:=by
  unfold OpenLaw.pre at hc;have h4:(WTm.not (.lt (.lit (.int (n:Int))) (.len (.arg 0)))).holds [] { args:=[.list (ns.map .int)] } = true:=by have h4:=(holds_andW hc).1;rw[hn] at h4;exact h4
  have h5:=condW_of h4 (w_not (w_lt w_lit (w_len_list (w_arg rfl))));rw[ke] at h5;refine NA fun q=>?_;have q':(n:Int)<((ns.length:Nat):Int):=by lia
  first
   | (rw[kE q'] at h5;exact absurd h5 (by decide))
   | (simp at h5;lia)
 cases hwl with
 | cons w1 w2=>
  cases w2;cases w1 with
  | list ho hall=>exact⟨_,_,ns,rfl,rfl,ho,Zdv ns _ hall,hlen⟩
theorem Zk3 (l:OpenLaw)(args:List WData):l.row.toRowW.claim.post args (.bool true) args=true:=
 postW_of (r:=l.row.toRowW) (X:=(true==true))
  (show WShape.has [] (.bool true) .bool=true by first | rfl | decide | simp[WShape.has,WShape.arms,WShape.armsAll])
  (show (WTm.eq .res (.lit (.bool true))).value [] { args:=args,res:=some (.bool true),after:=args } = some (.bool (true==true)) from w_eq_bool (w_res rfl) w_lit) rfl
theorem ZhH {l:OpenLaw}{n:Nat}{q:Program}{loose:QP}{XP:QN->Heap->Prop}{YP:World->Heap->Prop}{d:DefRec}
  (hn:l.most=some n) (hdf:d.params.defaults = [])
  (call:∀(w:World)(s₀ s₁:Shared)(mg mb:QN)(fa:Addr)(o:Obj)(pm cd doc:Value)(a:Addr)(vs:QJ)(ns:QG),
   Ground q loose [] XP w s₀ mg mb s₁.heap->YP w s₁.heap ->
   s₁.heap.get? fa=some o->o.data = .func (docDef d.name d.params d.body d.scope pm cd doc)->s₁.heap.CodeRec cd d.name->mg d.name=some (.ref fa) ->
   s₁.heap.get? a=some { cls:=.type "list", data:=.seq vs.toArray } -> IntsAre vs ns->ns.length<=n->s₁.gens = #[] ->
   codeAny (model l.prog w) callerA (.call (.ref fa) ⟨[.ref a],[]⟩) (fun r s'=>r = .ok (.ret (.bool true))/\OldK s₁.heap s'.heap/\s'.os=s₁.os/\AllBare s'.gens) s₁):
  WalkO q loose XP YP l.row.toRowW d [] (fun f vs=>PySem.call f vs):=by
 intro w s₀ s₁ mg mb G Y fa o pm cd doc dV kV ho hd hcd hD hmg hg args vals as hpre hlay hrd hwl hlo;obtain rfl:dV = .none:=Dflts.none hD hdf;obtain rfl:kV = .none:=Dflts.noKw hD;obtain⟨a,vs,ns,rfl,rfl,hobj,hints,hlen⟩:=Zku hn hpre hwl;refine enter_call (NS (call w s₀ s₁ mg mb fa o pm cd doc a vs ns G Y ho (fd_plain hd) hcd hmg hobj hints hlen hg) fun r s' hq=>?_);obtain⟨rfl,h2,h3,h4⟩:=hq;exact⟨.inl ⟨.bool true,.bool true,[],rfl,fun _=>rfl,.bool true,Zk3 l _,fun _=>⟨List.Pairwise.nil,fun _ hm=>(nomatch hm)⟩⟩,h2,h3,h4⟩
end Att
namespace L2
open PySem PySem.Spec PyProof.Rows
theorem UI:∀{vs:QJ}{ns:QG},IntsAre vs ns->Vals (ns.map V.int) vs
 | _,_,.nil=>.nil
 | _,_,.cons n t h=>.cons ⟨t,rfl⟩ (UI h)
def ZpH (H:Hp):Prop:=∀b,H b=none ∨ ∃o xs,H b=some (.frz o (.lst xs))
theorem ZmE {P:Program}{w:World}{K:QF}{mg mb:QN}{CX:CXT}{k:Nat}{fa a:Addr}{fd:FuncData}{x:Str}{sp:Sp}{s₁:Shared}{vs:QJ}{ns:QG}
  (KX:K.In s₁.heap) (hns:s₁.heap.Ns mainGlobals mg) (hb:s₁.heap.Ns builtinsNs mb) (hbb:∀x:Str,x ≠ "__name__" -> mb x=bootBuiltins x) (hlim:s₁.heap.NoLimit) (hg:s₁.gens = #[])
  (ha:s₁.heap.get? a=some { cls:=.type "list", data:=.seq vs.toArray }) (hi:IntsAre vs ns) (hl:ns.length<=sizeLine) (hr:Up k callerA)
  (F:∀base:Heap,K.In base->base.Ns mainGlobals mg->Yi P w K mg base CX k fa fd [x] sp) (hbind:∀(s:Shared)(u:Value),BindsTo s fd ⟨[u],[]⟩ [(x,u)])
  (hsp:∀H:Hp,ZpH H->Zt K H a (ns.map V.int)->sp [.ref a] H (fun v _=>v = .bl true) fun _ _ _=>False)
  (hCX:∀H e s',CX [] H s₁ (fun _ _ _=>False) e s'->False):
  codeAny (model P w) callerA (.call (.ref fa) ⟨[.ref a],[]⟩) (fun r s'=>r = .ok (.ret (.bool true))/\OldK s₁.heap s'.heap/\s'.os=s₁.os/\AllBare s'.gens) s₁:=by
 have rv:=UI hi;have lenV:=hi.length;have core:∀H:Hp,ZpH H->Zt K H a (ns.map V.int)->UX P w H s₁.heap->(∀b,H b≠none->b=a)->(H a≠none->K.lookup a=none) ->
   codeAny (model P w) callerA (.call (.ref fa) ⟨[.ref a],[]⟩) (fun r s'=>r = .ok (.ret (.bool true))/\OldK s₁.heap s'.heap/\s'.os=s₁.os/\AllBare s'.gens) s₁:=by
  intro H hO hS hok hA hK;have base_of:∀{b:Addr}{o:Obj},s₁.heap.get? b=some o->H b=none->(ZgI s₁.heap H).get? b=some o:=fun e n=>ZmR e n;have noA:∀{b:Addr}{o:Obj}{es:Array DictEntry}{ep:Nat},s₁.heap.get? b=some o->o.data = .dict es ep->H b=none:=fun {b o es ep} e d=>by
   cases q:H b with
   | none=>rfl
   | some u=>
    have e':b=a:=hA b (by rw[q];simp);subst e';rw[ha] at e;cases e;have d':Data.seq vs.toArray _=Data.dict es ep:=d;cases d'
  have nsK:∀{b:Addr}{m:QN},s₁.heap.Ns b m->(ZgI s₁.heap H).Ns b m:=fun {b m} ⟨o,es,ep,e,d,r⟩=>⟨o,es,ep,base_of e (noA e d),d,r⟩;have hKb:K.In (ZgI s₁.heap H):=fun b o e=>base_of (KX b o e) (by
   cases q:H b with
   | none=>rfl
   | some u=>
    have e':b=a:=hA b (by rw[q];simp);subst e';rw[hK (by rw[q];simp)] at e;cases e)
  have hM:Mod K mg (ZgI s₁.heap H):=⟨hKb,nsK hns,⟨mb,nsK hb,hbb⟩,let ⟨mc,h1,h2⟩:=hlim;⟨mc,nsK h1,h2⟩⟩;have e0:Zok P w K mg (ZgI s₁.heap H) callerA [] s₁ H:=⟨rfl,hM,fun b o e=>Znz e,Ld (ZkM _ _),trivial,fun b hb=>absurd (show b∈([]:List Addr) from hb) (by simp),hok,.of_eq hg⟩;refine NS ((F _ hKb (nsK hns)).run callerA [] s₁ H ⟨[.ref a],[]⟩ [.ref a] [.ref a] _ _ hr e0 (hbind s₁ (.ref a)) (.cons rfl .nil) (hsp H hO hS)) fun r s' h=>?_;cases r with
  | error e=>exact(hCX H e s' h).elim
  | ok fl=>
   cases fl with
   | next=>exact False.elim h
   | brk=>exact False.elim h
   | cont=>exact False.elim h
   | ret u=>
    obtain⟨v,H',os,bare,un,hok',r',q⟩:=h;have q':v = .bl true:=q;subst q';obtain rfl:u=Value.bool true:=r';refine⟨rfl,OldK.of_keep fun b o e=>?_,os,bare⟩;cases q:H b with
    | none=>exact un.keep b o e q (by intro z;exact absurd (show b∈([]:List Addr) from z) (by simp)) (by simp)
    | some u=>
     rcases hO b with z | ⟨ob,xs,z⟩
     ·rw[q] at z;cases z
     ·have z2:=un.frzs b ob _ z;obtain⟨e1,_⟩:=hok b _ z;obtain⟨e2,_⟩:=hok' b _ z2;rw[e] at e1;cases e1;exact e2
 cases hk:K.lookup a with
 | some o=>
  have e:=KX a o hk;rw[ha] at e;cases e;refine core (fun _=>none) (fun _=>.inl rfl) (.inr ⟨_,vs.toArray,_,hk,rfl,rfl,rfl,by rw[kr,lenV];exact hl,by simpa using rv⟩) (fun b u z=>by have z':(none:Option HO)=some u:=z;cases z') (fun b z=>absurd rfl z) fun z=>absurd rfl z
 | none=>
  refine core (fun b=>if b=a then some (.frz { cls:=.type "list", data:=.seq vs.toArray } (.lst (ns.map V.int))) else none) (fun b=>?_) (.inl (.inr ⟨{ cls:=.type "list", data:=.seq vs.toArray },km rfl⟩)) (fun b u z=>?_) (fun b z=>?_) fun _=>hk
  ·by_cases hb:b=a
   ·exact .inr ⟨_,_,km hb⟩
   ·exact .inl (ki hb)
  ·by_cases hb:b=a
   ·have z':=(km hb).symm.trans z;cases z';subst hb;exact⟨ha,by rw[ke];exact hl,vs,_,rv,ha⟩
   ·have z':=(ki hb).symm.trans z;cases z'
  ·by_cases hb:b=a
   ·exact hb
   ·exact absurd (ki hb) z
theorem Zod {l:PySem.W.OpenLaw}{n k:Nat}{q:Program}{loose:QP}{XP:QN->Heap->Prop}{YP:World->Heap->Prop}{d:DefRec}{K:Params->PySem.W.Frag}{CX:World->CXT}{sp:World->Sp}{x:Str}
  (hn:l.most=some n) (hn2:n<=sizeLine) (hdf:d.params.defaults = []) (hr:Up k callerA)
  (hY:∀(w:World)(h:Heap),YP w h->(K w.params).In h)
  (F:∀(w:World)(mg:QN)(fa:Addr)(h:Heap),(K w.params).In h->h.Ns mainGlobals mg->mg d.name=some (.ref fa) ->
   ∃fd:FuncData,(∀(s:Shared)(u:Value),BindsTo s fd ⟨[u],[]⟩ [(x,u)]) /\
    ∀base:Heap,(K w.params).In base->base.Ns mainGlobals mg->Yi l.prog w (K w.params) mg base (CX w) k fa fd [x] (sp w))
  (hsp:∀(w:World)(H:Hp)(a:Addr)(ns:QG),ns.length<=n->ZpH H->Zt (K w.params) H a (ns.map V.int)->sp w [.ref a] H (fun v _=>v = .bl true) fun _ _ _=>False)
  (hCX:∀(w:World)(H:Hp)(s:Shared)(e:Value)(s':Shared),CX w [] H s (fun _ _ _=>False) e s'->False):
  PySem.W.WalkO q loose XP YP l.row.toRowW d [] (fun f vs=>PySem.call f vs):=by
 refine Att.ZhH hn hdf fun w s₀ s₁ mg mb fa o pm cd doc a vs ns G Y ho hd hcd hmg hobj hints hlen hg=>?_;have KX:=hY w _ Y;obtain⟨fd,hb,hF⟩:=F w mg fa _ KX G.T.g hmg;exact ZmE KX G.T.g G.T.b G.T.builtins G.T.nolimit hg hobj hints (Kb hlen hn2) hr hF hb (fun H hO hS=>hsp w H a ns hlen hO hS) fun H e s'=>hCX w H s₁ e s'
def Zch (s:Stmt):Arguments:=match s with
 | .FunctionDef _ a _ _ _ _ _ _ _ _=>a
 | _=>{ posonlyargs:=[],args:=[],vararg:=none,kwonlyargs:=[],kw_defaults:=[],kwarg:=none,defaults:=[] }
def U6 (s:Stmt):List Stmt:=match s with
 | .FunctionDef _ _ b _ _ _ _ _ _ _=>b
 | _=>[]
def Zj (s:Stmt):Scope:=match s with
 | .FunctionDef _ _ _ _ _ _ sc _ _ _=>sc
 | _=>{ kind:=.function,names:=[],isGenerator:=false,isCoroutine:=false }
abbrev Wx:CXT:=fun _ _ _ _ _ _=>False
abbrev E0:XK:=fun _ _ _=>False
theorem Zsl {X:Cx}:Passes Wx X E0:=fun _ _ _ _ _ _ _ h=>h.elim
structure Yx (K:QF)(x qual:Str)(st:Stmt)(f:Addr)(fd:FuncData):Prop where
 ex:∃(oc:Value)(od:Option Addr)(kV doc pm:Value)(an:Option Addr)(cdv ct:Value)(osl:Array (Option Value)),
  fd=PySem.W.fnOf x qual (Zch st) (U6 st) (Zj st) .none kV doc pm an cdv ct/\K.lookup f=some ⟨oc,od,.func fd,osl⟩/\PySem.W.codeIn K cdv qual=true
 kp:PySem.W.keepIn K (.ref f)=true
section
variable {P:Program}{w:World}{K:QF}{mg:QN}{base:Heap}
theorem Yx.ok {x qual:Str}{st:Stmt}{f:Addr}{fd:FuncData}{N ps:QP}{k:Nat}{sp:Sp}(F:Yx K x qual st f fd)(S:Zy N ps (Zj st))(len:∀vs H Q E,sp vs H Q E->vs.length=ps.length)
  (hbody:∀(cdv:Value)(A:Around)(outer:List Env)(s:Shared)(H:Hp)(vs:QH)(Q:VK)(E:XK),Up k (A.deeper (envOfC qual (Zj st) s.heap.objs.size f cdv))->sp vs H Q E ->
   ∃t,PSs (GD Wx P w K mg base N qual (Zj st) f cdv A outer s H E).nox (U6 st) t/\t { nx:=fun _ H'=>Q .non H',rt:=Q } (start N vs) H):Yi P w K mg base Wx (k+1) f fd ps sp:=by
 obtain⟨oc,od,kV,doc,pm,an,cdv,ct,osl,rfl,lk,hcd⟩:=F.ex;refine Zpn lk hcd S len fun A outer s H vs Q E hr hsp=>?_;obtain⟨t,h,q⟩:=hbody cdv A outer s H vs Q E hr hsp;exact⟨t,h.nox,q⟩
theorem Yx.binds {x qual:Str}{st:Stmt}{f:Addr}{fd:FuncData}{ps:QP}(F:Yx K x qual st f fd)
  (h:∀(kV doc pm:Value)(an:Option Addr)(cdv ct:Value)(us:QJ),us.length=ps.length->bindArgs (PySem.W.fnOf x qual (Zch st) (U6 st) (Zj st) .none kV doc pm an cdv ct) ⟨us,[]⟩=pure (ps.zip us)):Binds K fd ps []:=by
 obtain⟨oc,od,kV,doc,pm,an,cdv,ct,osl,rfl,lk,hcd⟩:=F.ex;exact .all (h kV doc pm an cdv ct)
theorem ZJ {x qual:Str}{st:Stmt}{f:Addr}{oc:Value}{od an:Option Addr}{osl:Array (Option Value)}{kV doc pm cdv ct:Value}(l:K.lookup f=some ⟨oc,od,.func (PySem.W.fnOf x qual (Zch st) (U6 st) (Zj st) .none kV doc pm an cdv ct),osl⟩)
  (c:PySem.W.codeIn K cdv qual=true) (k:PySem.W.keepIn K (.ref f)=true):Yx K x qual st f (PySem.W.fnOf x qual (Zch st) (U6 st) (Zj st) .none kV doc pm an cdv ct):=⟨⟨oc,od,kV,doc,pm,an,cdv,ct,osl,rfl,l,c⟩,k⟩
end
theorem WW {A:Around}{k:Nat}(hr:Up k A):A.units+1<cLine:=T4 (Nat.add_le_add_left (by decide:1<=64) _) hr.units
theorem ZC {n:Nat}(h:n<=1000):n<sizeLine:=T4 h (by decide)
section
variable {X:Cx}
theorem pv (i:Nat){x:Str}{pos:Pos}(hN:X.N[i]? = some x:=by rfl)(hv:Vis X.env.scope x:=by first | exact Or.inl rfl | exact Or.inr (.inl rfl) | exact Or.inr (Or.inr rfl))(hd:(x==("__debug__" : Str))=false:=by decide)
  (hcd:(x==("__classdict__" : Str))=false:=by decide):PE X (.Name x pos) (ZcJ i):=ZpR hN hv hd hcd
end
theorem YZ {A B:Prop}(h:B):if false=true then A else B:=by rw[ki kP];exact h
theorem J6 {A B:Prop}(h:A):if true=true then A else B:=by rw[km rfl];exact h
theorem ZX {c A B:Prop}[Decidable c](h1:c->A)(h2:¬c->B):if c then A else B:=by
 by_cases h:c
 ·rw[km h];exact h1 h
 ·rw[ki h];exact h2 h
theorem Zpo {c A B:Prop}[Decidable c](hc:c)(h:B):if (!decide c)=true then A else B:=by rw[kE hc];exact YZ h
def Zh (H H':Hp):Prop:=∀b o,H b=some o->H' b=some o
theorem Zh.refl (H:Hp):Zh H H:=fun _ _ h=>h
theorem Zh.trans {H H1 H2:Hp}(a:Zh H H1)(b:Zh H1 H2):Zh H H2:=fun c o h=>b c o (a c o h)
theorem Zh.free {H H':Hp}(e:Zh H H'){l:Addr}(h:H' l=Option.none):H l=Option.none:=by
 cases q:H l with
 | none=>rfl
 | some o=>
  rw[e l o q] at h;cases h
theorem Zh.seq {K:QF}{H H':Hp}{a:Addr}{xs:QH}(e:Zh H H')(h:Zt K H a xs):Zt K H' a xs:=by
 rcases h with(h | ⟨o,h⟩) | h
 ·exact .inl (.inl (e _ _ h))
 ·exact .inl (.inr ⟨o,e _ _ h⟩)
 ·exact .inr h
end L2
set_option maxHeartbeats 4000000
namespace L2
open PySem PySem.Spec PyProof.Rows
section
variable {prog:Program}{w:World}{A:Around}{R:Result->Shared->Prop}{s:Shared}
theorem ZkU {elt target iter:Expr}{ifs:QV}{scope:Scope}{pos:Pos}{it acc:Value}{env:Env}(I:Nat->Shared->Prop)
  (turn:∀n s,I n s->wpAny (model prog w) A (pyNext it) (fun r s₁=>match r with
   | none=>R (.ok .next) s₁
   | some v=>wpAny (model prog w) A (letOwnedTupleGo target it v) (fun _ s₁'=>wpAny (model prog w) A (assign target env v) (fun _ s₂=>
     wpAny (model prog w) A (forIn ifs true fun c r=>if r=true then do let ok <- isTrue c env (eval c env);pure (ForInStep.yield ok) else pure (ForInStep.yield r)) (fun ok s₃=>
      if ok=true then wpAny (model prog w) A (eval elt env) (fun x s₄=>
       wpAny (model prog w) A (call (.builtin "list.append") [acc,x]) (fun _ s₅=>∃m,m<n/\I m s₅) (fun _ _=>False) s₄) (fun _ _=>False) s₃
      else ∃m,m<n/\I m s₃) (fun _ _=>False) s₂) (fun _ _=>False) s₁') (fun _ _=>False) s₁) (fun _ _=>False) s)
  (n:Nat) (h:I n s):codeAny (model prog w) A (.compLoop (.ListComp elt [⟨target,iter,ifs,0⟩] scope pos) 0 it acc env) R s:=by
 refine codeAny_loop rfl I (fun n s hI=>?_) n h;show wpAny _ A ((compTurn (.ListComp elt [⟨target,iter,ifs,0⟩] scope pos) 0 it acc env).onRaise (fun x=>do noteFrame x env;theTreesLotGoes x)) _ _ s;refine wpAny_noted ?_;rw[compTurn_list];refine kg (Xv (kg (K6 (turn n s hI) (fun r s₁ h₁=>?_) fun _ _ h'=>h'.elim)));cases r with
 | none=>exact kH h₁
 | some v=>
  refine kg (K6 h₁ (fun _ s₁' h₁'=>?_) fun _ _ h'=>h'.elim);refine kg (K6 h₁' (fun _ s₂ h₂=>kg (K6 h₂ (fun ok s₃ h₃=>?_) fun _ _ h'=>h'.elim)) fun _ _ h'=>h'.elim);cases ok with
  | false=>exact kH ⟨rfl,h₃⟩
  | true=>
   exact kg (kg (K6 h₃ (fun x s₄ h₄=>kg (K6 h₄ (fun _ s₅ h₅=>kH (kH ⟨rfl,h₅⟩)) fun _ _ h'=>h'.elim)) fun _ _ h'=>h'.elim))
end
theorem Zgt (env:Env)(f:Str×NameKind->List (Str×Addr)->Sem (ForInStep (List (Str×Addr))))
  (hf:∀n k r,f (n,k) r=if (k==NameKind.free)=true then(do let a <- cellOf env n;pure (ForInStep.yield ((n,a)::r))) else pure (ForInStep.yield r)):
  ∀(ns:List (Str×NameKind))(acc:List (Str×Addr)),(∀y∈ns,y.2 = .free -> ∃c,env.cells.lookup y.1=some c)->(∀x c,acc.lookup x=some c->env.cells.lookup x=some c) ->
   ∃cl,forIn ns acc f=pure cl/\(∀x c,cl.lookup x=some c->env.cells.lookup x=some c)/\(∀y∈ns,y.2 = .free -> ∃c,cl.lookup y.1=some c)/\(∀x c,acc.lookup x=some c -> ∃c',cl.lookup x=some c')
 | [],acc,_,ha=>⟨acc,by rw[List.forIn_nil],ha,fun _ h=>(nomatch h),fun x c h=>⟨c,h⟩⟩
 | (n,k)::r,acc,hn,ha=>by
  rw[List.forIn_cons,hf];by_cases hk:k = .free
  ·subst hk;obtain⟨c,hc⟩:=hn (n,.free) kS rfl;have hc':env.cells.lookup n=some c:=hc;have e1:cellOf env n=pure c:=by unfold cellOf;rw[hc']
   obtain⟨cl,h1,h2,h3,h4⟩:=Zgt env f hf r ((n,c)::acc) (fun y hy=>hn y (kU _ hy)) (fun x c' hx=>by
    rw[qg] at hx;cases e:x==n with
    | true=>
     rw[e] at hx;have:x=n:=by simpa using e
     subst this;rw[<- Ka hx];exact hc'
    | false=>rw[e] at hx;exact ha x c' hx)
   refine⟨cl,?_,h2,fun y hy hyf=>?_,fun x c' hx=>?_⟩
   ·rw[km (by rfl),e1];exact h1
   ·rcases kO.mp hy with e | hy
    ·subst e;exact h4 n c (by simp)
    ·exact h3 y hy hyf
   ·cases e:x==n with
    | true=>exact h4 x c (by rw[qg,e])
    | false=>exact h4 x c' (by rw[qg,e];exact hx)
  ·have hk':(k==NameKind.free)=false:=by simpa using hk
   obtain⟨cl,h1,h2,h3,h4⟩:=Zgt env f hf r acc (fun y hy=>hn y (kU _ hy)) ha;refine⟨cl,?_,h2,fun y hy hyf=>?_,h4⟩
   ·rw[hk',ki kP];exact h1
   ·rcases kO.mp hy with e | hy
    ·subst e;exact absurd hyf hk
    ·exact h3 y hy hyf
theorem ZjQ {scope:Scope}{env:Env}(h:∀y∈scope.names,y.2 = .free -> ∃c,env.cells.lookup y.1=some c):
  ∃cl,closureFor scope env=pure cl/\(∀x c,cl.lookup x=some c->env.cells.lookup x=some c)/\(∀y∈scope.names,y.2 = .free -> ∃c,cl.lookup y.1=some c):=by
 obtain⟨cl,h1,h2,h3,_⟩:=Zgt env (fun x r=>match x with
  | (n,k)=>if (k==NameKind.free)=true then(do let a <- cellOf env n;pure (ForInStep.yield ((n,a)::r))) else pure (ForInStep.yield r)) (fun _ _ _=>rfl) scope.names [] h (fun x c q=>by simp at q)
 refine⟨cl,?_,h2,h3⟩;unfold closureFor;refine Eq.trans ?_ h1;have e:∀(m:Sem (List (Str×Addr))),(m >>= fun r=>(pure r >>= fun r=>pure r))=m:=fun m=>by simp only[pure_bind,bind_pure]
 exact e _
def Zdt (n:Nat)(fi:List Nat)(σ:St):St:=List.replicate n none++fi.map fun i=>σ.getD i none
def ZfF:TT:=fun _ H Q=>Q true H
def PTs (X:Cx)(ifs:QV)(t:TT):Prop:=
 ∀(pins:QC)(s:Shared)(σ:St)(H:Hp)(Q:Bool->Hp->Prop),Inv X pins σ H s->t σ H Q ->
  wpAny (model X.prog X.w) X.A (forIn ifs true fun c r=>if r=true then do let ok <- isTrue c X.env (eval c X.env);pure (ForInStep.yield ok) else pure (ForInStep.yield r)) (TP X pins σ Q) X.xe s
theorem YE {X:Cx}:PTs X [] ZfF:=fun pins s σ H Q I h=>wpAny_tests_nil ⟨H,I,h⟩
theorem Zaj {X:Cx}{c:Expr}{t:TT}(h:PT X c t):PTs X [c] t:=fun pins s σ H Q I q=>wpAny_tests_one (h pins s σ H Q I q)
structure ZV (N:QP)(osc scope:Scope)(Ls Fs:QP)(fi:List Nat):Prop where
 kind:scope.kind = .function
 cells:∀y∈scope.names,y.2 ≠ .cell
 names:∀y∈scope.names,y.2 = .local->scope.names.lookup y.1=some .local
 fre:∀x∈Fs,scope.names.lookup x=some .free
 all:∀y∈scope.names,y.2 = .free->osc.names.lookup y.1=some .cell∨osc.names.lookup y.1=some .free
 ix:fi.map (fun i=>N[i]?)=Fs.map some
def blk (X:Cx)(scope:Scope)(N:QP)(cl:List (Str×Addr))(C:Addr)(s3:Shared)(H3:Hp)(ex:List Addr):Cx:=
 { X with N:=N,s₀:=s3,H₀:=H3,env:=compEnvC scope cl C X.env,outer:=X.stack,stack:=X.stack,ex:=ex,fn:=fun _=>false,pn:=[],xe:=fun _ _=>False }
theorem Zcz {env:Env}:∀{names:List (Str×NameKind)}{x:Str},(∀y∈names,y.2 ≠ .cell) ->
    ((names.map fun(n,k)=>if (k==NameKind.free&&env.scope.kind == .function&&env.kindOf n==some .cell) then(n,NameKind.cell) else(n,k)).lookup x=some .cell ∨
     (names.map fun(n,k)=>if (k==NameKind.free&&env.scope.kind == .function&&env.kindOf n==some .cell) then(n,NameKind.cell) else(n,k)).lookup x=some .free) -> ∃y∈names,y.1=x/\y.2 = .free
  | [],_,_,h=>by simp at h
  | (n,k)::r,x,hc,h=>by
    have ih:=@Zcz env r x (fun y hy=>hc y (kU _ hy));cases hx:x==n with
    | true=>
      have e:x=n:=by simpa using hx
      subst e;by_cases hb:(k==NameKind.free&&env.scope.kind == .function&&env.kindOf x==some .cell)=true
      · have:k = .free:=by
          simp only[Kj,NX] at hb;exact hb.1.1
        exact⟨(x,k),kS,rfl,this⟩
      · simp only[Kq,ki hb,qg,hx] at h
        rcases h with h | h
        · exact absurd (Ka h) (hc (x,k) kS)
        · exact⟨(x,k),kS,rfl,Ka h⟩
    | false=>
      have h':((r.map fun(n,k)=>if (k==NameKind.free&&env.scope.kind == .function&&env.kindOf n==some .cell) then(n,NameKind.cell) else(n,k)).lookup x=some .cell ∨
        (r.map fun(n,k)=>if (k==NameKind.free&&env.scope.kind == .function&&env.kindOf n==some .cell) then(n,NameKind.cell) else(n,k)).lookup x=some .free):=by
        by_cases hb:(k==NameKind.free&&env.scope.kind == .function&&env.kindOf n==some .cell)=true
        · simpa only[Kq,km hb,qg,hx] using h
        · simpa only[Kq,ki hb,qg,hx] using h
      obtain⟨y,hy,z⟩:=ih h';exact⟨y,kU _ hy,z⟩
theorem ZcE {env:Env}{x:Str}:∀{names:List (Str×NameKind)},names.lookup x=some .free ->
    ((names.map fun(n,k)=>if (k==NameKind.free&&env.scope.kind == .function&&env.kindOf n==some .cell) then(n,NameKind.cell) else(n,k)).lookup x=some .cell ∨
     (names.map fun(n,k)=>if (k==NameKind.free&&env.scope.kind == .function&&env.kindOf n==some .cell) then(n,NameKind.cell) else(n,k)).lookup x=some .free)
  | [],h=>by simp at h
  | (n,k)::r,h=>by
    cases hx:x==n with
    | true=>
      have e:x=n:=by simpa using hx
      subst e;rw[qg,hx] at h;have hk:k = .free:=Ka h;subst hk;by_cases hb:(NameKind.free==NameKind.free&&env.scope.kind == .function&&env.kindOf x==some .cell)=true
      · left;simp only[Kq,km hb,qg,hx]
      · right;simp only[Kq,ki hb,qg,hx]
    | false=>
      rw[qg,hx] at h;have ih:=@ZcE env x r h;by_cases hb:(k==NameKind.free&&env.scope.kind == .function&&env.kindOf n==some .cell)=true
      · simpa only[Kq,km hb,qg,hx] using ih
      · simpa only[Kq,ki hb,qg,hx] using ih
theorem aLt {h:Heap}{b:Addr}{o:Obj}(e:h.get? b=some o):@LT.lt Nat _ b h.objs.size:=Kc e
def LcW (J:It)(σ:St)(g:TG)(tc:TT)(te:TE)(H:Hp)(Q:VK):Prop:=
 ∃W:Nat->Nat->List V->Hp->Prop,(∃m,W 0 m [] H) /\ ∀i m ys H,W i m ys H ->
  (J.stop i H/\ys.length<=sizeLine /\ ∀D,H D=none->Q (.ref D) (upd H D (.lst ys))) ∨
  (J.go i H/\ys.length<=sizeLine /\ ∃N:List V->Hp->Prop,(∀ys' H',N ys' H' -> ∃m',m'<m/\W (i+1) m' ys' H') /\ ∀x H',J.yld i H x H'->g x σ H' fun σ2 H2=>
   tc σ2 H2 fun b H3=>if b=true then te σ2 H3 fun y H4=>N (ys ++ [y]) H4 else N ys H3)
def tLc (n:Nat)(fi:List Nat)(wi:TI)(g:TG)(tc:TT)(te:TE):TE:=fun σ H Q=>wi σ H fun J H1=>LcW J (Zdt n fi σ) g tc te H1 Q
section
variable {X:Cx}{pins:QC}{σ:St}{tg elt iter:Expr}{ifs:QV}{scope:Scope}{pos:Pos}{Ls Fs:QP}{fi:List Nat}{g:TG}{tc:TT}{te:TE}
structure ZoW (X:Cx)(tg:Expr)(J:It)(fp:List Addr)(it:Addr)(tn:Nat->Heap->Prop):Prop where
 obj:∀i h,tn i h -> ∀b∈fp,∃o,h.get? b=some o /\ ∀v,o.data ≠ .cell v
 keep:∀i h h',tn i h->(∀b∈fp,∀o,h.get? b=some o->h'.get? b=some o)->tn i h'
 item:∀(i:Nat)(pins:QC)(s:Shared)(σ:St)(H:Hp)(E:QE),Inv X pins σ H s->(∀b∈fp,Zdo X pins H b)->tn i s.heap->J.go i H ->
  wpAny (model X.prog X.w) X.A (pyNext (.ref it)) (fun r s1=>∃u,r=some u /\
   wpAny (model X.prog X.w) X.A (letOwnedTupleGo tg (.ref it) u) (fun _ s2=>∃x H',Inv X pins σ H' s2/\RelV x u/\J.yld i H x H'/\tn (i+1) s2.heap /\ ∀b∈fp,H' b=none) E s1) E s
 done:∀(i:Nat)(pins:QC)(s:Shared)(σ:St)(H:Hp)(E:QE),Inv X pins σ H s->(∀b∈fp,Zdo X pins H b)->tn i s.heap->J.stop i H ->
  wpAny (model X.prog X.w) X.A (pyNext (.ref it)) (fun r s1=>r=none/\Inv X pins σ H s1) E s
 self:∀(A:Around)(i:Nat)(s:Shared)(Q:QE)(E:QE),tn i s.heap->Q (.ref it) s->wpAny (model X.prog X.w) A (pyIter (.ref it)) Q E s
theorem Turn.at {X:Cx}{tg:Expr}{J:It}{fp:List Addr}{it:Addr}{tn:Nat->Heap->Prop}(T:Turn X.prog X.w X.K tg J fp it tn)(hc:X.calm=true):ZoW X tg J fp it tn:=⟨T.obj,T.keep,T.item X rfl rfl rfl hc,T.done X rfl rfl rfl hc,T.self⟩
theorem Zg9 {H2:Hp}{s2:Shared}{it:Addr}{fp:List Addr}{tn:Nat->Heap->Prop}{J:It}{cl:List (Str×Addr)}{Q:VK}{E:QE}{RR:Value->Addr->Result->Shared->Prop}
  (S:ZV X.N X.env.scope scope Ls Fs fi)
  (hb:∀C s3 H3 ex,PG (blk X scope (Ls++Fs) cl C s3 H3 ex) tg g/\PTs (blk X scope (Ls++Fs) cl C s3 H3 ex) ifs tc/\PE (blk X scope (Ls++Fs) cl C s3 H3 ex) elt te)
  (hcl1:∀x c,cl.lookup x=some c->X.env.cells.lookup x=some c) (hcl2:∀y∈scope.names,y.2 = .free -> ∃c,cl.lookup y.1=some c)
  (I2:Inv X pins σ H2 s2) (TX:∀C s3 H3 ex,ZoW (blk X scope (Ls++Fs) cl C s3 H3 ex) tg J fp it tn) (st2:tn 0 s2.heap) (f2:∀b∈fp,Zdo X pins H2 b)
  (hW:∃W:Nat->Nat->List V->Hp->Prop,(∃m,W 0 m [] H2) /\ ∀i m ys H,W i m ys H ->
   (J.stop i H/\ys.length<=sizeLine /\ ∀D,H D=none->Q (.ref D) (upd H D (.lst ys))) ∨
   (J.go i H/\ys.length<=sizeLine /\ ∃N:List V->Hp->Prop,(∀ys' H',N ys' H' -> ∃m',m'<m/\W (i+1) m' ys' H') /\ ∀x H',J.yld i H x H'->g x (Zdt Ls.length fi σ) H' fun σ2 H2=>
    tc σ2 H2 fun b H3=>if b=true then te σ2 H3 fun y H4=>N (ys ++ [y]) H4 else N ys H3))
  (fin:∀D C H' s' m,Inv X pins σ H' s'->Q (.ref D) H'->s'.heap.Ns C m->Zdo X pins H' C->RR (.ref D) C (.ok .next) s'):
  wpAny (model X.prog X.w) X.A (newList []) (fun acc s₃=>wpAny (model X.prog X.w) X.A (newFunctionEnv scope X.env.globals cl [] X.env.qual none .none (some X.env)) (fun cenv s₄=>
   codeAny (model X.prog X.w) X.A (.compStart (.ListComp elt [⟨tg,iter,ifs,0⟩] scope pos) 0 (.ref it) acc { cenv with scope:=relabel scope X.env }) (RR acc cenv.locals) s₄) E s₃) E s2:=by
 refine qp (wpAny_newFunctionEnv S.cells (by intro y hy;simp at hy) (fun h₁ hns₁ hsb₁=>?_) S.kind);dsimp only at hns₁ hsb₁ ⊢;generalize hH3:s2.heap.push { cls:=.type "list", dict:=none,data:=.seq ([]:QJ).toArray } = h3 at hns₁ hsb₁ ⊢;generalize hC:h3.objs.size=C at hns₁ hsb₁ ⊢;generalize hD:s2.heap.objs.size=D;have hCD:C=D+1:=by rw[<- hC,<- hH3,Mj,hD]
 have k23:∀b o,s2.heap.get? b=some o->h3.get? b=some o:=fun b o e=>by rw[<- hH3];exact kC _ e
 have k34:∀b o,h3.get? b=some o->h₁.get? b=some o:=fun b o e=>hsb₁.extBut b o (Kn (by have:=aLt e;lia)) (kC _ e);have hDo:h3.get? D=some { cls:=.type "list", data:=.seq ([]:QJ).toArray }:=by rw[<- hH3,<- hD];exact Kl _ rfl
 obtain⟨W,⟨m0,w0⟩,turn⟩:=hW;have T:=TX C { s2 with heap:=h3 } H2 (D::fp);have I3:Inv X pins σ H2 { s2 with heap:=h3 }:=I2.kept (t':=s2.toks) k23;have frD:H2 D=none:=by rw[<- hD];exact I2.fresh
 have frC:H2 C=none:=I2.hok.fresh (by lia);have DL:D≠X.env.locals:=Xf (by have:@LT.lt Nat _ X.env.locals s2.heap.objs.size:=I2.lt;lia);have CL:C≠X.env.locals:=Xf (by have:@LT.lt Nat _ X.env.locals s2.heap.objs.size:=I2.lt;lia);have cellLt:∀x c,X.env.cells.lookup x=some c -> @LT.lt Nat _ c D:=fun x c e=>by obtain⟨v,q⟩:=I2.cell x c e;have:@LT.lt Nat _ c s2.heap.objs.size:=q.lt;lia
 have fpLt:∀b∈fp,@LT.lt Nat _ b D:=fun b hb=>by obtain⟨o,e,_⟩:=T.obj _ _ st2 b hb;have:=aLt e;lia
 have exLoc:∀b∈D::fp,b≠C/\(∀x c,X.env.cells.lookup x=some c->c≠b):=fun b hb=>by
  rcases kO.mp hb with e | hb
  ·subst e;exact⟨Kn (by lia),fun x c e=>Kn (cellLt x c e)⟩
  ·exact⟨Kn (by have:=fpLt b hb;lia),(f2 b hb).2.2.2.2.1⟩
 have ok':(blk X scope (Ls++Fs) cl C { s2 with heap:=h3 } H2 (D::fp)).Ok:=by
  refine⟨I2.ok.mod,S.kind,I2.ok.glob,I2.ok.blt,?_,fun x y c e1 e2=>I2.ok.inj x y c (hcl1 x c e1) (hcl1 y c e2),fun x hx=>?_,fun x c hx=>absurd hx kP,I2.ok.hd,I2.ok.frames,.inl rfl,
   fun b hb=>⟨(exLoc b hb).1,fun x c e=>(exLoc b hb).2 x c (hcl1 x c e)⟩,I3.bs,Kb I2.ok.bsz I3.sz,fun b o e hb=>?_,fun b hb=>?_,I3.stack,I3.stkFree⟩
  ·show h3.objs.size<=C;lia
  ·obtain⟨y,hy,e1,e2⟩:=Zcz S.cells hx;obtain⟨c,q⟩:=hcl2 y hy e2;exact⟨c,e1 ▸ q⟩
  ·rcases kO.mp hb with z | hb
   ·exact absurd z (Kn (by have:=aLt (I2.bk b o e);lia))
   ·rcases(f2 b hb).2.2.2.1 with z | z
    ·exact I2.ok.noex b o e z
    ·have h1:@LT.lt Nat _ b X.base.objs.size:=aLt e;have h2:@LE.le Nat _ X.base.objs.size X.s₀.heap.objs.size:=I2.ok.bsz;have h3:@LE.le Nat _ X.s₀.heap.objs.size b:=z;lia
  ·intro hz;have hz':=I2.stkSub b hz;rcases kO.mp hb with e | hb
   ·subst e;rcases kO.mp hz' with z | z
    ·exact DL z
    ·exact I2.nofs (by lia) z
   ·rcases kO.mp hz' with z | z
    ·exact(f2 b hb).2.1 z
    ·exact(f2 b hb).2.2.1 z
 obtain⟨m2,hn2,hl2⟩:=id I2.loc;have cap:∀(i:Nat)(x:Str)(v:V),(Ls++Fs)[i]? = some x->(Zdt Ls.length fi σ)[i]? = some (some v) -> ∃u c,RelV v u/\((relabel scope X.env).names.lookup x=some .cell∨(relabel scope X.env).names.lookup x=some .free) /\
   cl.lookup x=some c/\X.env.cells.lookup x=some c/\s2.heap.IsCell c (some u):=by
  intro i x v e1 e2;unfold Zdt at e2;by_cases hi:i<Ls.length
  ·rw[KJ (by simpa using hi),Nw,km hi] at e2;cases e2
  ·have hi':Ls.length<=i:=NA hi;rw[Ko hi'] at e1;rw[Ko (by simpa using hi'),KN,kF] at e2;cases e3:fi[i-Ls.length]? with
   | none=>rw[e3] at e2;cases e2
   | some j=>
    rw[e3] at e2;have e4:σ.getD j none=some v:=Ka e2;have e5:X.N[j]? = some x:=by have q:=KC (fun l=>l[i-Ls.length]?) S.ix;simp only[kF,e3,e1,qS] at q;exact Ka q
    have e6:σ[j]? = some (some v):=by
     rw[Kh] at e4;cases e7:σ[j]? with
     | none=>rw[e7] at e4;cases e4
     | some z=>rw[e7] at e4;exact KC some e4
    have fx:=S.fre x (kZ e1);have al:=S.all (x,.free) (qG fx) rfl;have vis:Vis X.env.scope x:=by
     rcases al with z | z
     ·exact .inr (.inl z)
     ·exact .inr (.inr z)
    obtain⟨u,ru,lk⟩:=hl2 j x v e5 e6 vis;rcases lk with⟨k,_⟩ | ⟨k,c,ec,hcell⟩
    ·have k':X.env.scope.names.lookup x=some .local:=k;rcases al with z | z
     ·rw[show X.env.scope.names.lookup x=some .cell from z] at k';cases k'
     ·rw[show X.env.scope.names.lookup x=some .free from z] at k';cases k'
    ·obtain⟨c',ec'⟩:=hcl2 (x,.free) (qG fx) rfl;have:c'=c:=Ka ((hcl1 x c' ec').symm.trans ec);subst this;exact⟨u,c',ru,ZcE fx,ec',ec,hcell⟩
 have capLen:(Zdt Ls.length fi σ).length=(Ls++Fs).length:=by unfold Zdt;have q:=KC List.length S.ix;simp only[ke] at q;rw[kh,KN,ke,kh,q]
 have re:∀{ps:QC}{σ':St}{H':Hp}{s':Shared},Inv (blk X scope (Ls++Fs) cl C { s2 with heap:=h3 } H2 (D::fp)) ps σ' H' s'->Inv (blk X scope (Ls++Fs) cl C { s2 with heap:=h3 } H2 (D::fp)) ps (Zdt Ls.length fi σ) H' s':=by intro ps σ' H' s' J';refine⟨J'.ok,J'.os,J'.bare,J'.base,?_,J'.cell,J'.free,J'.freeC,J'.pin,J'.hok,capLen⟩;obtain⟨m,hn,_⟩:=J'.loc;refine⟨m,hn,fun i x v e1 e2 _=>?_⟩;obtain⟨u,c,ru,kk,ec,ec2,o,ho,hd⟩:=cap i x v e1 e2;obtain⟨sl,q⟩:=J'.base.any (k23 c o ho) (I2.freeC x c ec2) fun z=>(exLoc c z).2 x c ec2 rfl;exact⟨u,ru,.inr ⟨kk,c,ec,_,q,hd⟩⟩
 have I4:Inv (blk X scope (Ls++Fs) cl C { s2 with heap:=h3 } H2 (D::fp)) [(D,{ cls:=.type "list", data:=.seq ([]:QJ).toArray })] (Zdt Ls.length fi σ) H2 { s2 with heap:=h₁,toks:=s2.toks+([]:List (Str×Value)).length }:=by
  refine⟨ok',rfl,I2.bare,Un.kept k34,⟨_,hns₁,fun i x v e1 e2 _=>?_⟩,fun x c e=>?_,frC,fun x c e=>I2.freeC x c (hcl1 x c e),fun p hp=>?_,I2.hok.kept fun b o e=>k34 b o (k23 b o e),capLen⟩
  ·obtain⟨u,c,ru,kk,ec,ec2,o,ho,hd⟩:=cap i x v e1 e2;exact⟨u,ru,.inr ⟨kk,c,ec,o,k34 c o (k23 c o ho),hd⟩⟩
  ·obtain⟨v,o,ho,hd⟩:=I2.cell x c (hcl1 x c e);exact⟨v,o,k34 c o (k23 c o ho),hd⟩
  ·have hp':p=(D,{ cls:=.type "list", data:=.seq ([]:QJ).toArray }):=by
    have:p∈([]:QC) ++ [(D,{ cls:=.type "list", data:=.seq ([]:QJ).toArray })]:=hp;simpa using this
   subst hp';refine⟨k34 D _ hDo,frD,Kn (show @LT.lt Nat _ D C by lia),fun z=>?_,fun v z=>by cases z⟩;rcases kO.mp (I2.stkSub D z) with z | z
   ·exact DL z
   ·exact I2.nofs (by lia) z
 obtain⟨hg,ht,he⟩:=hb C { s2 with heap:=h3 } H2 (D::fp);have back:∀{ps:QC}{σ':St}{H':Hp}{s':Shared}{ys:QH}{its:QJ}{n:Nat},Inv (blk X scope (Ls++Fs) cl C { s2 with heap:=h3 } H2 (D::fp)) ps σ' H' s'->s'.heap.get? D=some { cls:=.type "list", data:=.seq its.toArray n } ->
   H' D=none->Vals ys its->ys.length<=sizeLine->Inv X pins σ (upd H' D (.lst ys)) s'/\Zdo X pins (upd H' D (.lst ys)) C:=by
  intro ps σ' H' s' ys its n J' hDs hDn rv hz;have neD:∀b o,s2.heap.get? b=some o->b≠D:=fun b o e=>Kn (by have:=aLt e;lia);have nex:∀b,b∉fp->b≠D->b∉D::fp:=fun b h1 h2 z=>(kO.mp z).elim h2 h1;have U:Un (frs X.stack) fp H2 (upd H' D (.lst ys)) s2.heap s'.heap:=by
   refine⟨fun b o e n hb hx=>J'.base.keep b o (k23 b o e) n hb (nex b hx (neD b o e)),fun b o e n hb hx=>J'.base.slot b o (k23 b o e) n hb (nex b hx (neD b o e)),fun b o e n hx=>?_,fun b o e hx=>J'.base.there b o (k23 b o e) (nex b hx (neD b o e)),fun b xs e=>?_,fun b o u e=>?_,fun b ps e=>?_⟩
   ·rw[Zi (neD b o e)];exact J'.base.free b o (k23 b o e) n (nex b hx (neD b o e))
   ·rw[Zi (Zf e frD)];exact J'.base.tups b xs e
   ·rw[Zi (Zf e frD)];exact J'.base.frzs b o u e
   ·obtain⟨more,q⟩:=J'.base.tbls b ps e;exact⟨more,by rw[Zi (Zf e frD)];exact q⟩
  have hok':UX X.prog X.w (upd H' D (.lst ys)) s'.heap:=fun b u q=>by
   by_cases hbD:b=D
   ·subst hbD;rw[Zc] at q;cases q;exact⟨hz,its,n,rv,hDs⟩
   ·rw[Zi hbD] at q;exact(J'.hok b u q).stay (fun c v _ r=>r) (fun c r=>by rw[Zi (Zf r hDn)];exact r) fun c xs r=>by rw[Zi (Zf r hDn)];exact r
  refine⟨I2.call' J'.os U hok' J'.bare fun b hb=>⟨(f2 b hb).2.2.2.1,(f2 b hb).2.1,(f2 b hb).2.2.2.2.1,(f2 b hb).2.2.2.2.2⟩,?_⟩;refine⟨by rw[Zi (Xf (by lia))];exact J'.free,CL,I2.nofs (by lia),.inr (by have:=I2.sz;lia),fun x c e=>Kn (by have:=cellLt x c e;lia),fun p hp=>?_⟩;have:=aLt (I2.pin p hp).1;exact Kn (by lia)
 have loop:codeAny (model X.prog X.w) X.A (.compLoop (.ListComp elt [⟨tg,iter,ifs,0⟩] scope pos) 0 (.ref it) (.ref D) (compEnvC scope cl C X.env)) (RR (.ref D) C) { s2 with heap:=h₁,toks:=s2.toks+([]:List (Str×Value)).length }:=by
  refine ZkU (fun n s'=>∃(i:Nat)(ys:QH)(H':Hp)(its:QJ)(k:Nat),Inv (blk X scope (Ls++Fs) cl C { s2 with heap:=h3 } H2 (D::fp)) [(D,{ cls:=.type "list", data:=.seq its.toArray k })] (Zdt Ls.length fi σ) H' s' /\
   Vals ys its/\tn i s'.heap/\(∀b∈fp,H' b=none)/\W i n ys H') ?_ m0 ⟨0,[],H2,[],0,I4,.nil,T.keep _ _ _ st2 fun b _ o e=>k34 b o (k23 b o e),fun b hb=>(f2 b hb).1,w0⟩
  rintro n s5 ⟨i,ys,H5,its,k,I5,rv,st5,fr5,w5⟩;have stat:∀{H':Hp}{its':QJ}{k':Nat},(∀b∈fp,H' b=none) -> ∀b∈fp,Zdo (blk X scope (Ls++Fs) cl C { s2 with heap:=h3 } H2 (D::fp)) [(D,{ cls:=.type "list", data:=.seq its'.toArray k' })] H' b:=fun hn b hb=>by refine⟨hn b hb,(exLoc b (kU _ hb)).1,fun z=>ok'.exfs b (kU _ hb) z,.inl (kU _ hb),fun x c e=>(exLoc b (kU _ hb)).2 x c (hcl1 x c e),fun p hp=>?_⟩;have hp':p=_:=kT.mp hp;rw[hp'];have:=fpLt b hb;show D≠b;exact Xf this
  have pinD:=I5.pin (D,{ cls:=.type "list", data:=.seq its.toArray k }) (kT.mpr rfl);rcases turn i n ys H5 w5 with⟨stop,hz,qn⟩ | ⟨go,hz,N,hN,step⟩
  ·refine K6 (T.done i _ s5 _ H5 _ I5 (stat fr5) st5 stop) (fun r s6 ⟨hr,I6⟩=>?_) fun _ _ h=>h;subst hr;have pin6:=I6.pin (D,{ cls:=.type "list", data:=.seq its.toArray k }) (kT.mpr rfl);obtain⟨b1,b2⟩:=back I6 pin6.1 pin6.2.1 rv hz;obtain⟨m,hn,_⟩:=I6.loc;exact fin D C _ s6 m b1 (qn D pin6.2.1) hn b2
  ·refine K6 (T.item i _ s5 _ H5 _ I5 (stat fr5) st5 go) (fun r s6 ⟨u,hr,h6⟩=>?_) fun _ _ h=>h;subst hr;refine K6 h6 (fun _ s7 ⟨x,H7,I7,r7,y7,st7,fr7⟩=>?_) fun _ _ h=>h;have I7':=I7.pinned (stat fr7) (T.obj _ _ st7);refine K6 (hg _ s7 _ H7 x u _ I7' r7 (step x H7 y7)) (fun _ s8 ⟨σ8,H8,I8,q8⟩=>?_) fun _ _ h=>h;refine K6 (ht _ s8 σ8 H8 _ I8 q8) (fun ok s9 ⟨H9,I9,q9⟩=>?_) fun _ _ h=>h;have keepT:∀{σ':St}{H':Hp}{s':Shared},Inv (blk X scope (Ls++Fs) cl C { s2 with heap:=h3 } H2 (D::fp)) ([(D,{ cls:=.type "list", data:=.seq its.toArray k })]++Zd8 fp s7.heap) σ' H' s'->tn (i+1) s'.heap /\ ∀b∈fp,H' b=none:=by
    intro σ' H' s' J';refine⟨T.keep _ _ _ st7 fun b hb o e=>(J'.pin (b,o) (KU _ (KU _ (U8 hb e)))).1,fun b hb=>?_⟩;obtain⟨o,e,d⟩:=T.obj _ _ st7 b hb;exact(J'.pin (b,o) (KU _ (KU _ (U8 hb e)))).2.1
   cases ok with
   | false=>
    rw[ki kP] at q9 ⊢;obtain⟨m',hm,w'⟩:=hN _ _ q9;exact⟨m',hm,i+1,ys,H9,its,k,re I9.unpinned,rv,(keepT I9).1,(keepT I9).2,w'⟩
   | true=>
    rw[km rfl] at q9 ⊢;refine K6 (he _ s9 σ8 H9 _ I9 q9) (fun v s10 ⟨y,H10,I10,r10,q10⟩=>?_) fun _ _ h=>h;obtain⟨m',hm,w'⟩:=hN _ _ q10;obtain⟨k10,f10⟩:=keepT I10;have I11:Inv (blk X scope (Ls++Fs) cl C { s2 with heap:=h3 } H2 (D::fp)) [(D,{ cls:=.type "list", data:=.seq its.toArray k })] (Zdt Ls.length fi σ) H10 s10:=re I10.unpinned;have pin11:=I11.pin (D,{ cls:=.type "list", data:=.seq its.toArray k }) (kT.mpr rfl);refine wpAny_list_append_plain ⟨k,pin11.1⟩ (fun h' hp' sb=>?_) (by rw[kr,<- rv.length];exact hz);obtain⟨k',hk'⟩:=hp';have e1:its.toArray.push v=(its ++ [v]).toArray:=by simp
    rw[e1] at hk';have I12:Inv (blk X scope (Ls++Fs) cl C { s2 with heap:=h3 } H2 (D::fp)) [] (Zdt Ls.length fi σ) H10 { s10 with heap:=h',toks:=s10.toks }:=
     (I11.pins_of (pins':=[]) fun p hp=>(nomatch hp)).turned (it:=D) (fun b o hb e=>(sb.2 b hb).trans e) pin11.2.1 pin11.2.2.1 (.inl kS) (fun x c e=>(exLoc D kS).2 x c (hcl1 x c e)) fun p hp=>(nomatch hp)
    have I13:Inv (blk X scope (Ls++Fs) cl C { s2 with heap:=h3 } H2 (D::fp)) [(D,{ cls:=.type "list", data:=.seq (its ++ [v]).toArray k' })] (Zdt Ls.length fi σ) H10 { s10 with heap:=h',toks:=s10.toks }:=I12.pins_of fun p hp=>by have hp':p=_:=kT.mp hp;subst hp';exact⟨hk',pin11.2.1,pin11.2.2.1,pin11.2.2.2.1,fun v z=>by cases z⟩
    refine⟨m',hm,i+1,ys ++ [y],H10,its ++ [v],k',I13,rv.append (.cons r10 .nil),?_,f10,w'⟩;exact T.keep _ _ _ k10 fun b hb o e=>(sb.2 b (Kn (fpLt b hb))).trans e
 exact codeAny_compStart_list loop (T.self _ 0 _ _ _ (T.keep _ _ _ st2 fun b _ o e=>k34 b o (k23 b o e)) loop)
theorem WA {wi:TI}(S:ZV X.N X.env.scope scope Ls Fs fi)(hc:X.calm=true)(hi:PI X tg iter wi)
  (hb:∀cl C s3 H3 ex,PG (blk X scope (Ls++Fs) cl C s3 H3 ex) tg g/\PTs (blk X scope (Ls++Fs) cl C s3 H3 ex) ifs tc/\PE (blk X scope (Ls++Fs) cl C s3 H3 ex) elt te)
  (hs:∀x,foldedSetIterable iter X.env x=pure x:=by intro _;rfl):PE X (.ListComp elt [⟨tg,iter,ifs,0⟩] scope pos) (tLc Ls.length fi wi g tc te):=by
 intro pins s σ H Q I h;rw[eval_ListComp];obtain⟨cl,hcl,hcl1,hcl2⟩:=ZjQ (scope:=scope) (env:=X.env) fun y hy hf=>I.ok.has y.1 (S.all y hy hf);refine Np (use:=none) rfl hs hcl S.kind S.names (K6 (hi pins s σ H _ I h) (fun v s1 h1=>K6 h1 (fun itv s2 h2=>?_) fun _ _ e=>e) fun _ _ e=>e);obtain⟨it,fp,tn,J,H2,e,I2,T,st2,f2,hW⟩:=h2;subst e;refine Zg9 (RR:=fun acc C=>compPost (model X.prog X.w) X.A X.xe none (EP X pins σ Q) acc C) S (hb cl) hcl1 hcl2 I2 (fun C s3 H3 ex=>Turn.at (X:=blk X scope (Ls++Fs) cl C s3 H3 ex) T hc) st2 f2 hW fun D C H' s' m I' q hn f=>?_;obtain⟨f0,f1,f2,f3,f4,f5⟩:=f;exact⟨m,hn,fun h' hs'=>⟨.ref D,H',I'.turned (it:=C) (t':=s'.toks) (fun b o hb e=>(hs'.2 b hb).trans e) f0 f1 f3 f4 f5,rfl,q⟩⟩
theorem Zc7 {wi:TI}{i:Nat}{x:Str}{pos' spos:Pos}(hN:X.N.Nodup)(hi':X.N[i]? = some x)(hx:Loc X.env.scope x)(S:ZV X.N X.env.scope scope Ls Fs fi)(hc:X.calm=true)(hi:PI X tg iter wi)
  (hb:∀cl C s3 H3 ex,PG (blk X scope (Ls++Fs) cl C s3 H3 ex) tg g/\PTs (blk X scope (Ls++Fs) cl C s3 H3 ex) ifs tc/\PE (blk X scope (Ls++Fs) cl C s3 H3 ex) elt te)
  (hsw:swapsWith (.ListComp elt [⟨tg,iter,ifs,0⟩] scope pos) (some (.Name x pos')) spos.line X.env=pure true:=by rfl)
  (hs:∀x,foldedSetIterable iter X.env x=pure x:=by intro _;rfl) (hf:X.fn x=true∨X.env.scope.names.lookup x=some .local:=by first | exact .inl rfl | exact .inr rfl | assumption):
  PS X (.Assign [.Name x pos'] (.ListComp elt [⟨tg,iter,ifs,0⟩] scope pos) spos) (Zma (tLc Ls.length fi wi g tc te) (ZfJ i)):=by
 intro pins s σ H D' I h;rw[exec_Assign_Name_used _ _ _ _ hsw];obtain⟨cl,hcl,hcl1,hcl2⟩:=ZjQ (scope:=scope) (env:=X.env) fun y hy hf=>I.ok.has y.1 (S.all y hy hf);refine kg (Xv (kg ?_));show wpAny _ X.A (do let _ <- comprehension (.ListComp elt [⟨tg,iter,ifs,0⟩] scope pos) scope X.env _ (newList []) false (eval iter X.env) (some (assign (.Name x pos') X.env))) _ _ s;refine kg (K6 (Np (use:=some (assign (.Name x pos') X.env)) (Q:=fun _ s'=>SP X pins D' .next s') rfl hs hcl S.kind S.names
  (K6 (hi pins s σ H _ I h) (fun v s1 h1=>K6 h1 (fun itv s2 h2=>?_) fun _ _ e=>e) fun _ _ e=>e)) (fun _ s' hq=>kH (kH hq)) fun _ _ e=>e)
 obtain⟨it,fp,tn,J,H2,e,I2,T,st2,f2,hW⟩:=h2;subst e;refine Zg9 (RR:=fun acc C=>compPost (model X.prog X.w) X.A X.xe (some (assign (.Name x pos') X.env)) (fun _ s'=>SP X pins D' .next s') acc C) (Q:=fun x H1=>ZfJ i x σ H1 D'.nx) S (hb cl) hcl1 hcl2 I2 (fun C s3 H3 ex=>Turn.at (X:=blk X scope (Ls++Fs) cl C s3 H3 ex) T hc) st2 f2 hW fun D C H' s' m I' q hn f=>?_;obtain⟨f0,f1,f2,f3,f4,f5⟩:=f;show wpAny _ X.A (assign (.Name x pos') X.env (.ref D)) _ _ _;refine wpAny_assign_Name (ZfI I' hN hi' hx (v:=.ref D) rfl (fun s'' I'' hch=>?_) hf);obtain⟨a,sb,ha⟩:=hch;have hCa:C≠a:=by
  rcases ha with z | z
  ·rw[z];exact f1
  ·exact(f4 x a z).symm
 exact⟨m,hn.sameBut sb hCa,fun h' hs'=>⟨_,H',I''.turned (it:=C) (t':=s''.toks) (fun b o hb e=>(hs'.2 b hb).trans e) f0 f1 f3 f4 f5,q⟩⟩
end
end L2
namespace L2
open PySem PySem.Spec PyProof.Rows PyProof.V
def Ite (K:QF)(a:Addr):It:=
 ⟨fun i H=>∃xs x,Zt K H a xs/\xs[i]? = some x,fun i H v H'=>∃p x,v = .ref p/\H p=none/\H'=upd H p (.tup [.int i,x]) /\ ∀xs,Zt K H a xs->xs[i]? = some x,fun i H=>∃xs,Zt K H a xs/\xs.length<=i⟩
theorem ZkL {P:Program}{w:World}{K:QF}{es:QV}{k:Nat}{pos:Pos}(a e it:Addr)(hei:e≠it):
  Turn P w K (.Tuple es k pos) (Ite K a) [e,it] e (fun i h=>(∃old,IsEnum h e it i old)/\h.IsListIter it a i) where
 mem:=by simp
 obj:=fun i h st b hb=>by
  obtain⟨⟨old,he⟩,o,ho,c,d⟩:=st;rcases kO.mp hb with z | z
  ·subst z;exact⟨_,he,fun v z=>by have z':Data.fields _=Data.cell v:=z;cases z'⟩
  ·have z':b=it:=by simpa using z
   subst z';exact⟨o,ho,fun v z=>by rw[d] at z;cases z⟩
 keep:=fun i h h' st k=>by obtain⟨⟨old,he⟩,hi⟩:=st;exact⟨⟨old,k e (by simp) _ he⟩,hi.at fun o x=>k it (by simp) o x⟩
 item:=by
  intro X hP hw hK hc i pins s σ H E I hf st hg;subst hP hw hK;obtain⟨xs,x,hq,hx⟩:=hg;obtain⟨its,rv,p,hz⟩:=I.list hq;obtain⟨u,hu,ru⟩:=rv.get hx;obtain⟨⟨old,he⟩,hi⟩:=st;obtain⟨e0,e1,e2,e3,e4,e5⟩:=hf e (by simp);obtain⟨f0,f1,f2,f3,f4,f5⟩:=hf it (by simp);refine wpAny_pyNext_enum_item he hi p.isList (x:=u) (by simpa using hu) hei fun h' ho hit ht hsz kk=>⟨_,rfl,?_⟩;refine wpAny_letOwnedTupleGo_enum (s:={ s with heap:=h',toks:=s.toks+1 }) ho fun h'' he'' hs''=>?_;have Tn:@LT.lt Nat _ e s.heap.objs.size:=aLt he;have kk2:∀b o,b≠e->b≠it->s.heap.get? b=some o->h''.get? b=some o:=fun b o h1 h2 q=>(hs''.2 b h1).trans (kk b o h1 h2 q);have nne:∀b u,H b=some u->b≠e/\b≠it:=fun b u q=>⟨fun z=>by (rw[z,e0] at q;cases q),fun z=>by (rw[z,f0] at q;cases q)⟩;have fr:H s.heap.objs.size=none:=I.hok.fresh (kj _);have hT:h''.get? s.heap.objs.size=some { cls:=.type "tuple", data:=.seq #[.int i s.toks,u] }:=(hs''.2 _ (Xf Tn)).trans ht;have nT:∀b o,s.heap.get? b=some o->b≠s.heap.objs.size:=fun b o q=>Kn (aLt q);have ok':UX X.prog X.w (upd H s.heap.objs.size (.tup [.int i,x])) h'':=fun b o q=>by
   by_cases hb:b=s.heap.objs.size
   ·subst hb;rw[Zc] at q;cases q;exact⟨show 2<=sizeLine by decide,[.int i s.toks,u],.cons ⟨_,rfl⟩ (.cons ru .nil),⟨_,hT,rfl,_,rfl⟩⟩
   ·rw[Zi hb] at q;refine(I.hok b o q).stay (fun c v hc r=>?_) (fun c r=>by rw[Zi (Zf r fr)];exact r) fun c xs r=>by rw[Zi (Zf r fr)];exact r
    rcases hc with z | z
    ·subst z;exact kk2 c v (nne c o q).1 (nne c o q).2 r
    ·exact kk2 c v (nne c _ z).1 (nne c _ z).2 r
  have I1:Inv X pins σ (upd H s.heap.objs.size (.tup [.int i,x])) { s with heap:=h'',gens:=s.gens,drawn:=s.drawn,toks:=s.toks+1 }:=by
   refine I.step (ch:=[e,it]) (fun b hb=>?_) (fun b o _ _ hc q _=>kk2 b o (fun z=>hc (by simp[z])) (fun z=>hc (by simp[z])) q) (fun b o _ _ hc q _=>⟨o.slots,kk2 b o (fun z=>hc (by simp[z])) (fun z=>hc (by simp[z])) q⟩)
    (fun b o _ q n=>by rw[Zi (nT b o q)];exact n) (fun b o hc q=>⟨o,kk2 b o (fun z=>hc (by simp[z])) (fun z=>hc (by simp[z])) q⟩) (fun b xs q=>by rw[Zi (Zf q fr)];exact q) (fun b o u q=>by rw[Zi (Zf q fr)];exact q)
    (fun b ps q=>⟨#[],by rw[Zi (Zf q fr),q];simp⟩) (fun m hm=>?_) ok' I.bare
   ·rcases kO.mp hb with z | z
    ·subst z;exact⟨e3,e1,e4,e5⟩
    ·have z':b=it:=by simpa using z
     subst z';exact⟨f3,f1,f4,f5⟩
   ·obtain⟨o,es,ep,ho,r⟩:=hm;exact⟨o,es,ep,kk2 _ o (KG e1) (KG f1) ho,r⟩
  refine⟨.ref s.heap.objs.size,_,I1,rfl,⟨s.heap.objs.size,x,rfl,fr,rfl,fun ys hy=>by rw[I.list_inj hy hq];exact hx⟩,⟨⟨_,by simpa using he''⟩,hit.at fun o q=>(hs''.2 it (KG hei)).trans q⟩,fun b hb=>?_⟩;have hbo:∃o,s.heap.get? b=some o:=by
   rcases kO.mp hb with z | z
   ·subst z;exact⟨_,he⟩
   ·have z':b=it:=by simpa using z
    subst z';obtain⟨o,ho,_⟩:=hi;exact⟨o,ho⟩
  obtain⟨o,hbo⟩:=hbo;rw[Zi (nT b o hbo)];exact(hf b hb).1
 done:=by intro X hP hw hK hc i pins s σ H E I hf st hg;subst hP hw hK;obtain⟨xs,hq,hx⟩:=hg;obtain⟨its,rv,p,hz⟩:=I.list hq;obtain⟨⟨old,he⟩,hi⟩:=st;obtain⟨f0,f1,f2,f3,f4,f5⟩:=hf it (by simp);have hl:=rv.length;exact wpAny_pyNext_enum_end (I.ok.hd hc) he hi p.isList (by simp;lia) fun h' eb=>⟨rfl,I.turned (t':=s.toks) (fun b o hb e=>eb b o hb e) f0 f1 f3 f4 f5⟩
 self:=fun _ _ _ _ _ st h=>by obtain⟨⟨old,he⟩,_⟩:=st;exact wpAny_pyIter_enum he h
section
variable {X:Cx}
inductive ZlI(K:QF)(R:It->Hp->Prop)(vs:QH)(H1:Hp):Prop|mk(a)(_:vs = [.ref a])(_:∃xs,Zt K H1 a xs)(_:R (Ite K a) H1)
def Zpb (K:QF)(ta:TA):TI:=fun σ H R=>ta σ H fun vs H1=>ZlI K R vs H1
theorem Zoh {a:Expr}{ta:TA}{p pos tpos:Pos}{es:QV}{k:Nat}(hg:Gl X "enumerate")(hm:X.mg "enumerate" = none)(ha:PA X [a] ta)(hs:starEach [a] X.env = [(false,eval a X.env)]:=by rfl):
  PI X (.Tuple es k tpos) (.Call (.Name "enumerate" p) [a] [] pos) (Zpb X.K ta):=by
 intro pins s σ H R I h;refine Call_ (UU I hg hm boot_enumerate (qa (YN (ha pos pins s σ H _ I h) fun us s1 ⟨vs,H1,I1,r1,q1⟩=>?_) hs rfl));obtain⟨l,e,⟨xs,hq⟩,q⟩:=q1;subst e;cases r1 with
 | cons r rr=>
  cases rr;cases r;obtain⟨its,rv,pl,hz⟩:=I1.list hq;refine call_enumerate_list pl.isList fun h' he hi hsz kk=>?_;have I2:Inv X pins σ H1 { s1 with heap:=h' }:=I1.kept (t':=s1.toks) kk;refine wpAny_pyIter_enum (s:={ s1 with heap:=h' }) he ?_;refine⟨_,[s1.heap.objs.size+1,s1.heap.objs.size],_,_,H1,rfl,I2,ZkL l _ _ (Nat.succ_ne_self _),⟨⟨_,he⟩,hi⟩,fun b hb=>?_,q⟩;have hb':s1.heap.objs.size<=b:=by
   rcases kO.mp hb with z | z
   ·subst z;exact XC _
   ·have z':b=s1.heap.objs.size:=by simpa using z
    subst z';exact kj _
  exact I1.fpOk hb' (I1.hok.fresh hb')
inductive Zga(K:QF)(xs:QH)(H:Hp)(Q:VK):Prop|mk(x T t b)(_:xs = [x,.ty T])(_:Zb8 K H x t)(_:PySem.W.kitOne K t (.type T)=some b)(_:Q (.bl b) H)
theorem Zh1:YT X (.builtin "isinstance") (Zga X.K):=by intro pins s σ H xs us Q I r h;obtain⟨x,T,t,b,rfl,ty,e,q⟩:=h;obtain⟨u,v,rfl,ru,rv⟩:=r.two;cases rv;exact ZkN I ru ty e fun tk=>⟨.bl b,H,I.tok _,rfl,q⟩
theorem range_all (bs:List Bool):(List.range bs.length).all (fun i=>bs.getD i false)=bs.all id:=by
 rw[qT,KA,KA];constructor
 ·intro h b hb;obtain⟨i,hi,rfl⟩:=Mk.mp hb;have:=h i (Kw.mpr hi);simpa [hi] using this
 ·intro h i hi;have hi':i<bs.length:=Kw.mp hi;have:=h bs[i] (Tr hi');simpa [hi'] using this
inductive ZqC(K:QF)(xs:QH)(H:Hp)(Q:VK):Prop|mk(p:Addr)(bs:List Bool)(_:xs = [.ref p])(_:Zt K H p (bs.map V.bl))(_:Q (.bl (bs.all id)) H)
theorem ZmU (hc:X.calm=true):YT X (.builtin "all") (ZqC X.K):=by
 intro pins s σ H xs us Q I r h;obtain⟨p,bs,rfl,hq,q⟩:=h;obtain⟨u,rfl,ru⟩:=r.one;cases ru;obtain⟨its,rv,pl,hz⟩:=I.list hq;have hlen:bs.length=its.length:=by simpa using rv.length
 have hh:X.A.in1.handled=none:=I.ok.hd hc;have hp:p<s.heap.objs.size:=by obtain⟨o,ho,_⟩:=pl.isList;exact Kc ho
 refine call_all_walk (Nd pl.isList ?_);refine⟨s.heap.objs.size,_,_,_,_,_,fun i=>bs.getD i false,rfl,Walks.list hh s.heap.objs.size p (Kn hp) its.toArray,⟨⟨_,Kl _ rfl,rfl,rfl⟩,?_⟩,fun i v s2 Q2 E2 hv hq2=>?_,fun h' tk kk=>?_⟩
 ·obtain⟨o,ho,r⟩:=pl.isList;exact⟨o,kC _ ho,r⟩
 ·have hv':its[i]? = some v:=by simpa using hv
  have hi:i<bs.length:=by rw[hlen];exact(kz.mp hv').1
  obtain⟨w,hw,rw'⟩:=rv.get (i:=i) (x:=.bl bs[i]) (by simp[hi]);rw[hv'] at hw;cases hw;cases rw';refine KZ ?_;have e:bs.getD i false=bs[i]:=by simp[hi]
  rw[<- e];exact hq2
 ·have hk:∀b o,s.heap.get? b=some o->h'.get? b=some o:=fun b o e=>kk b o (fun z=>by
   have z':b=s.heap.objs.size:=by simpa using z
   exact qK _ (z' ▸ Kc e)) (kC _ e)
  refine⟨.bl (bs.all id),H,I.kept (t':=tk) hk,?_,q⟩;have e:its.toArray.size=bs.length:=by rw[kr,hlen]
  rw[e,range_all];rfl
theorem GB:∀{ns:QG}{vs:QJ},Vals (ns.map V.int) vs->IntsAre vs ns
 | [],_,r=>by cases r;exact .nil
 | n::ns,_,r=>by
  cases r with
  | cons r rr=>
   obtain⟨t,rfl⟩:=r;exact .cons n t (GB rr)
inductive ZfW(K:QF)(xs:QH)(H:Hp)(Q:VK):Prop|mk(p:Addr)(ns:QG)(_:xs = [.ref p])(_:Zt K H p (ns.map V.int))(_:ns.length<64)(_:∀(l:Addr)(ns':QG),H l=none->ns'.Perm ns->ns'.Pairwise (· <= ·)->Q (.ref l) (upd H l (.lst (ns'.map V.int))))
theorem ZhU:YT X (.builtin "sorted") (ZfW X.K):=by
 intro pins s σ H xs us Q I r h;obtain⟨p,ns,rfl,hq,h64,q⟩:=h;obtain⟨u,rfl,ru⟩:=r.one;cases ru;obtain⟨its,rv,pl,hz⟩:=I.list hq;have hlen:ns.length=its.length:=by simpa using rv.length
 refine sorted_ints pl.isList (GB rv) (by lia) fun out ns' a1 a2 a3=>?_;obtain⟨e,he⟩:=sortedAll_at s.heap its out;have fr:H (s.heap.objs.size+1)=none:=I.hok.fresh (XC _);have hl':ns'.length=ns.length:=a2.length_eq;refine⟨.ref (s.heap.objs.size+1),_,I.laid (a:=s.heap.objs.size+1) (o:=.lst (ns'.map V.int)) (t':=s.toks) (fun b o q=>sortedAll_old q) (XC _) ⟨?_,out.toList,e,UI a1,?_⟩,rfl,q _ _ fr a2 a3⟩
 ·rw[ke];have:(ns.map V.int).length<=sizeLine:=hz;rw[ke] at this;lia
 ·simpa [seqObj] using he
inductive Ziu(K:QF)(x:V)(vs:QH)(H:Hp)(Q:VK):Prop|mk(l:Addr)(xs:QH)(y:V)(_:x = .ref l)(_:vs = [y])(_:Zt K H l xs)(_:W8 y=true)(_:xs.all W8=true)(_:Q (.int (xs.countP fun z=>eqV z y)) H)
theorem Zeu {x:V}:∀{xs:QH}{us:QJ},Vals xs us->xs.all W8=true->us.countP (eqU x)=xs.countP fun y=>eqV y x
 | _,_,.nil,_=>rfl
 | _,_,.cons r rr,h=>by rw[Tw,Kj] at h;rw[XG,XG,Zeu rr h.2,ZiF r h.1]
theorem Zni:MtM X "list.count" (Ziu X.K):=by intro pins s σ H x vs v us Q I rx rv h;obtain⟨l,xs,y,rfl,rfl,hq,fy,fx,q⟩:=h;cases rx;obtain⟨u,rfl,ru⟩:=rv.one;obtain⟨its,r,pl,hz⟩:=I.list hq;obtain⟨⟨c,dd,dt,sl⟩,ho,hc,n,hd⟩:=pl.isList;simp only at hc hd;subst hc hd;refine Tq F.slot_list_count ⟨_,ho,rfl⟩ F.entry_list_count (F.args_list_count_2 _ _) (SeqAt.list_countAt l its.toArray n dd sl u (eqU y)) ⟨ho,fun w hw=>UJ ru fy r fx w (by simpa using hw),?_⟩;refine⟨.int _,H,I.tok _,⟨_,rfl⟩,?_⟩;rw[show its.toArray.toList=its by simp,Zeu r fx];exact q
end
inductive Eqv (K:QF)(H:Hp):Nat->V->V->Prop
 | flat {n:Nat}{x:V}:W8 x=true->Eqv K H n x x
 | same {n:Nat}{a:Addr}:Eqv K H n (.ref a) (.ref a)
 | lst {n:Nat}{a b:Addr}{xs ys:QH}:Zt K H a xs->Zt K H b ys->xs.length=ys.length->(∀(i:Nat)(x y:V),xs[i]? = some x->ys[i]? = some y->Eqv K H n x y)->Eqv K H (n+1) (.ref a) (.ref b)
 | tup {n:Nat}{a b:Addr}{xs ys:QH}:Y9 K H a xs->Y9 K H b ys->xs.length=ys.length->(∀(i:Nat)(x y:V),xs[i]? = some x->ys[i]? = some y->Eqv K H n x y)->Eqv K H (n+1) (.ref a) (.ref b)
theorem all_true (n:Nat):((List.range n).all fun _=>true)=true:=by rw[KA];intro _ _;rfl
theorem Zmd {x:V}(h:W8 x=true):eqV x x=true:=by cases x<;>simp_all [eqV,W8]
theorem Eqv.at {X:Cx}{pins:QC}{σ:St}{H:Hp}{s:Shared}(I:Inv X pins σ H s):∀{n:Nat}{x y:V}{u v:Value}{A:Around},Eqv X.K H n x y->RelV x u->RelV y v->A.units+n<cLine->SeqAt.EqAt A s u v true:=by
 intro n x y u v A h
 induction h generalizing u v A with
 | flat f=>
  intro ru rv _;have:=Zl8 (A:=A) (s:=s) ru rv f f;rw[Zmd f] at this;exact this
 | same=>
  intro ru rv _;cases ru;cases rv;exact TL _
 | @lst n a b xs ys ha hb hl _ ih=>
  intro ru rv hu;cases ru;cases rv;by_cases e:a=b
  ·subst e;exact TL _
  ·obtain⟨its,r1,p1,_⟩:=I.list ha;obtain⟨its2,r2,p2,_⟩:=I.list hb;have l1:=r1.length;have l2:=r2.length;refine SeqAt.EqAt.of_refs e ?_;have q:=SeqAt.RcAt.lists (A:=A) (e:=fun _=>true) p1.isList p2.isList (by simp only[kr];lia) (by lia) fun j h1 h2=>by
    simp only[kr] at h1 h2;obtain⟨u1,e1,s1⟩:=r1.get (i:=j) (x:=xs[j]'(by lia)) (by simp);obtain⟨u2,e2,s2⟩:=r2.get (i:=j) (x:=ys[j]'(by lia)) (by simp);have z1:its.toArray[j]=u1:=by
     have:its[j]? = some its[j]:=by simp[h1]
     rw[this] at e1;simpa using Ka e1
    have z2:its2.toArray[j]=u2:=by
     have:its2[j]? = some its2[j]:=by simp[h2]
     rw[this] at e2;simpa using Ka e2
    rw[z1,z2];exact ih j _ _ (by simp) (by simp) s1 s2 (by show A.units+1+n<cLine;lia)
   rw[all_true] at q;exact q
 | @tup n a b xs ys ha hb hl _ ih=>
  intro ru rv hu;cases ru;cases rv;by_cases e:a=b
  ·subst e;exact TL _
  ·obtain⟨its,r1,p1,_⟩:=I.tuple ha;obtain⟨its2,r2,p2,_⟩:=I.tuple hb;have l1:=r1.length;have l2:=r2.length;refine SeqAt.EqAt.of_refs e ?_;have q:=SeqAt.RcAt.tuples (A:=A) (s:=s) (l:=a) (b:=b) (items:=its.toArray) (items2:=its2.toArray) (e:=fun _=>true) p1 p2 (by lia) fun j h1 h2=>by
    simp only[kr] at h1 h2;obtain⟨u1,e1,s1⟩:=r1.get (i:=j) (x:=xs[j]'(by lia)) (by simp);obtain⟨u2,e2,s2⟩:=r2.get (i:=j) (x:=ys[j]'(by lia)) (by simp);have z1:its.toArray[j]=u1:=by
     have:its[j]? = some its[j]:=by simp[h1]
     rw[this] at e1;simpa using Ka e1
    have z2:its2.toArray[j]=u2:=by
     have:its2[j]? = some its2[j]:=by simp[h2]
     rw[this] at e2;simpa using Ka e2
    rw[z1,z2];exact ih j _ _ (by simp) (by simp) s1 s2 (by show A.units+1+n<cLine;lia)
   have e3:(its.toArray.size==its2.toArray.size)=true:=by rw[NX];simp only[kr];lia
   rw[e3,all_true] at q;exact q
section
variable {X:Cx}
inductive ZnP(K:QF)(b:Bool)(x y:V)(H:Hp)(Q:VK):Prop|mk(p q:Addr)(xs ys:QH)(_:x = .ref p)(_:y = .ref q)(_:Zt K H p xs)(_:Zt K H q ys)(_:xs.length=ys.length)(_:∀(i:Nat)(x y:V),xs[i]? = some x->ys[i]? = some y->Eqv K H 60 x y)(_:Q (.bl b) H)
theorem ZkG {pins:QC}{σ:St}{H:Hp}{s:Shared}{xs ys:QH}{its its2:QJ}{A:Around}(I:Inv X pins σ H s)(r1:Vals xs its)(r2:Vals ys its2)(hl:xs.length=ys.length)(h:∀(i:Nat)(x y:V),xs[i]? = some x->ys[i]? = some y->Eqv X.K H 60 x y)(hu:A.units+62<cLine):
  ∀j (h1:j<its.toArray.size) (h2:j<its2.toArray.size),SeqAt.EqAt A.in1 s its.toArray[j] its2.toArray[j] ((fun _=>true) j):=fun j h1 h2=>by
 have l1:=r1.length;have l2:=r2.length;simp only[kr] at h1 h2;obtain⟨u1,e1,s1⟩:=r1.get (i:=j) (x:=xs[j]'(by lia)) (by simp);obtain⟨u2,e2,s2⟩:=r2.get (i:=j) (x:=ys[j]'(by lia)) (by simp);have z1:its.toArray[j]=u1:=by
  have:its[j]? = some its[j]:=by simp[h1]
  rw[this] at e1;simpa using Ka e1
 have z2:its2.toArray[j]=u2:=by
  have:its2[j]? = some its2[j]:=by simp[h2]
  rw[this] at e2;simpa using Ka e2
 rw[z1,z2];exact Eqv.at I (h j _ _ (by simp) (by simp)) s1 s2 (by show A.units+1+60<cLine;lia)
theorem ZqB (hu:X.A.units+64<cLine):Us X (compareOp .NotEq) (ZnP X.K false):=by intro pins s σ H x y v u Q I rx ry h;obtain⟨p,q,xs,ys,rfl,rfl,hp,hq,hl,he,hQ⟩:=h;cases rx;cases ry;obtain⟨its,r1,p1,_⟩:=I.list hp;obtain⟨its2,r2,p2,_⟩:=I.list hq;have l1:=r1.length;have l2:=r2.length;refine SeqAt.RcNeAt.lists (e:=fun _=>true) p1.isList p2.isList (by simp only[kr];lia) (by lia) (ZkG I r1 r2 hl he (by lia)) X.prog X.w _ _ ⟨.bl false,H,I,?_,hQ⟩;show Value.bool _=Value.bool false;simp
theorem Zn {K:QF}(h:X.K=K):IxR X (Znt K):=h ▸ Zn8
theorem Yp {K:QF}(h:X.K=K):IxR X (Zq5 K):=h ▸ Zqq
theorem Ym {K:QF}(h:X.K=K):SlR X (ZqZ K):=h ▸ ZoN
theorem Zbq {K:QF}(h:X.K=K):MtM X "list.count" (Ziu K):=h ▸ Zni
theorem ZjF {K:QF}(h:X.K=K)(hu:X.A.units+64<cLine):Us X (compareOp .NotEq) (ZnP K false):=h ▸ ZqB hu
theorem Yb {K:QF}(h:X.K=K):YT X (.builtin "len") (Znb K):=h ▸ Zgs
theorem YU {K:QF}(h:X.K=K):YT X (.builtin "isinstance") (Zga K):=h ▸ Zh1
theorem UO {K:QF}(h:X.K=K)(hc:X.calm=true):YT X (.builtin "all") (ZqC K):=h ▸ ZmU hc
theorem Zb9 {K:QF}(h:X.K=K):YT X (.builtin "sorted") (ZfW K):=h ▸ ZhU
theorem J8 {K:QF}(h:X.K=K):YT X (.type "list") (ZgV K):=h ▸ Zf5
theorem Z0 {K:QF}{es:QV}{k:Nat}{t:TGs}{n:Nat}{pos:Pos}(hk:X.K=K)(hc:X.calm=true)(h:PGs X es t)(hn:(assignEach es X.env).length=n:=by rfl)(hst:(assignEach es X.env).findIdx? (·.1)=none:=by rfl):PG X (.Tuple es k pos) (Zp6 K n t):=hk ▸ Zp3 hc h hn hst
theorem Yf {K:QF}{T:String}{name:Str}{r:V->List V->Hp->VK->Prop}{o e:Expr}{es:QV}{to:TE}{t:TA}{apos pos:Pos}(hk:X.K=K)(h:PE X (.Call (.Attribute o name apos) (e::es) [] pos) (tBM X.K T r to t)):PE X (.Call (.Attribute o name apos) (e::es) [] pos) (tBM K T r to t):=hk ▸ h
theorem ZU {K:QF}{l tg:Expr}{tl:TE}(hk:X.K=K)(hl:PE X l tl):PI X tg l (Zpk K tl):=hk ▸ Znx hl
theorem JU {K:QF}{a:Expr}{ta:TA}{p pos tpos:Pos}{es:QV}{k:Nat}(hk:X.K=K)(hg:Gl X "enumerate")(hm:X.mg "enumerate" = none)(ha:PA X [a] ta)(hs:starEach [a] X.env = [(false,eval a X.env)]:=by rfl):
  PI X (.Tuple es k tpos) (.Call (.Name "enumerate" p) [a] [] pos) (Zpb K ta):=hk ▸ Zoh hg hm ha hs
end
section
variable {g:TG}{tc:TT}{te:TE}{σ:St}{H:Hp}{Q:VK}{K:QF}{a:Addr}{xs:QH}
theorem ZeF {J:It}{n:Nat}(hn:n<=sizeLine)(Pv:Nat->List V->Hp->Prop)(h0:Pv 0 [] H)(hlen:∀i ys H,Pv i ys H->ys.length<=i)(go:∀i ys H,i<n->Pv i ys H->J.go i H)(stop:∀ys H,Pv n ys H->J.stop n H)
  (hs:∀i ys H,i<n->Pv i ys H -> ∀x H',J.yld i H x H'->g x σ H' fun σ2 H2=>tc σ2 H2 fun b H3=>if b=true then te σ2 H3 fun y H4=>Pv (i+1) (ys ++ [y]) H4 else Pv (i+1) ys H3)
  (hd:∀ys H,Pv n ys H -> ∀D,H D=none->Q (.ref D) (upd H D (.lst ys))):LcW J σ g tc te H Q:=by
 unfold LcW;refine⟨fun i m ys H=>m=n-i/\i<=n/\Pv i ys H,⟨n,by simp,Kr _,h0⟩,?_⟩;rintro i m ys H ⟨rfl,hi,p⟩;have hy:=hlen i ys H p;by_cases hlt:i<n
 ·exact .inr ⟨go i ys H hlt p,by lia,Pv (i+1),fun ys' H' h2=>⟨n-(i+1),by lia,rfl,hlt,h2⟩,fun x H' y=>hs i ys H hlt p x H' y⟩
 ·have e:i=n:=by lia
  subst e;exact .inl ⟨stop ys H p,by lia,hd ys H p⟩
theorem Ja (hn:xs.length<=sizeLine)(Pv:Nat->List V->Hp->Prop)(h0:Pv 0 [] H)(hlen:∀i ys H,Pv i ys H->ys.length<=i)(hS:∀i ys H,Pv i ys H->Zt K H a xs)
  (hs:∀i x ys H,xs[i]? = some x->Pv i ys H->g x σ H fun σ2 H2=>tc σ2 H2 fun b H3=>if b=true then te σ2 H3 fun y H4=>Pv (i+1) (ys ++ [y]) H4 else Pv (i+1) ys H3)
  (hd:∀ys H,Pv xs.length ys H -> ∀D,H D=none->Q (.ref D) (upd H D (.lst ys))):LcW (Itl K a) σ g tc te H Q:=
 ZeF hn Pv h0 hlen (fun i ys H hi p=>⟨xs,xs[i],hS i ys H p,by simp[hi]⟩) (fun ys H p=>⟨xs,hS _ ys H p,kj _⟩) (fun i ys H hi p x H' y=>by obtain⟨e,y⟩:=y;subst e;exact hs i x ys _ (y xs (hS i ys _ p)) p) hd
theorem Zig {lo:Int}{n:Nat}(hn:n<=sizeLine)(Pv:Nat->List V->Hp->Prop)(h0:Pv 0 [] H)(hlen:∀i ys H,Pv i ys H->ys.length<=i)
  (hs:∀i ys H,i<n->Pv i ys H->g (.int (lo+i)) σ H fun σ2 H2=>tc σ2 H2 fun b H3=>if b=true then te σ2 H3 fun y H4=>Pv (i+1) (ys ++ [y]) H4 else Pv (i+1) ys H3)
  (hd:∀ys H,Pv n ys H -> ∀D,H D=none->Q (.ref D) (upd H D (.lst ys))):LcW (Itr lo n) σ g tc te H Q:=
 ZeF hn Pv h0 hlen (fun i ys H hi p=>hi) (fun ys H p=>kj _) (fun i ys H hi p x H' y=>by obtain⟨e,y⟩:=y;subst e y;exact hs i ys _ hi p) hd
theorem ZiQ (hn:xs.length<=sizeLine)(Pv:Nat->List V->Hp->Prop)(h0:Pv 0 [] H)(hlen:∀i ys H,Pv i ys H->ys.length<=i)(hS:∀i ys H,Pv i ys H->Zt K H a xs)
  (hs:∀i x p ys H,xs[i]? = some x->Pv i ys H->H p=none->g (.ref p) σ (upd H p (.tup [.int i,x])) fun σ2 H2=>tc σ2 H2 fun b H3=>if b=true then te σ2 H3 fun y H4=>Pv (i+1) (ys ++ [y]) H4 else Pv (i+1) ys H3)
  (hd:∀ys H,Pv xs.length ys H -> ∀D,H D=none->Q (.ref D) (upd H D (.lst ys))):LcW (Ite K a) σ g tc te H Q:=
 ZeF hn Pv h0 hlen (fun i ys H hi p=>⟨xs,xs[i],hS i ys H p,by simp[hi]⟩) (fun ys H p=>⟨xs,hS _ ys H p,kj _⟩) (fun i ys H hi p x H' y=>by obtain⟨q,z,e1,e2,e3,y⟩:=y;subst e1 e3;exact hs i z q ys _ (y xs (hS i ys _ p)) p e2) hd
end
def Yv (N:QP)(osc scope:Scope)(Fs:QP)(fi:List Nat):Bool:=
 (scope.kind == .function)&&scope.names.all (fun y=>y.2 != .cell)&&scope.names.all (fun y=>y.2 != .local||scope.names.lookup y.1==some .local)&&Fs.all (fun x=>scope.names.lookup x==some .free) &&
  scope.names.all (fun y=>y.2 != .free||osc.names.lookup y.1==some .cell||osc.names.lookup y.1==some .free)&&(fi.map (fun i=>N[i]?)==Fs.map some)
theorem ZV.of {N:QP}{osc scope:Scope}{Ls Fs:QP}{fi:List Nat}(h:Yv N osc scope Fs fi=true):ZV N osc scope Ls Fs fi:=by
 simp only[Yv,Kj,KA,Xr,Ts,NX] at h;obtain⟨⟨⟨⟨⟨h1,h2⟩,h3⟩,h4⟩,h5⟩,h6⟩:=h;refine⟨h1,h2,fun y hy hl=>(h3 y hy).elim (fun z=>absurd hl z) id,h4,fun y hy hf=>?_,h6⟩;rcases h5 y hy with(z | z) | z
 ·exact absurd hf z
 ·exact .inl z
 ·exact .inr z
def Yq (P:Program)(w:World)(K:QF)(mg:QN)(base:Heap)(k:Nat)(x:Str)(ps:QP)(sp:Sp):Prop:=
 ∃(f:Addr)(fd:FuncData),Yi P w K mg base Wx k f fd ps sp/\mg x=some (.ref f)/\PySem.W.keepIn K (.ref f)=true/\Binds K fd ps []
theorem Zq {X:Cx}{j k:Nat}{x:Str}{ps:QP}{sp:Sp}{p pos:Pos}{e:Expr}{es:QV}{t:TA}(h:Yq X.prog X.w X.K X.mg X.base j x ps sp)(hr:Up k X.A)(ha:PA X (e::es) t)(hj:j<=k:=by decide)(hg:Gl X x:=by rfl)(hdb:(x==("__debug__" : Str))=false:=by decide)
  (he:starEach (e::es) X.env=(false,eval e X.env)::starEach es X.env:=by rfl) (hpl:(backTo pos (starEach es X.env)).any (·.1)=false:=by rfl):PE X (.Call (.Name x p) (e::es) [] pos) (ZjV sp [] E0 t):=by
 obtain⟨f,fd,G,hm,hk,hb⟩:=h;exact Zj2 G (hr.mono hj) hg hm hk hb .nil Zsl ha hdb he hpl
def Jf (b:Addr)(H H':Hp):Prop:=∀c o,H c=some o->c≠b->H' c=some o
theorem Jf.refl (b:Addr)(H:Hp):Jf b H H:=fun _ _ h _=>h
theorem Jf.trans {b:Addr}{H H1 H2:Hp}(x:Jf b H H1)(y:Jf b H1 H2):Jf b H H2:=fun c o h n=>y c o (x c o h n) n
theorem Zh.frm {b:Addr}{H H':Hp}(x:Zh H H'):Jf b H H':=fun c o h _=>x c o h
theorem Zh.laid {H:Hp}{p:Addr}{o:HO}(h:H p=none):Zh H (upd H p o):=fun c u e=>by rw[Zi (Zf e h)];exact e
theorem Zh.step {H H':Hp}{p:Addr}{o:HO}(s:Zh H H')(h:H' p=none):Zh H (upd H' p o):=s.trans (.laid h)
theorem Jf.upd {b:Addr}{H:Hp}{o:HO}:Jf b H (upd H b o):=fun c u e n=>by rw[Zi n];exact e
theorem Jf.new {b p:Addr}{H H':Hp}{o:HO}(s:Jf b H H')(h:H' p=none):Jf b H (L2.upd H' p o):=s.trans (Zh.laid h).frm
theorem Zh.put {H H':Hp}{p:Addr}{o:HO}(s:Zh H H')(h:H p=none):Zh H (upd H' p o):=fun c u e=>by rw[Zi (Zf e h)];exact s c u e
def US (H:Hp)(b:Addr):Prop:=∃g r:Int,0<=g/\H b=some (.lst [.int g,.int r])
theorem Jf.free {b:Addr}{H H':Hp}(f:Jf b H H')(hb:US H' b){p:Addr}(h:H' p=none):H p=none:=by
 cases q:H p with
 | none=>rfl
 | some o=>
  by_cases e:p=b
  ·subst e;obtain⟨g,r,_,z⟩:=hb;rw[h] at z;cases z
  ·rw[f p o q e] at h;cases h
def ZH (H:Hp)(xs:QH)(ls:QB):Prop:=Paired (fun x (p:Str×Int)=>∃t,x=V.ref t/\H t=some (.tup [.str p.1,.int p.2])) xs ls
theorem ZH.mono {H H':Hp}(h:∀t p,H t=some (.tup p)->H' t=some (.tup p)):∀{xs:QH}{ls:QB},ZH H xs ls->ZH H' xs ls
 | _,_,.nil=>.nil
 | _,_,.cons ⟨t,e,q⟩ r=>.cons ⟨t,e,h t _ q⟩ (ZH.mono h r)
theorem ZH.same {H H':Hp}(s:Zh H H'){xs:QH}{ls:QB}(h:ZH H xs ls):ZH H' xs ls:=h.mono fun t p e=>s t _ e
theorem ZH.frm {b:Addr}{H H':Hp}(s:Jf b H H')(hb:US H b){xs:QH}{ls:QB}(h:ZH H xs ls):ZH H' xs ls:=h.mono fun t p e=>s t _ e (fun z=>by obtain⟨g,r,_,q⟩:=hb;rw[z,q] at e;cases e)
theorem ZH.len {H:Hp}{xs:QH}{ls:QB}(h:ZH H xs ls):xs.length=ls.length:=qj h
theorem ZH.get {H:Hp}:∀{xs:QH}{ls:QB}{i:Nat}{x:V},ZH H xs ls->xs[i]? = some x -> ∃p t,ls[i]? = some p/\x = .ref t/\H t=some (.tup [.str p.1,.int p.2])
 | _,_,_,_,.nil,e=>by simp at e
 | _,_,0,_,.cons ⟨t,e1,q⟩ _,e=>by simp at e;subst e;exact⟨_,t,rfl,e1,q⟩
 | _,_,i+1,x,.cons _ r,e=>by obtain⟨p,t,h1,h2⟩:=ZH.get (i:=i) (x:=x) r (by simpa using e);exact⟨p,t,by simpa using h1,h2⟩
theorem ZH.snoc {H:Hp}{xs:QH}{ls:QB}{t:Addr}{x:Str}{k:Int}(h:ZH H xs ls)(e:H t=some (.tup [.str x,.int k])):ZH H (xs ++ [.ref t]) (ls ++ [(x,k)]):=XE h ⟨t,rfl,e⟩
theorem ZH.append {H:Hp}:∀{xs ys:QH}{ls ms:QB},ZH H xs ls->ZH H ys ms->ZH H (xs++ys) (ls++ms)
 | _,_,_,_,.nil,s=>s
 | _,_,_,_,.cons r t,s=>.cons r (ZH.append t s)
inductive Wk:List (Str×Int)->Int->Prop
 | nil:Wk [] 0
 | born {ls:QB}{n k:Int}:Wk ls n->0<=k->k<=n->Wk (ls ++ [((("born" : Str),k):Str×Int)]) (n+2)
 | cross {ls:QB}{n k:Int}:Wk ls n->0<=k->k+1<n->Wk (ls ++ [((("cross" : Str),k):Str×Int)]) n
 | fin {ls:QB}{n k:Int}:Wk ls n->0<=k->k+1<n->Wk (ls ++ [((("end" : Str),k):Str×Int)]) (n-2)
def Kd (x:Str):Prop:=x = "born" ∨ x = "cross" ∨ x = "end"
theorem Wk.kd {ls:QB}{n:Int}(h:Wk ls n):∀p∈ls,Kd p.1:=by
 induction h with
 | nil=>intro p hp;cases hp
 | born _ _ _ ih=>intro p hp;rcases Kk.mp hp with z | z;exact ih p z;rw[kT.mp z];exact .inl rfl
 | cross _ _ _ ih=>intro p hp;rcases Kk.mp hp with z | z;exact ih p z;rw[kT.mp z];exact .inr (.inl rfl)
 | fin _ _ _ ih=>intro p hp;rcases Kk.mp hp with z | z;exact ih p z;rw[kT.mp z];exact .inr (.inr rfl)
def Drw (H:Hp)(l:Addr)(ls:QB):Prop:=∃xs,H l=some (.lst xs)/\ZH H xs ls/\Wk ls 0/\ls.length<=60
def Ev (t:TT)(σ:St)(H:Hp)(β:Bool):Prop:=∀Q:Bool->Hp->Prop,Q β H->t σ H Q
theorem Zgr {t u:TT}{σ:St}{H:Hp}{β γ:Bool}(h1:Ev t σ H β)(h2:β = true->Ev u σ H γ):Ev (ZrM t u) σ H (β && γ):=fun Q q=>h1 _ (by
 cases β with
 | true=>rw[km rfl];exact h2 rfl _ q
 | false=>rw[ki kP];exact q)
theorem Zse {t u:TT}{σ:St}{H:Hp}{β γ:Bool}(h1:Ev t σ H β)(h2:β = false->Ev u σ H γ):Ev (tOr t u) σ H (β || γ):=fun Q q=>h1 _ (by
 cases β with
 | true=>rw[km rfl];exact q
 | false=>rw[ki kP];exact h2 rfl _ q)
theorem ZrW {t:TT}{σ:St}{H:Hp}{β:Bool}{T U:Hp->Prop}(h:Ev t σ H β)(h1:β = true->T H)(h2:β = false->U H):t σ H fun b H1=>if b=true then T H1 else U H1:=h _ (by
 cases β with
 | true=>rw[km rfl];exact h1 rfl
 | false=>rw[ki kP];exact h2 rfl)
theorem ZiY {tc:TT}{t u:TS}{D:Ends}{σ:St}{H:Hp}{β:Bool}(h:Ev tc σ H β)(h1:β = true->t D σ H)(h2:β = false->u D σ H):ZkC tc t u D σ H:=ZrW h h1 h2
theorem lcT {σ:St}{H:Hp}{A B:Hp->Prop}(h:A H):ZfF σ H fun b H3=>if b=true then A H3 else B H3:=by
 show if true=true then A H else B H
 exact J6 h
theorem W2 {H H1 H2:Hp}{b l t:Addr}{xs:QH}{ls:QB}(x:Str)(k:Int)(f0:Jf b H H1)(hb1:US H1 b)(hl:H1 l=some (.lst xs))(hL:ZH H1 xs ls)(hlb:l≠b)(hlf:H l=none)(f2:Jf b H1 H2)(bag2:US H2 b)(ht:H2 t=none):
  (upd H2 t (.tup [.str x,.int k])) l=some (.lst xs)/\US (upd (upd H2 t (.tup [.str x,.int k])) l (.lst (xs ++ [.ref t]))) b/\Jf b H (upd (upd H2 t (.tup [.str x,.int k])) l (.lst (xs ++ [.ref t]))) /\
   (upd (upd H2 t (.tup [.str x,.int k])) l (.lst (xs ++ [.ref t]))) l=some (.lst (xs ++ [.ref t]))/\ZH (upd (upd H2 t (.tup [.str x,.int k])) l (.lst (xs ++ [.ref t]))) (xs ++ [.ref t]) (ls ++ [(x,k)]):=by
 have hl2:H2 l=some (.lst xs):=f2 l _ hl hlb;have hlt:l≠t:=Zf hl2 ht;have hbt:b≠t:=by obtain⟨g,r,_,e⟩:=bag2;exact Zf e ht
 refine⟨by rw[Zi hlt];exact hl2,?_,fun c o e n=>?_,Zc,?_⟩
 ·obtain⟨g,r,h0,e⟩:=bag2;exact⟨g,r,h0,by rw[Zi (KG hlb),Zi hbt];exact e⟩
 ·have e2:=f2 c o (f0 c o e n) n;rw[Zi (Zf e hlf),Zi (Zf e2 ht)];exact e2
 ·refine ZH.snoc ?_ (by rw[Zi (KG hlt)];exact Zc);refine(hL.frm f2 hb1).mono fun t' p e=>?_;rw[Zi (Zee e hl2 (by intro z;cases z)),Zi (Zf e ht)];exact e
theorem Wk.nil0:Wk [] (2*((0:Nat):Int)):=Wk.nil
theorem ZdN {ls:QB}:∀(n:Nat),Wk ls (2*(n:Int)) -> ∀m,m<=n->Wk (ls++List.replicate m ((("end" : Str),0):Str×Int)) (2*((n-m:Nat):Int))
 | n,h,0,_=>by simpa using h
 | n,h,m+1,hm=>by
  have ih:=ZdN n h m (by lia);rw[XF,<- Kt];have e:(2*((n-(m+1):Nat):Int))=2*((n-m:Nat):Int)-2:=by lia
  rw[e];exact Wk.fin ih (by decide) (by lia)
theorem Zfx:∀(n:Nat),Wk ((List.range n).map fun(k:Nat)=>((("born" : Str),2*(k:Int)):Str×Int)) (2*(n:Int))
 | 0=>by simpa using Wk.nil
 | n+1=>by
  rw[KR,kQ];have e:(2*((n+1:Nat):Int))=2*(n:Int)+2:=by lia
  rw[e];exact Wk.born (Zfx n) (by lia) (by lia)
theorem lcG {i:Nat}{v:V}{σ:St}{H:Hp}{A B:QT}(h:A (σ.set i (some v)) H):ZfJ i v σ H fun σ2 H2=>ZfF σ2 H2 fun b H3=>if b=true then A σ2 H3 else B σ2 H3:=by
 show if true=true then A (σ.set i (some v)) H else B (σ.set i (some v)) H
 exact J6 h
def isK (ls:QB)(pr:Str->Bool)(i:Nat):Bool:=((ls[i]?).map fun q=>pr q.1)==some true
def Yg (ls:QB)(pr:Str->Bool)(n:Nat):QG:=(List.range n).filterMap fun i=>if isK ls pr i=true then some (i:Int) else none
theorem WG (ls:QB)(pr:Str->Bool)(n:Nat):Yg ls pr (n+1)=Yg ls pr n++(if isK ls pr n=true then[(n:Int)] else[]):=by unfold Yg;rw[KR,Tf];by_cases h:isK ls pr n=true<;>simp[h]
theorem ZdY {ls:QB}{pr:Str->Bool}{n:Nat}{q:Str×Int}(h:ls[n]? = some q)(hp:pr q.1=true):(Yg ls pr n).map V.int ++ [V.int n]=(Yg ls pr (n+1)).map V.int:=by
 have:isK ls pr n=true:=by unfold isK;rw[h];simp[hp]
 rw[WG,this];simp
theorem ZgQ {ls:QB}{pr:Str->Bool}{n:Nat}{q:Str×Int}(h:ls[n]? = some q)(hp:pr q.1=false):(Yg ls pr n).map V.int=(Yg ls pr (n+1)).map V.int:=by
 have:isK ls pr n=false:=by unfold isK;rw[h];simp[hp]
 rw[WG,this];simp
theorem JV (ls:QB)(pr:Str->Bool)(n:Nat):(Yg ls pr n).length<=n:=by unfold Yg;exact Kb (Nq _ _) (by simp)
theorem ZbU:∀{a b:QG},a.Perm b->a.Pairwise (· <= ·)->b.Pairwise (· <= ·)->a=b
 | [],b,p,_,_=>(List.nil_perm.mp p).symm
 | x::a,[],p,_,_=>absurd p.length_eq (by simp)
 | x::a,y::b,p,ha,hb=>by
  have hx:x∈y::b:=p.mem_iff.mp kS;have hy:y∈x::a:=p.mem_iff.mpr kS;have h1:y<=x:=by
   rcases kO.mp hx with e | h
   ·lia
   ·exact(qB.mp hb).1 x h
  have h2:x<=y:=by
   rcases kO.mp hy with e | h
   ·lia
   ·exact(qB.mp ha).1 y h
  have e:x=y:=by lia
  subst e;rw[ZbU (List.perm_cons x |>.mp p) (qB.mp ha).2 (qB.mp hb).2]
def ZkY (x:Str):Int:=if x = "born" then 2 else if x = "end" then -2 else 0
def Zek (ls:QB):Int:=(ls.map fun p=>ZkY p.1).sum
theorem ZcW (ls:QB)(p:Str×Int):Zek (ls ++ [p])=Zek ls+ZkY p.1:=by unfold Zek;simp
theorem ZlG {xs:QH}{t:Nat}(h:t<=xs.length):W3 xs none (some (t:Int))=xs.take t:=by
 have e1:HT.Jy xs.length 0 none=0:=by unfold HT.Jy;rfl
 have e2:HT.Jy xs.length xs.length (some (t:Int))=t:=by
  have h0:¬((t:Int)<0):=by lia
  unfold HT.Jy;simp[h0];lia
 unfold W3;rw[e1,e2];simp
theorem Zfr (ns:QG):(ns.map V.int).all W8=true:=by rw[KA];intro x hx;obtain⟨n,_,rfl⟩:=KH.mp hx;rfl
section
variable {X:Cx}
theorem ZhG {v:Value}{a:Int}(h:IsPart v (some a)):RelV (.int a) v:=by
 cases h with
 | int _ t=>exact⟨t,rfl⟩
inductive Zpd(v:V)(σ:St)(Q:QT)(x:V)(lo hi:QW)(H3:Hp):Prop|mk(l b:Addr)(xs ys:QH)(a c:Int)(_:x = .ref l)(_:v = .ref b)(_:lo=some a)(_:hi=some c)(_:H3 l=some (.lst xs))(_:H3 b=some (.lst ys))(_:l≠b)(_:0<=a)(_:a<=c)(_:c<=xs.length)(_:xs.length+ys.length<=sizeLine)(_:Q σ (upd H3 l (.lst (xs.take a.toNat++ys++xs.drop c.toNat))))
def ZsE (to:TE)(tl th:TO):TG:=fun v σ H Q=>to σ H fun x H1=>tl σ H1 fun lo H2=>th σ H2 fun hi H3=>Zpd v σ Q x lo hi H3
theorem Zp8 {o:Expr}{lo hi:Option Expr}{to:TE}{tl th:TO}{p2 pos:Pos}(ho:PE X o to)(hl:PO X lo tl)(hu:PO X hi th):PG X (.Subscript o (.Slice lo hi none p2) pos) (ZsE to tl th):=by
 intro pins s σ H v u Q I r h;show wpAny _ _ (do
   let ov <- holding [u] (eval o X.env)
   let iv <- holding [u,ov] (eval (.Slice lo hi none p2) X.env)
   standAt pos
   holding [u,ov,iv] (setItem ov iv u)
   release [iv,u,ov] []) _ _ s
 refine kg (KL (YN (ho pins s σ H _ I h) fun ov s1 ⟨x,H1,I1,r1,q1⟩=>?_));refine kg (KL (Mh (YN (hl pins s1 σ H1 _ I1 q1) fun vl s2 ⟨l',H2,I2,pl,q2⟩=>YN (hu pins s2 σ H2 _ I2 q2) fun vu s3 ⟨u',H3,I3,pu,q3⟩=>?_)));rw[Tv];refine kH ?_;have I4:Inv X pins σ H3 { s3 with heap:=s3.heap.push { cls:=.type "slice", data:=.fields #[vl,vu,.none] } }:=I3.kept (t':=s3.toks) fun b ob q=>kC _ q;obtain⟨l,b,xs,ys,a,c,rfl,rfl,rfl,rfl,hx,hy,hne,h0,hac,hc,hz,q⟩:=q3;cases r1;cases r;refine kg (Xv (kg (KL (ZkV I4 hx hy hne (XW ..) (ZhG pl) (ZhG pu) h0 hac hc hz fun s5 I5=>?_))));exact ME ⟨σ,_,I5,q⟩
inductive Zkm(x:V)(vs:QH)(H:Hp)(Q:VK):Prop|mk(l:Addr)(xs:QH)(i:Int)(y:V)(_:x = .ref l)(_:vs = [.int i,y])(_:H l=some (.lst xs))(_:0<=i)(_:i<=xs.length)(_:xs.length<sizeLine)(_:xs.length<2 ^ 62)(_:Q .non (upd H l (.lst (xs.take i.toNat++y::xs.drop i.toNat))))
theorem ZfH:MtM X "list.insert" Zkm:=by
 intro pins s σ H x vs v us Q I rx rv h;obtain⟨l,xs,i,y,rfl,rfl,hH,h0,h1,hz,hb,q⟩:=h;cases rx;obtain⟨u1,u,rfl,ri,ru⟩:=rv.two;obtain⟨t,rfl⟩:=ri;obtain⟨z,its,n,r,hl,e⟩:=I.lstM hH;have hfit:¬(!Builtin.List.listFitsIndex i)=true:=by unfold Builtin.List.listFitsIndex;simp;lia
 refine Tq F.slot_list_insert ⟨_,e,rfl⟩ F.entry_list_insert (F.args_list_insert_3 _ _ _) (AutoSeq1.list_insert_list_int_val_1 l its.toArray n i t u hfit (by rw[kr];lia)) ⟨e,?_⟩;refine⟨.non,_,I.lset (its':=its.take i.toNat++u::its.drop i.toNat) hH e ?_ (Vals.append (r.take _) (.cons ru (r.drop _))) ?_,rfl,q⟩
 ·have hi:¬i<0:=by lia
  have hm:min i.toNat its.toArray.size=i.toNat:=by rw[kr];lia
  simp only[ki hi,hm];simp;rw[kJ (by simp)]
 ·rw[kh,Kv,kL,Ks];lia
end
theorem ZjU (a c:Nat)(hac:a<=c):∀(its:QJ)(i:Nat),((its.zipIdx i).filterMap fun(p:Value×Nat)=>if (a<=p.2/\p.2<c) then none else some p.1)=its.take (a-i)++its.drop (c-i)
 | [],i=>by simp
 | x::r,i=>by
  have ih:=ZjU a c hac r (i+1);rw[List.zipIdx_cons,K7];by_cases h1:i<a
  ·have e1:a-i=(a-(i+1))+1:=by lia
   have e2:c-i=(c-(i+1))+1:=by lia
   rw[ki (show ¬(a<=(x,i).2/\(x,i).2<c) by show ¬(a<=i/\i<c);lia)];simp only[ih];rw[e1,e2];simp
  ·by_cases h2:i<c
   ·have e1:a-i=0:=by lia
    have e1':a-(i+1)=0:=by lia
    have e2:c-i=(c-(i+1))+1:=by lia
    rw[km (show (a<=(x,i).2/\(x,i).2<c) by show (a<=i/\i<c);lia)];simp only[ih];rw[e1,e1',e2];simp
   ·have e1:a-i=0:=by lia
    have e1':a-(i+1)=0:=by lia
    have e2:c-i=0:=by lia
    have e2':c-(i+1)=0:=by lia
    rw[ki (show ¬(a<=(x,i).2/\(x,i).2<c) by show ¬(a<=i/\i<c);lia)];simp only[ih];rw[e1,e1',e2,e2'];simp
section
variable {prog:Program}{w:World}{A:Around}{E:QE}{s:Shared}
theorem Ze2 {l sl:Addr}{its:QJ}{n:Nat}{vl vu:Value}{a c:Nat}{Q:Unit->Shared->Prop}
  (e:s.heap.get? l=some { cls:=.type "list", data:=.seq its.toArray n }) (hs:s.heap.IsSliceOf sl vl vu .none) (pl:IsPart vl (some (a:Int))) (pu:IsPart vu (some (c:Int))) (hac:a<=c) (hc:c<=its.length)
  (hsz:its.length<=sizeLine) (h:∀f:Array Value->Array Value,f its.toArray=(its.take a++its.drop c).toArray->Q () { s with heap:=s.heap.update l (Obj.mapSeq f) }):
  wpAny (model prog w) A (delItem (.ref l) (.ref sl)) Q E s:=by
 have hl:s.heap.IsList l its.toArray:=Nz e;obtain⟨os,hos,hcs,hds⟩:=id hs;have hTs:s.TypeIs (.ref sl) "slice" := ⟨os,hos,hcs⟩;have hstep:¬((rawPart none==rawInt 0)=true):=kP;refine wpAny_delItem_slot hl.typeIs (by decide) F.slot_list_delitem (qC F.slot_list_delitem hl.typeIs F.entry_list_delitem ?_ (F.args_list_delitem_2 _ _));show wpAny _ _ (Builtin.List.listSubscript? (.ref sl) >>= _) _ _ s;refine kg ?_;unfold Builtin.List.listSubscript?;refine kg (N7 hTs slice_no_index ?_);simp only[MO,Tu];refine kH ?_;show wpAny _ _ (typeOf (.ref sl) >>= _) _ _ s;refine kg (qL hTs ?_)
 first
  | rw[ki (by decide)]
  | refine XX (by decide) ?_
 rw[listSliceParts_eq];refine kg (kg (qy hos hds (x:=.none) rfl (kg (XD .none ?_))));rw[ki hstep];refine kg (qy hos hds (x:=vl) rfl (kg (XD pl ?_)));refine kg (qy hos hds (x:=vu) rfl (kg (XD pu (kH ?_))));unfold Builtin.List.listItems;refine kg (kg (Td e rfl (kH ?_)));refine kg (TB ((sliceIndices_raw (some (a:Int)) (some (c:Int)) none its.toArray.size (by simp)).trans (KC (pure:Int×Int×Int->Sem (Int×Int×Int)) (Zej hac (by rw[kr];exact hc)))) ?_);refine kg (XA ?_);have key:∀(F:Array Value->Array Value),F its.toArray=(its.take a++its.drop c).toArray -> ∀(g:Sem Fin),(∀s',Q () s'->wpAny (model prog w) A.in1 g (fun fin s'=>∃v,fin = .done (.ret v)/\Q () s') E s') ->
   wpAny (model prog w) A.in1 (Builtin.List.listUpdate (.ref l) F >>= fun _=>g) (fun fin s'=>∃v,fin = .done (.ret v)/\Q () s') E s:=fun F hF g hg=>by
  show wpAny (model prog w) A.in1 (updateSeq l F >>= fun _=>g) _ E s;refine kg (wpAny_updateSeq (hz:=by rw[kr];exact hsz) (_hz':=?_) e rfl (hg _ (h F hF)));rw[hF,kr,kh,kL,Ks];lia
 refine key _ ?_ _ ?_
 ·refine KC List.toArray ((KC (fun f=>List.filterMap f its.zipIdx) (funext fun p=>?_)).trans (ZjU a c hac its 0));obtain⟨x,k⟩:=p;show (if (if (1:Int)>0 then decide ((a:Int)<=(k:Int))&&decide ((k:Int)<(c:Int))&&(((k:Int)-(a:Int)) % 1==0) else _)=true then none else some x)=if (a<=k/\k<c) then none else some x
  rw[km (show (1:Int)>0 by decide)];have e0:((k:Int)-(a:Int)) % 1=0:=Int.emod_one _;by_cases h1:a<=k/\k<c
  ·rw[km h1,km (by rw[e0];simp;lia)]
  ·rw[ki h1,ki (by rw[e0];simp;lia)]
 ·intro s' hq;exact kg (wpAny_letGo (kH ⟨.none,rfl,hq⟩))
end
section
variable {X:Cx}
inductive Zki(D:Ends)(σ:St)(x:V)(lo hi:QW)(H3:Hp):Prop|mk(l:Addr)(xs:QH)(a c:Int)(_:x = .ref l)(_:lo=some a)(_:hi=some c)(_:H3 l=some (.lst xs))(_:0<=a)(_:a<=c)(_:c<=xs.length)(_:D.nx σ (upd H3 l (.lst (xs.take a.toNat++xs.drop c.toNat))))
def ZqP (to:TE)(tl th:TO):TS:=fun D σ H=>to σ H fun x H1=>tl σ H1 fun lo H2=>th σ H2 fun hi H3=>Zki D σ x lo hi H3
theorem ZlW {o:Expr}{lo hi:Option Expr}{to:TE}{tl th:TO}{p2 p3 pos:Pos}(ho:PE X o to)(hl:PO X lo tl)(hu:PO X hi th):PS X (.Delete [.Subscript o (.Slice lo hi none p2) p3] pos) (ZqP to tl th):=by intro pins s σ H D I h;refine wpAny_Delete (wpAny_deleteEach_cons ?_);rw[arm_delete_Subscript];refine kg (YN (ho pins s σ H _ I h) fun ov s1 ⟨x,H1,I1,r1,q1⟩=>?_);refine kg (KL (Mh (YN (hl pins s1 σ H1 _ I1 q1) fun vl s2 ⟨l',H2,I2,pl,q2⟩=>YN (hu pins s2 σ H2 _ I2 q2) fun vu s3 ⟨u',H3,I3,pu,q3⟩=>?_)));rw[Tv];refine kH ?_;have I4:Inv X pins σ H3 { s3 with heap:=s3.heap.push { cls:=.type "slice", data:=.fields #[vl,vu,.none] } }:=I3.kept (t':=s3.toks) fun b ob q=>kC _ q;obtain⟨l,xs,a,c,rfl,rfl,rfl,hx,h0,hac,hc,q⟩:=q3;cases r1;obtain⟨z,its,n,r,hlen,e⟩:=I4.lstM hx;obtain⟨a',rfl⟩:=kI h0;obtain⟨c',rfl⟩:=kI (Lc h0 hac);simp only[kM] at q;refine kg (Xv (kg (KL (Ze2 (a:=a') (c:=c') e (XW ..) pl pu (by lia) (by lia) (by lia) fun f hf=>?_))));refine ME (wpAny_deleteEach_nil ?_);refine⟨σ,_,I4.lset (its':=its.take a'++its.drop c') (t':=s3.toks) hx e hf (Vals.append (r.take _) (r.drop _)) ?_,q⟩;rw[kh,kL,Ks];lia
end
theorem UZ {K:QF}{a:Addr}{xs:QH}{g:TG}{tb:TS}{D:Ends}{σ:St}{H:Hp}(Pv:Nat->St->Hp->Prop)(h0:Pv 0 σ H)(hl:∀i σ H,i<=xs.length->Pv i σ H->Zt K H a xs)
  (hs:∀i x p σ H,xs[i]? = some x->Pv i σ H->H p=none->g (.ref p) σ (upd H p (.tup [.int i,x])) fun σ2 H2=>tb { D with nx:=Pv (i+1),ct:=Pv (i+1),bk:=D.nx } σ2 H2) (hd:∀ σ H,Pv xs.length σ H->D.nx σ H):
  Zfp (Ite K a) g tb D σ H:=by
 refine⟨fun i m σ H=>m=xs.length-i/\i<=xs.length/\Pv i σ H,⟨xs.length,by simp,Kr _,h0⟩,?_⟩;rintro i m σ H ⟨rfl,hi,p⟩;have q:=hl i σ H hi p;by_cases hlt:i<xs.length
 ·refine .inr ⟨⟨xs,xs[i],q,by simp[hlt]⟩,Pv (i+1),fun σ' H' p'=>⟨xs.length-(i+1),by lia,rfl,hlt,p'⟩,fun x H' y=>?_⟩;obtain⟨r,z,e1,e2,e3,y⟩:=y;subst e1 e3;exact hs i z r σ _ (y xs q) p e2
 ·have e:i=xs.length:=by lia
  subst e;exact .inl ⟨⟨xs,q,kj _⟩,hd σ H p⟩
def G8 (r:QG)(k:Nat):QG:=(r.set k (r.getD (k+1) 0)).set (k+1) (r.getD k 0)
def stp (s:QG×Int)(p:Str×Int):QG×Int:=
 if p.1 = "born" then(s.1.take p.2.toNat ++ [s.2,s.2+1]++s.1.drop p.2.toNat,s.2+2) else if p.1 = "cross" then(G8 s.1 p.2.toNat,s.2) else(s.1.take p.2.toNat++s.1.drop (p.2.toNat+2),s.2)
def rb (ls:QB):QG×Int:=ls.foldl stp ([],0)
theorem YK (ls:QB)(p:Str×Int):rb (ls ++ [p])=stp (rb ls) p:=by unfold rb;rw[List.foldl_append];rfl
theorem W7 {s:QG×Int}{k:Int}:stp s ("born", k)=(s.1.take k.toNat ++ [s.2,s.2+1]++s.1.drop k.toNat,s.2+2):=km rfl
theorem nb1:¬(("cross" : Str) = "born"):=by decide +kernel
theorem nb2:¬(("end" : Str) = "born"):=by decide +kernel
theorem nb3:¬(("end" : Str) = "cross"):=by decide +kernel
theorem Wd {s:QG×Int}{k:Int}:stp s ("cross", k)=(G8 s.1 k.toNat,s.2):=(ki nb1).trans (km rfl)
theorem Ub {s:QG×Int}{k:Int}:stp s ("end", k)=(s.1.take k.toNat++s.1.drop (k.toNat+2),s.2):=(ki nb2).trans (ki nb3)
theorem Za5 {ls:QB}{n:Int}(h:Wk ls n):((rb ls).1.length:Int)=n:=by
 induction h with
 | nil=>rfl
 | born h h0 h1 ih=>
  rw[YK,W7];simp only[kh,kL,Ks,Kv,Xs];lia
 | cross h h0 h1 ih=>
  rw[YK,Wd];simp only[G8,KY];exact ih
 | fin h h0 h1 ih=>
  rw[YK,Ub];simp only[kh,kL,Ks];lia
theorem Uw {α:Type}{a b:List α}{x y:α}(h:a ++ [x]=b ++ [y]):a=b/\x=y:=by have h1:=List.append_inj' h rfl;exact⟨h1.1,by simpa using h1.2⟩
theorem Zpy {l:QB}{p:Str×Int}{m:Int}(h:Wk (l ++ [p]) m):∃n,Wk l n/\((p.1 = "born" /\ 0<=p.2/\p.2<=n)∨(p.1 = "cross" /\ 0<=p.2/\p.2+1<n)∨(p.1 = "end" /\ 0<=p.2/\p.2+1<n)):=by
 generalize hq:l ++ [p]=q at h;cases h with
 | nil=>exact absurd hq (by simp)
 | born h h0 h1=>obtain⟨rfl,rfl⟩:=Uw hq;exact⟨_,h,.inl ⟨rfl,h0,h1⟩⟩
 | cross h h0 h1=>obtain⟨rfl,rfl⟩:=Uw hq;exact⟨_,h,.inr (.inl ⟨rfl,h0,h1⟩)⟩
 | fin h h0 h1=>obtain⟨rfl,rfl⟩:=Uw hq;exact⟨_,h,.inr (.inr ⟨rfl,h0,h1⟩)⟩
theorem Gv {ls:QB}{n:Int}(h:Wk ls n):∀i,∃m,Wk (ls.take i) m:=by
 induction h with
 | nil=>intro i;exact⟨0,by simpa using Wk.nil⟩
 | @born l n k h h0 h1 ih=>
  intro i;by_cases hi:i<=l.length
  ·rw[qN hi];exact ih i
  ·rw[kJ (by rw[kh,Kf];lia)];exact⟨_,Wk.born h h0 h1⟩
 | @cross l n k h h0 h1 ih=>
  intro i;by_cases hi:i<=l.length
  ·rw[qN hi];exact ih i
  ·rw[kJ (by rw[kh,Kf];lia)];exact⟨_,Wk.cross h h0 h1⟩
 | @fin l n k h h0 h1 ih=>
  intro i;by_cases hi:i<=l.length
  ·rw[qN hi];exact ih i
  ·rw[kJ (by rw[kh,Kf];lia)];exact⟨_,Wk.fin h h0 h1⟩
theorem Zfq {ls:QB}{n:Int}(h:Wk ls n){i:Nat}{p:Str×Int}(hp:ls[i]? = some p):
  ls.take (i+1)=ls.take i ++ [p]/\((p.1 = "born" /\ 0<=p.2/\p.2<=((rb (ls.take i)).1.length:Int))∨(p.1 = "cross" /\ 0<=p.2/\p.2+1<((rb (ls.take i)).1.length:Int))∨(p.1 = "end" /\ 0<=p.2/\p.2+1<((rb (ls.take i)).1.length:Int))):=by
 have e:ls.take (i+1)=ls.take i ++ [p]:=by rw[Ki,hp];rfl
 refine⟨e,?_⟩;obtain⟨m,hm⟩:=Gv h (i+1);rw[e] at hm;obtain⟨n',hn,c⟩:=Zpy hm;rw[Za5 hn];exact c
def Y0 (H:Hp)(xs:QH)(rs:QA):Prop:=Paired (fun x (r:QG)=>∃t,x=V.ref t/\H t=some (.lst (r.map V.int))) xs rs
theorem Y0.mono {H H':Hp}(h:∀t o,V.ref t∈xs->H t=some o->H' t=some o){rs:QA}(r:Y0 H xs rs):Y0 H' xs rs:=by
 unfold Y0 at *
 induction r with
 | nil=>exact .nil
 | cons a t ih=>
  obtain⟨q,e,hq⟩:=a;subst e;exact .cons ⟨q,rfl,h q _ kS hq⟩ (ih fun t o ht=>h t o (kU _ ht))
def rowsOf (ls:QB)(i:Nat):QA:=(List.range i).map fun j=>(rb (ls.take j)).1
theorem Zba (ls:QB)(i:Nat):rowsOf ls (i+1)=rowsOf ls i ++ [(rb (ls.take i)).1]:=by unfold rowsOf;rw[KR,kQ];rfl
theorem Y0.mem {H:Hp}{xs:QH}{rs:QA}(r:Y0 H xs rs){t:Addr}(h:V.ref t∈xs):∃q:QG,H t=some (.lst (q.map V.int)):=by
 unfold Y0 at r
 induction r with
 | nil=>cases h
 | cons a _ ih=>
  obtain⟨q,e,hq⟩:=a;rcases kO.mp h with z | z
  ·rw[e] at z;have:t=q:=V.ref.inj z;subst this;exact⟨_,hq⟩
  ·exact ih z
theorem Y0.last {H:Hp}{rs:QA}{r:QG}:∀{xs:QH} , Y0 H xs (rs ++ [r]) -> ∃ys t,xs=ys ++ [V.ref t]/\H t=some (.lst (r.map V.int)):=by
 induction rs with
 | nil=>
  intro xs h;cases h with
  | cons a b=>
   cases b;obtain⟨t,e,q⟩:=a;exact⟨[],t,by rw[e];rfl,q⟩
 | cons q rs ih=>
  intro xs h;cases h with
  | @cons x _ l _ a b=>
   obtain⟨ys,t,e,q⟩:=ih b;exact⟨x::ys,t,by rw[e];rfl,q⟩
theorem Y0.snoc {H:Hp}{xs:QH}{rs:QA}{t:Addr}{r:QG}(h:Y0 H xs rs)(e:H t=some (.lst (r.map V.int))):Y0 H (xs ++ [.ref t]) (rs ++ [r]):=XE h ⟨t,rfl,e⟩
theorem Y0.len {H:Hp}{xs:QH}{rs:QA}(h:Y0 H xs rs):xs.length=rs.length:=qj h
theorem GF {H H' G:Hp}{R w:Addr}{ys:QH}{ls:QB}{i:Nat}(hR:H R=none)(sm:Zh H H')(rv:Y0 H' ys (rowsOf ls (i+1)))(ap:∀t,V.ref t∈ys->H t=none/\t≠R)(nd:ys.Nodup)(hw:H' w=none)(hwR:w≠R)
  (k:∀c o,H' c=some o->c≠R->G c=some o) (gw:G w=some (.lst ((rb (ls.take (i+1))).1.map V.int))):
  Zh H G/\Y0 G (ys ++ [.ref w]) (rowsOf ls (i+2))/\(∀t,V.ref t∈ys ++ [V.ref w]->H t=none/\t≠R)/\(ys ++ [V.ref w]).Nodup:=by
 refine⟨fun c o e=>k c o (sm c o e) (Zf e hR),?_,fun t ht=>?_,?_⟩
 ·rw[Zba];exact Y0.snoc (rv.mono fun t o ht e=>k t o e (ap t ht).2) gw
 ·rcases Kk.mp ht with z | z
  ·exact ap t z
  ·have:t=w:=V.ref.inj (kT.mp z);subst this;exact⟨sm.free hw,hwR⟩
 ·rw[qE];refine⟨nd,by simp,fun a ha b hb=>?_⟩;rw[kT.mp hb];intro z;subst z;obtain⟨q,e⟩:=rv.mem ha;rw[hw] at e;cases e
theorem Zbt {ls:QB}{n:Int}(h:Wk ls n):n<=2*(ls.length:Int):=by
 induction h with
 | nil=>decide
 | born _ _ _ ih=>rw[kh,Kf];lia
 | cross _ _ _ ih=>rw[kh,Kf];lia
 | fin _ _ _ ih=>rw[kh,Kf];lia
theorem Jg {n j:Nat}(h:j<n):ixN n (j:Int)=some j:=by unfold ixN;rw[km (by lia),km (by lia)];simp
theorem Zi9 (r:QG)(k:Nat):((r.map V.int).set k (V.int (r.getD (k+1) 0))).set (k+1) (V.int (r.getD k 0))=(G8 r k).map V.int:=by unfold G8;rw[qW,qW]
theorem map_getD (r:QG){k:Nat}(h:k<r.length):(r.map V.int)[k]? = some (V.int (r.getD k 0)):=by rw[kF];simp[h]
def ZaC:Sp:=fun vs H Q _=>∃(l:Addr)(xs:QH)(ls:QB),vs = [.ref l]/\H l=some (.lst xs)/\ZH H xs ls/\ls.length<=60/\Wk ls 0 /\ ∀(p:Addr)(H':Hp)(ys:QH),H p=none->Zh H H'->H' p=some (.lst ys)->Y0 H' ys (rowsOf ls (ls.length+1))->(∀t,V.ref t∈ys->H t=none/\t≠p)->ys.Nodup->Q (.ref p) H'
theorem ZnX {α:Type}(r:List α)(k:Nat)(x y:α)(h:k<=r.length):(r.take k++y::r.drop k).take k++x::(r.take k++y::r.drop k).drop k=r.take k ++ [x,y]++r.drop k:=by
 have hl:(r.take k).length=k:=by rw[kL];lia
 have e1:(r.take k++y::r.drop k).take k=r.take k:=by have:=List.take_left' (l₂:=y::r.drop k) hl;exact this
 have e2:(r.take k++y::r.drop k).drop k=y::r.drop k:=List.drop_left' hl;rw[e1,e2];simp
theorem Znw {α:Type}(r:List α)(k:Nat):(r.eraseIdx k).eraseIdx k=r.take k++r.drop (k+2):=by
 induction r generalizing k with
 | nil=>simp
 | cons x r ih=>
  cases k with
  | zero=>cases r<;>simp
  | succ k=>
   rw[NB,NB,ih];simp
theorem Zfs {n j:Nat}(h:j<n):seqIndex? (j:Int) n=some j:=by
 unfold seqIndex?;have h0:¬((j:Int)<0):=by lia
 simp[h0,h]
section
variable {κ:Type}[DecidableEq κ]
def JS (kvs:List (κ × V))(k:κ):QI:=(kvs.find? fun kv=>decide (kv.1=k)).map (·.2)
def putK (kvs:List (κ × V))(k:κ)(v:V):List (κ × V):=
 if (kvs.any fun kv=>decide (kv.1=k))=true then kvs.map (fun kv=>if kv.1=k then(kv.1,v) else kv) else kvs ++ [(k,v)]
theorem Je {p:κ × V}{r:List (κ × V)}{k:κ}(e:p.1=k):JS (p::r) k=some p.2:=by simp[JS,Xt,e]
theorem Jc {p:κ × V}{r:List (κ × V)}{k:κ}(e:¬p.1=k):JS (p::r) k=JS r k:=by simp[JS,Xt,e]
theorem Zcj (k:κ):∀kvs:List (κ × V),(kvs.any fun kv=>decide (kv.1=k))=(JS kvs k).isSome
 | []=>rfl
 | p::r=>by
  rw[XR];by_cases e:p.1=k
  ·simp only[Je e,kE e,Bool.true_or,Option.isSome_some]
  ·rw[Jc e,Km e,Bool.false_or];exact Zcj k r
theorem Zhl (k j:κ)(y:V):∀kvs:List (κ × V),JS (kvs.map fun kv=>if kv.1=k then(kv.1,y) else kv) j=(JS kvs j).map fun x=>if j=k then y else x
 | []=>rfl
 | p::r=>by
  have ih:=Zhl k j y r;rw[Kq];by_cases h:p.1=k
  ·rw[km h];by_cases e:p.1=j
   ·rw[Je (p:=(p.1,y)) e,Je e,qS,km (e.symm.trans h)]
   ·rw[Jc (p:=(p.1,y)) e,Jc e,ih]
  ·rw[ki h];by_cases e:p.1=j
   ·rw[Je (p:=p) e,Je e,qS,ki (fun z=>h (e.trans z))]
   ·rw[Jc (p:=p) e,Jc e,ih]
theorem ZfE (k j:κ)(y:V):∀kvs:List (κ × V),JS kvs k=none->JS (kvs ++ [(k,y)]) j=if j=k then some y else JS kvs j
 | [],_=>by
  by_cases e:k=j
  ·rw[km e.symm];exact Je (p:=(k,y)) e
  ·rw[ki (fun z=>e z.symm)];exact Jc (p:=(k,y)) e
 | p::r,hn=>by
  rw[NC];have hk:¬p.1=k:=fun z=>by rw[Je z] at hn;cases hn
  rw[Jc hk] at hn;have ih:=ZfE k j y r hn;by_cases e:p.1=j
  ·rw[Je e,Je e,ki (fun z=>hk (e.trans z))]
  ·rw[Jc e,Jc e,ih]
theorem Zec (kvs:List (κ × V))(k j:κ)(y:V):JS (putK kvs k y) j=if j=k then some y else JS kvs j:=by
 unfold putK;by_cases a:(kvs.any fun kv=>decide (kv.1=k))=true
 ·rw[km a,Zhl];rw[Zcj] at a;by_cases e:j=k
  ·obtain⟨x,hx⟩:=Nm.mp a;rw[km e,e,hx,qS,km rfl]
  ·rw[ki e];cases JS kvs j with
   | none=>rfl
   | some x=>rw[qS,ki e]
 ·rw[ki a];refine ZfE k j y kvs ?_;rw[Zcj] at a;cases q:JS kvs k with
  | none=>rfl
  | some x=>rw[q] at a;exact(a rfl).elim
theorem W6 (kvs:List (κ × V))(k:κ)(v:V):(putK kvs k v).length<=kvs.length+1:=by
 unfold putK;split
 ·rw[ke];lia
 ·rw[kh,Kv,Xs];lia
theorem ZcM.isSome_eq {o:QI}{u:Option Value}(r:ZcM o u):o.isSome=u.isSome:=by
 cases o with
 | none=>cases u with
  | none=>rfl
  | some _=>exact(show False from r).elim
 | some _=>cases u with
  | none=>exact(show False from r).elim
  | some _=>rfl
theorem ZcM.getD {o:QI}{u:Option Value}{d:V}{d':Value}(r:ZcM o u)(rd:RelV d d'):RelV (o.getD d) (u.getD d'):=by
 cases o with
 | none=>cases u with
  | none=>exact rd
  | some _=>exact(show False from r).elim
 | some _=>cases u with
  | none=>exact(show False from r).elim
  | some _=>exact r
theorem KV.val {kvs:List (κ × V)}{vs:List (κ × Value)}(r:KV kvs vs)(k:κ):ZcM (JS kvs k) (valueAt vs k):=by
 unfold KV at r
 induction r with
 | nil=>exact True.intro
 | @cons p q ps qs h t ih=>
  obtain⟨h1,h2⟩:=h;by_cases e:p.1=k
  ·have e':q.1=k:=h1.symm.trans e;have b:valueAt (q::qs) k=some q.2:=by simp[valueAt,Xt,e']
   rw[Je e,b];exact h2
  ·have e':¬q.1=k:=fun z=>e (h1.trans z);have b:valueAt (q::qs) k=valueAt qs k:=by simp[valueAt,Xt,e']
   rw[Jc e,b];exact ih
theorem KV.any {kvs:List (κ × V)}{vs:List (κ × Value)}(r:KV kvs vs)(k:κ):(kvs.any fun kv=>decide (kv.1=k))=vs.any fun kv=>decide (kv.1=k):=by
 unfold KV at r
 induction r with
 | nil=>rfl
 | cons h t ih=>rw[XR,XR,ih,h.1]
theorem KV.repl {kvs:List (κ × V)}{vs:List (κ × Value)}(r:KV kvs vs)(k:κ){y:V}{u:Value}(ry:RelV y u):
  KV (kvs.map fun kv=>if kv.1=k then(kv.1,y) else kv) (vs.map fun kv=>if kv.1=k then(kv.1,u) else kv):=by
 unfold KV at r ⊢
 induction r with
 | nil=>exact .nil
 | @cons p q ps qs h t ih=>
  rw[Kq,Kq];refine .cons ?_ ih;obtain⟨h1,h2⟩:=h;by_cases e:p.1=k
  ·rw[km e,km (h1.symm.trans e)];exact⟨h1,ry⟩
  ·rw[ki e,ki (fun z=>e (h1.trans z))];exact⟨h1,h2⟩
theorem KV.put {kvs:List (κ × V)}{vs:List (κ × Value)}(r:KV kvs vs)(k:κ){y:V}{u:Value}(ry:RelV y u):KV (putK kvs k y) (stored vs k u):=by
 unfold putK stored;rw[r.any k];by_cases e:(vs.any fun kv=>decide (kv.1=k))=true
 ·rw[km e,km e];exact r.repl k ry
 ·rw[ki e,ki e];exact XE r ⟨rfl,ry⟩
theorem KV.length {kvs:List (κ × V)}{vs:List (κ × Value)}(r:KV kvs vs):kvs.length=vs.length:=qj r
end
theorem ZfB {P:Program}{w:World}{k:Key}{u:Value}(r:RelV (kV k) u):(Z9 P w).is k u=true:=by
 cases k with
 | inl i=>obtain⟨t,e⟩:=(show ∃t,u=Value.int i t from r);subst e;exact ZhF P w i t
 | inr x=>obtain⟨t,e⟩:=(show ∃t,u=Value.str x t from r);subst e;exact ZhN P w x t
theorem Zfm {P:Program}{w:World}:∀{ks:List Key}{us:QJ},Vals (ks.map kV) us->ItemsAre (Z9 P w) ks us
 | [],_,r=>by rw[NW] at r;cases r;exact .nil
 | k::ks,_,r=>by
  rw[Kq] at r;cases r with
  | cons h t=>exact .cons (ZfB h) (Zfm t)
abbrev KT (H:Hp):List (List Key×V)->List (List Key×Addr×Value)->Prop:=Paired fun p q=>p.1=q.1/\H q.2.1=some (.tup (p.1.map kV))/\RelV p.2 q.2.2
theorem KT.val {H:Hp}{kvs:List (List Key×V)}{xs:List (List Key×Addr×Value)}(r:KT H kvs xs)(k:List Key):ZcM (JS kvs k) ((atKey xs k).map (·.2)):=by
 induction r with
 | nil=>exact True.intro
 | @cons p q ps qs h t ih=>
  obtain⟨h1,_,h2⟩:=h;by_cases e:p.1=k
  ·have e':q.1=k:=h1.symm.trans e;have b:atKey (q::qs) k=some q.2:=by simp[atKey,Xt,e']
   rw[Je e,b];exact h2
  ·have e':¬q.1=k:=fun z=>e (h1.trans z);have b:atKey (q::qs) k=atKey qs k:=by simp[atKey,Xt,e']
   rw[Jc e,b];exact ih
theorem KT.repl {H:Hp}{kvs:List (List Key×V)}{xs:List (List Key×Addr×Value)}(r:KT H kvs xs)(k:List Key){y:V}{u:Value}(ry:RelV y u):
  KT H (kvs.map fun kv=>if kv.1=k then(kv.1,y) else kv) (xs.map (putAt k u)):=by
 induction r with
 | nil=>exact .nil
 | @cons p q ps qs h t ih=>
  rw[Kq,Kq];refine .cons ?_ ih;obtain⟨h1,h2,h3⟩:=h;unfold putAt;by_cases e:p.1=k
  ·rw[km e,km (h1.symm.trans e)];exact⟨h1,h2,ry⟩
  ·rw[ki e,ki (fun z=>e (h1.trans z))];exact⟨h1,h2,h3⟩
theorem KT.put {H:Hp}{kvs:List (List Key×V)}{xs:List (List Key×Addr×Value)}(r:KT H kvs xs)(k:List Key){b:Addr}{y:V}{u:Value}(hb:H b=some (.tup (k.map kV)))(ry:RelV y u):
  KT H (putK kvs k y) (storedH xs k b u):=by
 have e:(kvs.any fun kv=>decide (kv.1=k))=(atKey xs k).isSome:=by rw[Zcj,(r.val k).isSome_eq,Option.isSome_map]
 unfold putK storedH;rw[e];by_cases q:(atKey xs k).isSome=true
 ·rw[km q,km q];exact r.repl k ry
 ·rw[ki q,ki q];exact XE r ⟨rfl,hb,ry⟩
theorem KT.keeps {H H':Hp}{kvs:List (List Key×V)}{xs:List (List Key×Addr×Value)}(r:KT H kvs xs)(ht:∀b ys,H b=some (.tup ys)->H' b=some (.tup ys)):KT H' kvs xs:=
 Paired.mapP r fun _ _ z=>⟨z.1,ht _ _ z.2.1,z.2.2⟩
section
variable {P:Program}{w:World}{H:Hp}{h:Heap}{a:Addr}
theorem Zo0 {u:HO}(ok:UX P w H h)(e:Rd H a u):YA P w H h a u:=e.ok ok
theorem ZfN {kvs:QD}(ok:UX P w H h)(e:Rd H a (.dK kvs)):kvs.length<=sizeLine/\(a==sysModules)=false /\ ∃vs,KV kvs vs/\h.DictOf (Z9 P w) a vs:=
 show YA P w H h a (.dK kvs) from Zo0 ok e
theorem Znf {kvs:QD}(ok:UX P w H h)(e:H a=some (.dK kvs)):kvs.length<=sizeLine/\(a==sysModules)=false /\ ∃vs,KV kvs vs/\h.DictOf (Z9 P w) a vs:=ZfN ok (.inl e)
theorem ZeC {ks:List Key}(ok:UX P w H h)(e:H a=some (.tup (ks.map kV))):(tupleKind (Z9 P w)).is h ks a:=by obtain⟨_,its,r,o,h1,h2,n,h3⟩:=(show YA P w H h a (.tup (ks.map kV)) from ok a _ e);exact⟨o,its.toArray,n,h1,h2,h3,by simpa using Zfm r⟩
theorem Zfl {kvs:List (List Key×V)}(ok:UX P w H h)(e:Rd H a (.dT kvs)):kvs.length<=sizeLine/\(a==sysModules)=false /\
  ∃xs,KT H kvs xs/\h.DictOfH (tupleKind (Z9 P w)) a xs:=by
 obtain⟨z,y,xs,r,o,es,ep,h1,h2,h3,h4,h5⟩:=(show YA P w H h a (.dT kvs) from Zo0 ok e);refine⟨z,y,xs,r,o,es,ep,h1,h2,h3,h4,fun x hx=>?_,h5⟩;have all:∀{l:List (List Key×V)}{m:List (List Key×Addr×Value)},KT H l m -> ∀x∈m,(tupleKind (Z9 P w)).is h x.1 x.2.1:=by
  intro l m q
  induction q with
  | nil=>intro x hx;exact nomatch hx
  | @cons p q ps qs hq t ih=>
   intro x hx;rcases kO.mp hx with e | hx
   ·subst e;exact ZeC ok (by rw[<- hq.1];exact hq.2.1)
   ·exact ih x hx
 exact all r x hx
theorem Zr5 {kvs:List (List Key×V)}(ok:UX P w H h)(e:H a=some (.dT kvs)):kvs.length<=sizeLine/\(a==sysModules)=false /\
  ∃xs,KT H kvs xs/\h.DictOfH (tupleKind (Z9 P w)) a xs:=Zfl ok (.inl e)
end
def Zby (H:Hp)(a:Addr)(y:V)(r:QI):Prop:=
 (∃kvs k,Rd H a (.dK kvs)/\y=kV k/\r=JS kvs k) ∨ ∃kvs k b,Rd H a (.dT kvs)/\y = .ref b/\H b=some (.tup (k.map kV))/\r=JS kvs k
def ZhK (H:Hp)(a:Addr)(y v:V)(H':Hp):Prop:=
 (∃kvs k,H a=some (.dK kvs)/\y=kV k/\kvs.length<sizeLine/\H'=upd H a (.dK (putK kvs k v))) ∨
 ∃kvs k b,H a=some (.dT kvs)/\y = .ref b/\H b=some (.tup (k.map kV))/\kvs.length<sizeLine/\H'=upd H a (.dT (putK kvs k v))
theorem Zby.k {H:Hp}{a:Addr}{kvs:QD}{k:Key}(e:H a=some (.dK kvs)):Zby H a (kV k) (JS kvs k):=.inl ⟨kvs,k,.inl e,rfl,rfl⟩
theorem ZhK.k {H:Hp}{a:Addr}{kvs:QD}{k:Key}{v:V}(e:H a=some (.dK kvs))(hl:kvs.length<sizeLine):ZhK H a (kV k) v (upd H a (.dK (putK kvs k v))):=.inl ⟨kvs,k,e,rfl,hl,rfl⟩
section
variable {X:Cx}{pins:QC}{σ:St}{H:Hp}{s:Shared}{a:Addr}{y v:V}{u r:Value}{o:QI}{A:Around}{E:QE}
theorem Inv.big (I:Inv X pins σ H s):sysModules<s.heap.objs.size:=by have h:mainGlobals<s.heap.objs.size:=(I.mod.glob.keeps I.bk).lt;exact Nat.lt_trans (by decide) h
theorem Zlf {Q:QE}(hu:A.units+1<cLine)(I:Inv X pins σ H s)(g:Zby H a y (some v))(ry:RelV y u)(h:∀w' s',Inv X pins σ H s'->RelV v w'->Q w' s'):
  wpAny (model X.prog X.w) A (getItem (.ref a) u) Q E s:=by
 rcases g with⟨kvs,k,e,ey,l⟩ | ⟨kvs,k,b,e,ey,eb,l⟩
 ·subst ey;obtain⟨z,hd,vs,rel,dd⟩:=ZfN I.hok e;obtain⟨w',hw,rw'⟩:=ZcM.some_of (v:=v) (o:=valueAt vs k) (by rw[l];exact rel.val k);exact wpAny_getItem_of (ZfB ry) dd.mapOf hw (h w' _ (I.tok _) rw')
 ·subst ey;cases (show u=Value.ref b from ry);obtain⟨z,hd,xs,rel,dd⟩:=Zfl I.hok e;obtain⟨w',hw,rw'⟩:=ZcM.some_of (v:=v) (o:=(atKey xs k).map (·.2)) (by rw[l];exact rel.val k);obtain⟨p,hp,hp2⟩:=Ke.mp hw;refine wpAny_getItem_heap (XY hu) (ZeC I.hok eb) dd hp ?_;rw[hp2];exact h w' _ (I.tok _) rw'
theorem ZsJ {Q:QE}(hu:A.units+1<cLine)(I:Inv X pins σ H s)(g:Zby H a y o)(ry:RelV y u)(h:∀s',Inv X pins σ H s'->Q (.bool o.isSome) s'):
  wpAny (model X.prog X.w) A (compareOp .In u (.ref a)) Q E s:=by
 rcases g with⟨kvs,k,e,ey,l⟩ | ⟨kvs,k,b,e,ey,eb,l⟩
 ·subst ey;obtain⟨z,hd,vs,rel,dd⟩:=ZfN I.hok e;refine wpAny_in_of (ZfB ry) hd dd.mapOf ?_;rw[<- (rel.val k).isSome_eq,<- l];exact h _ (I.tok _)
 ·subst ey;cases (show u=Value.ref b from ry);obtain⟨z,hd,xs,rel,dd⟩:=Zfl I.hok e;refine wpAny_in_heap (XY hu) (ZeC I.hok eb) hd dd ?_;have q:=(rel.val k).isSome_eq;rw[Option.isSome_map] at q;rw[<- q,<- l];exact h _ (I.tok _)
theorem ZfX {h':Heap}{t':Nat}{ob:HO}(I:Inv X pins σ H s)(mu:Mut (H a))(hs:Heap.SameBut a s.heap h')(he:∃q,h'.get? a=some q)(new:YA X.prog X.w (upd H a ob) h' a ob):
  Inv X pins σ (upd H a ob) { s with heap:=h',toks:=t' }:=
 I.write (x:=a) (e:=a) mu (.inl rfl) (fun b q hb z=>(hs.2 b hb).trans z) he new
theorem Zia {P:Program}{w:World}{H':Hp}{h':Heap}{kvs:QD}{vs:List (Key×Value)}(z:kvs.length<=sizeLine)(hd:(a==sysModules)=false)(rel:KV kvs vs)(dd:h'.DictOf (Z9 P w) a vs):
  YA P w H' h' a (.dK kvs):=⟨z,hd,vs,rel,dd⟩
theorem ZkB {H':Hp}{Q:Unit->Shared->Prop}(hu:A.units+1<cLine)(I:Inv X pins σ H s)(g:ZhK H a y v H')(ry:RelV y u)(rv:RelV v r)(h:∀s',Inv X pins σ H' s'->Q () s'):
  wpAny (model X.prog X.w) A (setItem (.ref a) u r) Q E s:=by
 rcases g with⟨kvs,k,e,ey,l,eH⟩ | ⟨kvs,k,b,e,ey,eb,l,eH⟩
 ·subst ey eH;obtain⟨z,hd,vs,rel,dd⟩:=Znf I.hok e;have hz:vs.length<=sizeLine:=by rw[<- rel.length];exact z
  have hl:(putK kvs k v).length<=sizeLine:=by have:=W6 kvs k v;lia
  refine wpAny_setItem_pairs (hsz:=hz) (ZfB ry) dd fun h' dd' hs=>h _ ?_;have he:∃q,h'.get? a=some q:=let ⟨q,_,_,hq,_⟩:=dd';⟨q,hq⟩
  exact ZfX I (by rw[e];exact True.intro) hs he (Zia hl hd (rel.put k rv) dd')
 ·subst ey eH;cases (show u=Value.ref b from ry);obtain⟨z,hd,xs,rel,dd⟩:=Zr5 I.hok e;have hz:xs.length<=sizeLine:=by rw[<- qj rel];exact z
  have hl:(putK kvs k v).length<=sizeLine:=by have:=W6 kvs k v;lia
  refine wpAny_setItem_heap (hsz:=hz) (XY hu) (ZeC I.hok eb) dd fun h' dd' hs=>h _ ?_;obtain⟨q,es,ep,hq,h2,h3,h4,_,h5⟩:=dd';refine ZfX I (by rw[e];exact True.intro) hs ⟨q,hq⟩ ⟨hl,hd,_,(rel.put k eb rv).keeps fun c ys ec=>?_,q,es,ep,hq,h2,h3,h4,h5⟩;rw[Zi (Zee ec e (fun z=>nomatch z))];exact ec
end
theorem ZhR {X:Cx}{pins:QC}{σ:St}{H:Hp}{s:Shared}{a:Addr}{y:V}{o:QI}(I:Inv X pins σ H s)(g:Zby H a y o):s.TypeIs (.ref a) "dict" := by
 rcases g with⟨kvs,k,e,_,_⟩ | ⟨kvs,k,b,e,_,_,_⟩
 ·obtain⟨_,_,vs,_,dd⟩:=ZfN I.hok e;exact dd.typeIs
 ·obtain⟨_,_,xs,_,dd⟩:=Zfl I.hok e;exact dd.typeIs
inductive Zpq(Q:VK)(y x:V)(H2:Hp):Prop|mk(a o)(_:x = .ref a)(_:Zby H2 a y o)(_:Q (.bl o.isSome) H2)
def ZlQ (ty td:TE):TE:=fun σ H Q=>ty σ H fun y H1=>td σ H1 fun x H2=>Zpq Q y x H2
section
variable {X:Cx}{o i e value:Expr}{pos pos' tpos:Pos}{td ty tv:TE}
theorem ZgW (hu:X.A.units+1<cLine)(hi:PE X i ty)(ho:PE X o td):PC X .In i o (ZlQ ty td):=by intro pins s σ H Q I h;refine YN (hi pins s σ H _ I h) fun iv s1 ⟨y,H1,I1,ry,q1⟩=>YN (ho pins s1 σ H1 _ I1 q1) fun u s2 ⟨x,H2,I2,rx,a,ov,ex,g,q2⟩=>?_;subst ex;obtain rfl:u=Value.ref a:=rx;exact ZsJ hu I2 g ry fun s3 I3=>⟨.bl ov.isSome,H2,I3,rfl,q2⟩
end
theorem Zg4 {P:Program}{w:World}{H:Hp}(h:Heap)(hb:sysModules<h.objs.size):YA P w H (h.push { cls:=.type "dict", data:=.dict #[] }) h.objs.size (.dK []):=
 ⟨Kr _,qF.mpr (KG (Kn hb)),[],.nil,Heap.DictOf.new h⟩
def Zqx:TE:=fun _ H Q=>∀p,H p=none->Q (.ref p) (upd H p (.dK []))
section
variable {X:Cx}{pos:Pos}
theorem Zm1:PE X (.Dict [] [] pos) Zqx:=fun pins s σ H Q I h=>
 wpAny_Dict_empty ⟨.ref s.heap.objs.size,_,I.laid (a:=s.heap.objs.size) (o:=.dK []) (t':=s.toks) (fun _ _ q=>kC _ q) (kj _) (Zg4 s.heap I.big),rfl,h _ (I.hok.fresh (kj _))⟩
end
theorem YA.there {P:Program}{w:World}{H:Hp}{h:Heap}{a:Addr}{o:HO}(x:YA P w H h a o):∃ob,h.get? a=some ob:=by
 cases o with
 | lst xs=>obtain⟨_,_,_,_,e⟩:=x;exact⟨_,e⟩
 | tup xs=>obtain⟨_,_,_,_,e,_⟩:=x;exact⟨_,e⟩
 | dK kvs=>obtain⟨_,_,_,_,o,_,_,e,_⟩:=x;exact⟨_,e⟩
 | dT kvs=>obtain⟨_,_,_,_,o,_,_,e,_⟩:=x;exact⟨_,e⟩
 | set S n=>obtain⟨o,_,_,_,e,_⟩:=x;exact⟨_,e⟩
 | ins C dx fs=>obtain⟨_,_,_,e,_⟩:=x;exact⟨_,e⟩
 | own y=>obtain⟨_,e⟩:=x;exact⟨_,e⟩
 | xd fs=>obtain⟨_,⟨_,_,_,e,_⟩,_⟩:=x;exact⟨_,e⟩
 | rng lo hi=>obtain⟨_,_,_,e⟩:=x;exact⟨_,e⟩
 | frz ob u=>obtain⟨e,_⟩:=x;exact⟨_,e⟩
 | tbl ps=>exact⟨_,x⟩
 | met f y=>exact⟨_,x⟩
 | ext φ=>obtain⟨_,⟨_,e⟩,_⟩:=x;exact⟨_,e⟩
theorem Zm4 {h:Heap}{a:Addr}{m m':QN}(x:h.Ns a m)(y:h.Ns a m'):m=m':=by obtain⟨o,es,ep,ho,hd,_,hm⟩:=x;obtain⟨o',es',ep',ho',hd',_,hm'⟩:=y;rw[ho] at ho';cases ho';rw[hd] at hd';cases hd';exact funext fun n=>(hm n).symm.trans (hm' n)
section
variable {X:Cx}{pins:QC}{σ:St}{H:Hp}{s:Shared}
theorem Inv.laidN {h':Heap}{D:Addr}{o:HO}{t':Nat}{m:QN}(I:Inv X pins σ H s)(F:Fr X.base X.env.locals s.heap m)(F':Fr X.base X.env.locals h' m)
  (N':News X.base X.env.locals h' (WO X.base s.heap X.env.locals)) (hD:s.heap.get? D=none) (hn:H D=none) (new:YA X.prog X.w (upd H D o) h' D o):Inv X pins σ (upd H D o) { s with heap:=h',toks:=t' }:=by
 have kp:∀b u,b≠X.env.locals->s.heap.get? b=some u->h'.get? b=some u:=fun b u hb e=>by
  cases q:X.base.get? b with
  | some v=>
   have e1:=F'.keep b v q;have e2:=F.keep b v q;rw[e] at e2;cases e2;exact e1
  | none=>exact(N' (b,u) (Uj hb q e)).1
 have neL:∀b u,H b=some u->b≠X.env.locals:=fun b u e z=>by rw[z,I.free] at e;cases e
 refine I.step (g':=s.gens) (d':=s.drawn) (ch:=[]) (fun _ z=>nomatch z) (fun b ob hb _ _ e _=>kp b ob hb e) (fun b ob hb _ _ e _=>⟨ob.slots,kp b ob hb e⟩) (fun b ob _ e n=>?_) (fun b ob _ e=>?_) (fun b xs e=>?_) (fun b ob u e=>?_) (fun b ps e=>⟨#[],?_⟩) (fun m' hm=>?_) (fun b u e=>?_) I.bare
 ·rw[Zi (fun z=>by subst z;rw[hD] at e;cases e)];exact n
 ·by_cases hb:b=X.env.locals
  ·subst hb;obtain⟨ob',_,_,z,_⟩:=F'.ns;exact⟨ob',z⟩
  ·exact⟨ob,kp b ob hb e⟩
 ·rw[Zi (Zf e hn)];exact e
 ·rw[Zi (Zf e hn)];exact e
 ·rw[Zi (Zf e hn),e];simp
 ·rw[Zm4 hm F.ns];exact F'.ns
 ·by_cases hb:b=D
  ·subst hb;rw[Zc] at e;cases e;exact new
  ·rw[Zi hb] at e;refine(I.hok b u e).stay (fun c v hc q=>kp c v ?_ q) (fun c q=>by rw[Zi (Zf q hn)];exact q) fun c xs q=>by rw[Zi (Zf q hn)];exact q
   rcases hc with z | z
   ·subst z;exact neL _ u e
   ·exact neL c _ z
end
section
variable {X:Cx}
inductive Zht(xs:QH)(H:Hp)(Q:VK):Prop|mk(p:Addr)(kvs:QD)(ns:QG)(_:xs = [.ref p])(_:H p=some (.dK kvs))(_:kvs.map (·.1)=ns.map Sum.inl)(_:ns.length<64)(_:∀(l:Addr)(ns':QG),H l=none->ns'.Perm ns->ns'.Pairwise (· <= ·)->Q (.ref l) (upd H l (.lst (ns'.map V.int))))
theorem Zgn (hc:X.calm=true):YT X (.builtin "sorted") Zht:=by
 intro pins s σ H xs us Q I r h;obtain⟨p,kvs,ns,rfl,hp,hk,h64,q⟩:=h;obtain⟨u,rfl,ru⟩:=r.one;cases ru;obtain⟨z,hsm,vs,rel,ob,es,ep,hd⟩:=Znf I.hok hp;obtain⟨m,fr⟩:=I.fr;have lv:kvs.length=vs.length:=qj rel;have ln:kvs.length=ns.length:=by simpa using KC List.length hk
 refine W.kdu_sorted (W.kdl_dict (knd:=Z9 X.prog X.w) (kvs:=vs) (ep:=ep) hsm) (I.ok.hd hc) fr (news:=WO X.base s.heap X.env.locals) ZeM ⟨ob,es,hd⟩ (by lia) fun D h' tk ws fr' nw' lt' hlen hP=>?_;have ia:IntsAre ws ns:=by
  have key:∀(ws:QJ)(ns:QG),ws.length=ns.length->(∀(j:Nat)(v:Value)(n:Int),ws[j]? = some v->ns[j]? = some n -> ∃t,v = .int n t)->IntsAre ws ns:=by
   intro ws
   induction ws with
   | nil=>intro ns hl _;cases ns with
    | nil=>exact .nil
    | cons _ _=>cases hl
   | cons w ws ih=>
    intro ns hl h;cases ns with
    | nil=>cases hl
    | cons n ns=>
     obtain⟨t,rfl⟩:=h 0 w n rfl rfl;exact .cons n t (ih ns (by simpa using hl) fun j v n' e1 e2=>h (j+1) v n' (by simpa using e1) (by simpa using e2))
  refine key ws ns (by lia) fun j v n e1 e2=>?_;obtain⟨k,x,e3,e4⟩:=hP j v e1;have e5:(kvs.map (·.1))[j]? = some k:=by
   have hj:j<kvs.length:=by have:=(kz.mp e3).1;lia
   have key:∀(kvs:QD)(vs:List (Key×Value)),KV kvs vs -> ∀j:Nat,(kvs.map (·.1))[j]? = (vs.map (·.1))[j]?:=by
    intro kvs vs rel;unfold KV at rel
    induction rel with
    | nil=>intro j;rfl
    | cons a _ ih=>
     intro j;cases j with
     | zero=>simp[a.1]
     | succ j=>simpa using ih j
   rw[key kvs vs rel j,kF,e3];rfl
  rw[hk,kF,e2] at e5;cases e5;rcases YF (k:=Sum.inl n) (v:=v) e4 with⟨i,t,z1,z2⟩ | ⟨x',t,z1,z2⟩
  ·cases z1;exact⟨t,z2⟩
  ·cases z1
 refine W.ksk_lsort (vs:=ws) (its:=ws.toArray) (n:=0) fr' nw' (news':=fun o=>(D,o)::WO X.base s.heap X.env.locals) (fun o=>.head fun q hq=>Kn (lt' q hq)) rfl ia h64 fun vs' ns' c h'' fr'' nw'' ia' hl' perm pw _=>?_;have hD:s.heap.get? D=none:=by
  have nb:X.base.get? D=none:=(nw' (D,W.listOf ws.toArray 0) kS).2.2;have nL:D≠X.env.locals:=(nw' (D,W.listOf ws.toArray 0) kS).2.1;cases e:s.heap.get? D with
  | none=>rfl
  | some o=>exact absurd (lt' (D,o) (Uj nL nb e)) (qK _)
 have fresh:H D=none:=by
  cases e:H D with
  | none=>rfl
  | some o=>
   obtain⟨ob,e2⟩:=(I.hok D o e).there;rw[hD] at e2;cases e2
 have I2:=I.laidN (o:=.lst (ns'.map V.int)) (D:=D) (h':=h'') (t':=tk) fr fr'' (fun q hq=>nw'' q (kU _ hq)) hD fresh ⟨by rw[ke,hl'];lia,vs',c,UI ia',(nw'' _ kS).1⟩
 exact⟨.ref D,_,I2,rfl,q D ns' fresh perm pw⟩
inductive Zn1(x y:V)(H:Hp)(Q:VK):Prop|mk(a v)(_:x = .ref a)(_:Zby H a y (some v))(_:Q v H)
theorem Zbm (hu:X.A.units+1<cLine):IxR X Zn1:=by intro value slice pins s σ H x y v u Q I rx ry h hs;obtain⟨a,w,rfl,g,q⟩:=h;cases rx;exact tail_any (ops:=[.ref a,u]) (ZhR I g) PySem.F.slot_dict_getitem.lookup (Zlf hu I g ry fun w' s3 I3 rw'=>⟨w,H,I3,rw',q⟩) hs
inductive ZjW(o i v:V)(H:Hp)(Q:Hp->Prop):Prop|mk(a H')(_:o = .ref a)(_:ZhK H a i v H')(_:Q H')
theorem set_dict (hu:X.A.units+1<cLine):ZqM X ZjW:=by intro pins s σ H o i v ov iv u Q I ro ri rv h;obtain⟨a,H',rfl,g,q⟩:=h;cases ro;exact ZkB hu I g ri rv fun s' I'=>⟨H',I',q⟩
inductive Zq0(K:QF)(n:Nat)(t:TGs)(v:V)(σ:St)(H:Hp)(Q:QT):Prop|mk(a xs)(_:v = .ref a)(_:Zt K H a xs)(_:xs.length=n)(_:t xs σ H Q)
theorem Zqb {es:QV}{k:Nat}{t:TGs}{n:Nat}{pos:Pos}(hc:X.calm=true)(h:PGs X es t)
  (hn:(assignEach es X.env).length=n:=by rfl) (hst:(assignEach es X.env).findIdx? (·.1)=none:=by rfl):PG X (.Tuple es k pos) (Zq0 X.K n t):=by
 intro pins s σ H v u Q I r hw;obtain⟨a,xs,e1,hq,hl,hw⟩:=hw;subst e1;cases r;obtain⟨its,rv,p,hz⟩:=I.list hq;rw[arm_assign_Tuple];refine kg (Xv ?_);unfold unpack;rw[hst];refine kg (KL ?_);have e:(assignEach es X.env).length=its.toArray.size:=by rw[hn,<- hl,rv.length];simp
 rw[e];refine W.kun_itemsOf (I.ok.hd hc) p.isList fun h' hx=>?_;have I1:Inv X pins σ H { s with heap:=h' }:=I.kept (t':=s.toks) fun b o e=>hx b o (Kn (Kc e)) e;exact h pins _ σ H xs _ Q I1 (by simpa using rv) hw
theorem ZdI {K:QF}{es:QV}{k:Nat}{t:TGs}{n:Nat}{pos:Pos}(hk:X.K=K)(hc:X.calm=true)(h:PGs X es t)
  (hn:(assignEach es X.env).length=n:=by rfl) (hst:(assignEach es X.env).findIdx? (·.1)=none:=by rfl):PG X (.Tuple es k pos) (Zq0 K n t):=hk ▸ Zqb hc h hn hst
end
def bw (x:Int):Int:=if x % 2=0 then x+1 else x-1
theorem Zc5 (x:Int):bw (bw x)=x:=by unfold bw;split<;>split<;>lia
theorem Zr3 (x:Int):bw x≠x:=by unfold bw;split<;>lia
structure Wa (m:QX)(N:Int):Prop where
 lo:∀x,0<=x->x<N->0<=m x
 hi:∀x,0<=x->x<N->m x<N
 inv:∀x,0<=x->x<N->m (m x)=x
 ne:∀x,0<=x->x<N->m x≠x
 ev:N % 2=0
theorem ZlA {N x:Int}(e:N % 2=0)(h0:0<=x)(h1:x<N):0<=bw x/\bw x<N:=by unfold bw;split<;>omega
def gt (m:QX)(f:Int):Nat->Int
 | 0=>f
 | i+1=>bw (m (gt m f i))
def Gd (m:QX)(f:Int):Nat->List Int
 | 0=>[]
 | i+1=>Gd m f i ++ [gt m f i,m (gt m f i)]
theorem WQ (m:QX)(f:Int):∀i,(Gd m f i).length=2*i
 | 0=>rfl
 | i+1=>by simp only[Gd,kh,WQ m f i,Kv,Xs];lia
theorem Ji {m:QX}{f x:Int}:∀{i:Nat},x∈Gd m f i ↔ ∃j,j<i/\(x=gt m f j∨x=m (gt m f j))
 | 0=>by simp[Gd]
 | i+1=>by
  simp only[Gd,Kk,Ji (i:=i),kO,Xj,TC];constructor
  ·rintro(⟨j,h,e⟩ | h)
   ·exact⟨j,by lia,e⟩
   ·exact⟨i,by lia,h⟩
  ·rintro⟨j,h,e⟩;by_cases hj:j=i
   ·subst hj;exact .inr e
   ·exact .inl ⟨j,by lia,e⟩
section
variable {m:QX}{N f:Int}
theorem YL (M:Wa m N)(h0:0<=f)(h1:f<N):∀i,0<=gt m f i/\gt m f i<N
 | 0=>⟨h0,h1⟩
 | i+1=>by obtain⟨a,b⟩:=YL M h0 h1 i;exact ZlA M.ev (M.lo _ a b) (M.hi _ a b)
theorem Zlj (M:Wa m N)(h0:0<=f)(h1:f<N):∀d j,gt m f (j+d)≠m (gt m f j)
 | 0,j=>fun e=>M.ne _ (YL M h0 h1 j).1 (YL M h0 h1 j).2 e.symm
 | 1,j=>Zr3 _
 | d+2,j=>fun e=>by
  refine Zlj M h0 h1 d (j+1) ?_;have e1:bw (m (gt m f (j+d+1)))=m (gt m f j):=e;have e2:m (gt m f (j+d+1))=bw (m (gt m f j)):=by rw[<- e1,Zc5]
  have e3:gt m f (j+1)=m (gt m f (j+d+1)):=e2.symm;have dm:=YL M h0 h1 (j+d+1);rw[e3,M.inv _ dm.1 dm.2];congr 1;lia
theorem Zj3 (M:Wa m N)(h0:0<=f)(h1:f<N)(i j:Nat):gt m f i≠m (gt m f j):=by
 by_cases h:j<=i
 ·have:=Zlj M h0 h1 (i-j) j
  rwa [show j+(i-j)=i by lia] at this
 ·intro e;refine Zlj M h0 h1 (j-i) i ?_;rw[show i+(j-i)=j by lia,e];exact(M.inv _ (YL M h0 h1 j).1 (YL M h0 h1 j).2).symm
theorem Zo3 (M:Wa m N){x y:Int}(hx:0<=x/\x<N)(hy:0<=y/\y<N)(e:m x=m y):x=y:=by rw[<- M.inv x hx.1 hx.2,e,M.inv y hy.1 hy.2]
theorem Zj1 (M:Wa m N)(h0:0<=f)(h1:f<N):∀j d,gt m f (j+d)=gt m f j->gt m f d=f
 | 0,d,e=>by simpa [gt] using e
 | j+1,d,e=>by
  refine Zj1 M h0 h1 j d (Zo3 M (YL M h0 h1 _) (YL M h0 h1 _) ?_);have e1:bw (m (gt m f (j+d)))=bw (m (gt m f j)):=by
   have:j+1+d=j+d+1:=by lia
   rw[this] at e;exact e
  rw[<- Zc5 (m (gt m f (j+d))),e1,Zc5]
theorem ZgK (M:Wa m N)(h0:0<=f)(h1:f<N){i j:Nat}(hj:j<i)(e:gt m f i=gt m f j):gt m f (i-j)=f:=by refine Zj1 M h0 h1 j (i-j) ?_;rw[show j+(i-j)=i by lia];exact e
theorem ZcP (M:Wa m N)(h0:0<=f)(h1:f<N):∀i,(∀j,1<=j->j<i->gt m f j≠f)->(Gd m f i).Nodup
 | 0,_=>by simp[Gd]
 | i+1,h=>by
  have ih:=ZcP M h0 h1 i fun j a b=>h j a (by lia);show (Gd m f i ++ [gt m f i,m (gt m f i)]).Nodup;rw[qE];refine⟨ih,by simp[Zj3 M h0 h1 i i],fun a ha b hb=>?_⟩;obtain⟨j,hj,e⟩:=Ji.mp ha;have hb:b=gt m f i∨b=m (gt m f i):=by simpa using hb
  intro z;subst z;rcases e with e | e<;>rcases hb with z | z
  ·exact h (i-j) (by lia) (by lia) (ZgK M h0 h1 hj (z.symm.trans e))
  ·exact Zj3 M h0 h1 j i (e.symm.trans z)
  ·exact Zj3 M h0 h1 i j (z.symm.trans e)
  ·exact h (i-j) (by lia) (by lia) (ZgK M h0 h1 hj (Zo3 M (YL M h0 h1 _) (YL M h0 h1 _) (z.symm.trans e)))
theorem Zkh (M:Wa m N)(h0:0<=f)(h1:f<N){i:Nat}{x:Int}(hx:x∈Gd m f i):0<=x/\x<N:=by
 obtain⟨j,_,e | e⟩:=Ji.mp hx
 ·rw[e];exact YL M h0 h1 j
 ·rw[e];exact⟨M.lo _ (YL M h0 h1 j).1 (YL M h0 h1 j).2,M.hi _ (YL M h0 h1 j).1 (YL M h0 h1 j).2⟩
theorem Wb:∀(n:Nat)(l:QG),l.Nodup->(∀x∈l,0<=x/\x<(n:Int))->l.length<=n
 | 0,l,_,h=>by
  cases l with
  | nil=>simp
  | cons x _=>have:=h x kS;lia
 | n+1,l,nd,h=>by
  by_cases hn:(n:Int)∈l
  ·have h1:=Wb n (l.erase (n:Int)) (nd.erase _) fun x hx=>by
    have h2:=(nd.mem_erase_iff).mp hx;have:=h x h2.2;have:=h2.1;lia
   rw[XS hn] at h1;lia
  ·have h1:=Wb n l nd fun x hx=>by
    have:=h x hx;have h3:x≠(n:Int):=fun z=>hn (z ▸ hx);lia
   lia
theorem UQ (M:Wa m N)(h0:0<=f)(h1:f<N){i:Nat}(h:∀j,1<=j->j<i->gt m f j≠f):2*(i:Int)<=N:=by
 have:=Wb N.toNat (Gd m f i) (ZcP M h0 h1 i h) fun x hx=>by have:=Zkh M h0 h1 hx;lia
 rw[WQ] at this;lia
theorem ZlM (M:Wa m N)(h0:0<=f)(h1:f<N){i:Nat}(h:∀j,1<=j->j<i->gt m f j≠f):gt m f i∈Gd m f i ↔ (1<=i/\gt m f i=f):=by
 constructor
 ·intro hx;obtain⟨j,hj,e | e⟩:=Ji.mp hx
  ·have:=ZgK M h0 h1 hj e;by_cases z:j=0
   ·subst z;exact⟨by lia,this⟩
   ·exact absurd this (h (i-j) (by lia) (by lia))
  ·exact absurd e (Zj3 M h0 h1 i j)
 ·rintro⟨a,e⟩;exact Ji.mpr ⟨0,by lia,.inl e⟩
end
def Jt (m:QX)(f:Int)(T:QG):Prop:=∃L,1<=L/\gt m f L=f/\(∀j,1<=j->j<L->gt m f j≠f)/\T=Gd m f L
theorem Jt.uniq {m:QX}{f:Int}{T T':QG}(a:Jt m f T)(b:Jt m f T'):T=T':=by
 obtain⟨L,h1,e1,n1,rfl⟩:=a;obtain⟨L',h2,e2,n2,rfl⟩:=b;have:L=L':=by
  rcases Nj L L' with z | z | z
  ·exact absurd e1 (n2 L h1 z)
  ·exact z
  ·exact absurd e2 (n1 L' h2 z)
 rw[this]
theorem Jt.self {m:QX}{f:Int}{T:QG}(a:Jt m f T):f∈T:=by obtain⟨L,h1,e1,n1,rfl⟩:=a;exact Ji.mpr ⟨0,by lia,.inl rfl⟩
theorem Jt.dom {m:QX}{N f:Int}{T:QG}(M:Wa m N)(h0:0<=f)(h1:f<N)(a:Jt m f T):∀x∈T,0<=x/\x<N:=by obtain⟨L,_,_,_,rfl⟩:=a;exact fun x hx=>Zkh M h0 h1 hx
theorem Jt.nodup {m:QX}{N f:Int}{T:QG}(M:Wa m N)(h0:0<=f)(h1:f<N)(a:Jt m f T):T.Nodup:=by obtain⟨L,_,_,n,rfl⟩:=a;exact ZcP M h0 h1 L n
theorem Jt.len {m:QX}{N f:Int}{T:QG}(M:Wa m N)(h0:0<=f)(h1:f<N)(a:Jt m f T):(T.length:Int)<=N:=by obtain⟨L,_,_,n,rfl⟩:=a;have:=UQ M h0 h1 n;rw[WQ];lia
theorem Jt.closed {m:QX}{N f:Int}{T:QG}(M:Wa m N)(h0:0<=f)(h1:f<N)(a:Jt m f T):∀x∈T,m x∈T/\bw x∈T:=by
 obtain⟨L,hL,eL,n,rfl⟩:=a;intro x hx;obtain⟨j,hj,e | e⟩:=Ji.mp hx
 ·subst e;refine⟨Ji.mpr ⟨j,hj,.inr rfl⟩,?_⟩;cases j with
  | zero=>
   refine Ji.mpr ⟨L-1,by lia,.inr ?_⟩;have:gt m f (L-1+1)=f:=by rw[show L-1+1=L by lia];exact eL
   have e2:bw (m (gt m f (L-1)))=f:=this;show bw f=_;rw[<- e2,Zc5,e2]
  | succ j=>exact Ji.mpr ⟨j,by lia,.inr (Zc5 _)⟩
 ·subst e;refine⟨?_,?_⟩
  ·rw[M.inv _ (YL M h0 h1 j).1 (YL M h0 h1 j).2];exact Ji.mpr ⟨j,hj,.inl rfl⟩
  ·by_cases z:j+1=L
   ·refine Ji.mpr ⟨0,by lia,.inl ?_⟩;show gt m f (j+1)=f;rw[z,eL]
   ·exact Ji.mpr ⟨j+1,by lia,.inl rfl⟩
theorem ZcQ {m:QX}{N f:Int}(M:Wa m N)(h0:0<=f)(h1:f<N){S:QG}(cl:∀x∈S,m x∈S/\bw x∈S)(hf:f∉S):∀i,gt m f i∉S/\m (gt m f i)∉S
 | 0=>⟨hf,fun h=>hf (by
  have:m (m f)∈S:=(cl _ h).1
  rwa [M.inv _ h0 h1] at this)⟩
 | i+1=>by
  have ih:=ZcQ M h0 h1 cl hf i;have a:gt m f (i+1)∉S:=fun h=>ih.2 (by
   have:=(cl _ h).2
   rwa [show bw (gt m f (i+1))=m (gt m f i) from Zc5 _] at this)
  refine⟨a,fun h=>a ?_⟩;have:=(cl _ h).1
  rwa [M.inv _ (YL M h0 h1 (i+1)).1 (YL M h0 h1 (i+1)).2] at this
inductive Ut (m:QX):Nat->List QG->Prop
 | nil:Ut m 0 []
 | add {i:Nat}{ts:QA}{T:QG}:Ut m i ts->(i:Int)∉ts.flatten->Jt m (i:Int) T->Ut m (i+1) (ts ++ [T])
 | skip {i:Nat}{ts:QA}:Ut m i ts->(i:Int)∈ts.flatten->Ut m (i+1) ts
theorem Ut.uniq {m:QX}{i:Nat}{ts:QA}(a:Ut m i ts):∀{ts':QA},Ut m i ts'->ts=ts':=by
 induction a with
 | nil=>intro ts' b;cases b;rfl
 | add a h t ih=>
  intro ts' b;cases b with
  | add b h' t'=>rw[ih b,t.uniq t']
  | skip b h'=>rw[ih b] at h;exact absurd h' h
 | skip a h ih=>
  intro ts' b;cases b with
  | add b h' t'=>rw[ih b] at h;exact absurd h h'
  | skip b h'=>exact ih b
theorem Ut.mem {m:QX}{i:Nat}{ts:QA}(a:Ut m i ts):∀j:Nat,j<i->(j:Int)∈ts.flatten:=by
 induction a with
 | nil=>intro j hj;lia
 | @add i ts T a h t ih=>
  intro j hj;rw[qV,Kk];by_cases e:j=i
  ·subst e;exact .inr (by simpa using t.self)
  ·exact .inl (ih j (by lia))
 | @skip i ts a h ih=>
  intro j hj;by_cases e:j=i
  ·subst e;exact h
  ·exact ih j (by lia)
theorem Ut.good {m:QX}{N:Int}(M:Wa m N){i:Nat}{ts:QA}(a:Ut m i ts)(hi:(i:Int)<=N):ts.flatten.Nodup/\(∀x∈ts.flatten,0<=x/\x<N)/\(∀x∈ts.flatten,m x∈ts.flatten/\bw x∈ts.flatten):=by
 induction a with
 | nil=>simp
 | @add i ts T a h t ih=>
  obtain⟨n,d,c⟩:=ih (by lia);have h0:(0:Int)<=(i:Int):=by lia
  have h1:(i:Int)<N:=by lia
  rw[qV];have e:[T].flatten=T:=by simp
  rw[e];refine⟨?_,fun x hx=>?_,fun x hx=>?_⟩
  ·rw[qE];refine⟨n,t.nodup M h0 h1,fun a ha b hb z=>?_⟩;subst z;obtain⟨L,_,_,_,rfl⟩:=t;obtain⟨j,_,e | e⟩:=Ji.mp hb
   ·exact(ZcQ M h0 h1 c h j).1 (e ▸ ha)
   ·exact(ZcQ M h0 h1 c h j).2 (e ▸ ha)
  ·rcases Kk.mp hx with z | z
   ·exact d x z
   ·exact t.dom M h0 h1 x z
  ·rw[Kk,Kk];rcases Kk.mp hx with z | z
   ·exact⟨.inl (c x z).1,.inl (c x z).2⟩
   ·exact⟨.inr (t.closed M h0 h1 x z).1,.inr (t.closed M h0 h1 x z).2⟩
 | skip a h ih=>exact ih (by lia)
theorem Ut.jump {m:QX}{ts:QA}{i:Nat}(a:Ut m i ts):∀d:Nat,(∀j:Nat,i<=j->j<i+d->(j:Int)∈ts.flatten)->Ut m (i+d) ts
 | 0,_=>a
 | d+1,h=>by have:=Ut.jump a d fun j x y=>h j x (by lia);exact Ut.skip this (h (i+d) (by lia) (by lia))
theorem Ut.len {m:QX}{N:Int}(M:Wa m N){i:Nat}{ts:QA}(a:Ut m i ts)(hi:(i:Int)<=N):ts.length<=i:=by
 induction a with
 | nil=>simp
 | add a h t ih=>have:=ih (by lia);simp;lia
 | skip a h ih=>have:=ih (by lia);lia
def rowAt (ls:QB)(t:Nat):QG:=(rb (ls.take t)).1
def YM (ls:QB)(t:Nat):Int×Int:=((rowAt ls t).getD ((ls.getD t ("", 0)).2.toNat) 0,(rowAt ls t).getD ((ls.getD t ("", 0)).2.toNat+1) 0)
def UK:Str->Bool:=fun x=>decide (x = "end")
def Jz (ls:QB)(i:Nat):QL:=(Yg ls UK i).map fun t=>YM ls t.toNat
def ZM (ps:QL):QG:=ps.flatMap fun p=>[p.1,p.2]
theorem Jh (a b:QL):ZM (a++b)=ZM a++ZM b:=by simp[ZM]
theorem UB (ps:QL):(ZM ps).length=2*ps.length:=by
 induction ps with
 | nil=>rfl
 | cons p r ih=>
  have:ZM (p::r) = [p.1,p.2]++ZM r:=by simp[ZM]
  rw[this,kh,ih];simp;lia
theorem GG (ls:QB)(i:Nat):Jz ls (i+1)=Jz ls i++(if isK ls UK i=true then[YM ls i] else[]):=by unfold Jz;rw[WG,kQ];by_cases h:isK ls UK i=true<;>simp[h]
def Zaz (n:Nat):QG:=(List.range n).map fun(x:Nat)=>(x:Int)
theorem Zm6 (n:Nat):Zaz (n+2)=Zaz n ++ [(n:Int),(n:Int)+1]:=by unfold Zaz;rw[KR,KR];simp
theorem YV {n:Nat}{x:Int}:x∈Zaz n ↔ 0<=x/\x<(n:Int):=by
 unfold Zaz;rw[KH];constructor
 ·rintro⟨a,h,rfl⟩;have:=Kw.mp h;lia
 ·rintro⟨h0,h1⟩;exact⟨x.toNat,Kw.mpr (by lia),by lia⟩
theorem GX (n:Nat):(Zaz n).Nodup:=by unfold Zaz;rw[qr,Xh];exact(qr.mp Tt).imp fun h e=>h (by lia)
theorem Uy (n:Nat):(Zaz n).length=n:=by simp[Zaz]
theorem ZnO (r:QG)(k:Nat)(h:k+1<r.length):r=r.take k ++ [r.getD k 0,r.getD (k+1) 0]++r.drop (k+2):=by
 have e1:r.drop k=r[k]::r.drop (k+1):=K8 (by lia);have e2:r.drop (k+1)=r[k+1]::r.drop (k+2):=K8 h;have e:r.take k++r.drop k=r:=qz k r;rw[e1,e2] at e;have h1:r.getD k 0=r[k]:=by simp[show k<r.length by lia]
 have h2:r.getD (k+1) 0=r[k+1]:=by simp[h]
 rw[h1,h2];simpa using e.symm
theorem Zn6 (r:QG)(k:Nat)(h:k+1<r.length):G8 r k=r.take k ++ [r.getD (k+1) 0,r.getD k 0]++r.drop (k+2):=by
 have hl:(r.take k).length=k:=by rw[kL];lia
 unfold G8;generalize ha:r.getD k 0=a;generalize hb:r.getD (k+1) 0=b;have e:=ZnO r k h;rw[ha,hb] at e;generalize r.take k=p at e hl ⊢;generalize r.drop (k+2)=q at e ⊢;subst e;rw[Kt,Ma _ _ (by lia),hl,Ma _ _ (by lia),hl];simp
theorem ZcA {ls:QB}(hW:Wk ls 0):∀i,i<=ls.length->0<=(rb (ls.take i)).2/\(rb (ls.take i)).2 % 2=0/\(rowAt ls i++ZM (Jz ls i)).Perm (Zaz (rb (ls.take i)).2.toNat)
 | 0,_=>by
  refine⟨qO _,rfl,?_⟩;exact List.Perm.refl _
 | i+1,hi=>by
  obtain⟨ih0,ih1,ih⟩:=ZcA hW i (by omega);have hq:ls[i]? = some ls[i]:=by simp[show i<ls.length by omega]
  obtain⟨tk,c⟩:=Zfq hW hq;have gd:ls.getD i ("", 0)=ls[i]:=by simp[show i<ls.length by omega]
  unfold rowAt at ih ⊢;generalize hp:ls[i]=p at *;obtain⟨px,pk⟩:=p;rw[tk,YK,GG];have kk:∀pr:Str->Bool,isK ls pr i=pr px:=fun pr=>by unfold isK;rw[hq];cases h:pr px<;>simp[h]
  rw[kk];rcases c with⟨e,b0,b1⟩ | ⟨e,b0,b1⟩ | ⟨e,b0,b1⟩
  ·have e:px = "born" := e;subst e;rw[W7];have hf:UK "born" = false:=by unfold UK;decide +kernel
   rw[hf];simp only[qI,XB,qe];generalize hr:rb (ls.take i)=s at *;obtain⟨r,b⟩:=s;refine⟨by omega,by omega,?_⟩;have e2:(b+2).toNat=b.toNat+2:=by omega
   rw[e2,Zm6];have e3:((b.toNat:Nat):Int)=b:=by omega
   rw[e3];have p1:(r.take pk.toNat ++ [b,b+1]++r.drop pk.toNat).Perm (r ++ [b,b+1]):=by rw[Kt];refine(qZ _ Th).trans ?_;rw[<- Kt,qz]
   refine(p1.append_right _).trans ?_;rw[Kt];refine(qZ _ Th).trans ?_;rw[<- Kt];exact ih.append_right _
  ·have e:px = "cross" := e;subst e;rw[Wd];have hf:UK "cross" = false:=by unfold UK;decide +kernel
   rw[hf];simp only[qI,XB,qe];refine⟨ih0,ih1,?_⟩;have hk:pk.toNat+1<(rb (ls.take i)).1.length:=by have b1:pk+1<_:=b1;have b0:0<=pk:=b0;omega
   refine List.Perm.trans ?_ ih;refine NY _ ?_;rw[Zn6 _ _ hk]
   conv=>rhs;rw[ZnO _ _ hk]
   exact NY _ (qZ _ (List.Perm.swap _ _ _))
  ·have e:px = "end" := e;subst e;rw[Ub];have hf:UK "end" = true:=by unfold UK;simp
   rw[hf];simp only[Tu];refine⟨ih0,ih1,?_⟩;have hk:pk.toNat+1<(rb (ls.take i)).1.length:=by have b1:pk+1<_:=b1;have b0:0<=pk:=b0;omega
   refine List.Perm.trans ?_ ih;rw[Jh];have pr:ZM [YM ls i] = [(rb (ls.take i)).1.getD pk.toNat 0,(rb (ls.take i)).1.getD (pk.toNat+1) 0]:=by unfold YM rowAt;rw[gd];simp[ZM]
   rw[pr]
   conv=>rhs;rw[ZnO _ _ hk]
   generalize (rb (ls.take i)).1.take pk.toNat=A;generalize (rb (ls.take i)).1.drop (pk.toNat+2)=B;generalize [(rb (ls.take i)).1.getD pk.toNat 0,(rb (ls.take i)).1.getD (pk.toNat+1) 0]=C;generalize ZM (Jz ls i)=F;rw[Kt,Kt,Kt];refine qZ _ ?_;rw[<- Kt];exact Th
def Jk (ls:QB):QL:=Jz ls ls.length
def Js (ls:QB):Nat:=2*(Jk ls).length
theorem W4 {ls:QB}(hW:Wk ls 0):(ZM (Jk ls)).Perm (Zaz (Js ls)):=by
 obtain⟨h0,h1,h2⟩:=ZcA hW ls.length (kj _);have e:rowAt ls ls.length = []:=by unfold rowAt;rw[kJ (kj _)];have:=Za5 hW;exact qq.mp (by lia)
 rw[e,Xq] at h2;have hl:=h2.length_eq;rw[Uy,UB] at hl;show (ZM (Jz ls ls.length)).Perm (Zaz (2*(Jz ls ls.length).length));rw[hl];exact h2
def JA:List (Int×Int)->Int->Int
 | [],_=>0
 | p::r,x=>if x=p.1 then p.2 else if x=p.2 then p.1 else JA r x
theorem Zed:∀{ps:QL}{u l:Int},(ZM ps).Nodup->(u,l)∈ps->JA ps u=l/\JA ps l=u
 | [],_,_,_,h=>by cases h
 | p::r,u,l,nd,h=>by
  have e:ZM (p::r)=p.1::p.2::ZM r:=by simp[ZM]
  rw[e] at nd;obtain⟨n1,nd2⟩:=KW.mp nd;obtain⟨n2,nd3⟩:=KW.mp nd2;rcases kO.mp h with z | z
  ·subst z;refine⟨by simp[JA],?_⟩;have:l≠u:=fun z=>n1 (by simp[z]);simp[JA,this]
  ·have m1:u∈ZM r:=KS.mpr ⟨(u,l),z,by simp⟩;have m2:l∈ZM r:=KS.mpr ⟨(u,l),z,by simp⟩;have ih:=Zed nd3 z;have a1:u≠p.1:=fun z=>n1 (kU _ (z ▸ m1));have a2:u≠p.2:=fun z=>n2 (z ▸ m1);have a3:l≠p.1:=fun z=>n1 (kU _ (z ▸ m2));have a4:l≠p.2:=fun z=>n2 (z ▸ m2);simp only[JA,a1,a2,a3,a4,XB];exact ih
theorem ZbQ {ps:QL}(nd:(ZM ps).Nodup){u l:Int}(h:(u,l)∈ps):u≠l:=by
 induction ps with
 | nil=>cases h
 | cons p r ih=>
  have e:ZM (p::r)=p.1::p.2::ZM r:=by simp[ZM]
  rw[e] at nd;obtain⟨n1,nd2⟩:=KW.mp nd;obtain⟨n2,nd3⟩:=KW.mp nd2;rcases kO.mp h with z | z
  ·subst z;intro z;exact n1 (by simp[z])
  ·exact ih nd3 z
theorem WH {ls:QB}(hW:Wk ls 0):Wa (JA (Jk ls)) (Js ls):=by
 have pm:=W4 hW;have nd:(ZM (Jk ls)).Nodup:=pm.nodup_iff.mpr (GX _);have get:∀x:Int,0<=x->x<(Js ls:Int) -> ∃u l,(u,l)∈Jk ls/\(x=u∨x=l):=fun x h0 h1=>by have:x∈ZM (Jk ls):=pm.mem_iff.mpr (YV.mpr ⟨h0,h1⟩);obtain⟨p,hp,hx⟩:=KS.mp this;exact⟨p.1,p.2,hp,by simpa using hx⟩
 have dom:∀u l,(u,l)∈Jk ls->(0<=u/\u<(Js ls:Int))/\(0<=l/\l<(Js ls:Int)):=fun u l h=>
  ⟨YV.mp (pm.mem_iff.mp (KS.mpr ⟨(u,l),h,by simp⟩)),YV.mp (pm.mem_iff.mp (KS.mpr ⟨(u,l),h,by simp⟩))⟩
 refine⟨fun x h0 h1=>?_,fun x h0 h1=>?_,fun x h0 h1=>?_,fun x h0 h1=>?_,by unfold Js;lia⟩
 all_goals
  obtain⟨u,l,hm,rfl | rfl⟩:=get x h0 h1
  all_goals
   obtain⟨a,b⟩:=Zed nd hm;obtain⟨d1,d2⟩:=dom _ _ hm;have ne:=ZbQ nd hm
   first
    | (rw[a];exact d2.1)
    | (rw[b];exact d1.1)
    | (rw[a];exact d2.2)
    | (rw[b];exact d1.2)
    | (rw[a,b])
    | (rw[b,a])
    | (rw[a];exact KG ne)
    | (rw[b];exact ne)
theorem ZqK {x:Int}(h:0<=x):Builtin.bitXor x 1=bw x:=by
 obtain⟨n,rfl⟩:=kI h;unfold bw;have ho:Builtin.bitOr (n:Int) 1=((n ||| 1:Nat):Int):=by
  have e1:decide (0<=Builtin.bitNot (n:Int))=false:=by unfold Builtin.bitNot;rw[decide_eq_false_iff_not];omega
  have e2:decide (0<=Builtin.bitNot (1:Int))=false:=by decide
  have e3:(Builtin.bitNot (Builtin.bitNot (n:Int))).toNat=n:=by unfold Builtin.bitNot;omega
  have e4:(Builtin.bitNot (Builtin.bitNot (1:Int))).toNat=1:=by decide
  unfold Builtin.bitOr Builtin.bitAnd;rw[e1,e2];simp only[e3,e4];unfold Builtin.bitNot;omega
 have ha:Builtin.bitAnd (n:Int) 1=((n &&& 1:Nat):Int):=by unfold Builtin.bitAnd;simp
 unfold Builtin.bitXor;rw[ho,ha];have h1:n &&& 1=n % 2:=MR n;have h2:n ||| 1=n+1-n % 2:=by
  have d:(n ||| 1) / 2=n / 2:=by rw[Nat.or_div_two];simp
  have m:(n ||| 1) % 2=1:=Nat.or_mod_two_eq_one.mpr (.inr rfl);omega
 rw[h1,h2];split<;>omega
section
variable {X:Cx}
inductive Zi2(K:QF)(x y:V)(H:Hp)(Q:VK):Prop|mk(p q:Addr)(xs:QH)(_:x = .ref p)(_:y = .ref q)(_:Zt K H p xs)(_:Zt K H q [])(_:Q (.bl (!xs.isEmpty)) H)
theorem Znn (hu:X.A.units+64<cLine):Us X (compareOp .NotEq) (Zi2 X.K):=by
 intro pins s σ H x y v u Q I rx ry h;obtain⟨p,q,xs,rfl,rfl,hp,hq,hQ⟩:=h;cases rx;cases ry;obtain⟨its,r1,p1,_⟩:=I.list hp;obtain⟨its2,r2,p2,_⟩:=I.list hq;have l1:=r1.length;have l2:=r2.length;cases xs with
 | nil=>
  refine SeqAt.RcNeAt.lists (e:=fun _=>true) p1.isList p2.isList (by simp only[kr];lia) (by lia) (fun j h1 h2=>?_) X.prog X.w _ _ ⟨.bl false,H,I,?_,hQ⟩
  ·rw[kr] at h1;have:its.length=0:=by simpa using l1.symm
   lia
  ·show Value.bool _=Value.bool false;simp
 | cons z zs=>
  refine SeqAt.RcNeAt.lists_lengths p1.isList p2.isList (by simp only[kr];rw[Ts];simp at l1 l2;lia) (by lia) X.prog X.w _ _ ⟨.bl true,H,I,rfl,hQ⟩
theorem ZfA {K:QF}(h:X.K=K)(hu:X.A.units+64<cLine):Us X (compareOp .NotEq) (Zi2 K):=h ▸ Znn hu
theorem ZbL {K:QF}(h:X.K=K):Us X (compareOp .In) (rIn K false):=h ▸ Zkr
theorem ZbG {K:QF}(h:X.K=K):Us X (compareOp .NotIn) (rIn K true):=h ▸ Zgu
end
theorem ZaW {x:Int}{ns:QG}:inV (.int x) (ns.map V.int)=decide (x∈ns):=by
 unfold inV
 induction ns with
 | nil=>simp
 | cons n ns ih=>
  rw[Kq,XR,ih];have e:eqV (V.int n) (V.int x)=decide (n=x):=by unfold eqV;by_cases h:n=x<;>simp[h]
  rw[e,<- Bool.decide_or];exact qX.mpr (by rw[kO];exact⟨fun h=>h.imp Eq.symm id,fun h=>h.imp Eq.symm id⟩)
def JQ (H:Hp)(ys:QH)(ps:QL):Prop:=Paired (fun v (p:Int×Int)=>∃a,v=V.ref a/\H a=some (.tup [.int p.1,.int p.2])) ys ps
theorem JQ.mono {H H':Hp}(h:∀t p,H t=some (.tup p)->H' t=some (.tup p)):∀{xs:QH}{ps:QL},JQ H xs ps->JQ H' xs ps
 | _,_,.nil=>.nil
 | _,_,.cons ⟨t,e,q⟩ r=>.cons ⟨t,e,h t _ q⟩ (JQ.mono h r)
theorem JQ.len {H:Hp}{xs:QH}{ps:QL}(h:JQ H xs ps):xs.length=ps.length:=qj h
theorem JQ.get {H:Hp}:∀{xs:QH}{ps:QL}{i:Nat}{x:V},JQ H xs ps->xs[i]? = some x -> ∃p t,ps[i]? = some p/\x = .ref t/\H t=some (.tup [.int p.1,.int p.2])
 | _,_,_,_,.nil,e=>by simp at e
 | _,_,0,_,.cons ⟨t,e1,q⟩ _,e=>by simp at e;subst e;exact⟨_,t,rfl,e1,q⟩
 | _,_,i+1,x,.cons _ r,e=>by obtain⟨p,t,h1,h2⟩:=JQ.get (i:=i) (x:=x) r (by simpa using e);exact⟨p,t,by simpa using h1,h2⟩
theorem JQ.snoc {H:Hp}{xs:QH}{ps:QL}{t:Addr}{p:Int×Int}(h:JQ H xs ps)(e:H t=some (.tup [.int p.1,.int p.2])):JQ H (xs ++ [.ref t]) (ps ++ [p]):=XE h ⟨t,rfl,e⟩
theorem Y0.at {H:Hp}:∀{xs:QH}{rs:QA}{i:Nat}{r:QG},Y0 H xs rs->rs[i]? = some r -> ∃p,xs[i]? = some (.ref p)/\H p=some (.lst (r.map V.int))
 | _,_,_,_,.nil,e=>by simp at e
 | _,_,0,_,.cons ⟨t,e1,q⟩ _,e=>by simp at e;subst e;exact⟨t,by simp[e1],q⟩
 | _,_,i+1,r,.cons _ rr,e=>by obtain⟨p,h1,h2⟩:=Y0.at (i:=i) (r:=r) rr (by simpa using e);exact⟨p,by simpa using h1,h2⟩
theorem Y0.atX {H:Hp}:∀{xs:QH}{rs:QA}{i:Nat}{x:V},Y0 H xs rs->xs[i]? = some x -> ∃(p:Addr)(r:QG),rs[i]? = some r/\x = .ref p/\H p=some (.lst (r.map V.int))
 | _,_,_,_,.nil,e=>by simp at e
 | _,_,0,_,.cons ⟨t,e1,q⟩ _,e=>by simp at e;subst e;exact⟨t,_,rfl,e1,q⟩
 | _,_,i+1,x,.cons _ r,e=>by obtain⟨p,q,h1,h2⟩:=Y0.atX (i:=i) (x:=x) r (by simpa using e);exact⟨p,q,by simpa using h1,h2⟩
theorem Zbo (ls:QB){i n:Nat}(h:i<n):(rowsOf ls n)[i]? = some (rowAt ls i):=by unfold rowsOf rowAt;rw[kF];simp[h]
theorem ZhE {ls:QB}(hW:Wk ls 0){t:Nat}{q:Str×Int}(hq:ls[t]? = some q)(hb:q.1 ≠ "born"):0<=q.2/\q.2.toNat+1<(rowAt ls t).length/\YM ls t=((rowAt ls t).getD q.2.toNat 0,(rowAt ls t).getD (q.2.toNat+1) 0):=by
 obtain⟨_,c⟩:=Zfq hW hq;have gd:ls.getD t ("", 0)=q:=by simp[hq]
 have e:YM ls t=((rowAt ls t).getD q.2.toNat 0,(rowAt ls t).getD (q.2.toNat+1) 0):=by unfold YM;rw[gd]
 rcases c with⟨z,_⟩ | ⟨_,b0,b1⟩ | ⟨_,b0,b1⟩
 ·exact absurd z hb
 ·exact⟨b0,by unfold rowAt;lia,e⟩
 ·exact⟨b0,by unfold rowAt;lia,e⟩
theorem WJ {ns:QG}{i:Nat}{x:V}(h:(ns.map V.int)[i]? = some x):∃t,ns[i]? = some t/\x=V.int t:=by
 rw[kF] at h;cases e:ns[i]? with
 | none=>rw[e] at h;cases h
 | some z=>rw[e] at h;exact⟨z,rfl,(Ka h).symm⟩
theorem Jp {α β:Type}{ns:List α}{i:Nat}{t:α}(f:α -> β)(h:ns[i]? = some t):(ns.take (i+1)).map f=(ns.take i).map f ++ [f t]:=by rw[Ki,h];simp
theorem ZhB {ls:QB}{pr:Str->Bool}{n:Nat}{x:Int}(h:x∈Yg ls pr n):0<=x/\x.toNat<n /\ ∃q,ls[x.toNat]? = some q/\pr q.1=true:=by
 unfold Yg at h;obtain⟨i,hi,e⟩:=K0.mp h;have hi':=Kw.mp hi;by_cases hk:isK ls pr i=true
 ·rw[km hk] at e;have e:(i:Int)=x:=Ka e;subst e;refine⟨by lia,by simpa using hi',?_⟩;unfold isK at hk;cases hq:ls[i]? with
  | none=>rw[hq] at hk;cases hk
  | some q=>
   rw[hq] at hk;refine⟨q,by simpa using hq,by simpa using hk⟩
 ·rw[ki hk] at e;cases e
theorem WI {ls:QB}(hl:ls.length<=60):Js ls<=120:=by unfold Js Jk Jz;rw[ke];have:=JV ls UK ls.length;lia
section
variable {X:Cx}{pins:QC}{σ:St}{H:Hp}{s:Shared}
theorem Inv.keptN {h':Heap}{t':Nat}{m:QN}(I:Inv X pins σ H s)(F:Fr X.base X.env.locals s.heap m)(F':Fr X.base X.env.locals h' m)
  (N':News X.base X.env.locals h' (WO X.base s.heap X.env.locals)):Inv X pins σ H { s with heap:=h',toks:=t' }:=by
 have kp:∀b u,b≠X.env.locals->s.heap.get? b=some u->h'.get? b=some u:=fun b u hb e=>by
  cases q:X.base.get? b with
  | some v=>
   have e1:=F'.keep b v q;have e2:=F.keep b v q;rw[e] at e2;cases e2;exact e1
  | none=>exact(N' (b,u) (Uj hb q e)).1
 have neL:∀b u,H b=some u->b≠X.env.locals:=fun b u e z=>by rw[z,I.free] at e;cases e
 refine I.step (g':=s.gens) (d':=s.drawn) (ch:=[]) (fun _ z=>nomatch z) (fun b ob hb _ _ e _=>kp b ob hb e) (fun b ob hb _ _ e _=>⟨ob.slots,kp b ob hb e⟩) (fun b ob _ e n=>n) (fun b ob _ e=>?_) (fun b xs e=>e) (fun b ob u e=>e) (fun b ps e=>⟨#[],by rw[e];simp⟩) (fun m' hm=>?_) (fun b u e=>?_) I.bare
 ·by_cases hb:b=X.env.locals
  ·subst hb;obtain⟨ob',_,_,z,_⟩:=F'.ns;exact⟨ob',z⟩
  ·exact⟨ob,kp b ob hb e⟩
 ·rw[Zm4 hm F.ns];exact F'.ns
 ·refine(I.hok b u e).stay (fun c v hc q=>kp c v ?_ q) (fun c q=>q) fun c xs q=>q;rcases hc with z | z
  ·subst z;exact neL _ u e
  ·exact neL c _ z
end
section
variable {X:Cx}
inductive Zql(K:QF)(xs:QH)(H:Hp)(Q:VK):Prop|mk(p:Addr)(ns:QG)(_:xs = [.ref p])(_:Zt K H p (ns.map V.int))(_:Q (.int ns.sum) H)
theorem ZmQ (hc:X.calm=true):YT X (.builtin "sum") (Zql X.K):=by intro pins s σ H xs us Q I r h;obtain⟨p,ns,rfl,hq,q⟩:=h;obtain⟨u,rfl,ru⟩:=r.one;cases ru;obtain⟨its,rv,pl,hz⟩:=I.list hq;obtain⟨m,fr⟩:=I.fr;refine LSm.sum_ints fr (news:=WO X.base s.heap X.env.locals) ZeM (I.ok.hd hc) pl.isList (GB rv) fun h' tk t' fr' nw'=>?_;exact⟨.int ns.sum,H,I.keptN fr fr' nw',⟨t',rfl⟩,q⟩
theorem Zfo {K:QF}(h:X.K=K)(hc:X.calm=true):YT X (.builtin "sum") (Zql K):=h ▸ ZmQ hc
end
theorem ZoF {x:Int}(h:0<=x):Builtin.bitAnd x 1=x % 2:=by
 obtain⟨n,rfl⟩:=kI h;have ha:Builtin.bitAnd (n:Int) 1=((n &&& 1:Nat):Int):=by unfold Builtin.bitAnd;simp
 rw[ha,MR];omega
end L2
namespace L2
open PySem PySem.Spec PyProof.Rows PyProof.V
def Itz (K:QF)(a b:Addr):It:=
  ⟨fun i H=>∃xs ys x y,Zt K H a xs/\Zt K H b ys/\xs[i]? = some x/\ys[i]? = some y,
   fun i H v H'=>∃p x y,v = .ref p/\H p=none/\H'=upd H p (.tup [x,y])/\(∀xs,Zt K H a xs->xs[i]? = some x)/\(∀ys,Zt K H b ys->ys[i]? = some y),
   fun i H=>∃xs ys,Zt K H a xs/\Zt K H b ys/\(xs.length<=i∨ys.length<=i)⟩
theorem ZlZ {P:Program}{w:World}{K:QF}{es:QV}{k:Nat}{pos:Pos}(a b z TI TO i1 i2:Addr)(ap:ZipApart z TI TO i1 i2 a b):
  Turn P w K (.Tuple es k pos) (Itz K a b) [z,TI,TO,i1,i2] z (fun i h=>IsZip h z TI TO .none/\IsPair h TI (.ref i1) (.ref i2)/\(∃u v,IsPair h TO u v)/\h.IsListIter i1 a i/\h.IsListIter i2 b i) where
 mem:=by simp
 obj:=fun i h st c hc=>by
  obtain⟨h1,h2,⟨u,v,h3⟩,⟨o1,ho1,c1,d1⟩,⟨o2,ho2,c2,d2⟩⟩:=st;simp only[kO,Xj,TC] at hc;rcases hc with e | e | e | e | e
  ·subst e;exact⟨_,h1,fun v z=>by have z':Data.fields _=Data.cell v:=z;cases z'⟩
  ·subst e;exact⟨_,h2,fun v z=>by have z':Data.seq _ _=Data.cell v:=z;cases z'⟩
  ·subst e;exact⟨_,h3,fun v z=>by have z':Data.seq _ _=Data.cell v:=z;cases z'⟩
  ·subst e;exact⟨o1,ho1,fun v z=>by rw[d1] at z;cases z⟩
  ·subst e;exact⟨o2,ho2,fun v z=>by rw[d2] at z;cases z⟩
 keep:=fun i h h' st k=>by obtain⟨h1,h2,⟨u,v,h3⟩,h4,h5⟩:=st;exact⟨k z (by simp) _ h1,k TI (by simp) _ h2,⟨u,v,k TO (by simp) _ h3⟩,h4.at fun o x=>k i1 (by simp) o x,h5.at fun o x=>k i2 (by simp) o x⟩
 item:=by
  intro X hP hw hK hc i pins s σ H E I hf st hg;subst hP hw hK;obtain⟨xs,ys,x,y,hq1,hq2,hx,hy⟩:=hg;obtain⟨its1,rv1,p1,hz1⟩:=I.list hq1;obtain⟨its2,rv2,p2,hz2⟩:=I.list hq2;obtain⟨u,hu,ru⟩:=rv1.get hx;obtain⟨v,hv,rv⟩:=rv2.get hy;obtain⟨h1,h2,⟨oa,ob,h3⟩,h4,h5⟩:=st;refine wpAny_pyNext_zip_item ap h1 h2 h3 h4 h5 p1.isList p2.isList (x:=u) (y:=v) (by simpa using hu) (by simpa using hv) fun h' g1 g2 g3 g4 g5 hsz kk=>⟨_,rfl,?_⟩;refine wpAny_letOwnedTupleGo_zip (s:={ s with heap:=h' }) g1 fun h'' e1 hs''=>?_;have lt:∀c ∈ [z,TI,TO,i1,i2],@LT.lt Nat _ c s.heap.objs.size:=fun c hc=>by
   simp only[kO,Xj,TC] at hc;rcases hc with e | e | e | e | e
   ·subst e;exact aLt h1
   ·subst e;exact aLt h2
   ·subst e;exact aLt h3
   ·subst e;obtain⟨o,ho,_⟩:=h4;exact aLt ho
   ·subst e;obtain⟨o,ho,_⟩:=h5;exact aLt ho
  have kk2:∀c o,c≠z->c≠TO->c≠i1->c≠i2->s.heap.get? c=some o->h''.get? c=some o:=fun c o n1 n2 n3 n4 q=>(hs''.2 c n1).trans (kk c o n1 n2 n3 n4 q);have nne:∀c o,H c=some o->c≠z/\c≠TO/\c≠i1/\c≠i2:=fun c o q=>by
   refine⟨fun e=>?_,fun e=>?_,fun e=>?_,fun e=>?_⟩
   ·rw[e,(hf z (by simp)).1] at q;cases q
   ·rw[e,(hf TO (by simp)).1] at q;cases q
   ·rw[e,(hf i1 (by simp)).1] at q;cases q
   ·rw[e,(hf i2 (by simp)).1] at q;cases q
  have fr:H s.heap.objs.size=none:=I.hok.fresh (kj _);have hT:h''.get? s.heap.objs.size=some { cls:=.type "tuple", data:=.seq #[u,v] }:=(hs''.2 _ (Xf (lt z (by simp)))).trans g5;have nT:∀c o,s.heap.get? c=some o->c≠s.heap.objs.size:=fun c o q=>Kn (aLt q);have ok':UX X.prog X.w (upd H s.heap.objs.size (.tup [x,y])) h'':=fun c o q=>by
   by_cases hb:c=s.heap.objs.size
   ·subst hb;rw[Zc] at q;cases q;exact⟨show 2<=sizeLine by decide,[u,v],.cons ru (.cons rv .nil),⟨_,hT,rfl,_,rfl⟩⟩
   ·rw[Zi hb] at q;refine(I.hok c o q).stay (fun d v hd r=>?_) (fun d r=>by rw[Zi (Zf r fr)];exact r) fun d xs r=>by rw[Zi (Zf r fr)];exact r
    rcases hd with e | e
    ·subst e;obtain⟨n1,n2,n3,n4⟩:=nne d o q;exact kk2 d v n1 n2 n3 n4 r
    ·obtain⟨n1,n2,n3,n4⟩:=nne d _ e;exact kk2 d v n1 n2 n3 n4 r
  have notin:∀c,c ∉ [z,TI,TO,i1,i2]->c≠z/\c≠TO/\c≠i1/\c≠i2:=fun c hc=>by simp only[kO,Xj,TC,not_or] at hc;exact⟨hc.1,hc.2.2.1,hc.2.2.2.1,hc.2.2.2.2⟩
  have I1:Inv X pins σ (upd H s.heap.objs.size (.tup [x,y])) { s with heap:=h'',gens:=s.gens,drawn:=s.drawn,toks:=s.toks }:=by
   refine I.step (ch:=[z,TI,TO,i1,i2]) (fun c hc=>?_) (fun c o _ _ hc q _=>?_) (fun c o _ _ hc q _=>⟨o.slots,?_⟩)
    (fun c o _ q n=>by rw[Zi (nT c o q)];exact n) (fun c o hc q=>⟨o,?_⟩) (fun c xs q=>by rw[Zi (Zf q fr)];exact q) (fun c o u q=>by rw[Zi (Zf q fr)];exact q)
    (fun c ps q=>⟨#[],by rw[Zi (Zf q fr),q];simp⟩) (fun m hm=>?_) ok' I.bare
   ·obtain⟨f0,f1,f2,f3,f4,f5⟩:=hf c hc;exact⟨f3,f1,f4,f5⟩
   ·obtain⟨n1,n2,n3,n4⟩:=notin c hc;exact kk2 c o n1 n2 n3 n4 q
   ·obtain⟨n1,n2,n3,n4⟩:=notin c hc;exact kk2 c o n1 n2 n3 n4 q
   ·obtain⟨n1,n2,n3,n4⟩:=notin c hc;exact kk2 c o n1 n2 n3 n4 q
   ·obtain⟨o,es,ep,ho,r⟩:=hm;exact⟨o,es,ep,kk2 _ o (KG (hf z (by simp)).2.1) (KG (hf TO (by simp)).2.1) (KG (hf i1 (by simp)).2.1) (KG (hf i2 (by simp)).2.1) ho,r⟩
  refine⟨.ref s.heap.objs.size,_,I1,rfl,⟨s.heap.objs.size,x,y,rfl,fr,rfl,fun zs hz=>by rw[I.list_inj hz hq1];exact hx,fun zs hz=>by rw[I.list_inj hz hq2];exact hy⟩,
   ⟨e1,kk2 TI _ ap.TIz ap.TITO ap.TIi1 ap.TIi2 h2,⟨u,v,(hs''.2 TO ap.TOz).trans g2⟩,g3.at fun o q=>(hs''.2 i1 ap.i1z).trans q,g4.at fun o q=>(hs''.2 i2 ap.i2z).trans q⟩,fun c hc=>?_⟩
  rw[Zi (Kn (lt c hc))];exact(hf c hc).1
 done:=by
  intro X hP hw hK hc i pins s σ H E I hf st hg;subst hP hw hK;obtain⟨xs,ys,hq1,hq2,hx⟩:=hg;obtain⟨its1,rv1,p1,hz1⟩:=I.list hq1;obtain⟨its2,rv2,p2,hz2⟩:=I.list hq2;obtain⟨h1,h2,⟨oa,ob,h3⟩,h4,h5⟩:=st;have l1:=rv1.length;have l2:=rv2.length;refine wpAny_pyNext_zip_end (I.ok.hd hc) ap h1 h2 h3 h4 h5 p1.isList p2.isList (by rcases hx with e | e;exact .inl (by simp;lia);exact .inr (by simp;lia)) fun h' kk=>⟨rfl,?_⟩;have nne:∀c o,H c=some o->c≠z/\c≠TO/\c≠i1/\c≠i2:=fun c o q=>by
   refine⟨fun e=>?_,fun e=>?_,fun e=>?_,fun e=>?_⟩
   ·rw[e,(hf z (by simp)).1] at q;cases q
   ·rw[e,(hf TO (by simp)).1] at q;cases q
   ·rw[e,(hf i1 (by simp)).1] at q;cases q
   ·rw[e,(hf i2 (by simp)).1] at q;cases q
  have notin:∀c,c ∉ [z,TI,TO,i1,i2]->c≠z/\c≠TO/\c≠i1/\c≠i2:=fun c hc=>by simp only[kO,Xj,TC,not_or] at hc;exact⟨hc.1,hc.2.2.1,hc.2.2.2.1,hc.2.2.2.2⟩
  have ok':UX X.prog X.w H h':=fun c o q=>by
   refine(I.hok c o q).stay (fun d v hd r=>?_) (fun d r=>r) fun d xs r=>r;rcases hd with e | e
   ·subst e;obtain⟨n1,n2,n3,n4⟩:=nne d o q;exact kk d v n1 n2 n3 n4 r
   ·obtain⟨n1,n2,n3,n4⟩:=nne d _ e;exact kk d v n1 n2 n3 n4 r
  refine I.step (g':=s.gens) (d':=s.drawn) (t':=s.toks) (ch:=[z,TI,TO,i1,i2]) (fun c hc=>?_) (fun c o _ _ hc q _=>?_) (fun c o _ _ hc q _=>⟨o.slots,?_⟩)
    (fun c o _ q n=>n) (fun c o hc q=>⟨o,?_⟩) (fun c xs q=>q) (fun c o u q=>q) (fun c ps q=>⟨#[],by rw[q];simp⟩) (fun m hm=>?_) ok' I.bare
  ·obtain⟨f0,f1,f2,f3,f4,f5⟩:=hf c hc;exact⟨f3,f1,f4,f5⟩
  ·obtain⟨n1,n2,n3,n4⟩:=notin c hc;exact kk c o n1 n2 n3 n4 q
  ·obtain⟨n1,n2,n3,n4⟩:=notin c hc;exact kk c o n1 n2 n3 n4 q
  ·obtain⟨n1,n2,n3,n4⟩:=notin c hc;exact kk c o n1 n2 n3 n4 q
  ·obtain⟨o,es,ep,ho,r⟩:=hm;exact⟨o,es,ep,kk _ o (KG (hf z (by simp)).2.1) (KG (hf TO (by simp)).2.1) (KG (hf i1 (by simp)).2.1) (KG (hf i2 (by simp)).2.1) ho,r⟩
 self:=fun _ _ _ _ _ st h=>ND st.1 h
section
variable {X:Cx}
inductive Zpg(K:QF)(R:It->Hp->Prop)(vs:QH)(H1:Hp):Prop|mk(a b)(_:vs = [.ref a,.ref b])(_:∃xs,Zt K H1 a xs)(_:∃ys,Zt K H1 b ys)(_:R (Itz K a b) H1)
def ZrJ (K:QF)(ta:TA):TI:=fun σ H R=>ta σ H fun vs H1=>Zpg K R vs H1
theorem Zq3 {a b:Expr}{ta:TA}{p pos tpos:Pos}{es:QV}{k:Nat}(hg:Gl X "zip")(hm:X.mg "zip" = none)(ha:PA X [a,b] ta)(hs:starEach [a,b] X.env = [(false,eval a X.env),(false,eval b X.env)]:=by rfl)(hs2:starEach [b] X.env = [(false,eval b X.env)]:=by rfl):
  PI X (.Tuple es k tpos) (.Call (.Name "zip" p) [a,b] [] pos) (ZrJ X.K ta):=by
 intro pins s σ H R I h;refine Call_ (UU I hg hm boot_zip (qa (YN (ha pos pins s σ H _ I h) fun us s1 ⟨vs,H1,I1,r1,q1⟩=>?_) (by rw[hs,hs2]) (by rw[hs2];rfl)));obtain⟨l1,l2,e,⟨xs,hq1⟩,⟨ys,hq2⟩,q⟩:=q1;subst e;obtain⟨u,v,rfl,ru,rv⟩:=r1.two;cases ru;cases rv;obtain⟨its1,rv1,p1,hz1⟩:=I1.list hq1;obtain⟨its2,rv2,p2,hz2⟩:=I1.list hq2;have L1:@LT.lt Nat _ l1 s1.heap.objs.size:=by obtain⟨o,ho,_⟩:=p1.isList;exact aLt ho
 have L2:@LT.lt Nat _ l2 s1.heap.objs.size:=by obtain⟨o,ho,_⟩:=p2.isList;exact aLt ho
 refine call_zip_2 p1.isList p2.isList fun h' g1 g2 g3 g4 g5 hsz kk=>?_;have I2:Inv X pins σ H1 { s1 with heap:=h' }:=I1.kept (t':=s1.toks) kk;refine ND (s:={ s1 with heap:=h' }) g1 ?_;have ap:ZipApart (s1.heap.objs.size+4) (s1.heap.objs.size+2) (s1.heap.objs.size+3) s1.heap.objs.size (s1.heap.objs.size+1) l1 l2:=by constructor<;>(intro e;have e':@Eq Nat _ _:=e;lia)
 refine⟨_,[s1.heap.objs.size+4,s1.heap.objs.size+2,s1.heap.objs.size+3,s1.heap.objs.size,s1.heap.objs.size+1],_,_,H1,rfl,I2,ZlZ l1 l2 _ _ _ _ _ ap,⟨g1,g2,⟨_,_,g3⟩,g4,g5⟩,fun c hc=>?_,q⟩;have hb':@LE.le Nat _ s1.heap.objs.size c:=by simp only[kO,Xj,TC] at hc;rcases hc with e | e | e | e | e<;>(subst e;first | exact kj _ | exact qw _ _)
 exact I1.fpOk hb' (I1.hok.fresh hb')
theorem Zf0 {K:QF}{a b:Expr}{ta:TA}{p pos tpos:Pos}{es:QV}{k:Nat}(hk:X.K=K)(hg:Gl X "zip")(hm:X.mg "zip" = none)(ha:PA X [a,b] ta)(hs:starEach [a,b] X.env = [(false,eval a X.env),(false,eval b X.env)]:=by rfl)(hs2:starEach [b] X.env = [(false,eval b X.env)]:=by rfl):
  PI X (.Tuple es k tpos) (.Call (.Name "zip" p) [a,b] [] pos) (ZrJ K ta):=hk ▸ Zq3 hg hm ha hs hs2
end
end L2
namespace L2
open PySem PySem.Spec PyProof.Rows PyProof.V
section
variable {env:Env}{r:QV}
theorem Yn {a:Const}{b:Nat}{p:Pos}:starEach (.Constant a b p::r) env=(false,eval (.Constant a b p) env)::starEach r env:=by rfl
theorem Zhm {a:QV}{b:Nat}{p:Pos}:starEach (.Tuple a b p::r) env=(false,eval (.Tuple a b p) env)::starEach r env:=by rfl
theorem Zbf {a:QV}{p:Pos}:starEach (.List a p::r) env=(false,eval (.List a p) env)::starEach r env:=by rfl
theorem Zd2 {a:UnaryOp}{b:Expr}{p:Pos}:starEach (.UnaryOp a b p::r) env=(false,eval (.UnaryOp a b p) env)::starEach r env:=by rfl
theorem Zng {a:Expr}{o:Operator}{b:Expr}{p:Pos}:starEach (.BinOp a o b p::r) env=(false,eval (.BinOp a o b p) env)::starEach r env:=by rfl
end
section
variable {X:Cx}{e a b:Expr}{es:QV}{te ta tb:TE}{t:TA}{pos:Pos}{st:Stmt}{rest:List Stmt}{ts us:TS}
structure PEc (X:Cx)(e:Expr)(t:TE):Prop where
 out:PE X e t
structure PAc (X:Cx)(es:QV)(t:TA):Prop where
 out:PA X es t
theorem U1:PAc X [] ZhD:=⟨Zb⟩
theorem Jb (ha:PEc X e te)(hr:PAc X es t)(hs:starEach (e::es) X.env=(false,eval e X.env)::starEach es X.env):PAc X (e::es) (Uv te t):=⟨Za ha.out hr.out hs⟩
theorem Zbl (h:PAc X es t):PEc X (.List es pos) (ZkF t):=⟨Zz h.out⟩
theorem Zol {k:Nat}(h:PAc X es t):PEc X (.Tuple es k pos) (Zrw t):=⟨ZN h.out⟩
theorem Zkl {i:Int}{j:Nat}:PEc X (.Constant (.int i) j pos) (tC (.int i)):=⟨Ze⟩
theorem Zp5 {b:Bool}{j:Nat}:PEc X (.Constant (.bool b) j pos) (tC (.bl b)):=⟨Gs⟩
theorem Zjl {j:Nat}:PEc X (.Constant .none j pos) (tC .non):=⟨JP⟩
theorem ZnG {x:Str}{j:Nat}:PEc X (.Constant (.str x) j pos) (tC (.str x)):=⟨ZI⟩
theorem Zqa (h:PE X e te):PEc X e te:=⟨h⟩
theorem ZqG {op:UnaryOp}{r:V->Hp->VK->Prop}(ho:UnR X (unaryOp op) r)(ha:PEc X a ta):PEc X (.UnaryOp op a pos) (tUn r ta):=⟨Ug ho ha.out⟩
end
inductive Lit
 | non | bl (b:Bool) | int (i:Int) | str (x:Str) | tup (l:List Lit) | lst (l:List Lit)
mutual
inductive J9 (H:Hp):V->Lit->Prop
 | non:J9 H .non .non
 | bl (b:Bool):J9 H (.bl b) (.bl b)
 | int (i:Int):J9 H (.int i) (.int i)
 | str (x:Str):J9 H (.str x) (.str x)
 | tup {a:Addr}{xs:QH}{l:List Lit} (e:H a=some (.tup xs)) (r:Jv H xs l):J9 H (.ref a) (.tup l)
 | lst {a:Addr}{xs:QH}{l:List Lit} (e:H a=some (.lst xs)) (r:Jv H xs l):J9 H (.ref a) (.lst l)
inductive Jv (H:Hp):List V->List Lit->Prop
 | nil:Jv H [] []
 | cons {v:V}{vs:QH}{l:Lit}{ls:List Lit} (a:J9 H v l) (r:Jv H vs ls):Jv H (v::vs) (l::ls)
end
mutual
theorem J9.same {H H':Hp}(s:Zh H H'):∀{v:V}{l:Lit},J9 H v l->J9 H' v l
 | _,_,.non=>.non
 | _,_,.bl b=>.bl b
 | _,_,.int i=>.int i
 | _,_,.str x=>.str x
 | _,_,.tup e r=>.tup (s _ _ e) (r.same s)
 | _,_,.lst e r=>.lst (s _ _ e) (r.same s)
theorem Jv.same {H H':Hp}(s:Zh H H'):∀{vs:QH}{ls:List Lit},Jv H vs ls->Jv H' vs ls
 | _,_,.nil=>.nil
 | _,_,.cons a r=>.cons (a.same s) (r.same s)
end
theorem Jv.len {H:Hp}:∀{vs:QH}{ls:List Lit},Jv H vs ls->vs.length=ls.length
 | _,_,.nil=>rfl
 | _,_,.cons _ r=>by rw[Kv,Kv,r.len]
theorem Jv.app {H:Hp}:∀{vs us:QH}{ls ms:List Lit},Jv H vs ls->Jv H us ms->Jv H (vs++us) (ls++ms)
 | _,_,_,_,.nil,h=>h
 | _,_,_,_,.cons a r,h=>.cons a (r.app h)
theorem Jv.get {H:Hp}:∀{vs:QH}{ls:List Lit}{i:Nat}{x:V},Jv H vs ls->vs[i]? = some x -> ∃l,ls[i]? = some l/\J9 H x l
 | _,_,_,_,.nil,e=>by simp at e
 | _,_,0,_,.cons a _,e=>by simp at e;subst e;exact⟨_,rfl,a⟩
 | _,_,i+1,x,.cons _ r,e=>by obtain⟨o,h1,h2⟩:=Jv.get (i:=i) (x:=x) r (by simpa using e);exact⟨o,by simpa using h1,h2⟩
theorem ZgZ {n:Nat}(h:n<=100):n<=sizeLine:=Kb h (by decide)
section
variable {X:Cx}{G:QT}{e a b:Expr}{es:QV}{pos:Pos}{l:Lit}{ls la lb:List Lit}
def tL (G:QT)(l:Lit):TE:=fun σ H Q=>G σ H /\ ∀v H',Zh H H'->J9 H' v l->Q v H'
def tLs (G:QT)(l:List Lit):TA:=fun σ H Q=>G σ H /\ ∀v H',Zh H H'->Jv H' v l->Q v H'
def Keeps (G:QT):Prop:=∀ σ H H',Zh H H'->G σ H->G σ H'
structure PL (X:Cx)(G:QT)(e:Expr)(l:Lit):Prop where
 out:PE X e (tL G l)
structure PLs (X:Cx)(G:QT)(es:QV)(l:List Lit):Prop where
 out:PA X es (tLs G l)
theorem PE.mono {t t':TE}(h:PE X e t)(m:∀ σ H Q,t' σ H Q->t σ H Q):PE X e t':=fun pins s σ H Q I q=>h pins s σ H Q I (m _ _ _ q)
theorem PA.mono {t t':TA}(h:PA X es t)(m:∀ σ H Q,t' σ H Q->t σ H Q):PA X es t':=fun pos pins s σ H Q I q=>h pos pins s σ H Q I (m _ _ _ q)
theorem Zq4 {j:Nat}:PL X G (.Constant .none j pos) .non:=⟨PE.mono JP fun σ H Q h=>h.2 _ _ (Zh.refl _) .non⟩
theorem Zo9 {b:Bool}{j:Nat}:PL X G (.Constant (.bool b) j pos) (.bl b):=⟨PE.mono Gs fun σ H Q h=>h.2 _ _ (Zh.refl _) (.bl b)⟩
theorem Zgj {i:Int}{j:Nat}:PL X G (.Constant (.int i) j pos) (.int i):=⟨PE.mono Ze fun σ H Q h=>h.2 _ _ (Zh.refl _) (.int i)⟩
theorem Zpx {x:Str}{j:Nat}:PL X G (.Constant (.str x) j pos) (.str x):=⟨PE.mono ZI fun σ H Q h=>h.2 _ _ (Zh.refl _) (.str x)⟩
theorem ZpK {i:Int}{j:Nat}{p:Pos}:PL X G (.UnaryOp .USub (.Constant (.int i) j p) pos) (.int (-i)):=⟨PE.mono (Ug Wm Ze) fun σ H Q h=>⟨i,rfl,h.2 _ _ (Zh.refl _) (.int (-i))⟩⟩
theorem ZqN {i k:Int}{j j2:Nat}{p p2:Pos}(hc:ZpB i k):PL X G (.BinOp (.Constant (.int i) j p) .Pow (.Constant (.int k) j2 p2) pos) (.int (i ^ k.toNat)):=⟨PE.mono (Zl ZgB Ze Ze) fun σ H Q h=>⟨i,k,rfl,rfl,hc,h.2 _ _ (Zh.refl _) (.int _)⟩⟩
theorem Zgq:PLs X G [] []:=⟨PA.mono Zb fun σ H Q h=>h.2 _ _ (Zh.refl _) .nil⟩
theorem Jn (g:Keeps G)(ha:PL X G e l)(hr:PLs X G es ls)(hs:starEach (e::es) X.env=(false,eval e X.env)::starEach es X.env):PLs X G (e::es) (l::ls):=
 ⟨PA.mono (Za ha.out hr.out hs) fun σ H Q h=>⟨h.1,fun v H1 s1 r1=>⟨g _ _ _ s1 h.1,fun vs H2 s2 r2=>h.2 _ _ (s1.trans s2) (.cons (r1.same s2) r2)⟩⟩⟩
theorem Zqy {k:Nat}(h:PLs X G es ls)(hn:ls.length<=100:=by decide):PL X G (.Tuple es k pos) (.tup ls):=
 ⟨PE.mono (ZN h.out) fun σ H Q h=>⟨h.1,fun v H1 s1 r1=>⟨by rw[r1.len];exact ZgZ hn,fun p hp=>h.2 _ _ (s1.step hp) (.tup Zc (r1.same (Zh.laid hp)))⟩⟩⟩
theorem Zlh (h:PLs X G es ls)(hn:ls.length<=100:=by decide):PL X G (.List es pos) (.lst ls):=
 ⟨PE.mono (Zz h.out) fun σ H Q h=>⟨h.1,fun v H1 s1 r1=>⟨by rw[r1.len];exact ZgZ hn,fun p hp=>h.2 _ _ (s1.step hp) (.lst Zc (r1.same (Zh.laid hp)))⟩⟩⟩
end
theorem Gf:Keeps (fun _ _=>True):=fun _ _ _ _ _=>trivial
section
variable {X:Cx}{G:QT}{es:QV}{pos:Pos}{ls:List Lit}
inductive Zpm(x y:V)(H:Hp)(Q:VK):Prop|mk(b c)(_:x = .bl b)(_:y = .bl c)(_:Q (.bl (decide (b=c))) H)
theorem Zmj:Us X (compareOp .Is) Zpm:=by intro pins s σ H x y v u Q I rx ry h;obtain⟨b,c,rfl,rfl,q⟩:=h;cases rx;cases ry;refine wpAny_is_plain (by cases b<;>cases c<;>rfl) (Yh I q ?_);cases b<;>cases c<;>rfl
end
section
variable {X:Cx}{st:Stmt}{rest:List Stmt}{t u:TS}
inductive ZrB(t u:TS)(D:Ends)(σ:St)(H:Hp):Prop|mk(I:QT)(_:t { D with nx:=I } σ H)(_:∀ σ' H',I σ' H'->u D σ' H')
theorem Zjz (h1:PS X st t)(h2:PSs X rest u):PSs X (st::rest) (ZrB t u):=by
 intro pins s σ H D I h;obtain⟨W,a,b⟩:=h;have c:PSs X (st::rest) (Zsc (fun D' σ' H'=>σ' = σ /\ H'=H/\D' = { D with nx:=u D } /\ t { D with nx:=W } σ H) u):=by
  refine Zd (fun pins s σ' H' D' I' q=>?_) h2;obtain⟨rfl,rfl,rfl,q⟩:=q;refine YN (h1 pins s σ' H' _ I' q) fun f s' z=>?_;cases f with
  | next=>obtain⟨σ2,H2,I2,q2⟩:=z;exact⟨σ2,H2,I2,b σ2 H2 q2⟩
  | _=>exact z
 exact c pins s σ H D I ⟨rfl,rfl,rfl,a⟩
end
def Exc (h:Heap)(a T:Addr)(C:Value):Prop:=
 ∃oe vs oT ts,h.get? a=some oe/\oe.cls=C/\oe.data = .fields vs/\vs[1]? = some (.ref T)/\h.get? T=some oT/\oT.data = .fields ts/\ts[3]? = some .none/\T≠a/\vs[2]? = some .none
section
variable {M:Model}{A:Around}{E:QE}{s:Shared}{env:Env}{outer:List Env}{L a T:Addr}{C:Value}{base h:Heap}{Q:Unit->Shared->Prop}
theorem ZpS {o:Obj}{vs:QY}{k:Nat}{x:Value}(ho:s.heap.get? a=some o)(hd:o.data = .fields vs)(hk:k<vs.size)
  (h:∀h',(∃o',h'.get? a=some o'/\o'.cls=o.cls/\o'.data = .fields (vs.setIfInBounds k x))->Heap.SameBut a s.heap h'->Q () { s with heap:=h' }):wpAny M A (setField (.ref a) k x) Q E s:=
 wpAny_setField ho hd hk (h _ ⟨_,qY _ ho (Obj.isFreed_of_fields (XZ hd _)),Obj.cls_mapFields ..,XZ hd _⟩ (XO ..))
theorem Zja {oe:Obj}{vs:QY}{T:Option Addr}(hfr:A.frames=some (env::outer))(hf:env.frame=some L)(hl:s.heap.FunFrames base (env::outer))(ha:s.heap.get? a=some oe)(hv:oe.data = .fields vs)(h1:vs[1]? = some (T.elim .none .ref))(h2:vs[2]? = some .none)
  (hT:∀t,T=some t->t≠a /\ ∃oT ts,s.heap.get? t=some oT/\oT.data = .fields ts/\ts[3]? = some .none)
  (hQ:∀h' T',(∀b o,s.heap.get? b=some o->b∉frs (env::outer)->b≠a->T≠some b->h'.get? b=some o)->(∀b o,s.heap.get? b=some o->b∈frs (env::outer) -> ∃sl,h'.get? b=some { o with slots:=sl }) ->
   Exc h' a T' oe.cls->s.heap.get? T'=none->Q () { s with heap:=h' }):wpAny M A (noteFrame (.ref a) env) (fun _ s₂=>wpAny M A (setFlight (.ref a) none) Q E s₂) E s:=by
 have nf:∀b o,s.heap.get? b=some o->(∃ws,o.data = .fields ws)->b∉frs (env::outer):=fun b o e ⟨ws,d⟩ hb=>by obtain⟨_,o',e',n⟩:=hl.mem hb;rw[e] at e';cases e';exact n ws d
 have sz:2<vs.size:=(qt.mp h2).1;have entry:∀(head:Value)(nx:Bool)(h0:Heap),(∀b o,s.heap.get? b=some o->T≠some b->h0.get? b=some o)->(∀b o,s.heap.get? b=some o -> ∃o',h0.get? b=some o')->h0.FunFrames base (env::outer) ->
   wpAny M A (do let f <- frameOf env;let pl <- entryPlaceOf L nx;let b <- EntryCells.newEntry head f .none (rawInt L) .none pl;setField (.ref a) 1 b) (fun _ s₂=>wpAny M A (setFlight (.ref a) none) Q E s₂) E { s with heap:=h0 }:=by
  intro head nx h0 k0 n0 hl0;have a0:h0.get? a=some oe:=k0 a oe ha fun z=>(hT a z).1 rfl;refine kg (wpAny_frameOf_fun hfr hl0 hf fun h₁ so=>kg (wpAny_entryPlaceOf fun pl hpl=>?_));unfold EntryCells.newEntry newFields;refine kg (qp ?_ (hpl.sizeOk5 _ _ _ _ _));generalize hob:([head,Value.ref L,.none,rawInt L,.none]++(if pl.isEmpty then List.replicate 6 Value.none else pl)).toArray=ts;have t3:3<ts.size:=by rw[<- hob];simp only[kr,kh,Kv,Xs];lia
  have a1:h₁.get? a=some oe:=(so.2.1 a (nf a oe ha ⟨vs,hv⟩)).trans a0;have ne:h₁.objs.size≠a:=Xf (Kc a1);refine ZpS (kC _ a1) hv (by lia) fun g2 ⟨o2,e2,c2,d2⟩ sb2=>?_;have eT:g2.get? h₁.objs.size=some _:=(sb2.2 _ ne).trans (Kl h₁ rfl);unfold setFlight;refine kg (qy (x:=.ref h₁.objs.size) e2 d2 (by simp[show 1<vs.size by lia]) ?_);rw[km (by simp)];refine ZpS eT rfl t3 fun h3 ⟨o3,e3,c3,d3⟩ sb3=>?_;have old:∀b o,h₁.get? b=some o->b≠a->h3.get? b=some o:=fun b o e z=>(sb3.2 b (Kn (Kc e))).trans ((sb2.2 b z).trans (kC _ e));have fresh:s.heap.get? h₁.objs.size=none:=by
   cases q:s.heap.get? h₁.objs.size with
   | none=>rfl
   | some o=>
    exfalso;obtain⟨o',z⟩:=n0 _ o q;obtain⟨sl,y⟩:=so.2.2 _ _ z;exact qK _ (Kc y)
  refine hQ h3 h₁.objs.size (fun b o e n na nt=>old b o ((so.2.1 b n).trans (k0 b o e nt)) na) (fun b o e hb=>?_) ⟨o2,_,o3,_,(sb3.2 a (KG ne)).trans e2,c2,d2,by simp[show 1<vs.size by lia],e3,d3,by simp[t3],ne,by rw[Array.getElem?_setIfInBounds_ne (by decide)];exact h2⟩ fresh;obtain⟨_,o',e',n⟩:=hl.mem hb;rw[e] at e';cases e';obtain⟨sl,y⟩:=so.2.2 b o (k0 b o e fun z=>by obtain⟨_,oT,ts,q,d,_⟩:=hT b z;rw[e] at q;cases q;exact n _ d);exact⟨sl,old b _ y fun z=>by rw[z,ha] at e;cases e;exact n _ hv⟩
 unfold noteFrame;simp only[hf];refine kg (qy ha hv h1 ?_);cases T with
 | none=>
  rw[ki (by decide)];exact entry _ _ s.heap (fun b o e _=>e) (fun b o e=>⟨o,e⟩) hl
 | some t=>
  obtain⟨nt,oT,ts,eT,dT,f3⟩:=hT t rfl;show wpAny M A (if (Value.ref t != Value.none)=true then _ else _) _ _ s;rw[km (by simp)];refine kg (qy eT dT f3 ?_);rw[ki (by simp[rawInt])];refine kg (ZpS eT dT (qt.mp f3).1 fun h' ⟨o1,g1,_⟩ sb=>?_);refine entry _ _ h' (fun b o e n=>(sb.2 b fun z=>n (by rw[z])).trans e) (fun b o e=>by
   by_cases z:b=t
   ·exact⟨o1,by rw[z];exact g1⟩
   ·exact⟨o,(sb.2 b z).trans e⟩) (hl.of_keeps fun b o e n=>⟨o,(sb.2 b fun z=>?_).trans e,rfl⟩)
  rw[z,eT] at e;cases e;exact n _ dT
theorem Zik {args:QJ}(hfr:A.frames=some (env::outer))(hf:env.frame=some L)(hl:h.FunFrames base (env::outer))(hx:Heap.MadeExcOf h s.heap a C args)
  (hQ:∀h' T,(∀b o,h.get? b=some o->b∉frs (env::outer)->h'.get? b=some o)->(∀b o,h.get? b=some o->b∈frs (env::outer) -> ∃sl,h'.get? b=some { o with slots:=sl }) ->
   Exc h' a T C->h.get? a=none->h.get? T=none->Q () { s with heap:=h' }):wpAny M A (leaving env (.ref a)) Q E s:=by
 obtain⟨t,ha,_⟩:=hx.there;have was:∀b,s.heap.get? b=none->h.get? b=none:=fun b e=>by
  cases q:h.get? b with
  | none=>rfl
  | some o=>rw[hx.keeps b o q] at e;cases e
 exact kg (Zja (T:=none) hfr hf (hl.of_keeps fun b o e _=>⟨o,hx.keeps b o e,rfl⟩) ha rfl rfl rfl (fun _ z=>nomatch z) fun h' T' k1 k2 ex nT=>
  hQ h' T' (fun b o e n=>k1 b o (hx.keeps b o e) n (fun z=>by rw[z,hx.new] at e;cases e) (fun z=>nomatch z)) (fun b o e hb=>k2 b o (hx.keeps b o e) hb) ex hx.new (was _ nT))
theorem looked (hfr:A.frames=some (env::outer))(hf:env.frame=some L)(hl:s.heap.FunFrames base (env::outer))(hx:Exc s.heap a T C)
  (hQ:∀h' T',(∀b o,s.heap.get? b=some o->b∉frs (env::outer)->b≠a->b≠T->h'.get? b=some o)->(∀b o,s.heap.get? b=some o->b∈frs (env::outer) -> ∃sl,h'.get? b=some { o with slots:=sl }) ->
   Exc h' a T' C->(T'=T∨s.heap.get? T'=none)->Q () { s with heap:=h' }):wpAny M A (noteFrame (.ref a) env) (fun _ s₂=>wpAny M A (setFlight (.ref a) none) Q E s₂) E s:=by
 obtain⟨oe,vs,oT,ts,p1,rfl,p3,p4,p5,p6,p7,p8,p9⟩:=hx;exact Zja (T:=some T) hfr hf hl p1 p3 p4 p9 (fun t z=>by cases z;exact⟨p8,oT,ts,p5,p6,p7⟩) fun h' T' k1 k2 ex nT=>hQ h' T' (fun b o e n na nt=>k1 b o e n na fun z=>nt (Ka z).symm) k2 ex (.inr nT)
theorem ZlS (hfr:A.frames=some (env::outer))(hf:env.frame=some L)(hl:s.heap.FunFrames base (env::outer))(hx:Exc s.heap a T C)
  (hQ:∀h' T',(∀b o,s.heap.get? b=some o->b∉frs (env::outer)->b≠a->b≠T->h'.get? b=some o)->(∀b o,s.heap.get? b=some o->b∈frs (env::outer) -> ∃sl,h'.get? b=some { o with slots:=sl }) ->
   Exc h' a T' C->(T'=T∨s.heap.get? T'=none)->Q () { s with heap:=h' }):wpAny M A (leaving env (.ref a)) Q E s:=kg (looked hfr hf hl hx hQ)
end
def CX1 (P:Program)(w:World):CXT:=fun outer H s E e s'=>∃(a T C:Addr)(H':Hp),e = .ref a/\s'.os=s.os/\AllBare s'.gens/\Un (frs outer) [] H H' s.heap s'.heap/\UX P w H' s'.heap /\
 Exc s'.heap a T (.ref C)/\s.heap.get? a=none/\s.heap.get? T=none/\H' a=none/\H' T=none/\E (.ref C) none H'
section
variable {P:Program}{w:World}{K:QF}{mg:QN}{base:Heap}{N:QP}{qual:Str}{scope:Scope}{f:Addr}{cd:Value}{A:Around}{outer:List Env}{s₀ s:Shared}{H₀ H:Hp}{E:XK}{CX:CXT}{pins:QC}{σ:L2.St}
theorem Ze6 {h:Heap}{b:Addr}{o:HO}(ok:UX P w H h)(e:H b=some o):∃ob,h.get? b=some ob:=(ok b o e).there
theorem Wy {h:Heap}{b:Addr}(ok:UX P w H h)(e:h.get? b=none):H b=none:=by
 cases q:H b with
 | none=>rfl
 | some o=>
  obtain⟨ob,z⟩:=Ze6 ok q;rw[e] at z;cases z
theorem Zff {a T:Addr}{h':Heap}(I:Inv (GD CX P w K mg base N qual scope f cd A outer s₀ H₀ E) pins σ H s)
  (na:H a=none/\s₀.heap.get? a=none) (nT:H T=none/\s₀.heap.get? T=none)
  (keep:∀b o,s.heap.get? b=some o->b∉frs (GD CX P w K mg base N qual scope f cd A outer s₀ H₀ E).stack->b≠a->b≠T->h'.get? b=some o)
  (slot:∀b o,s.heap.get? b=some o->b∈frs (GD CX P w K mg base N qual scope f cd A outer s₀ H₀ E).stack -> ∃sl,h'.get? b=some { o with slots:=sl }):
  Un (frs outer) [] H₀ H s₀.heap h'/\UX P w H h':=by
 have B:Un (frs outer) [] H₀ H s₀.heap s.heap:=I.base;have neL:∀b o,s₀.heap.get? b=some o->b∉frs outer->b∉frs (GD CX P w K mg base N qual scope f cd A outer s₀ H₀ E).stack:=fun b o e nb hb=>by
  rcases kO.mp (I.stkSub b hb) with z | z
  ·exact absurd (KD (Kc e) I.ok.above) (by rw[z];exact qK _)
  ·exact nb z
 have nea:∀b o,s₀.heap.get? b=some o->b≠a/\b≠T:=fun b o e=>⟨(fun z=>by rw[z,na.2] at e;cases e),(fun z=>by rw[z,nT.2] at e;cases e)⟩;have any:∀b o,s.heap.get? b=some o->b≠a->b≠T -> ∃o',h'.get? b=some o':=fun b o e z1 z2=>by
  by_cases hb:b∈frs (GD CX P w K mg base N qual scope f cd A outer s₀ H₀ E).stack
  ·obtain⟨sl,q⟩:=slot b o e hb;exact⟨_,q⟩
  ·exact⟨o,keep b o e hb z1 z2⟩
 refine⟨⟨fun b o e n hb hx=>keep b o (B.keep b o e n hb hx) (neL b o e hb) (nea b o e).1 (nea b o e).2,fun b o e n hb hx=>?_,B.free,fun b o e hx=>?_,B.tups,B.frzs,B.tbls⟩,fun b u e=>?_⟩
 ·obtain⟨sl,q⟩:=B.slot b o e n hb hx;obtain⟨sl',q'⟩:=slot b _ q (by
   show b∈frs (envOfC qual scope s₀.heap.objs.size f cd::outer);unfold frs;rw[K7];exact kU _ hb)
  exact⟨sl',q'⟩
 ·obtain⟨o',q⟩:=B.there b o e hx;exact any b o' q (nea b o e).1 (nea b o e).2
 ·refine(I.hok b u e).stay (fun c v hc q=>?_) (fun _ q=>q) fun _ _ q=>q;have hH:H c≠none:=by
   rcases hc with rfl | z
   ·rw[e];exact fun z=>nomatch z
   ·rw[z];exact fun z=>nomatch z
  exact keep c v q (fun z=>hH (I.stkFree c z)) (fun z=>hH (by rw[z];exact na.1)) (fun z=>hH (by rw[z];exact nT.1))
theorem Wl {b:Addr}(I:Inv (GD CX P w K mg base N qual scope f cd A outer s₀ H₀ E) pins σ H s)(e:s.heap.get? b=none):s₀.heap.get? b=none:=by
 cases q:s₀.heap.get? b with
 | none=>rfl
 | some o=>
  obtain⟨o',z⟩:=I.base.there b o q (fun y=>nomatch y);rw[e] at z;cases z
theorem Znu {a C:Addr}{args:QJ}{h':Heap}{tk:Nat}(I:Inv (GD (CX1 P w) P w K mg base N qual scope f cd A outer s₀ H₀ E) pins σ H s)(hx:Heap.MadeExcOf s.heap h' a (.ref C) args)(hE:E (.ref C) none H):
  (GD (CX1 P w) P w K mg base N qual scope f cd A outer s₀ H₀ E).xe (.ref a) { s with heap:=h',toks:=tk }:=by
 refine Zik (L:=s₀.heap.objs.size) I.ok.frames rfl I.stack (s:={ s with heap:=h',toks:=tk }) hx fun h2 T keep slot ex na nT=>?_;obtain⟨u,ok⟩:=Zff I ⟨Wy I.hok na,Wl I na⟩ ⟨Wy I.hok nT,Wl I nT⟩ (fun b o e n _ _=>keep b o e n) slot;exact⟨a,T,C,H,rfl,I.os,I.bare,u,ok,ex,Wl I na,Wl I nT,Wy I.hok na,Wy I.hok nT,hE⟩
theorem ZrU:Passes (CX1 P w) (GD (CX1 P w) P w K mg base N qual scope f cd A outer s₀ H₀ E) E:=by
 intro pins σ H s e s' I c;obtain⟨a,T,C,H',rfl,os,bare,un,ok,ex,na,nT,ha,hT,hE⟩:=c;have I':Inv (GD (CX1 P w) P w K mg base N qual scope f cd A outer s₀ H₀ E) pins σ H' s':=I.call' os un ok bare (fun b z=>nomatch z);refine ZlS (L:=s₀.heap.objs.size) I'.ok.frames rfl I'.stack ex fun h2 T' keep slot ex' oT=>?_;obtain⟨u,ok'⟩:=Zff I' ⟨ha,Wl I na⟩ ⟨hT,Wl I nT⟩ keep slot;refine⟨a,T',C,H',rfl,I'.os,I'.bare,u,ok',ex',Wl I na,?_,ha,?_,hE⟩
 ·rcases oT with z | z
  ·rw[z];exact Wl I nT
  ·exact Wl I' z
 ·rcases oT with z | z
  ·rw[z];exact hT
  ·exact Wy I'.hok z
end
theorem ZqI {K:QF}{C:Addr}{bmB:QJ}{newId:String}{h:Heap}(KI:K.In h)(hq:PySem.W.excIn K C bmB newId=true):
  ∃bm N nm qn bs hd sn sub ab col dd k0 k1 k2 k3 k5 mN,h.get? C=some (excClassObj nm qn C N bs bm hd sn sub ab col dd k0 k1 k2 k3 k5 newId)/\h.Ns N mN/\mN "__init__" = none/\OwnTail h bmB bm:=by
 unfold PySem.W.excIn at hq;split at hq
 ·rename_i dd dat slots hob
  split at hq
  ·rename_i C2 tail k0 k1 k2 k3 nid k5 hmro hsl
   simp only[Kj,Bool.not_eq_true',NX] at hq;obtain⟨⟨⟨⟨⟨e1,e2⟩,e3⟩,e4⟩,e5⟩,e6⟩:=hq;subst e1;subst e2;obtain⟨nm,bs,mro,ns,qn,hd,sn,sub,ab,col,del⟩:=dat;simp only at hmro e3 e5 e6;subst hmro;subst e3;obtain⟨sl⟩:=slots;simp only at hsl;subst hsl;exact⟨tail,ns,nm,qn,bs,hd,sn,sub,ab,col,dd,k0,k1,k2,k3,k5,_,KI _ _ hob,.of_isNs (PySem.W.isNs_of_in KI e5),PySem.W.nsMap_none_of_in KI e5 e6,PySem.W.tail_of_in KI e4⟩
  ·exact nomatch hq
 ·exact nomatch hq
def bmV:QJ:=[.type "ValueError", .type "Exception", .type "BaseException", .type "object"]
def ZqT (C:Addr)(E:XK)(ta:TA):TS:=fun _ σ H=>ta σ H fun vs H1=>vs.length<=sizeLine/\E (.ref C) none H1
section
variable {P:Program}{w:World}{K:QF}{mg:QN}{base:Heap}{N:QP}{qual:Str}{scope:Scope}{f:Addr}{cd:Value}{A:Around}{outer:List Env}{s₀:Shared}{H₀:Hp}{E:XK}
theorem ZmH {x:Str}{C:Addr}{e:Expr}{es:QV}{ta:TA}{np cpos pos:Pos}(hg:Gl (GD (CX1 P w) P w K mg base N qual scope f cd A outer s₀ H₀ E) x)(hm:mg x=some (.ref C))(hc:PySem.W.excIn K C bmV "ValueError.__new__" = true)
  (ha:PA (GD (CX1 P w) P w K mg base N qual scope f cd A outer s₀ H₀ E) (e::es) ta)
  (he:starEach (e::es) (GD (CX1 P w) P w K mg base N qual scope f cd A outer s₀ H₀ E).env=(false,eval e (GD (CX1 P w) P w K mg base N qual scope f cd A outer s₀ H₀ E).env)::starEach es (GD (CX1 P w) P w K mg base N qual scope f cd A outer s₀ H₀ E).env:=by rfl)
  (hp:(backTo cpos (starEach es (GD (CX1 P w) P w K mg base N qual scope f cd A outer s₀ H₀ E).env)).any (·.1)=false:=by rfl) (hd:(x==("__debug__" : Str))=false:=by decide):
  PS (GD (CX1 P w) P w K mg base N qual scope f cd A outer s₀ H₀ E) (.Raise (some (.Call (.Name x np) (e::es) [] cpos)) none pos) (ZqT C E ta):=by
 intro pins s σ H D I h;obtain⟨bm,NN,nm,qn,bs,hdc,sn,sub,ab,col,dd,k0,k1,k2,k3,k5,mN,hC,hN,hni,T⟩:=ZqI I.mod.kin hc;have hb:bmV.contains (.type "BaseException")=true:=T5.hasBase;refine wpAny_Raise_call_subT (C:=C) (nm:=nm) (q:=qn) (N:=NN) (bs:=bs) (bm:=bm) (bmB:=bmV) (hdct:=hdc) (sn:=sn) (sub:=sub) (ab:=ab) (col:=col) (dd:=dd) (k0:=k0) (k1:=k1) (k2:=k2) (k3:=k3) (k5:=k5)
  (newId := "ValueError.__new__") T5 (mN:=mN) (T.hasType hb) (I.ok.hd rfl) (by rw[he];show (false||(backTo cpos (starEach es _)).any (·.1))=false;rw[hp];rfl) hni (Zj9 I hg hm ⟨rfl,?_⟩ hd)
 have hz:=ha cpos pins s σ H _ I h;rw[he] at hz ⊢;refine Tz (K6 hz (fun us s2 ⟨vs,H2,I2,rv,hl,hE⟩=>?_) fun _ _ y=>y);refine⟨rfl,by rw[<- rv.length];exact hl,I2.bk _ _ hC,hN.keeps I2.bk,T.keeps I2.bk,fun h' a mk=>?_⟩;exact Znu (tk:=s2.toks) I2 mk hE
end
section
variable {P:Program}{w:World}{K:QF}{mg:QN}{base:Heap}
theorem Yx.okX {x qual:Str}{st:Stmt}{f:Addr}{fd:FuncData}{N ps:QP}{k:Nat}{sp:Sp}(F:Yx K x qual st f fd)(S:Zy N ps (Zj st))(len:∀vs H Q E,sp vs H Q E->vs.length=ps.length)
  (hbody:∀(cdv:Value)(A:Around)(outer:List Env)(s:Shared)(H:Hp)(vs:QH)(Q:VK)(E:XK),Up k (A.deeper (envOfC qual (Zj st) s.heap.objs.size f cdv))->sp vs H Q E ->
   ∃t,PSs (GD (CX1 P w) P w K mg base N qual (Zj st) f cdv A outer s H E) (U6 st) t/\t { nx:=fun _ H'=>Q .non H',rt:=Q } (start N vs) H):Yi P w K mg base (CX1 P w) (k+1) f fd ps sp:=by
 obtain⟨oc,od,kV,doc,pm,an,cdv,ct,osl,rfl,lk,hcd⟩:=F.ex;exact Zpn lk hcd S len fun A outer s H vs Q E hr hsp=>hbody cdv A outer s H vs Q E hr hsp
def Zkt (P:Program)(w:World)(K:QF)(mg:QN)(base:Heap)(k:Nat)(x:Str)(ps:QP)(sp:Sp):Prop:=
 ∃(f:Addr)(fd:FuncData),Yi P w K mg base (CX1 P w) k f fd ps sp/\mg x=some (.ref f)/\PySem.W.keepIn K (.ref f)=true/\Binds K fd ps []
theorem ZjK {X:Cx}{k:Nat}{x:Str}{ps:QP}{sp:Sp}{p pos:Pos}{e:Expr}{es:QV}{t:TA}{E:XK}(h:Zkt X.prog X.w X.K X.mg X.base k x ps sp)(hr:Up k X.A)(hx:Passes (CX1 X.prog X.w) X E)(ha:PA X (e::es) t)(hg:Gl X x:=by rfl)(hdb:(x==("__debug__" : Str))=false:=by decide)
  (he:starEach (e::es) X.env=(false,eval e X.env)::starEach es X.env:=by rfl) (hpl:(backTo pos (starEach es X.env)).any (·.1)=false:=by rfl):PE X (.Call (.Name x p) (e::es) [] pos) (ZjV sp [] E t):=by
 obtain⟨f,fd,G,hm,hk,hb⟩:=h;exact Zj2 G hr hg hm hk hb .nil hx ha hdb he hpl
end
def Ziq:List (TE×TE)->St->Hp->(List (V×V)->Hp->Prop)->Prop
 | [],_,H,Q=>Q [] H
 | (tk,tv)::r,σ,H,Q=>tk σ H fun x H1=>tv σ H1 fun y H2=>Ziq r σ H2 fun ps H3=>Q ((x,y)::ps) H3
abbrev VV:List (V×V)->List (Value×Value)->Prop:=Paired fun p q=>RelV p.1 q.1/\RelV p.2 q.2
def PPs (X:Cx)(pos:Pos)(keys:List (Option Expr))(values:QV)(trs:List (TE×TE)):Prop:=
 ∀(pins:QC)(s:Shared)(σ:St)(H:Hp)(Q:List (V×V)->Hp->Prop),Inv X pins σ H s->Ziq trs σ H Q ->
  wpAny (model X.prog X.w) X.A (evalPairs (pairTrees keys values X.env pos)) (fun vs s'=>∃ps H',Inv X pins σ H' s'/\VV ps vs/\Q ps H') X.xe s
theorem ZoM {X:Cx}{pos:Pos}:PPs X pos [] [] []:=fun pins s σ H Q I h=>pairTrees_nil_walk ⟨[],H,I,.nil,h⟩
theorem ZhO {X:Cx}{pos:Pos}{k v:Expr}{ks:List (Option Expr)}{vs:QV}{tk tv:TE}{trs:List (TE×TE)}(hk:PE X k tk)(hv:PE X v tv)(hr:PPs X pos ks vs trs):
  PPs X pos (some k::ks) (v::vs) ((tk,tv)::trs):=fun pins s σ H Q I h=>
 pairTrees_cons_walk (YN (hk pins s σ H _ I h) fun u s1 ⟨x,H1,I1,rx,q1⟩=>YN (hv pins s1 σ H1 _ I1 q1) fun w2 s2 ⟨y,H2,I2,ry,q2⟩=>
  YN (hr pins s2 σ H2 _ I2 q2) fun ws s3 ⟨ps,H3,I3,rel,q3⟩=>⟨(x,y)::ps,H3,I3,.cons ⟨rx,ry⟩ rel,q3⟩)
def ZcK (kvs more:QD):QD:=more.foldl (fun acc kv=>putK acc kv.1 kv.2) kvs
theorem KV.merge:∀{more:QD}{rs:List (Key×Value)}{kvs:QD}{vs:List (Key×Value)},KV more rs->KV kvs vs->KV (ZcK kvs more) (merged vs rs):=by
 intro more rs kvs vs r;unfold KV at r
 induction r generalizing kvs vs with
 | nil=>intro q;exact q
 | @cons p q ps qs h t ih=>
  intro r0;have e:KV (putK kvs p.1 p.2) (stored vs q.1 q.2):=by have:=r0.put p.1 h.2;rw[<- h.1];exact this
  exact ih e
theorem Zbz:∀(more kvs:QD),(ZcK kvs more).length<=kvs.length+more.length
 | [],kvs=>by show kvs.length<=kvs.length+0;lia
 | p::r,kvs=>by have h1:=Zbz r (putK kvs p.1 p.2);have h2:=W6 kvs p.1 p.2;show (ZcK (putK kvs p.1 p.2) r).length<=_;rw[Kv];lia
theorem ZeN {P:Program}{w:World}:∀{kvs:QD}{ws:List (Value×Value)},VV (kvs.map fun kv=>(kV kv.1,kv.2)) ws -> ∃rs,Carries (Z9 P w) ws rs/\KV kvs rs
 | [],_,r=>by rw[NW] at r;cases r;exact⟨[],True.intro,.nil⟩
 | p::kvs,_,r=>by
  rw[Kq] at r;cases r with
  | @cons a b as bs h t=>
   obtain⟨rs,c,q⟩:=ZeN (P:=P) (w:=w) t;obtain⟨b1,b2⟩:=b;exact⟨(p.1,b2)::rs,⟨ZfB h.1,rfl,c⟩,.cons ⟨rfl,h.2⟩ q⟩
def Zrl (trs:List (TE×TE)):TE:=fun σ H Q=>∀p,H p=none->Ziq trs σ (upd H p (.dK [])) fun ps H2=>H2 p=some (.dK []) /\ ∃kvs:QD,ps=kvs.map (fun kv=>(kV kv.1,kv.2))/\kvs.length<=15/\Q (.ref p) (upd H2 p (.dK (ZcK [] kvs)))
theorem ZnW {X:Cx}{pos:Pos}{keys:List (Option Expr)}{values:QV}{trs:List (TE×TE)}(h:PPs X pos keys values trs)(hall:keys.all (·.isSome)=true)(hl:keys.length=values.length)(h0:keys ≠ [])
  (h15:keys.length<=15):PE X (.Dict keys values pos) (Zrl trs):=by
 intro pins s σ H Q I q;have hn:=I.hok.fresh (kj s.heap.objs.size);have I1:=I.laid (a:=s.heap.objs.size) (o:=.dK []) (h':=s.heap.push { cls:=.type "dict", data:=.dict #[] }) (t':=s.toks) (fun _ _ q=>kC _ q) (kj _) (Zg4 s.heap I.big);refine wpAny_Dict_walk (knd:=Z9 X.prog X.w) hall hl h0 h15 (YN (h pins _ σ _ _ I1 (q _ hn)) fun ws s2 ⟨ps,H2,I2,rel,e,kvs,ep,lk,q2⟩=>?_);subst ep;obtain⟨rs,c,rk⟩:=ZeN (P:=X.prog) (w:=X.w) rel;obtain⟨z,hd,vs0,r0,dd⟩:=Znf I2.hok e;cases r0;refine⟨rs,c,dd,fun h' dd' hs=>⟨.ref s.heap.objs.size,_,?_,rfl,q2⟩⟩;have hz:(ZcK [] kvs).length<=sizeLine:=by have h1:=Zbz kvs [];rw[Xs] at h1;rw[k9];lia
 have he:∃q,h'.get? s.heap.objs.size=some q:=let ⟨q,_,_,hq,_⟩:=dd';⟨q,hq⟩
 exact ZfX I2 (by rw[e];exact True.intro) hs he (Zia hz hd (rk.merge .nil) dd')
def ZqV (lo:Int)(n:Nat):It:=⟨fun i _=>i<n,fun i H x H'=>H'=H/\x = .int (lo+i*2),fun i _=>n<=i⟩
theorem Zhn {P:Program}{w:World}{K:QF}{tg:Expr}(it:Addr)(lo:Int)(n:Nat):Turn P w K tg (ZqV lo n) [it] it (fun i h=>IsRangeIter h it (lo+(i:Nat)*2) ((n:Int)-(i:Nat)) 2) where
 mem:=by simp
 obj:=fun i h st b hb=>by
  have e:b=it:=by simpa using hb
  subst e;exact⟨_,st,fun v z=>by have z':Data.fields _=Data.cell v:=z;cases z'⟩
 keep:=fun i h h' st k=>k it (by simp) _ st
 item:=by intro X hP hw hK hc i pins s σ H E I hf st hg;subst hP hw hK;obtain⟨f0,f1,f2,f3,f4,f5⟩:=hf it (by simp);have W:=Walks.range (prog:=X.prog) (w:=X.w) (I.ok.hd hc) it lo 2 n;refine W.item i s _ _ hg st fun v h' tk hv st' kk=>?_;obtain⟨t,rfl⟩:=hv;have I1:Inv X pins σ H { s with heap:=h',toks:=tk }:=I.turned (fun b o hb e=>kk b o (by simpa using hb) e) f0 f1 f3 f4 f5;exact⟨_,rfl,Zj6 (s:={ s with heap:=h',toks:=tk }) (n := "range_iterator") st' rfl rfl (by decide) ⟨.int (lo+i*2),H,I1,⟨t,rfl⟩,⟨rfl,rfl⟩,st',fun b hb=>(hf b hb).1⟩⟩
 done:=by intro X hP hw hK hc i pins s σ H E I hf st hg;subst hP hw hK;obtain⟨f0,f1,f2,f3,f4,f5⟩:=hf it (by simp);exact wpAny_pyNext_range_end (I.ok.hd hc) st (by have:n<=i:=hg;lia) fun h' eb=>⟨rfl,I.turned (t':=s.toks) (fun b o hb e=>eb b o hb e) f0 f1 f3 f4 f5⟩
 self:=fun _ _ _ _ _ st h=>wpAny_pyIter_rangeiter st h
section
variable {X:Cx}{tg:Expr}
inductive ZmX(R:It->Hp->Prop)(vs:QH)(H1:Hp):Prop|mk(n:Nat)(_:vs = [.int 0,.int (2*n),.int 2])(_:n<100000)(_:R (ZqV 0 n) H1)
def Zru (ta:TA):TI:=fun σ H R=>ta σ H fun vs H1=>ZmX R vs H1
theorem Zhg (n:Nat):Builtin.Range.rangeSize 0 (2*(n:Int)) 2=n:=by unfold Builtin.Range.rangeSize;rw[km (by decide)];split<;>lia
theorem GN {i:Int}(h0 : -1<=i)(h1:i<1000000):Builtin.Range.rangeFitsLong i=true:=by unfold Builtin.Range.rangeFitsLong;rw[Kj];exact⟨kE (by lia),kE (by lia)⟩
theorem Zk5 {n:Nat}(h:n<100000):Builtin.Range.small 0 (2*(n:Int)) 2=true:=by unfold Builtin.Range.small;rw[Zhg];rw[km (by decide),GN (i:=0) (by lia) (by lia),GN (i:=2*(n:Int)) (by lia) (by lia),GN (i:=2) (by lia) (by lia),GN (i:=(n:Int)) (by lia) (by lia),GN (i:=2*(n:Int)+(2-1)) (by lia) (by lia)];simp
theorem Zla {a b c:Expr}{ta:TA}{p pos:Pos}(hg:Gl X "range")(hm:X.mg "range" = none)(ha:PA X [a,b,c] ta)(hs:starEach [a,b,c] X.env = [(false,eval a X.env),(false,eval b X.env),(false,eval c X.env)]:=by rfl)(hs2:starEach [b,c] X.env = [(false,eval b X.env),(false,eval c X.env)]:=by rfl):
  PI X tg (.Call (.Name "range" p) [a,b,c] [] pos) (Zru ta):=by
 intro pins s σ H R I h;refine Call_ (UU I hg hm boot_range (qa (YN (ha pos pins s σ H _ I h) fun us s1 ⟨vs,H1,I1,r1,q1⟩=>?_) (by rw[hs,hs2]) (by rw[hs2];rfl)));obtain⟨n,e,hn,q⟩:=q1;subst e;cases r1 with
 | cons r rr=>
  cases rr with
  | cons r' rr=>
   cases rr with
   | cons r2 rr=>
    cases rr;obtain⟨t,rfl⟩:=r;obtain⟨t',rfl⟩:=r';obtain⟨t2,rfl⟩:=r2;refine call_range_3 (by decide) ?_ (Or.inl (NR (by lia)));refine wpAny_pyIter_range (IsRange.new ..) (Zk5 hn) ?_;have I2:Inv X pins σ H1 { s1 with heap:=s1.heap.push { cls:=.type "range", data:=.fields #[.int 0 t,.int (2*(n:Int)) t',.int 2 t2] } }:=I1.kept (t':=s1.toks) fun b o e=>kC _ e;refine⟨(s1.heap.push { cls:=.type "range", data:=.fields #[.int 0 t,.int (2*(n:Int)) t',.int 2 t2] }).objs.size,[(s1.heap.push { cls:=.type "range", data:=.fields #[.int 0 t,.int (2*(n:Int)) t',.int 2 t2] }).objs.size],_,_,H1,rfl,
     I2.kept (t':=s1.toks) fun b o e=>kC _ e,Zhn _ 0 n,?_,fun b hb=>?_,q⟩
    ·have e1:(0:Int)+((0:Nat):Int)*2=0:=by simp
     have e2:((n:Nat):Int)-((0:Nat):Int)=Builtin.Range.rangeSize 0 (2*(n:Int)) 2:=by rw[Zhg];simp
     show IsRangeIter _ _ ((0:Int)+((0:Nat):Int)*2) (((n:Nat):Int)-((0:Nat):Int)) 2;rw[e1,e2];exact Kl _ rfl
    ·have e:b=(s1.heap.push { cls:=.type "range", data:=.fields #[.int 0 t,.int (2*(n:Int)) t',.int 2 t2] }).objs.size:=by simpa using hb
     subst e;exact I2.fpOk (kj _) (I2.hok.fresh (kj _))
end
theorem Zio {lo:Int}{n:Nat}{g:TG}{tb:TS}{D:Ends}{σ:L2.St}{H:Hp}(Pv:Nat->L2.St->Hp->Prop)(h0:Pv 0 σ H)
  (hs:∀i σ H,i<n->Pv i σ H->g (.int (lo+i*2)) σ H fun σ2 H2=>tb { D with nx:=Pv (i+1),ct:=Pv (i+1),bk:=D.nx } σ2 H2) (hd:∀ σ H,Pv n σ H->D.nx σ H):
  Zfp (ZqV lo n) g tb D σ H:=by
 refine⟨fun i m σ H=>m=n-i/\i<=n/\Pv i σ H,⟨n,by simp,Kr _,h0⟩,?_⟩;rintro i m σ H ⟨rfl,hi,p⟩;by_cases hlt:i<n
 ·refine .inr ⟨hlt,Pv (i+1),fun σ' H' p'=>⟨n-(i+1),by lia,rfl,hlt,p'⟩,fun x H' y=>?_⟩;obtain⟨rfl,rfl⟩:=y;exact hs i σ _ hlt p
 ·exact .inl ⟨by show n<=i;lia,hd σ H ((show i=n by lia) ▸ p)⟩
theorem ZoK {K:QF}{a b:Addr}{xs ys:QH}{g:TG}{tb:TS}{D:Ends}{σ:L2.St}{H:Hp}(hl:xs.length=ys.length)(Pv:Nat->L2.St->Hp->Prop)(h0:Pv 0 σ H)(hS:∀i σ H,Pv i σ H->Zt K H a xs/\Zt K H b ys)
  (hs:∀i x y p σ H,xs[i]? = some x->ys[i]? = some y->Pv i σ H->H p=none->g (.ref p) σ (upd H p (.tup [x,y])) fun σ2 H2=>tb { D with nx:=Pv (i+1),ct:=Pv (i+1),bk:=D.nx } σ2 H2) (hd:∀ σ H,Pv xs.length σ H->D.nx σ H):
  Zfp (Itz K a b) g tb D σ H:=by
 refine⟨fun i m σ H=>m=xs.length-i/\i<=xs.length/\Pv i σ H,⟨xs.length,by simp,Kr _,h0⟩,?_⟩;rintro i m σ H ⟨rfl,hi,p⟩;obtain⟨s1,s2⟩:=hS i σ H p;by_cases hlt:i<xs.length
 ·refine .inr ⟨⟨xs,ys,xs[i],ys[i]'(by lia),s1,s2,by simp[hlt],by simp[show i<ys.length by lia]⟩,Pv (i+1),fun σ' H' p'=>⟨xs.length-(i+1),by lia,rfl,hlt,p'⟩,fun x H' y=>?_⟩;obtain⟨q,u,v,e1,e2,e3,y1,y2⟩:=y;subst e1 e3;exact hs i u v q σ _ (y1 xs s1) (y2 ys s2) p e2
 ·exact .inl ⟨⟨xs,ys,s1,s2,.inl (by lia)⟩,hd σ H ((show i=xs.length by lia) ▸ p)⟩
end L2
namespace L2
open PySem PySem.Spec PyProof.Rows PyProof.V
section
variable {X:Cx}
inductive ZpT(K:QF)(x y:V)(H:Hp)(Q:VK):Prop|mk(p q:Addr)(ns ms:QG)(_:x = .ref p)(_:y = .ref q)(_:Zt K H p (ns.map V.int))(_:Zt K H q (ms.map V.int))(_:Q (.bl (decide (ns=ms))) H)
theorem Zjw {ns:QG}{its:QJ}(r:Vals (ns.map V.int) its){j:Nat}(h:j<its.toArray.size):∃t,its.toArray[j] = .int (ns.getD j 0) t:=by
 have l:=r.length;rw[ke] at l;have hj:j<ns.length:=by simp only[kr] at h;lia
 obtain⟨u,e,ru⟩:=r.get (i:=j) (x:=V.int ns[j]) (by simp[hj]);obtain⟨t,q⟩:=(show ∃t,u=Value.int ns[j] t from ru);have hi:j<its.length:=by lia
 refine⟨t,?_⟩;have:its[j]? = some its[j]:=by simp[hi]
 rw[this] at e;have e2:=Ka e;simp[hj];rw[e2,q]
theorem Zqz (hu:X.A.units+64<cLine):Us X (compareOp .Eq) (ZpT X.K):=by
 intro pins s σ H x y v u Q I rx ry h;obtain⟨p,q,ns,ms,rfl,rfl,hp,hq,hQ⟩:=h;cases rx;cases ry;obtain⟨its,r1,p1,_⟩:=I.list hp;obtain⟨its2,r2,p2,_⟩:=I.list hq;have l1:=r1.length;have l2:=r2.length;rw[ke] at l1 l2;by_cases hl:ns.length=ms.length
 ·refine SeqAt.eq_listAt (e:=fun j=>ns.getD j 0==ms.getD j 0) p1.isList p2.isList (by simp only[kr];lia) (by lia) (fun j h1 h2=>?_) ⟨.bl (decide (ns=ms)),H,I,?_,hQ⟩
  ·obtain⟨t1,e1⟩:=Zjw r1 h1;obtain⟨t2,e2⟩:=Zjw r2 h2;rw[e1,e2];exact SeqAt.EqAt.int_int _ _ _ _
  ·show Value.bool _=Value.bool _;congr 1;rw[qT,KA,decide_eq_true_iff];constructor
   ·intro z;refine List.ext_getElem hl fun i h1 h2=>?_;have:=z i (Kw.mpr (by simp only[kr];lia));simpa [h1,h2] using this
   ·intro z i _;rw[z];simp
 ·refine SeqAt.eq_list_lengthsAt p1.isList p2.isList (by simp only[kr];rw[Ts];lia) (by lia) ⟨.bl (decide (ns=ms)),H,I,?_,hQ⟩;rw[Km (fun z=>hl (by rw[z]))];rfl
theorem ZoI {K:QF}(h:X.K=K)(hu:X.A.units+64<cLine):Us X (compareOp .Eq) (ZpT K):=h ▸ Zqz hu
theorem Zpw {K:QF}(h:X.K=K)(hu:X.A.units+64<cLine):Us X (compareOp .NotEq) (fun x y H Q=>rNe x y H Q∨ZnP K false x y H Q):=by
 intro pins s σ H x y v u Q I rx ry hq;rcases hq with z | z
 ·exact Zck pins s σ H x y v u Q I rx ry z
 ·exact ZjF h hu pins s σ H x y v u Q I rx ry z
end
theorem Zew {α:Type}:∀{l:List α}{i:Nat}(h:i<l.length),([l[i]]++l.eraseIdx i).Perm l
 | _::_,0,_=>.refl _
 | x::l,i+1,h=>by have:=Zew (l:=l) (i:=i) (by simpa using h);exact(List.Perm.swap _ _ _).trans (this.cons x)
theorem Zfi {α:Type}(nx:Nat->Nat):∀(n k:Nat)(left:List α)(out:Array α),left.length=n->(pickOrder.go nx n k left out).toList.Perm (out.toList++left)
 | 0,k,left,out,h=>by
  cases left with
  | nil=>simp[pickOrder.go]
  | cons _ _=>cases h
 | n+1,k,left,out,h=>by have hi:nx k % left.length<left.length:=NZ _ (by lia);unfold pickOrder.go;rw[ko hi];dsimp only;refine(Zfi nx n (k+1) _ _ (by rw[T6 hi];lia)).trans ?_;rw[Array.toList_push,Kt];exact qZ _ (Zew hi)
theorem ZnN {α:Type}(nx:Nat->Nat)(xs:Array α):(pickOrder nx xs).toList.Perm xs.toList:=by have:=Zfi nx xs.size 0 xs.toList #[] (by simp);simpa [pickOrder] using this
theorem ZeK {α β:Type}{F:α -> β -> Prop}{x:α}{y:β}(hxy:F x y):∀(p:Nat){l:List α}{r:List β},Paired F l r->Paired F (l.take p++x::l.drop p) (r.take p++y::r.drop p)
 | 0,_,_,h=>.cons hxy h
 | p+1,_,_,.nil=>.cons hxy .nil
 | p+1,_,_,.cons a t=>.cons a (ZeK hxy p t)
section
variable {prog:Program}{w:World}{A:Around}{E:QE}{s:Shared}{a:Addr}{b:Nat->Bool}{ep:Nat}{es:Array (Int×Value)}
abbrev ZeR (led:Bool):Obj:={ cls:=.type "set", dict:=none,data:=.set #[] 0 (.fresh 0 0 led) }
abbrev Led (w:World)(led:Bool):Prop:=w.params.followText "set-order" = true∨led=true
def ZrF (prog:Program)(w:World)(u:Nat)(S:Addr)(J:Nat->Heap->Prop)(i:Nat)(v:Value):Prop:=
 ∀(A:Around)(E:QE)(s:Shared)(Q:Bool->Shared->Prop),A.units<=u->J i s.heap ->
  (∀b h' tk,s.toks<=tk->J (i+1) h'->Heap.SameBut S s.heap h'->Q b { s with heap:=h',toks:=tk })->wpAny (model prog w) A (setAdd S v) Q E s
theorem grow {R:Result->Shared->Prop}{I:Addr}{fp wr:List Addr}{G:Array GenState->Array GenState->Prop}{n:Nat}{P:Nat->Value->Prop}{St:Nat->Shared->Prop}
  (W:WalksS prog w A.in1 I fp wr G n P St) {S:Addr} (hS:S∉fp) {J:Nat->Heap->Prop} (jk:∀i h h',J i h->(∀c o,c∉wr->h.get? c=some o->h'.get? c=some o)->J i h') (ja:∀i v,P i v->ZrF prog w A.in1.units S J i v):
  ∀(k i:Nat)(s:Shared),i+k=n->St i s->J i s.heap->(∀s',Moved (S::wr) G s s'->J n s'.heap->R (.ok (.ret .none)) s')->codeAny (model prog w) A (.builtin "set.update.loop" ⟨[.ref S,.ref I],[]⟩) R s:=by
 have sub:∀c∈wr,c∈S::wr:=fun c hc=>.tail _ hc;intro k
 induction k with
 | zero=>
  rintro i s e st j hR;obtain rfl:i=n:=e;refine Xc F.entry_set_update_loop ?_;rw[qP Ta _]
  wp_walk using W.done s _ _ st
  intro s' m
  wp_walk
  exact hR s' (m.mono sub) (jk _ _ _ j m.heap)
 | succ k ih=>
  rintro i s rfl st j hR;refine Xc F.entry_set_update_loop ?_;rw[qP Ta _]
  wp_walk using W.item i s _ _ (by lia) st
  intro v s' p st' m;have j':=jk _ _ s'.heap j m.heap;refine kg (KL (ja i v p _ _ s' _ (kj _) j' fun b h' tk le j2 sb=>?_))
  wp_walk
  refine⟨Tx Ta _,ih (i+1) _ (by lia) (W.frame _ s' _ _ st' le fun c hc o e=>(sb.2 c fun z=>hS (z ▸ hc)).trans e) j2 fun s2 m2 j3=>hR s2 (Moved.trans W.gtrans ((m.mono sub).then_heap le fun c o hc e=>(sb.2 c fun z=>hc (z ▸ .head _)).trans e) m2) j3⟩
theorem Zjk {M:Model}{c:Code}{R:Result->Shared->Prop}{Q:QE}(x:codeAny M A c (wants Q E) s)(ok:∀v s1,Q v s1->R (.ok (.ret v)) s1)(er:∀e s1,E e s1->R (.error e) s1):codeAny M A c R s:=
 NS x fun r s1 h=>match r,h with
  | .ok (.ret v),h=>ok v s1 h
  | .error e,h=>er e s1 h
theorem ZiE {x:Value}{Q:QE}
  (h:∀led:Bool,Led w led->wpAny (model prog w) A.in1.in1 (Builtin.«set.__init__» ⟨[.ref s.heap.objs.size,x],[]⟩) (fun f s1=>f = .done (.ret .none)/\Q (.ref s.heap.objs.size) s1) E { s with heap:=s.heap.push (ZeR led) }):
  wpAny (model prog w) A (call (.type "set") [x]) Q E s:=by
 have ⟨c,tl,m⟩:=Xo.mro;have:=Xo.made;have:=Xo.sub;have:=Xo.notType;have:=Xo.canCreate;have:=F.typeCall_set_1 x;have:=sub_set_self;refine wpAny_call (codeAny_of_tree (kH ⟨Code.quiet_builtin _ (by decide +kernel),Xc F.entry_type_call ?_⟩));rw[Around.under_plain (weight_type_call_type "set" [x] []) rfl]
 wp_walk
 refine Zjk (Q:=fun v s1=>∃led,Led w led/\v = .ref s.heap.objs.size/\s1 = { s with heap:=s.heap.push (ZeR led) }) (E:=E) (TF F.plain_set_new F.entry_set_new (TB (F.newCall_set_1 x) ?_)) ?_ fun _ _ e=>e
 ·obtain⟨hp,g,d,tk,os⟩:=s
  wp_walk using XH
  refine⟨_,?_,rfl,rfl⟩;show _∨(!w.params.followText "set-order")=true;cases w.params.followText "set-order" <;> simp
 ·rintro _ _ ⟨led,hl,rfl,rfl⟩;have ty:Shared.TypeIs { s with heap:=s.heap.push (ZeR led) } (.ref s.heap.objs.size) "set" := ⟨_,Kl _ rfl,rfl⟩;have:=Xo.init.lookup;have:=Xo.init.bind (.ref s.heap.objs.size)
  wp_walk
  refine Zjk (Q:=fun r s1=>r = .none/\Q (.ref s.heap.objs.size) s1) (E:=E) (TF Xo.init.plain F.entry_set_init (check_set_init_1 ty (K6 (h led hl) ?_ fun _ _ e=>e))) ?_ fun _ _ e=>e
  ·rintro _ s1 ⟨rfl,q⟩;exact⟨rfl,q⟩
  ·rintro _ s1 ⟨rfl,q⟩
   wp_walk
   exact q
theorem Zof {l:Addr}{its:QY}{J:Nat->Heap->Prop}{Q:QE}(hh:A.handled=none)(hl:s.heap.IsList l its)
  (jk:∀i h h',J i h->(∀c o,c<=s.heap.objs.size->h.get? c=some o->h'.get? c=some o)->J i h') (j0:∀led,Led w led->J 0 (s.heap.push (ZeR led))) (ja:∀(i:Nat)(v:Value),its[i]? = some v->ZrF prog w (A.units+3) s.heap.objs.size J i v)
  (h:∀h' tk,J its.size h'->(∀c o,c<s.heap.objs.size->s.heap.get? c=some o->h'.get? c=some o)->Q (.ref s.heap.objs.size) { s with heap:=h',toks:=tk }):wpAny (model prog w) A (call (.type "set") [.ref l]) Q E s:=by
 refine ZiE fun led hled=>?_;have gs:(s.heap.push (ZeR led)).get? s.heap.objs.size=some (ZeR led):=Kl _ rfl;have hl1:=hl.push (ZeR led);obtain⟨⟨cls,dd,dat,sl⟩,g1,g2,n,g3⟩:=id hl;cases g2;cases g3;have g1':=kC (ZeR led) g1;have:=F.sub_list_set;have:=F.sub_list_frozenset;have:(Value.type "list" == Value.type "dict")=false:=by decide
 wp_walk using Nd hl1
 have sz:(s.heap.push (ZeR led)).objs.size=s.heap.objs.size+1:=Mj ..;have ll:l<s.heap.objs.size:=Kc g1;have out:∀c:Nat,c<=s.heap.objs.size->c ∉ [(s.heap.push (ZeR led)).objs.size]:=fun c hc z=>by have:=kT.mp z;lia
 refine grow (Walks.list (by simp[hh]) _ l (fun z=>out l (Kz ll) (z ▸ .head _)) its).toS (fun z=>?_) (fun i h h' j k=>jk i h h' j fun c o hc e=>k c o (out c hc) e) ja its.size 0 _ (XI _) ⟨⟨_,Kl _ rfl,rfl,rfl⟩,hl1.push _⟩ (jk _ _ _ (j0 led hled) fun c o _ e=>kC _ e) fun s' m j=>?_
 ·rcases kO.mp z with z | z
  ·exact out _ (kj _) (z ▸ .head _)
  ·exact Xf ll (kT.mp z)
 ·wp_walk
  rw[Moved.eq_with m];exact⟨rfl,h _ _ j fun c o hc e=>m.heap c o (fun z=>(kO.mp z).elim (Kn hc) (out c (Kz hc))) (kC _ (kC _ e))⟩
end
theorem Zce:Slot "set_iterator" "__next__" "set_iterator.__next__" := .of (owner := "set_iterator") (n := "__next__") (by rw[TM,Xx];kernel_rfl) (by decide +kernel) (by decide +kernel) (by decide +kernel) (by first | exact .inl (by decide +kernel) | exact .inr (by decide +kernel)) (by rw[Mm];kernel_rfl)
theorem Zh6:Slot "set_iterator" "__iter__" "set_iterator.__iter__" := .of (owner := "set_iterator") (n := "__iter__") (by rw[TM,Xx];kernel_rfl) (by decide +kernel) (by decide +kernel) (by decide +kernel) (by first | exact .inl (by decide +kernel) | exact .inr (by decide +kernel)) (by rw[Mm];kernel_rfl)
theorem Zpz:entryFor table "set_iterator.__next__" = some Builtin.«set_iterator.__next__»:=entryFor_of_tree (by kernel_rfl)
theorem Zqu:entryFor table "set_iterator.__iter__" = some Builtin.«dict_keyiterator.__iter__»:=Mn (id' := "dict_keyiterator.__iter__") (by kernel_rfl) rfl (by decide +kernel) (by kernel_rfl)
theorem ZqO:entryFor table "set.__iter__" = some Builtin.«frozenset.__iter__»:=Mn (id' := "frozenset.__iter__") (by kernel_rfl) rfl (by decide +kernel) (by kernel_rfl)
theorem ZjZ:Manifest.owners.lookup (String.ofList ['r', 'o', 't', 'a', 'r', 'e', 't', 'i', '_', 't', 'e', 's'].reverse)=some Manifest.sig_set_iterator:=by kernel_rfl
theorem ZpA (a:Value):argsOk "set_iterator.__next__" ⟨[a],[]⟩:=by unfold argsOk;rw[signature?_of (id := "set_iterator.__next__") (n:=['_', '_', 't', 'x', 'e', 'n', '_', '_']) (o:=['r', 'o', 't', 'a', 'r', 'e', 't', 'i', '_', 't', 'e', 's']) (by kernel_rfl) ZjZ];kernel_rfl
theorem Zqr (a:Value):argsOk "set_iterator.__iter__" ⟨[a],[]⟩:=by unfold argsOk;rw[signature?_of (id := "set_iterator.__iter__") (n:=['_', '_', 'r', 'e', 't', 'i', '_', '_']) (o:=['r', 'o', 't', 'a', 'r', 'e', 't', 'i', '_', 't', 'e', 's']) (by kernel_rfl) ZjZ];kernel_rfl
def Wkr (h:Heap)(it:Addr)(f i:Nat)(a:Addr)(n ep:Nat):Prop:=∃o,h.get? it=some o/\o.cls = .type "set_iterator" /\ o.data = .fields #[.int f 0,.int i 0,.ref a,.int n 0,.int ep 0]
theorem Wkr.kept {h h':Heap}{it a:Addr}{f i n ep:Nat}(x:Wkr h it f i a n ep)(k:∀o,h.get? it=some o->h'.get? it=some o):Wkr h' it f i a n ep:=
 let ⟨o,e,r⟩:=x;⟨o,k o e,r⟩
def ZbW (w:World)(a:Addr)(ep:Nat)(es:Array (Int×Value)):Array (Int×Value):=if w.params.followText "set-order" = true then pickOrder (w.params.setOrder a ep) es else es
theorem ZfL (w:World)(a:Addr)(ep:Nat)(es:Array (Int×Value)):(ZbW w a ep es).toList.Perm es.toList:=by
 unfold ZbW;split
 ·exact ZnN _ _
 ·exact .refl _
section
variable {prog:Program}{w:World}{A:Around}{E:QE}{s:Shared}{a it:Addr}{b:Nat->Bool}{ep i:Nat}{es:Array (Int×Value)}
theorem Zfa (w:World)(a:Addr)(ep:Nat)(es:Array (Int×Value)):(ZbW w a ep es).size=es.size:=by have:=(ZfL w a ep es).length_eq;simpa using this
theorem Wkr.typeIs {f n:Nat}(x:Wkr s.heap it f i a n ep):s.TypeIs (.ref it) "set_iterator" := let ⟨o,e,c,_⟩:=x;⟨o,e,c⟩
theorem Znv {α:Type}{Q:α -> Shared->Prop}(hh:A.handled=none)(h:∀h' a,(∀b o,s.heap.get? b=some o->h'.get? b=some o)->Shared.TypeIs { s with heap:=h' } (.ref a) "StopIteration" -> E (.ref a) { s with heap:=h' }):
  wpAny (model prog w) A ((newExc (.type "StopIteration") [] >>= raiseNew:Sem α)) Q E s:=by
 wp_walk using qp,wpAny_raiseNew_none hh
 ·exact h _ _ (fun b o e=>kC _ (kC _ e)) ⟨_,Kl _ rfl,rfl⟩
 all_goals size_fits
theorem ZfZ {M:Model}{x:Addr}{o:Obj}{vs:QY}{k:Nat}{v:Value}{Q:Unit->Shared->Prop}(ho:s.heap.get? x=some o)(hd:o.data = .fields vs)(hk:k<vs.size)
  (h:∀h',(∃o',h'.get? x=some o'/\o'.cls=o.cls/\o'.data = .fields (vs.setIfInBounds k v))->Heap.SameBut x s.heap h'->Q () { s with heap:=h' }):wpAny M A (setField (.ref x) k v) Q E s:=
 wpAny_setField ho hd hk (h _ ⟨_,qY _ ho (Obj.isFreed_of_fields (XZ hd _)),Obj.cls_mapFields ..,XZ hd _⟩ (XO ..))
structure Wlk (prog:Program)(w:World)(a:Addr)(ep:Nat)(es:Array (Int×Value))(f:Nat->Nat)(C:Heap->Prop):Prop where
 there:∀{h},C h -> ∃o t,h.get? a=some o/\o.ExactSet/\o.data = .set es ep t/\t.fits es.size=true/\t.plain=true
 kept:∀{h h'},C h->(∀o,h.get? a=some o->h'.get? a=some o)->C h'
 first:f 0=0
 next:∀{A E s i}{Q:Option (Value×Nat)->Shared->Prop},C s.heap->i<=es.size->Q (((ZbW w a ep es)[i]?).map fun e=>(e.2,f (i+1))) s->wpAny (model prog w) A (setNext a (f i) i ep) Q E s
theorem Zqt {Q:Bool->Shared->Prop}(hT:s.TypeIs (.ref a) "set")(h:Q false s):wpAny (model prog w) A (Builtin.List.listLengthHint (.ref a)) Q E s:=by
 unfold Builtin.List.listLengthHint;refine kg (N7 hT PySem.F.slot_set_len.lookup ?_);generalize hid:("set.__len__" : String)=id0
 wp_delta
 rw[show splitId id0=some ("set", "__len__") from by subst hid;decide +kernel];subst hid;refine kg (NH (T := "set") (b:=true) hT (by rw[Mm];kernel_rfl) ?_);refine Xu (fun q=>absurd q (by decide)) fun _=>Xu (fun _=>kg (qL hT (kH h))) fun q=>absurd (by decide +kernel) q
section
variable {f:Nat->Nat}{C:Heap->Prop}(N:Wlk prog w a ep es f C)
include N
theorem Wlk.typeIs (x:C s.heap):s.TypeIs (.ref a) "set" := let ⟨o,_,e,c,_⟩:=N.there x;⟨o,e,c.1⟩
theorem Wlk.go {Q:Option Value->Shared->Prop}(hh:A.handled=none)(k:Wkr s.heap it (f i) i a es.size ep)(x:C s.heap)(hi:i<=es.size)
  (h1':∀e h',(ZbW w a ep es)[i]? = some e->Wkr h' it (f (i+1)) (i+1) a es.size ep->Heap.SameBut it s.heap h'->Q (some e.2) { s with heap:=h' })
  (h2:(ZbW w a ep es)[i]? = none -> ∀h',Heap.ExtBut it s.heap h'->Q none { s with heap:=h' }):wpAny (model prog w) A (pyNext (.ref it)) Q E s:=by
 obtain⟨oi,k1,k2,k3⟩:=id k;obtain⟨o,t,ho,hx,hd,ft,pl⟩:=N.there x;have ty:=k.typeIs;unfold pyNext;refine kg (MG (qQ (name:=Str.ofString "__next__") ty Zce (qC Zce ty Zpz ?_ (ZpA _))));have nx:∀{E Q},Q (((ZbW w a ep es)[i]?).map fun e=>(e.2,f (i+1))) s->wpAny (model prog w) A.in1 (setNext a (Int.toNat (f i:Int)) (Int.toNat (i:Int)) (Int.toNat (ep:Int))) Q E s:=fun q=>N.next x hi q
 wp_walk using wpAny_fieldsOf k1 k3,wpAny_setEntries_of ho hd ft,nx
 cases e:(ZbW w a ep es)[i]? with
 | some y=>
  wp_walk using ZfZ k1 k3
  ·show 0<5;decide
  rintro h1 ⟨o1,m1,m2,m3⟩ sb1
  wp_walk using ZfZ (s:={ s with heap:=h1 }) m1 m3
  ·show 1<5;decide
  rintro h2 ⟨o2,n1,n2,n3⟩ sb2
  wp_walk
  exact⟨_,rfl,kH (h1' y h2 e ⟨o2,n1,n2.trans (m2.trans k2),by rw[n3];simp[rawInt]⟩ (sb1.trans sb2))⟩
 | none=>
  wp_walk using ZfZ k1 k3
  ·show 2<5;decide
  rintro h1 _ sb;refine Znv hh fun h' z kp ty=>?_
  wp_walk using NH (T := "StopIteration") (b:=true) ty isSubtype_stop
  exact h2 e h' fun c o hc g=>kp c o ((sb.2 c hc).trans g)
theorem Wlk.walks (hh:A.handled=none)(I:Addr)(hne:a≠I):Walks prog w A I [I,a] [I] es.size (fun i v=>∃e,(ZbW w a ep es)[i]? = some e/\v=e.2) (fun i h=>i<=es.size/\Wkr h I (f i) i a es.size ep/\C h) where
 sub:=fun c hc=>by simp at hc;simp[hc]
 frame:=fun _ _ _ st hk=>⟨st.1,st.2.1.kept fun o=>hk I (by simp) o,N.kept st.2.2 fun o=>hk a (by simp) o⟩
 item:=fun i s Q E lt ⟨le,wk,x⟩ hQ=>N.go hh wk x le (fun e h' ge wk' sb=>hQ _ h' s.toks ⟨e,ge,rfl⟩ ⟨lt,wk',N.kept x fun o=>sb.extBut a o hne⟩ fun c o hc=>sb.extBut c o fun z=>hc (by simp[z])) fun q=>absurd (Array.getElem?_eq_none_iff.mp q) (by rw[Zfa];lia)
 done:=fun s Q E ⟨le,wk,x⟩ hQ=>N.go hh wk x le (fun e h' ge=>absurd (qt.mp ge).1 (by rw[Zfa];lia)) fun _ h' ex=>hQ h' s.toks fun c o hc=>ex c o fun z=>hc (by simp[z])
 self:=fun _ s _ _ ⟨_,wk,_⟩ hQ=>wpAny_pyIter_slot wk.typeIs Zh6 (qC Zh6 wk.typeIs Zqu (kH ⟨_,rfl,_,_,wk.typeIs,Zce.lookup,hQ⟩) (Zqr _))
theorem Wlk.iter {Q:QE}(x:C s.heap)(h:Q (.ref s.heap.objs.size) { s with heap:=s.heap.push { cls:=.type "set_iterator", data:=.fields #[.int (f 0) 0,.int 0 0,.ref a,.int es.size 0,.int ep 0] } }):wpAny (model prog w) A (pyIter (.ref a)) Q E s:=by
 obtain⟨o,t,ho,hx,hd,ft,pl⟩:=N.there x;rw[N.first] at h;have ty:=N.typeIs x;refine wpAny_pyIter_slot ty F.slot_set_iter (qC F.slot_set_iter ty ZqO ?_ (F.args_set_iter_1 _))
 wp_walk using wpAny_setEntries_of ho hd ft,wpAny_setEpoch_of ho hd ft,Te ho hd ft,XH,qp
 refine Xu (fun q=>absurd q ?_) fun _=>?_
 ·show ¬((!w.params.followText "set-order")&&(!t.plain&&_))=true;rw[pl];cases w.params.followText "set-order" <;> simp
 wp_walk using wpAny_setEpoch_of ho hd ft,qp
 ·exact⟨_,rfl,_,_,⟨_,Kl _ rfl,rfl⟩,Zce.lookup,by simpa [rawInt] using h⟩
 ·size_fits
theorem Wlk.src:PySem.W.KdlSrc prog w "set" a a es.size (fun i v=>∃e,(ZbW w a ep es)[i]? = some e/\v=e.2) C where
 type:=fun _ x=>N.typeIs x
 there:=fun _ x=>let ⟨_,_,e,_⟩:=N.there x;⟨Kc e,Kc e⟩
 keep:=fun _ _ x k=>N.kept x fun o=>k a (.inl rfl) o
 notList:=by decide
 notTuple:=by decide
 hint:=fun _ _ _ _ x q=>Zqt (N.typeIs x) q
 iter:=fun _ s hh x=>⟨_,_,(fun _ _ q=>N.iter x q),N.walks hh _ (let ⟨_,_,e,_⟩:=N.there x;Kn (Kc e)),⟨Kr _,⟨_,Kl _ rfl,rfl,rfl⟩,N.kept x fun _ e=>kC _ e⟩⟩
end
end
theorem Zj7:∀{ns:QG}{us:QJ},Vals (ns.map V.int) us->us.length=ns.length /\ ∀(i:Nat)(v:Value),us[i]? = some v -> ∃t,v = .int (ns.getD i 0) t
 | [],_,.nil=>⟨rfl,fun i v h=>by simp at h⟩
 | n::ns,u::us,.cons r t=>by
  obtain⟨q1,q2⟩:=Zj7 t;refine⟨by simp[q1],fun i v h=>?_⟩;cases i with
  | zero=>
   simp at h;subst h;obtain⟨t,e⟩:=r;exact⟨t,e⟩
  | succ i=>simpa using q2 i v (by simpa using h)
section
variable {X:Cx}
def ev4:Int×Value->Int:=fun e=>match e.2 with
 | .int n _=>n
 | _=>0
theorem Zkd:∀(ws:QJ)(ns:QG),ws.length=ns.length->(∀(j:Nat)(v:Value)(n:Int),ws[j]? = some v->ns[j]? = some n -> ∃t,v = .int n t)->IntsAre ws ns
 | [],[],_,_=>.nil
 | [],_::_,h,_=>by cases h
 | _::_,[],h,_=>by cases h
 | w::ws,n::ns,hl,h=>by obtain⟨t,rfl⟩:=h 0 w n rfl rfl;exact .cons n t (Zkd ws ns (by simpa using hl) fun j v n' e1 e2=>h (j+1) v n' (by simpa using e1) (by simpa using e2))
end
structure Wo (lt:Keyed->Keyed->Bool):Prop where
 irr:∀p,lt p p=false
 asym:∀p q,lt p q=true->lt q p=false
 neg:∀p q r,lt p r=true->lt p q=true∨lt q r=true
theorem Wo.leT {lt : Keyed -> Keyed -> Bool}(C : Wo lt){p q r : Keyed}(h1 : lt q p = false)(h2 : lt r q = false) : lt r p = false := by
  cases h : lt r p with
  | false => rfl
  | true => rcases C.neg r q p h with z | z
            · rw[z] at h2; cases h2
            · rw[z] at h1; cases h1
structure Cmp (prog:Program)(w:World)(A:Around)(E:QE)(s:Shared)(kd:SortKind)(D:Keyed->Prop)(lt:Keyed->Keyed->Bool):Prop where
 cmp:∀(p q:Keyed)(st:SortSt)(Q:Option Bool->SortSt->Prop),D p->D q->kindOf st=kd->Q (some (lt p q)) st->wpS (model prog w) A E s (lt' p q) Q st
 wo:Wo lt
section
variable {prog:Program}{w:World}{A:Around}{E:QE}{s:Shared}{kd:SortKind}{D:Keyed->Prop}{lt:Keyed->Keyed->Bool}
def Srt (lt:Keyed->Keyed->Bool)(l:List Keyed):Prop:=l.Pairwise fun p q=>lt q p=false
theorem Zo7 {arr:QS}{i:Nat}{x:Keyed}{st:SortSt}{Q:Keyed->SortSt->Prop}{M:Model}(e:arr[i]? = some x)(h:Q x st):wpS M A E s (elem' arr i) Q st:=by rw[elem'_eq,e];exact KQ h
end
section
variable {prog:Program}{w:World}{A:Around}{E:QE}{s:Shared}{kd:SortKind}{D:Keyed->Prop}{lt:Keyed->Keyed->Bool}
section
variable {β:Type}{st:SortSt}{Q:β -> SortSt->Prop}{M:Model}
theorem Zqo {c:Bool}{X Y:StateT SortSt Sem β}(h1:c=true->wpS M A E s X Q st)(h2:c=false->wpS M A E s Y Q st):wpS M A E s (if c=true then X else Y) Q st:=by
 cases c with
 | true=>exact h1 rfl
 | false=>exact h2 rfl
theorem ZdV {k n:Nat}{X Y:StateT SortSt Sem β}(h1:k>n->wpS M A E s X Q st)(h2:k<=n->wpS M A E s Y Q st):wpS M A E s (if k>n then X else Y) Q st:=by
 by_cases h:k>n
 ·rw[km h];exact h1 h
 ·rw[ki h];exact h2 (by lia)
end
theorem ZpO {m n:Nat}(h:(m==n)=false):m≠n:=fun e=>by rw[e] at h;simp at h
end
def ZkX:Nat->Nat->StateT SortSt Sem (Option Nat):=sortPriv% PySem.Builtin.countRun
def Zg3:Nat->Nat->Nat->StateT SortSt Sem Bool:=sortPriv% PySem.Builtin.binarySort
def ZcH:StateT SortSt Sem Unit:=sortPriv% PySem.Builtin.sortRuns
section
variable {prog:Program}{w:World}{A:Around}{E:QE}{s:Shared}{kd:SortKind}{D:Keyed->Prop}{lt:Keyed->Keyed->Bool}
def Zcv (lt:Keyed->Keyed->Bool)(arr:QS)(lo m:Nat):Prop:=∀i j p q,i<=j->j<m->arr[lo+i]? = some p->arr[lo+j]? = some q->lt q p=false
def Zcn (lt:Keyed->Keyed->Bool)(arr:QS)(lo m:Nat):Prop:=∀i j p q,i<=j->j<m->arr[lo+i]? = some p->arr[lo+j]? = some q->lt p q=false
def EqS (lt:Keyed->Keyed->Bool)(arr:QS)(b e:Nat):Prop:=∀i j p q,b<=i->i<e->b<=j->j<e->arr[i]? = some p->arr[j]? = some q->lt p q=false
structure Kp (lo n:Nat)(st st':SortSt):Prop where
 kind:kindOf st'=kindOf st
 pend:pendingOf st'=pendingOf st
 fail:failedOf st'=failedOf st
 perm:(arrOf st').toList.Perm (arrOf st).toList
 out:∀i,i<lo∨lo+n<=i->(arrOf st')[i]? = (arrOf st)[i]?
theorem Kp.refl (lo n:Nat)(st:SortSt):Kp lo n st st:=⟨rfl,rfl,rfl,.refl _,fun _ _=>rfl⟩
theorem Kp.trans {lo n:Nat}{a b c:SortSt}(x:Kp lo n a b)(y:Kp lo n b c):Kp lo n a c:=⟨y.kind.trans x.kind,y.pend.trans x.pend,y.fail.trans x.fail,y.perm.trans x.perm,fun i h=>(y.out i h).trans (x.out i h)⟩
theorem Kp.size {lo n:Nat}{a b:SortSt}(x:Kp lo n a b):(arrOf b).size=(arrOf a).size:=by have:=x.perm.length_eq;simpa using this
theorem Zhf {arr:QS}{i:Nat}(h:i<arr.size):∃x,arr[i]? = some x:=⟨arr[i],getElem?_pos arr i h⟩
theorem Wh (C:Cmp prog w A E s kd D lt){st:SortSt}{i j:Nat}{Q:Option Bool->SortSt->Prop}(hi:i<(arrOf st).size)(hj:j<(arrOf st).size)(hD:∀x∈(arrOf st).toList,D x)(hk:kindOf st=kd)
  (h:∀p q,(arrOf st)[i]? = some p->(arrOf st)[j]? = some q->Q (some (lt p q)) st):wpS (model prog w) A E s (ltAt' i j) Q st:=by
 obtain⟨p,hp⟩:=Zhf hi;obtain⟨q,hq⟩:=Zhf hj;rw[ltAt'_eq];refine Kx (wpS_get ?_);show wpS _ _ _ _ (elem' (arrOf st) i >>= fun x=>elem' (arrOf st) j >>= fun y=>lt' x y) Q st;refine Kx (Zo7 hp (Kx (Zo7 hq (C.cmp p q st Q (hD p ?_) (hD q ?_) hk (h p q hp hq)))))
 ·exact kZ (by rw[qd];exact hp)
 ·exact kZ (by rw[qd];exact hq)
theorem Zak {M:Model}{i j:Nat}{st:SortSt}{Q:Unit->SortSt->Prop}(h:Q () (setArr st (mirror (arrOf st) i j ((j-i) / 2)))):wpS M A E s (reverseSlice' i j) Q st:=by rw[reverseSlice'_eq];exact wpS_modify h
theorem JH {lo n i j:Nat}{st:SortSt}(h1:lo<=i)(h2:j<=lo+n)(h3:lo+n<=(arrOf st).size):Kp lo n st (setArr st (mirror (arrOf st) i j ((j-i) / 2))):=by refine⟨rfl,rfl,rfl,T7.mp (mirror_perm _ _ _ _),fun k hk=>?_⟩;show (mirror (arrOf st) i j ((j-i) / 2))[k]? = _;rw[TR (by lia),ki (by lia)]
theorem GK {arr:QS}{lo m b e:Nat}(h:Zcn lt arr lo m)(he:EqS lt arr b e)(h1:lo<=b)(h2:e<=lo+m)(h3:lo+m<=arr.size):Zcn lt (mirror arr b e ((e-b) / 2)) lo m:=by
 intro i j p q hij hj hp hq;rw[TR (by lia)] at hp hq;by_cases ci:b<=lo+i/\lo+i<e<;>by_cases cj:b<=lo+j/\lo+j<e
 ·rw[km ci] at hp;rw[km cj] at hq;exact he _ _ p q (by lia) (by lia) (by lia) (by lia) hp hq
 ·rw[km ci] at hp;rw[ki cj] at hq;exact h (b+e-1-(lo+i)-lo) j p q (by lia) hj (by rw[show lo+(b+e-1-(lo+i)-lo)=b+e-1-(lo+i) by lia];exact hp) hq
 ·rw[ki ci] at hp;rw[km cj] at hq;exact h i (b+e-1-(lo+j)-lo) p q (by lia) (by lia) hp (by rw[show lo+(b+e-1-(lo+j)-lo)=b+e-1-(lo+j) by lia];exact hq)
 ·rw[ki ci] at hp;rw[ki cj] at hq;exact h i j p q hij hj hp hq
theorem U2 {arr:QS}{lo m:Nat}(h:Zcn lt arr lo m)(h3:lo+m<=arr.size):Zcv lt (mirror arr lo (lo+m) ((lo+m-lo) / 2)) lo m:=by intro i j p q hij hj hp hq;rw[TR (by lia),km (by lia)] at hp hq;exact h (m-1-j) (m-1-i) q p (by lia) (by lia) (by rw[<- hq];congr 1;lia) (by rw[<- hp];congr 1;lia)
theorem UE (C:Wo lt){arr:QS}{lo m:Nat}(h:Zcn lt arr lo m)(hm:0<m){d e:Keyed}(hd:arr[lo+m-1]? = some d)(he:arr[lo+m]? = some e)(hde:lt d e=false):Zcn lt arr lo (m+1):=by
 intro i j p q hij hj hp hq;by_cases c:j<m
 ·exact h i j p q hij c hp hq
 ·obtain rfl:j=m:=by lia
  rw[he] at hq;cases hq;by_cases c2:i=j
  ·subst c2;rw[he] at hp;cases hp;exact C.irr _
  ·exact C.leT hde (h i (j-1) p d (by lia) (by lia) hp (by rw[show lo+(j-1)=lo+j-1 by lia];exact hd))
theorem Zkv (C:Wo lt){arr:QS}{lo m:Nat}(h:Zcv lt arr lo m)(hm:0<m){d e:Keyed}(hd:arr[lo+m-1]? = some d)(he:arr[lo+m]? = some e)(hde:lt e d=false):Zcv lt arr lo (m+1):=by
 intro i j p q hij hj hp hq;by_cases c:j<m
 ·exact h i j p q hij c hp hq
 ·obtain rfl:j=m:=by lia
  rw[he] at hq;cases hq;by_cases c2:i=j
  ·subst c2;rw[he] at hp;cases hp;exact C.irr _
  ·exact C.leT (h i (j-1) p d (by lia) (by lia) hp (by rw[show lo+(j-1)=lo+j-1 by lia];exact hd)) hde
theorem ZcO (C:Wo lt){x lo:Nat}(arr:QS):EqS lt arr (lo+x-(0+1)) (lo+x):=fun i j p q i1 i2 j1 j2 hp hq=>by
 obtain rfl:i=j:=by lia
 rw[hp] at hq;cases hq;exact C.irr _
theorem Zjp (C:Wo lt){arr:QS}{b e:Nat}(h:EqS lt arr b e)(hb:b<e){d x:Keyed}(hd:arr[e-1]? = some d)(hx:arr[e]? = some x)(h1:lt x d=false)(h2:lt d x=false):EqS lt arr b (e+1):=fun i j p q i1 i2 j1 j2 hp hq=>by
 by_cases ci:i<e<;>by_cases cj:j<e
 ·exact h i j p q i1 ci j1 cj hp hq
 ·obtain rfl:j=e:=by lia
  rw[hx] at hq;cases hq;exact C.leT h2 (h i (j-1) p d i1 ci (by lia) (by lia) hp hd)
 ·obtain rfl:i=e:=by lia
  rw[hx] at hp;cases hp;exact C.leT (h (i-1) j d q (by lia) (by lia) j1 cj hd hq) h1
 ·obtain rfl:i=e:=by lia
  obtain rfl:j=i:=by lia
  rw[hp] at hq;cases hq;exact C.irr _
theorem Za6 (C:Cmp prog w A E s kd D lt){lo n a:Nat}{st:SortSt}{Q:Option (Option Nat)×Nat->SortSt->Prop}{body:Nat->Option (Option Nat)×Nat->StateT SortSt Sem (ForInStep (Option (Option Nat)×Nat))}
  (hb:∀x m (R:ForInStep (Option (Option Nat)×Nat)->SortSt->Prop),1<=m->m<n->(∀p q,(arrOf st)[lo+m]? = some p->(arrOf st)[lo+m-1]? = some q->R (if lt p q=true then .done (none,m) else .yield (none,m+1)) st)->wpS (model prog w) A E s (body x (none,m)) R st)
  (ha:1<=a) (han:a<=n) (hsz:lo+n<=(arrOf st).size) (hs:Zcv lt (arrOf st) lo a)
  (h:∀m,a<=m->m<=n->Zcv lt (arrOf st) lo m->(m<n -> ∀p q,(arrOf st)[lo+m]? = some p->(arrOf st)[lo+m-1]? = some q->lt p q=true)->Q (none,m) st):wpS (model prog w) A E s (forIn [a:n] (none,a) body) Q st:=by
 refine XJ (I:=fun x c st'=>st'=st/\c=(none,x)/\Zcv lt (arrOf st) lo x) ?_ ?_ ⟨rfl,rfl,hs⟩
 ·rintro x c st' hax hxn ⟨rfl,rfl,g⟩;refine hb x x _ (by lia) hxn fun p q hp hq=>?_;cases e:lt p q with
  | true=>
   exact h x hax (by lia) g fun _ p' q' hp' hq'=>by
    rw[hp] at hp';rw[hq] at hq';cases hp';cases hq';exact e
  | false=>exact⟨rfl,rfl,Zkv C.wo g (by lia) hq hp e⟩
 ·rintro c st' ⟨rfl,rfl,g⟩;rw[show max a n=n by lia] at g ⊢;exact h n han (kj _) g fun z=>by lia
theorem Zho (C:Cmp prog w A E s kd D lt){lo n:Nat}{st:SortSt}{Q:Option Nat->SortSt->Prop}(hn:0<n)(hsz:lo+n<=(arrOf st).size)(hD:∀x∈(arrOf st).toList,D x)(hk:kindOf st=kd)
  (h:∀m st',1<=m->m<=n->Kp lo n st st'->Zcv lt (arrOf st') lo m->Q (some m) st'):wpS (model prog w) A E s (ZkX lo n) Q st:=by
 have s1:∀arr:QS,Zcv lt arr lo 1:=fun arr i j p q hij hj hp hq=>by
  obtain rfl:i=0:=by lia
  obtain rfl:j=0:=by lia
  rw[hp] at hq;cases hq;exact C.wo.irr _
 refine Kx (Za6 C (lo:=lo) (n:=n) (a:=1) (st:=st) (fun x m R h1 h2 hR=>?_) (kj _) hn hsz (s1 _) fun m hm1 hm2 g nx=>?_)
 ·refine Kx (Wh C (by lia) (by lia) hD hk fun p q hp hq=>?_);have:=hR p q hp hq;cases e:lt p q with
  | true=>rw[e] at this;exact KQ this
  | false=>rw[e] at this;exact KQ this
 refine Zqo (c:=(m==n)) (fun c1=>KQ (h m st hm1 hm2 (Kp.refl _ _ _) g)) (fun c1=>?_);have c1':=ZpO c1;obtain⟨pl,hpl⟩:=Zhf (show lo+m<(arrOf st).size by lia);obtain⟨ql,hql⟩:=Zhf (show lo+m-1<(arrOf st).size by lia);have less:=nx (by lia) pl ql hpl hql;refine ZdV (k:=m) (n:=1) (fun z=>?_) (fun z=>?_)
 ·refine Kx (Wh C (i:=lo) (j:=lo+m-1) (by lia) (by lia) hD hk fun p q hp hq=>?_);cases e:lt p q with
  | true=>exact KQ (h m st hm1 hm2 (Kp.refl _ _ _) g)
  | false=>
   have eqs:EqS lt (arrOf st) lo (lo+m):=fun i j a b i1 i2 j1 j2 ha hb=>by
    have ha':(arrOf st)[lo+(i-lo)]? = some a:=by rw[show lo+(i-lo)=i by lia];exact ha
    have hb':(arrOf st)[lo+(j-lo)]? = some b:=by rw[show lo+(j-lo)=j by lia];exact hb
    have l1:=g (i-lo) (m-1) a q (by lia) (by lia) ha' (by rw[<- hq];congr 1;lia);have l2:=g 0 (j-lo) p b (by lia) (by lia) (by rw[XM];exact hp) hb';have l3:=g 0 (i-lo) p a (by lia) (by lia) (by rw[XM];exact hp) ha';have l4:=g (j-lo) (m-1) b q (by lia) (by lia) hb' (by rw[<- hq];congr 1;lia);exact C.wo.leT l4 (C.wo.leT e l3)
   refine Kx (Zak (i:=lo) (j:=lo+m) ?_);have k1:=JH (lo:=lo) (n:=n) (i:=lo) (j:=lo+m) (st:=st) (kj _) (by lia) hsz;have non0:Zcn lt (arrOf st) lo m:=fun i j a b hij hj ha hb=>eqs _ _ a b (by lia) (by lia) (by lia) (by lia) ha hb;have non1:Zcn lt (arrOf (setArr st (mirror (arrOf st) lo (lo+m) ((lo+m-lo) / 2)))) lo (m+1):=GK (UE C.wo non0 (by lia) hql hpl (C.wo.asym _ _ less)) eqs (kj _) (by lia) (by lia);generalize setArr st (mirror (arrOf st) lo (lo+m) ((lo+m-lo) / 2))=st1 at k1 non1 ⊢;refine Kx (wpS_lift (XA ⟨rfl,?_⟩));refine Kx (Mo (XJ (a:=m+1) (b:=n) (I:=fun x c st'=>∃neq,c=(none,x,neq)/\Kp lo n st st'/\Zcn lt (arrOf st') lo x/\neq+1<=x/\EqS lt (arrOf st') (lo+x-(neq+1)) (lo+x))
    (Q:=fun c st'=>∃x neq,c=(none,x,neq)/\m+1<=x/\x<=n/\Kp lo n st st'/\Zcn lt (arrOf st') lo x/\neq+1<=x/\EqS lt (arrOf st') (lo+x-(neq+1)) (lo+x)) ?_ ?_ ⟨0,rfl,k1,non1,by lia,ZcO C.wo _⟩) ?_)
   ·rintro x c st2 hx1 hx2 ⟨neq,rfl,k2,g2,e1,e2⟩;have z2:=k2.size;have hD2:∀y∈(arrOf st2).toList,D y:=fun y hy=>hD y (k2.perm.mem_iff.mp hy);have hk2:=k2.kind.trans hk;refine Kx (Wh C (i:=lo+x) (j:=lo+x-1) (by lia) (by lia) hD2 hk2 fun p q hp hq=>?_);cases e:lt p q with
    | true=>
     have gs:=UE C.wo g2 (by lia) hq hp (C.wo.asym _ _ e);refine ZdV (k:=neq) (n:=0) (fun z=>?_) (fun z=>?_)
     ·refine Kx (Zak (i:=lo+x-(neq+1)) (j:=lo+x) ?_);exact KQ ⟨0,rfl,k2.trans (JH (by lia) (by lia) (by lia)),GK gs e2 (by lia) (by lia) (by lia),by lia,ZcO C.wo _⟩
     ·exact KQ ⟨0,rfl,k2,gs,by lia,ZcO C.wo _⟩
    | false=>
     refine Kx (Wh C (i:=lo+x-1) (j:=lo+x) (by lia) (by lia) hD2 hk2 fun q' p' hq' hp'=>?_);rw[hq] at hq';rw[hp] at hp';cases hq';cases hp';cases e':lt q p with
     | true=>exact KQ ⟨x,neq,rfl,hx1,by lia,k2,g2,e1,e2⟩
     | false=>
      refine KQ ⟨neq+1,rfl,k2,UE C.wo g2 (by lia) hq hp e',by lia,?_⟩;have:=Zjp C.wo e2 (by lia) hq hp e e';rw[show lo+(x+1)-(neq+1+1)=lo+x-(neq+1) by lia];exact this
   ·rintro c st2 ⟨neq,rfl,k2,g2,e1,e2⟩;rw[show max (m+1) n=n by lia] at g2 e1 e2 ⊢;exact⟨n,neq,rfl,by lia,kj _,k2,g2,e1,e2⟩
   ·rintro c st2 ⟨x,neq,rfl,x1,x2,k2,g2,e1,e2⟩;have z2:=k2.size;refine ZdV (k:=neq) (n:=0) (fun z=>?_) (fun z=>?_)
    ·refine Kx (Zak (i:=lo+x-(neq+1)) (j:=lo+x) ?_);have k3:=k2.trans (JH (lo:=lo) (n:=n) (i:=lo+x-(neq+1)) (j:=lo+x) (st:=st2) (by lia) (by lia) (by lia));have g3:Zcn lt (arrOf (setArr st2 (mirror (arrOf st2) (lo+x-(neq+1)) (lo+x) ((lo+x-(lo+x-(neq+1))) / 2)))) lo x:=GK g2 e2 (by lia) (by lia) (by lia);generalize setArr st2 (mirror (arrOf st2) (lo+x-(neq+1)) (lo+x) ((lo+x-(lo+x-(neq+1))) / 2))=st3 at k3 g3 ⊢;refine Kx (Zak (i:=lo) (j:=lo+x) ?_);have z3:=k3.size;have k4:=k3.trans (JH (lo:=lo) (n:=n) (i:=lo) (j:=lo+x) (st:=st3) (kj _) (by lia) (by lia));have g4:=U2 g3 (by lia);refine Kx (Za6 C (lo:=lo) (n:=n) (a:=x) (st:=setArr st3 (mirror (arrOf st3) lo (lo+x) ((lo+x-lo) / 2))) (fun y m' R h1 h2 hR=>?_) (by lia) x2 (by rw[k4.size];exact hsz) g4 fun m' a1 a2 g5 _=>KQ (h m' _ (by lia) a2 k4 g5));refine Kx (Wh C (by rw[k4.size];lia) (by rw[k4.size];lia) (fun y hy=>hD y (k4.perm.mem_iff.mp hy)) (k4.kind.trans hk) fun p q hp hq=>?_);have:=hR p q hp hq;cases e:lt p q with
     | true=>rw[e] at this;exact KQ this
     | false=>rw[e] at this;exact KQ this
    ·have k3:=k2;have g3:=g2;refine Kx (Zak (i:=lo) (j:=lo+x) ?_);have z3:=k3.size;have k4:=k3.trans (JH (lo:=lo) (n:=n) (i:=lo) (j:=lo+x) (st:=st2) (kj _) (by lia) (by lia));have g4:=U2 g3 (by lia);refine Kx (Za6 C (lo:=lo) (n:=n) (a:=x) (st:=setArr st2 (mirror (arrOf st2) lo (lo+x) ((lo+x-lo) / 2))) (fun y m' R h1 h2 hR=>?_) (by lia) x2 (by rw[k4.size];exact hsz) g4 fun m' a1 a2 g5 _=>KQ (h m' _ (by lia) a2 k4 g5));refine Kx (Wh C (by rw[k4.size];lia) (by rw[k4.size];lia) (fun y hy=>hD y (k4.perm.mem_iff.mp hy)) (k4.kind.trans hk) fun p q hp hq=>?_);have:=hR p q hp hq;cases e:lt p q with
     | true=>rw[e] at this;exact KQ this
     | false=>rw[e] at this;exact KQ this
 ·obtain rfl:m=1:=by lia
  have k1:=Kp.refl lo n st;have non1:Zcn lt (arrOf st) lo (1+1):=UE C.wo (fun i j a b hij hj ha hb=>by
   obtain rfl:i=0:=by lia
   obtain rfl:j=0:=by lia
   rw[ha] at hb;cases hb;exact C.wo.irr _) (by lia) hql hpl (C.wo.asym _ _ less)
  refine Kx (wpS_lift (XA ⟨rfl,?_⟩));refine Kx (Mo (XJ (a:=1+1) (b:=n) (I:=fun x c st'=>∃neq,c=(none,x,neq)/\Kp lo n st st'/\Zcn lt (arrOf st') lo x/\neq+1<=x/\EqS lt (arrOf st') (lo+x-(neq+1)) (lo+x))
   (Q:=fun c st'=>∃x neq,c=(none,x,neq)/\1+1<=x/\x<=n/\Kp lo n st st'/\Zcn lt (arrOf st') lo x/\neq+1<=x/\EqS lt (arrOf st') (lo+x-(neq+1)) (lo+x)) ?_ ?_ ⟨0,rfl,k1,non1,by lia,ZcO C.wo _⟩) ?_)
  ·rintro x c st2 hx1 hx2 ⟨neq,rfl,k2,g2,e1,e2⟩;have z2:=k2.size;have hD2:∀y∈(arrOf st2).toList,D y:=fun y hy=>hD y (k2.perm.mem_iff.mp hy);have hk2:=k2.kind.trans hk;refine Kx (Wh C (i:=lo+x) (j:=lo+x-1) (by lia) (by lia) hD2 hk2 fun p q hp hq=>?_);cases e:lt p q with
   | true=>
    have gs:=UE C.wo g2 (by lia) hq hp (C.wo.asym _ _ e);refine ZdV (k:=neq) (n:=0) (fun z=>?_) (fun z=>?_)
    ·refine Kx (Zak (i:=lo+x-(neq+1)) (j:=lo+x) ?_);exact KQ ⟨0,rfl,k2.trans (JH (by lia) (by lia) (by lia)),GK gs e2 (by lia) (by lia) (by lia),by lia,ZcO C.wo _⟩
    ·exact KQ ⟨0,rfl,k2,gs,by lia,ZcO C.wo _⟩
   | false=>
    refine Kx (Wh C (i:=lo+x-1) (j:=lo+x) (by lia) (by lia) hD2 hk2 fun q' p' hq' hp'=>?_);rw[hq] at hq';rw[hp] at hp';cases hq';cases hp';cases e':lt q p with
    | true=>exact KQ ⟨x,neq,rfl,hx1,by lia,k2,g2,e1,e2⟩
    | false=>
     refine KQ ⟨neq+1,rfl,k2,UE C.wo g2 (by lia) hq hp e',by lia,?_⟩;have:=Zjp C.wo e2 (by lia) hq hp e e';rw[show lo+(x+1)-(neq+1+1)=lo+x-(neq+1) by lia];exact this
  ·rintro c st2 ⟨neq,rfl,k2,g2,e1,e2⟩;rw[show max (1+1) n=n by lia] at g2 e1 e2 ⊢;exact⟨n,neq,rfl,by lia,kj _,k2,g2,e1,e2⟩
  ·rintro c st2 ⟨x,neq,rfl,x1,x2,k2,g2,e1,e2⟩;have z2:=k2.size;refine ZdV (k:=neq) (n:=0) (fun z=>?_) (fun z=>?_)
   ·refine Kx (Zak (i:=lo+x-(neq+1)) (j:=lo+x) ?_);have k3:=k2.trans (JH (lo:=lo) (n:=n) (i:=lo+x-(neq+1)) (j:=lo+x) (st:=st2) (by lia) (by lia) (by lia));have g3:Zcn lt (arrOf (setArr st2 (mirror (arrOf st2) (lo+x-(neq+1)) (lo+x) ((lo+x-(lo+x-(neq+1))) / 2)))) lo x:=GK g2 e2 (by lia) (by lia) (by lia);generalize setArr st2 (mirror (arrOf st2) (lo+x-(neq+1)) (lo+x) ((lo+x-(lo+x-(neq+1))) / 2))=st3 at k3 g3 ⊢;refine Kx (Zak (i:=lo) (j:=lo+x) ?_);have z3:=k3.size;have k4:=k3.trans (JH (lo:=lo) (n:=n) (i:=lo) (j:=lo+x) (st:=st3) (kj _) (by lia) (by lia));have g4:=U2 g3 (by lia);refine Kx (Za6 C (lo:=lo) (n:=n) (a:=x) (st:=setArr st3 (mirror (arrOf st3) lo (lo+x) ((lo+x-lo) / 2))) (fun y m' R h1 h2 hR=>?_) (by lia) x2 (by rw[k4.size];exact hsz) g4 fun m' a1 a2 g5 _=>KQ (h m' _ (by lia) a2 k4 g5));refine Kx (Wh C (by rw[k4.size];lia) (by rw[k4.size];lia) (fun y hy=>hD y (k4.perm.mem_iff.mp hy)) (k4.kind.trans hk) fun p q hp hq=>?_);have:=hR p q hp hq;cases e:lt p q with
    | true=>rw[e] at this;exact KQ this
    | false=>rw[e] at this;exact KQ this
   ·have k3:=k2;have g3:=g2;refine Kx (Zak (i:=lo) (j:=lo+x) ?_);have z3:=k3.size;have k4:=k3.trans (JH (lo:=lo) (n:=n) (i:=lo) (j:=lo+x) (st:=st2) (kj _) (by lia) (by lia));have g4:=U2 g3 (by lia);refine Kx (Za6 C (lo:=lo) (n:=n) (a:=x) (st:=setArr st2 (mirror (arrOf st2) lo (lo+x) ((lo+x-lo) / 2))) (fun y m' R h1 h2 hR=>?_) (by lia) x2 (by rw[k4.size];exact hsz) g4 fun m' a1 a2 g5 _=>KQ (h m' _ (by lia) a2 k4 g5));refine Kx (Wh C (by rw[k4.size];lia) (by rw[k4.size];lia) (fun y hy=>hD y (k4.perm.mem_iff.mp hy)) (k4.kind.trans hk) fun p q hp hq=>?_);have:=hR p q hp hq;cases e:lt p q with
    | true=>rw[e] at this;exact KQ this
    | false=>rw[e] at this;exact KQ this
theorem Zou {M:Model}{i j:Nat}{st:SortSt}{Q:Unit->SortSt->Prop}(h:Q () (setArr st (bubble (arrOf st) i (i-j)))):wpS M A E s (moveDown' i j) Q st:=by rw[moveDown'_eq];exact wpS_modify h
theorem ZeU (C:Cmp prog w A E s kd D lt){lo n ok:Nat}{st:SortSt}{Q:Bool->SortSt->Prop}(h1:1<=ok)(hok:ok<=n)(hsz:lo+n<=(arrOf st).size)(hD:∀x∈(arrOf st).toList,D x)(hk:kindOf st=kd)(hs:Zcv lt (arrOf st) lo ok)
  (h:∀st',Kp lo n st st'->Zcv lt (arrOf st') lo n->Q true st'):wpS (model prog w) A E s (Zg3 lo n ok) Q st:=by
 refine Kx (Mo (XJ (a:=max ok 1) (b:=n) (I:=fun k c st'=>c=(none,())/\Kp lo n st st'/\Zcv lt (arrOf st') lo k) (Q:=fun c st'=>c=(none,())/\Kp lo n st st'/\Zcv lt (arrOf st') lo n) ?_ ?_ ⟨rfl,Kp.refl _ _ _,by rw[show max ok 1=ok by lia];exact hs⟩) ?_)
 ·rintro k c st1 hk1 hk2 ⟨rfl,kp,g⟩;have z1:=kp.size;obtain⟨e,he⟩:=Zhf (show lo+k<(arrOf st1).size by lia);refine Kx (Mo (XJ (a:=0) (b:=k) (I:=fun x c st'=>st'=st1 /\ ∃l r,c=(none,l,r)/\l<=r/\r<=k/\r-l<=k-x/\(∀i p,i<l->(arrOf st1)[lo+i]? = some p->lt e p=false) /\ ∀i p,r<=i->i<k->(arrOf st1)[lo+i]? = some p->lt e p=true)
   (Q:=fun c st'=>st'=st1 /\ ∃l r,c=(none,l,r)/\l<=k/\(∀i p,i<l->(arrOf st1)[lo+i]? = some p->lt e p=false) /\ ∀i p,l<=i->i<k->(arrOf st1)[lo+i]? = some p->lt e p=true) ?_ ?_ ⟨rfl,0,k,rfl,by lia,by lia,by lia,fun i p hi=>by lia,fun i p h1 h2=>by lia⟩) ?_)
  ·rintro x c st' _ hx ⟨rfl,l,r,rfl,g1,g2,g3,g4,g5⟩;dsimp only;by_cases hge:l>=r
   ·rw[km hge];obtain rfl:l=r:=by lia
    exact KQ ⟨rfl,l,l,rfl,g2,g4,g5⟩
   ·rw[ki hge];refine Kx (Wh C (i:=lo+k) (j:=lo+(l+r) / 2) (by lia) (by lia) (fun y hy=>hD y (kp.perm.mem_iff.mp hy)) (kp.kind.trans hk) fun p q hp hq=>?_);rw[he] at hp;cases hp;cases c:lt e q with
    | true=>
     refine KQ ⟨rfl,l,(l+r) / 2,rfl,by lia,by lia,by lia,g4,fun i p i1 i2 hp=>?_⟩;rcases C.wo.neg e p q c with z | z
     ·exact z
     ·rw[g ((l+r) / 2) i q p i1 i2 hq hp] at z;cases z
    | false=>
     refine KQ ⟨rfl,(l+r) / 2+1,r,rfl,by lia,by lia,by lia,fun i p i1 hp=>?_,g5⟩;exact C.wo.leT (g i ((l+r) / 2) p q (by lia) (by lia) hp hq) c
  ·rintro c st' ⟨rfl,l,r,rfl,g1,g2,g3,g4,g5⟩;obtain rfl:l=r:=by lia
   exact⟨rfl,l,l,rfl,g2,g4,g5⟩
  ·rintro c st' ⟨rfl,l,r,rfl,g2,g4,g5⟩;refine Kx (Zou (i:=lo+k) (j:=lo+l) ?_);have sz:lo+k<(arrOf st').size:=by lia
   refine KQ ⟨rfl,kp.trans ⟨rfl,rfl,rfl,T7.mp (bubble_perm _ _ _),fun i hi=>?_⟩,fun i j p q hij hj hp hq=>?_⟩
   ·show (bubble (arrOf st') (lo+k) (lo+k-(lo+l)))[i]? = _;rw[getElem?_bubble sz _ (by lia),ki (by lia),ki (by lia)]
   ·rw[show arrOf (setArr st' (bubble (arrOf st') (lo+k) (lo+k-(lo+l))))=bubble (arrOf st') (lo+k) (lo+k-(lo+l)) from rfl,getElem?_bubble sz _ (by lia)] at hp hq;rw[show lo+k-(lo+k-(lo+l))=lo+l by lia] at hp hq;by_cases ci:i=l<;>by_cases cj:j=l
    ·subst ci;subst cj;rw[km rfl] at hp hq;rw[hp] at hq;cases hq;exact C.wo.irr _
    ·subst ci;rw[km rfl,he] at hp;cases hp;rw[ki (by lia),km (by lia)] at hq;exact C.wo.asym _ _ (g5 (j-1) q (by lia) (by lia) (by rw[<- hq];congr 1;lia))
    ·subst cj;rw[ki (by lia),ki (by lia)] at hp;rw[km rfl,he] at hq;cases hq;exact g4 i p (by lia) hp
    ·rw[ki (by lia)] at hp hq;by_cases di:i<l<;>by_cases dj:j<l
     ·rw[ki (by lia)] at hp hq;exact g i j p q hij (by lia) hp hq
     ·rw[ki (by lia)] at hp;rw[km (by lia)] at hq;exact g i (j-1) p q (by lia) (by lia) hp (by rw[<- hq];congr 1;lia)
     ·lia
     ·rw[km (by lia)] at hp hq;exact g (i-1) (j-1) p q (by lia) (by lia) (by rw[<- hp];congr 1;lia) (by rw[<- hq];congr 1;lia)
 ·rintro c st1 ⟨rfl,kp,g⟩;rw[show max (max ok 1) n=n by lia] at g;exact⟨rfl,kp,g⟩
 ·rintro c st1 ⟨rfl,kp,g⟩;exact KQ (h st1 kp g)
theorem ZpV {β:Type}{M:Model}{st:SortSt}{Q:β -> SortSt->Prop}{k n:Nat}{X Y:StateT SortSt Sem β}(h1:k<n->wpS M A E s X Q st)(h2:n<=k->wpS M A E s Y Q st):wpS M A E s (if k<n then X else Y) Q st:=by
 by_cases h:k<n
 ·rw[km h];exact h1 h
 ·rw[ki h];exact h2 (by lia)
end
def lexLt:List Int->List Int->Bool
 | [],[]=>false
 | [],_::_=>true
 | _::_,[]=>false
 | a::as,b::bs=>if a=b then lexLt as bs else decide (a<b)
theorem ZkS:∀{xs ys:QG}{i:Nat},(xs.length<=i∨ys.length<=i)->lexLt (xs.drop i) (ys.drop i)=decide (xs.length-i<ys.length-i):=fun {xs ys i} h=>by
 rcases Nat.lt_or_ge i xs.length with h1 | h1
 ·rw[K8 h1,show ys.drop i = [] from qi (by lia)];simp[lexLt];lia
 ·rw[qi h1];rcases Nat.lt_or_ge i ys.length with h2 | h2
  ·rw[K8 h2];simp[lexLt];lia
  ·rw[qi h2];simp[lexLt];lia
theorem ZlV {xs ys:QG}{i:Nat}(h1:i<xs.length)(h2:i<ys.length):lexLt (xs.drop i) (ys.drop i)=if xs[i]=ys[i] then lexLt (xs.drop (i+1)) (ys.drop (i+1)) else decide (xs[i]<ys[i]):=by
 conv=>lhs;rw[K8 h1,K8 h2]
 rfl
theorem ints_get:∀{vs:QJ}{ns:QG},IntsAre vs ns -> ∀(i:Nat)(h:i<vs.length)(h':i<ns.length),∃t,vs[i] = .int ns[i] t
 | _,_,.cons n t hr,0,_,_=>⟨t,rfl⟩
 | _,_,.cons n t hr,i+1,h,h'=>by obtain⟨t',e⟩:=ints_get hr i (by simpa using h) (by simpa using h');exact⟨t',by simpa using e⟩
open PySem.SeqAt AutoSeq1 in
theorem Zjc:∀xs:QG,lexLt xs xs=false
 | []=>rfl
 | a::as=>by rw[lexLt,km rfl];exact Zjc as
theorem Zkg:∀(xs ys zs:QG),lexLt xs zs=true->lexLt xs ys=true∨lexLt ys zs=true
 | [],[],[],h=>by simp[lexLt] at h
 | [],[],_::_,h=>.inr rfl
 | [],_::_,_,h=>.inl rfl
 | _::_,_,[],h=>by simp[lexLt] at h
 | _::_,[],_::_,h=>.inr rfl
 | a::as,b::bs,c::cs,h=>by
  simp only[lexLt] at h ⊢;by_cases e1:a=c
  ·subst e1;rw[km rfl] at h;by_cases e2:a=b
   ·subst e2;rw[km rfl,km rfl];exact Zkg as bs cs h
   ·rw[ki e2,ki (KG e2),Ku,Ku];lia
  ·rw[ki e1,Ku] at h;by_cases e2:a=b
   ·subst e2;rw[ki e1];exact .inr (kE h)
   ·rw[ki e2];by_cases e3:b=c
    ·subst e3;exact .inl (kE h)
    ·rw[ki e3,Ku,Ku];lia
theorem Zhr:∀(xs ys:QG),lexLt xs ys=true->lexLt ys xs=false
 | [],[],h=>by simp[lexLt] at h
 | [],_::_,_=>rfl
 | _::_,[],h=>by simp[lexLt] at h
 | a::as,b::bs,h=>by
  simp only[lexLt] at h ⊢;by_cases e:a=b
  ·subst e;rw[km rfl] at h ⊢;exact Zhr as bs h
  ·rw[ki e,Ku] at h;rw[ki (KG e)];exact Km (by lia)
section
variable {prog:Program}{w:World}{A:Around}{E:QE}{s:Shared}{a b:Addr}{xs ys:QG}
def Gi (T:String)(h:Heap)(a:Addr)(ks:QG):Prop:=∃(vs:QY)(dd:Option Addr)(n:Nat)(sl:Array (Option Value)),h.get? a=some { cls:=.type T,dict:=dd,data:=.seq vs n,slots:=sl } /\ IntsAre vs.toList ks
def Zh4 (h:Heap):Value->List Int
 | .ref a=>match h.get? a with
  | some o=>match o.data with
   | .seq vs _=>vs.toList.map numOf
   | _=>[]
  | none=>[]
 | _=>[]
theorem Gi.key {T:String}{h:Heap}(x:Gi T h a xs):Zh4 h (.ref a)=xs:=by obtain⟨vs,dd,n,sl,e,i⟩:=x;show (match h.get? a with | some o=>_ | none=>_)=_;rw[e];exact i.nums
theorem Gi.kept {T:String}{h h':Heap}(x:Gi T h a xs)(k:∀o,h.get? a=some o->h'.get? a=some o):Gi T h' a xs:=
 let ⟨vs,dd,n,sl,e,i⟩:=x;⟨vs,dd,n,sl,k _ e,i⟩
def DS (T:String)(s:Shared)(p:Keyed):Prop:=∃a ks,p.1 = .ref a/\Gi T s.heap a ks
def ltW (s:Shared)(p q:Keyed):Bool:=lexLt (Zh4 s.heap p.1) (Zh4 s.heap q.1)
def ZjM (h:Heap)(l:QJ):Prop:=l.Pairwise fun u v=>lexLt (Zh4 h v) (Zh4 h u)=false
theorem ZkT {M:Model}{α β:Type}{c:Prop}[Decidable c]{m n:Sem α}{f:α -> Sem β}{Q:β -> Shared->Prop}(R:α -> Prop)(h1:c -> ∀Q':α -> Shared->Prop,(∀x,R x->Q' x s)->wpAny M A m Q' E s)(h2:¬c -> ∀Q':α -> Shared->Prop,(∀x,R x->Q' x s)->wpAny M A n Q' E s)
  (h:∀x,R x->wpAny M A (f x) Q E s):wpAny M A (if c then m >>= f else n >>= f) Q E s:=by
 split
 ·exact kg (h1 (by assumption) _ h)
 ·exact kg (h2 (by assumption) _ h)
end
def Jx (H:Hp)(v:V)(ks:QG):Prop:=∃a,v = .ref a/\H a=some (.tup (ks.map V.int))
abbrev Words (H:Hp)(xs:QH)(ws:QA):Prop:=Paired (Jx H) xs ws
theorem Paired.ZjX {α β:Type}{F:α -> β -> Prop}{l:List α}{m m':List β}(p:m.Perm m'):Paired F l m -> ∃l',l.Perm l'/\Paired F l' m':=by
 induction p generalizing l with
 | nil=>intro r;cases r;exact⟨[],.nil,.nil⟩
 | cons x _ ih=>intro r;cases r with | cons h t=>obtain⟨l',a,b⟩:=ih t;exact⟨_::l',a.cons _,.cons h b⟩
 | swap x y t=>intro r;cases r with | cons h t=>cases t with | cons h2 t=>exact⟨_,.swap _ _ _,.cons h2 (.cons h t)⟩
 | trans _ _ i1 i2=>intro r;obtain⟨l1,a,b⟩:=i1 r;obtain⟨l2,c,d⟩:=i2 b;exact⟨l2,a.trans c,d⟩
theorem Paired.flip {α β:Type}{F:α -> β -> Prop}:∀{l:List α}{m:List β},Paired F l m->Paired (fun b a=>F a b) m l
 | _,_,.nil=>.nil
 | _,_,.cons h t=>.cons h (Paired.flip t)
theorem Paired.mem1 {α β:Type}{F:α -> β -> Prop}:∀{l:List α}{m:List β},Paired F l m -> ∀a∈l,∃b∈m,F a b
 | _,_,.nil,a,h=>by cases h
 | _,_,.cons r t,a,h=>by
  rcases kO.mp h with rfl | h
  ·exact⟨_,kS,r⟩
  ·obtain⟨b,hb,f⟩:=Paired.mem1 t a h;exact⟨b,kU _ hb,f⟩
def ZoG (ws:QA):Prop:=ws.Pairwise fun u v=>lexLt v u=false
section
variable {X:Cx}{pins:QC}{σ:St}{H:Hp}{s:Shared}
theorem Zm8 {T:String}{F:V->List Int->Prop}{h h1:Heap}(hF:∀{v u ks},F v ks->RelV v u -> ∃a,u = .ref a/\Gi T h a ks){xs:QH}{us out:QJ}{ws:QA}(r:Vals xs us)(x:Paired F xs ws)(hp:out.Perm us)
  (hk:∀a ks,Gi T h a ks->Gi T h1 a ks) (hr:ZjM h1 out):∃ys vs,Vals ys out/\Paired F ys vs/\ys.Perm xs/\vs.Perm ws/\ZoG vs:=by
 obtain⟨ys,p1,r1⟩:=Paired.ZjX hp.symm r;obtain⟨vs,p2,r2⟩:=Paired.ZjX p1 (Paired.flip x);have x2:Paired F ys vs:=Paired.flip r2;refine⟨ys,vs,r1,x2,p1.symm,p2.symm,?_⟩;have key:∀{ys:QH}{out:QJ}{vs:QA},Vals ys out->Paired F ys vs->out.map (Zh4 h1)=vs:=by
  intro ys out vs a b
  induction a generalizing vs with
  | nil=>cases b;rfl
  | cons r _ ih=>
   cases b with
   | cons f t=>
    obtain⟨q,e1,e3⟩:=hF f r;rw[Kq,ih t,e1,(hk _ _ e3).key]
 rw[<- key r1 x2];unfold ZoG;rw[Xh];exact hr
end
section
variable {X:Cx}
inductive Zno(x y:V)(H:Hp)(Q:VK):Prop|mk(a b:QG)(_:Jx H x a)(_:Jx H y b)(_:a.length+b.length<=sizeLine)(_:a = []->Q y H)(_:b = []->Q x H)(_:∀p,H p=none->Q (.ref p) (upd H p (.tup ((a++b).map V.int))))
theorem ZfU:Us X (binaryOp .Add) Zno:=by
 intro pins s σ H x y v u Q I rx ry h;obtain⟨a,b,⟨p,rfl,hp⟩,⟨r,rfl,hr⟩,hz,q1,q2,q3⟩:=h;cases rx;cases ry;obtain⟨_,its,r1,p1⟩:=(show YA X.prog X.w H s.heap p (.tup (a.map V.int)) from I.hok p _ hp);obtain⟨_,its2,r2,p2⟩:=(show YA X.prog X.w H s.heap r (.tup (b.map V.int)) from I.hok r _ hr);have l1:a.length=its.length:=by simpa using r1.length
 have l2:b.length=its2.length:=by simpa using r2.length
 by_cases e:its = []
 ·obtain⟨⟨cls,dd,data,sl⟩,ho,hc,n,hd⟩:=id p1;obtain⟨⟨cls2,dd2,data2,sl2⟩,ho2,hc2,n2,hd2⟩:=id p2;simp only at hc hd hc2 hd2;subst hc hd hc2 hd2;have ea:a = []:=by rw[e] at l1;exact qq.mp l1
  exact concat_meets ⟨_,ho,rfl⟩ ⟨_,ho2,rfl⟩ Nx MF Tb X9 (XQ _ _)
   (tuple_addW0 p r its.toArray its2.toArray n n2 dd dd2 sl sl2 (by simp[e])) ⟨ho,ho2,⟨.ref r,H,I,rfl,q1 ea⟩⟩
 ·refine HT.Zop p1 p2 e (fun z=>⟨.ref p,H,I,rfl,q2 (by rw[z] at l2;exact qq.mp l2)⟩) (fun z=>?_) (by rw[<- l1,<- l2];exact hz);refine⟨.ref s.heap.objs.size,_,I.laid (t':=s.toks) (o:=.tup ((a++b).map V.int)) (fun b ob q=>kC _ q) (kj _) ?_,rfl,q3 _ (I.hok.fresh (kj _))⟩;exact⟨by rw[ke,kh];exact hz,_,by rw[kQ];exact r1.append r2,IsTup.new _ _⟩
end
end L2
namespace L2
open PySem PySem.Spec PyProof.Rows PyProof.V
section
variable {X:Cx}
theorem Zj8 {K:QF}{l tg:Expr}{tl:TE}(hk:X.K=K)(hl:PE X l tl):PI X tg l (Zrm K tl):=hk ▸ Zqe hl
inductive Zjr(xs:QH)(H:Hp)(Q:VK):Prop|mk(j:Int)(_:xs = [.int j])(_:∀p,H p=none->Q (.ref p) (upd H p (.rng 0 j)))
theorem Zh2:YT X (.type "range") Zjr:=by intro pins s σ H xs us Q I r h;obtain⟨j,rfl,q⟩:=h;obtain⟨u,rfl,ru⟩:=r.one;obtain⟨t,rfl⟩:=ru;refine call_range_1 ⟨.ref s.heap.objs.size,_,I.laid (a:=s.heap.objs.size) (o:=.rng 0 j) (t':=s.toks+1+1) (fun _ _ q=>kC _ q) (kj _) ⟨s.toks,t,s.toks+1,Kl _ rfl⟩,rfl,q _ (I.hok.fresh (kj _))⟩
def upI (n:Nat):QG:=(List.range n).map fun(k:Nat)=>(k:Int)
inductive Zmz(xs:QH)(H:Hp)(Q:VK):Prop|mk(p:Addr)(n:Nat)(_:xs = [.ref p])(_:H p=some (.rng 0 n))(_:n<=1000)(_:∀l,H l=none->Q (.ref l) (upd H l (.lst ((upI n).map V.int))))
theorem ZiW (hc:X.calm=true):YT X (.type "list") Zmz:=by
 intro pins s σ H xs us Q I r h;obtain⟨p,n,rfl,hp,hn,q⟩:=h;obtain⟨u,rfl,ru⟩:=r.one;cases ru;obtain⟨t,u,v,hr⟩:=(show YA X.prog X.w H s.heap p (.rng 0 n) from I.hok p _ hp);refine call_list_range (n:=n) (I.ok.hd hc) hr (small_one (by lia) (by lia) (by lia) (by lia)) (by rw[rangeSize_one];split<;>lia) (by lia) fun h' tk acc' c' kp e hacc=>?_;refine⟨.ref s.heap.objs.size,_,I.laid (a:=s.heap.objs.size) (o:=.lst ((upI n).map V.int)) (t':=tk) kp (kj _) ⟨?_,acc'.toList,c',?_,?_⟩,rfl,q _ (I.hok.fresh (kj _))⟩
 ·rw[ke,upI,ke,KP,k9];lia
 ·have key:∀(xs:QH)(us:QJ),xs.length=us.length->(∀(j:Nat)(x:V)(u:Value),xs[j]? = some x->us[j]? = some u->RelV x u)->Vals xs us:=by
   intro xs
   induction xs with
   | nil=>intro us hl _;cases us with
    | nil=>exact .nil
    | cons _ _=>cases hl
   | cons x xs ih=>
    intro us hl h;cases us with
    | nil=>cases hl
    | cons u us=>exact .cons (h 0 x u rfl rfl) (ih us (by simpa using hl) fun j x u e1 e2=>h (j+1) x u (by simpa using e1) (by simpa using e2))
  refine key _ _ (by rw[ke,upI,ke,KP,kY,hacc.1]) fun j x u e1 e2=>?_;obtain⟨t,e3⟩:=hacc.2 j u (by rw[<- qd];exact e2);rw[kF,upI,kF] at e1;cases e4:(List.range n)[j]? with
  | none=>rw[e4] at e1;cases e1
  | some k=>
   rw[e4] at e1;cases e1;rw[kz] at e4;obtain⟨_,e5⟩:=e4;rw[List.getElem_range] at e5;subst e5;exact⟨t,by rw[e3];congr 1;show (0:Int)+(j:Int)*1=(j:Int);lia⟩
 ·rw[Array.toArray_toList];exact e
end
section
variable {g:TG}{tc:TT}{te:TE}{σ:St}{H:Hp}{Q:VK}{K:QF}{a b:Addr}{xs ys:QH}
theorem ZlU (hn:xs.length<=sizeLine)(Pv:Nat->List V->Hp->Prop)(h0:Pv 0 [] H)(hlen:∀i ys H,Pv i ys H->ys.length<=i)(hS:∀i ys H,Pv i ys H->Y9 K H a xs)
  (hs:∀i x ys H,xs[i]? = some x->Pv i ys H->g x σ H fun σ2 H2=>tc σ2 H2 fun b H3=>if b=true then te σ2 H3 fun y H4=>Pv (i+1) (ys ++ [y]) H4 else Pv (i+1) ys H3)
  (hd:∀ys H,Pv xs.length ys H -> ∀D,H D=none->Q (.ref D) (upd H D (.lst ys))):LcW (Itt K a) σ g tc te H Q:=
 ZeF hn Pv h0 hlen (fun i ys H hi p=>⟨xs,xs[i],hS i ys H p,by simp[hi]⟩) (fun ys H p=>⟨xs,hS _ ys H p,kj _⟩) (fun i ys H hi p x H' y=>by obtain⟨e,y⟩:=y;subst e;exact hs i x ys _ (y xs (hS i ys _ p)) p) hd
theorem ZjB (hn:ys.length<=sizeLine)(hl:ys.length<=xs.length)(Pv:Nat->List V->Hp->Prop)(h0:Pv 0 [] H)(hlen:∀i zs H,Pv i zs H->zs.length<=i)(hS:∀i zs H,Pv i zs H->Zt K H a xs/\Zt K H b ys)
  (hs:∀i x y p zs H,xs[i]? = some x->ys[i]? = some y->Pv i zs H->H p=none->g (.ref p) σ (upd H p (.tup [x,y])) fun σ2 H2=>tc σ2 H2 fun b H3=>if b=true then te σ2 H3 fun y H4=>Pv (i+1) (zs ++ [y]) H4 else Pv (i+1) zs H3)
  (hd:∀zs H,Pv ys.length zs H -> ∀D,H D=none->Q (.ref D) (upd H D (.lst zs))):LcW (Itz K a b) σ g tc te H Q:=
 ZeF hn Pv h0 hlen (fun i zs H hi p=>⟨xs,ys,xs[i]'(by lia),ys[i],(hS i zs H p).1,(hS i zs H p).2,by simp[show i<xs.length by lia],by simp[hi]⟩) (fun zs H p=>⟨xs,ys,(hS _ zs H p).1,(hS _ zs H p).2,.inr (kj _)⟩) (fun i zs H hi p x H' y=>by obtain⟨q,u,v,e1,e2,e3,y1,y2⟩:=y;subst e1 e3;exact hs i u v q zs _ (y1 xs (hS i zs _ p).1) (y2 ys (hS i zs _ p).2) p e2) hd
end
abbrev WS:=QA
theorem Jx.mono {H H':Hp}{v:V}{w:QG}(k:∀t p,H t=some (.tup p)->H' t=some (.tup p))(x:Jx H v w):Jx H' v w:=let ⟨a,e,q⟩:=x;⟨a,e,k _ _ q⟩
theorem Words.mono {H H':Hp}{xs:QH}{L:WS}(k:∀t p,H t=some (.tup p)->H' t=some (.tup p))(x:Words H xs L):Words H' xs L:=Paired.mapP x fun _ _ q=>Jx.mono k q
theorem Words.same {H H':Hp}{xs:QH}{L:WS}(s:Zh H H')(x:Words H xs L):Words H' xs L:=Words.mono (fun t p e=>s t _ e) x
theorem Jx.same {H H':Hp}{v:V}{w:QG}(s:Zh H H')(x:Jx H v w):Jx H' v w:=Jx.mono (fun t p e=>s t _ e) x
theorem Words.len {H:Hp}{xs:QH}{L:WS}(x:Words H xs L):xs.length=L.length:=qj x
theorem Words.get {H:Hp}:∀{xs:QH}{L:WS}{i:Nat}{x:V},Words H xs L->xs[i]? = some x -> ∃w,L[i]? = some w/\Jx H x w
 | _,_,_,_,.nil,e=>by simp at e
 | _,_,0,_,.cons r _,e=>by simp at e;subst e;exact⟨_,rfl,r⟩
 | _,_,i+1,x,.cons _ t,e=>by obtain⟨w,h1,h2⟩:=Words.get (i:=i) (x:=x) t (by simpa using e);exact⟨w,by simpa using h1,h2⟩
theorem Words.snoc {H:Hp}{xs:QH}{L:WS}{x:V}{w:QG}(h:Words H xs L)(e:Jx H x w):Words H (xs ++ [x]) (L ++ [w]):=XE h e
section
variable {X:Cx}
inductive Zmg(xs:QH)(H:Hp)(Q:VK):Prop|mk(p ys)(_:xs = [.ref p])(_:H p=some (.lst ys))(_:∀l,H l=none->Q (.ref l) (upd H l (.tup ys)))
theorem Uc:YT X (.type "tuple") Zmg:=by intro pins s σ H xs us Q I r ⟨p,ys,e,hp,q⟩;exact Ze0 pins s σ H xs us Q I r ⟨p,ys,e,.inl ⟨Zt.of hp,q⟩⟩
end
end L2
namespace L2
open PySem PySem.Spec PyProof.Rows PyProof.V
theorem Zl1:entryFor table "zip.__getattribute__" = some Builtin.«object.__getattribute__»:=Mn (id' := "object.__getattribute__") (by kernel_rfl) (by decide +kernel) (by decide +kernel) (by kernel_rfl)
theorem Zog:typeLookup (.type "zip") "__getattr__" = pure none:=by rw[TM,Xx];kernel_rfl
theorem ZiI:typeLookup (.type "zip") "keys" = pure none:=by rw[TM,Xx];kernel_rfl
abbrev Zm9 (f0 f1:Value)(TI TO:Addr):Obj:={ cls:=.type "zip", dict:=none,data:=.fields #[f0,f1,.bool false,.ref TI,.ref TO],slots:=#[] }
theorem Zn0 (a TI TO:Addr)(f0 f1:Value)(u:Tok):Meets (Builtin.«object.__getattribute__» ⟨[.ref a,.str "keys" u],[]⟩) (fun A R s=>s.heap.get? a=some (Zm9 f0 f1 TI TO)/\raisesAttr (.ref a) "keys" A R s):=
 .of_wp fun prog w A R ⟨hp,g,d,tk,os⟩ ⟨hx,hn,hr⟩=>by
  have ty:Shared.TypeIs ⟨hp,g,d,tk,os⟩ (.ref a) "zip" := ⟨_,hx,rfl⟩;have no:=ZiI
  wp_walk
  exact wpAny_raiseAttrError hn hr (attrMsg_fits (by decide +kernel) (by decide))
theorem Zos {prog:Program}{w:World}{A:Around}{E:QE}{s:Shared}{a TI TO:Addr}{f0 f1:Value}{Q:Option Value->Shared->Prop}(hx:s.heap.get? a=some (Zm9 f0 f1 TI TO))(hA:A.handled=none)
  (h:∀h' tk,(∀b o,s.heap.get? b=some o->h'.get? b=some o)->Q none { s with heap:=h',toks:=tk }):wpAny (model prog w) A (getAttr? (.ref a) "keys") Q E s:=by
 obtain⟨hp,g,d,tk,os⟩:=s;have ty:∀t,Shared.TypeIs ⟨hp,g,d,t,os⟩ (.ref a) "zip" := fun _=>⟨_,hx,rfl⟩;have kind:=sub_AttributeError;have own:=Xk.lookup;have bound:=Xk.bind (.ref a);have hook:=Zog;have said:∀{A':Around}{R:Result->Shared->Prop}(t:Nat)(u:Tok),A'.handled=none->(∀h' tk e,Heap.NewAttrErr hp h' e (.ref a) "keys" -> R (.error (.ref e)) ⟨h',g,d,tk,os⟩)->codeAny (model prog w) A' (.call (.builtin "zip.__getattribute__") ⟨[.ref a,.str "keys" u],[]⟩) R ⟨hp,g,d,t,os⟩:=
  fun {A' R} t u hA' k=>TF Xk.plain Zl1 (Xk.check _ _ _ _ _ _ _ _ (ty t) (F.args_zip_getattribute_2 _ _) (Zn0 a TI TO f0 f1 u _ _ A' R _ ⟨hx,hA',k⟩))
 unfold getAttr? getAttrBy? getAttrBy
 wp_walk
 refine said _ _ hA fun h' tk' e new=>?_;obtain⟨t',u',there⟩:=new.there;unfold getattributeRaised
 wp_walk
 exact h _ _ new.1
section
variable {prog:Program}{w:World}{A:Around}{E:QE}{s:Shared}
theorem ZgY {a:Addr}{Q:Option Obj->Shared->Prop}(h:Q (s.heap.get? a) s):wpAny (model prog w) A (loadIfAlive a) Q E s:=fun Γ p _=>by unfold loadIfAlive;rw[Sem.wp_loadIfAlive];exact h
abbrev ZdW (h:Heap)(z TI TO T:Addr)(b:Bool):Prop:=
 h.get? z=some { cls:=.type "zip", dict:=none,data:=.fields #[rawInt T,.bool b,.bool false,.ref TI,.ref TO],slots:=#[] }
theorem Zi8 {z TI TO T:Addr}{bb:Bool}{oT:Obj}{Q:Bool->Shared->Prop}(hz:ZdW s.heap z TI TO T bb)(hT:s.heap.get? T=some oT)
  (h:∀h₁,ZdW h₁ z TI TO T true->Heap.SameBut z s.heap h₁->Q false { s with heap:=h₁ }):wpAny (model prog w) A (Builtin.SmallTypes.ownedTupleIsFree (.ref z)) Q E s:=by
 unfold Builtin.SmallTypes.ownedTupleIsFree
 wp_walk using ZgY,qy hz rfl rfl
 cases bb with
 | true=>exact kH (h s.heap hz ⟨rfl,fun _ _=>rfl⟩)
 | false=>exact kg (wpAny_setField_rec hz (by simp) fun h₁ a b=>kH (h h₁ a b))
theorem ZlY {z TI TO T i1 i2 l1 l2:Addr}{k:Nat}{bb:Bool}{oT:Obj}{xs ys:QY}{R:Fin->Shared->Prop}(D:ZipApart z TI TO i1 i2 l1 l2)
  (hz:ZdW s.heap z TI TO T bb) (hT:s.heap.get? T=some oT) (hTI:IsPair s.heap TI (.ref i1) (.ref i2))
  (h1:s.heap.IsListIter i1 l1 k) (h2:s.heap.IsListIter i2 l2 k) (hl1:s.heap.IsList l1 xs) (hl2:s.heap.IsList l2 ys)
  (more:∀x y h',xs[k]? = some x->ys[k]? = some y->ZdW h' z TI TO T true->h'.IsListIter i1 l1 (k+1)->h'.IsListIter i2 l2 (k+1)->IsPair h' s.heap.objs.size x y->h'.objs.size=s.heap.objs.size+1 ->
   (∀c o,c≠z->c≠i1->c≠i2->s.heap.get? c=some o->h'.get? c=some o)->R (.done (.ret (.ref s.heap.objs.size))) { s with heap:=h' })
  (over:xs[k]? = none->A.handled=none /\ ∀h' e,(∀c o,c≠z->c≠i1->s.heap.get? c=some o->h'.get? c=some o)->(∃o,h'.get? e=some o/\o.cls = .type "StopIteration")->E (.ref e) { s with heap:=h' })
  (even:∀x,xs[k]? = some x -> ∃y,ys[k]? = some y):
  wpAny (model prog w) A (Builtin.«zip.__next__» ⟨[.ref z],[]⟩) R E s:=by
 unfold Builtin.«zip.__next__»;refine kg (show wpAny _ _ (pure (Value.ref z,[])) _ _ _ from kH ?_);dsimp only;refine kg (qy hz rfl rfl (kg (qy hz rfl rfl (kg (Td hTI rfl ?_)))));refine kg (Zi8 hz hT fun h₁ hz₁ hs₁=>?_);simp only[qI,XB,List.forIn_toArray,List.forIn_cons,List.forIn_nil];have b1:=h1.extBut hs₁.extBut D.i1z;have b2:=hl1.extBut hs₁.extBut D.l1z;refine kg (kg (kg (KL ?_)));show wpAny _ _ (Builtin.SmallTypes.nextOf (.ref i1) >>= fun v=>pure (some v)) _ _ _;cases hx:xs[k]? with
 | none=>
  obtain⟨hh,fin⟩:=over hx;exact kg (wpAny_nextOf_list_end hh b1 b2 hx fun h₂ e keep stop=>fin h₂ e (fun c o n1 n2 g=>keep c o n2 (hs₁.extBut c o n1 g)) stop)
 | some x=>
  obtain⟨y,hy⟩:=even x hx;refine kg (wpAny_nextOf_list_item b1 b2 hx fun h₂ c1 hs₂=>kH (kH ?_));refine kg (kg (KL ?_));show wpAny _ _ (Builtin.SmallTypes.nextOf (.ref i2) >>= fun v=>pure (some v)) _ _ _;refine kg (wpAny_nextOf_list_item ((h2.extBut hs₁.extBut D.i2z).extBut hs₂.extBut D.i12.symm) ((hl2.extBut hs₁.extBut D.l2z).extBut hs₂.extBut D.l2i1) hy fun h₃ c2 hs₃=>kH (kH (kH ?_)));show wpAny _ _ (newTuple [x,y] >>= ret) _ _ _;have size:h₃.objs.size=s.heap.objs.size:=hs₃.1.trans (hs₂.1.trans hs₁.1);refine kg (wpAny_newTuple (kH ?_));show R (.done (.ret (.ref h₃.objs.size))) _;rw[size];have lay:∀c o,h₃.get? c=some o->(h₃.push { cls:=.type "tuple", data:=.seq #[x,y] }).get? c=some o:=fun c o=>kC _;refine more x y _ hx hy (lay _ _ (hs₃.extBut _ _ D.i2z.symm (hs₂.extBut _ _ D.i1z.symm hz₁))) ((c1.extBut hs₃.extBut D.i12).at fun o=>lay _ o) (c2.at fun o=>lay _ o) ?_ (by rw[Mj,size]) fun c o n1 n2 n3 g=>lay _ _ (hs₃.extBut _ _ n3 (hs₂.extBut _ _ n2 (hs₁.extBut _ _ n1 g)));rw[<- size];exact Kl _ rfl
theorem ZjH {z:Addr}{Q:Option Value->Shared->Prop}(ty:s.TypeIs (.ref z) "zip")
  (h:∀E',(∀e s',(∃o,s'.heap.get? e=some o/\o.cls = .type "StopIteration")->Q none s'->E' (.ref e) s') -> ∀A',A'.handled=A.handled->wpAny (model prog w) A' (Builtin.«zip.__next__» ⟨[.ref z],[]⟩) (fun fin s'=>∃v,fin = .done (.ret v)/\wpAny (model prog w) A (pure (some v)) Q E s') E' s):wpAny (model prog w) A (pyNext (.ref z)) Q E s:=by
 unfold pyNext;refine kg (MG (qQ (name:=Str.ofString "__next__") ty F.slot_zip_next (qC F.slot_zip_next ty F.entry_zip_next (h _ (fun e s' ⟨o,g,c⟩ q=>?_) _ rfl) (F.args_zip_next_1 _))));exact kg (NH (T := "StopIteration") (b:=true) ⟨o,g,c⟩ isSubtype_stop (kH q))
structure ZS (h:Heap)(z TI TO i1 i2 l1 l2:Addr)(k:Nat):Prop where
 zp:(IsZip h z TI TO .none /\ ∃a b,IsPair h TO a b) ∨ ∃T b o,ZdW h z TI TO T b/\h.get? T=some o/\o.cls = .type "tuple" /\ T≠z/\T≠TO/\T≠i1/\T≠i2
 ti:IsPair h TI (.ref i1) (.ref i2)
 j1:h.IsListIter i1 l1 k
 j2:h.IsListIter i2 l2 k
theorem ZS.keep {h h':Heap}{z TI TO i1 i2 l1 l2:Addr}{k:Nat}(x:ZS h z TI TO i1 i2 l1 l2 k)(kk:∀c o,h.get? c=some o->o.cls ≠ .type "dict" -> h'.get? c=some o):ZS h' z TI TO i1 i2 l1 l2 k:=by
 refine⟨?_,kk _ _ x.ti (by show Value.type "tuple" ≠ _;decide),?_,?_⟩
 ·rcases x.zp with⟨a,p,q,b⟩ | ⟨T,b,o,a,c,d,e⟩
  ·exact .inl ⟨kk _ _ a (by show Value.type "zip" ≠ _;decide),p,q,kk _ _ b (by show Value.type "tuple" ≠ _;decide)⟩
  ·exact .inr ⟨T,b,o,kk _ _ a (by show Value.type "zip" ≠ _;decide),kk _ _ c (by rw[d];decide),d,e⟩
 ·obtain⟨o,ho,hc,r⟩:=x.j1;exact⟨o,kk _ _ ho (by rw[hc];decide),hc,r⟩
 ·obtain⟨o,ho,hc,r⟩:=x.j2;exact⟨o,kk _ _ ho (by rw[hc];decide),hc,r⟩
theorem ZoL {z TI TO i1 i2 l1 l2:Addr}{k:Nat}{xs ys:QY}{x y:Value}{Q:Option Value->Shared->Prop}(D:ZipApart z TI TO i1 i2 l1 l2)(Z:ZS s.heap z TI TO i1 i2 l1 l2 k)
  (hl1:s.heap.IsList l1 xs) (hl2:s.heap.IsList l2 ys) (hx:xs[k]? = some x) (hy:ys[k]? = some y)
  (hQ:∀h',ZS h' z TI TO i1 i2 l1 l2 (k+1)->IsPair h' s.heap.objs.size x y->h'.objs.size=s.heap.objs.size+1->(∀c o,c≠z->c≠TO->c≠i1->c≠i2->s.heap.get? c=some o->h'.get? c=some o)->Q (some (.ref s.heap.objs.size)) { s with heap:=h' }):
  wpAny (model prog w) A (pyNext (.ref z)) Q E s:=by
 have lt:∀{c:Addr}{o:Obj},s.heap.get? c=some o->s.heap.objs.size≠c:=fun e=>KG (Kn (Kc e));have n1:s.heap.objs.size≠i1:=by obtain⟨o,ho,_⟩:=Z.j1;exact lt ho
 have n2:s.heap.objs.size≠i2:=by obtain⟨o,ho,_⟩:=Z.j2;exact lt ho
 rcases Z.zp with⟨hz,a,b,hTO⟩ | ⟨T,b,o,hz,hT,hc,t1,t2,t3,t4⟩
 ·exact wpAny_pyNext_zip_item D hz Z.ti hTO Z.j1 Z.j2 hl1 hl2 hx hy fun h' a1 a2 a3 a4 a5 a6 a7=>
   hQ h' ⟨.inr ⟨s.heap.objs.size,false,_,a1,a5,rfl,lt hz,lt hTO,n1,n2⟩,a7 _ _ D.TIz D.TITO D.TIi1 D.TIi2 Z.ti,a3,a4⟩ a5 a6 a7
 ·refine ZjH ⟨_,hz,rfl⟩ fun E' _ A' _=>ZlY D hz hT Z.ti Z.j1 Z.j2 hl1 hl2 (fun x' y' h' e1 e2 a1 a3 a4 a5 a6 a7=>⟨_,rfl,kH ?_⟩) (fun e=>by rw[hx] at e;cases e) (fun _ _=>⟨y,hy⟩);rw[hx] at e1;rw[hy] at e2;cases e1;cases e2;exact hQ h' ⟨.inr ⟨T,true,o,a1,a7 _ _ t1 t3 t4 hT,hc,t1,t2,t3,t4⟩,a7 _ _ D.TIz D.TIi1 D.TIi2 Z.ti,a3,a4⟩ a5 a6 fun c o c1 _ c3 c4 e=>a7 c o c1 c3 c4 e
theorem ZpF {z TI TO i1 i2 l1 l2:Addr}{k:Nat}{xs ys:QY}{Q:Option Value->Shared->Prop}(hh:A.handled=none)(D:ZipApart z TI TO i1 i2 l1 l2)(Z:ZS s.heap z TI TO i1 i2 l1 l2 k)
  (hl1:s.heap.IsList l1 xs) (hl2:s.heap.IsList l2 ys) (hx:xs[k]? = none)
  (hQ:∀h',(∀c o,c≠z->c≠TO->c≠i1->c≠i2->s.heap.get? c=some o->h'.get? c=some o)->Q none { s with heap:=h' }):
  wpAny (model prog w) A (pyNext (.ref z)) Q E s:=by
 rcases Z.zp with⟨hz,a,b,hTO⟩ | ⟨T,b,o,hz,hT,hc,t1,t2,t3,t4⟩
 ·exact wpAny_pyNext_zip_end hh D hz Z.ti hTO Z.j1 Z.j2 hl1 hl2 (.inl hx) hQ
 ·exact ZjH ⟨_,hz,rfl⟩ fun E' out A' hA=>ZlY D hz hT Z.ti Z.j1 Z.j2 hl1 hl2 (fun x' y' h' e1=>by rw[hx] at e1;cases e1) (fun _=>⟨hA.trans hh,fun h' e keep stop=>out e _ stop (hQ h' fun c o c1 _ c3 _ g=>keep c o c1 c3 g)⟩) (fun x' e=>by rw[hx] at e;cases e)
end
theorem Zhb:entryFor table "dict.update.loop" = some Builtin.«dict.update.loop»:=entryFor_of_tree (by kernel_rfl)
theorem Zcp:plainId "dict.update.loop" = true:=by decide +kernel
def Zm5 (kvs:List (Key×Value))(ps:List (Key×Value)):List (Key×Value):=ps.foldl (fun a p=>stored a p.1 p.2) kvs
section
variable {prog:Program}{w:World}{A:Around}{R:Result->Shared->Prop}
theorem ZpD {E:QE}{s:Shared}{d:Addr}{kvs:List (Key×Value)}{k:Int}{t:Tok}{v:Value}{Q:Unit->Shared->Prop}(hm:s.heap.DictOf (Z9 prog w) d kvs)(hsz:kvs.length<=sizeLine)
  (hQ:∀h',h'.DictOf (Z9 prog w) d (stored kvs (Sum.inl k) v)->Heap.SameBut d s.heap h'->Q () { s with heap:=h',toks:=s.toks+1 }):wpAny (model prog w) A (dictSet d (.int k t) v) Q E s:=by
 unfold dictSet
 try with_reducible refine KL ?_
 refine kg (wpAny_pyHash_int ?_);exact wpAny_dictSetHashed_pairs (knd:=Z9 prog w) (k:=Sum.inl k) (by show Value.isInt k (.int k t)=true;simp[Value.isInt]) (s:={ s with toks:=s.toks+1 }) hm hQ hsz
theorem ZnU {z TI TO i1 i2 l1 l2 d:Addr}{xs ys:QY}{ps:List (Key×Value)}(D:ZipApart z TI TO i1 i2 l1 l2)(hh:A.handled=none)(hn:xs.size=ys.size)(hz:xs.size<=100000)
  (hp:ps.length=xs.size) (hps:∀(i:Nat)(k:Key)(v:Value),ps[i]? = some (k,v) -> ∃(a:Int)(t:Tok),k=Sum.inl a/\xs[i]? = some (Value.int a t)/\ys[i]? = some v)
  (dz:d≠z/\d≠TO/\d≠i1/\d≠i2/\l1≠d/\l2≠d):
  ∀(m k:Nat)(s:Shared)(kvs:List (Key×Value)),m+k=xs.size->ZS s.heap z TI TO i1 i2 l1 l2 k->s.heap.IsList l1 xs->s.heap.IsList l2 ys->s.heap.DictOf (Z9 prog w) d kvs->kvs.length<=k ->
   (∀h' tk,h'.DictOf (Z9 prog w) d (Zm5 kvs (ps.drop k))->(∀c o,c≠z->c≠TO->c≠i1->c≠i2->c≠d->s.heap.get? c=some o->h'.get? c=some o)->R (.ok (.ret .none)) { s with heap:=h',toks:=tk }) ->
   codeAny (model prog w) A (.builtin "dict.update.loop" ⟨[.ref d,.ref z,rawInt (k:Int),.none],[]⟩) R s:=by
 intro m
 induction m with
 | zero=>
  intro k s kvs hk Z hl1 hl2 hd hlen fin;refine Xc Zhb ?_;rw[qP Zcp _];show wpAny _ A.in1 (pyNext (.ref z) >>= _) _ _ s;refine kg (ZpF (A:=A.in1) hh D Z hl1 hl2 (by rw[N1];lia) fun h' kk=>?_);refine kH ?_;have e:ps.drop k = []:=qi (by lia);rw[e] at fin;refine fin h' s.toks ?_ fun c o c1 c2 c3 c4 _ x=>kk c o c1 c2 c3 c4 x;obtain⟨o,es,ep,ho,r⟩:=hd;exact⟨o,es,ep,kk _ _ dz.1 dz.2.1 dz.2.2.1 dz.2.2.2.1 ho,r⟩
 | succ m ih=>
  intro k s kvs hk Z hl1 hl2 hd hlen fin;refine Xc Zhb ?_;rw[qP Zcp _];show wpAny _ A.in1 (pyNext (.ref z) >>= _) _ _ s;obtain⟨⟨pk,pv⟩,hpk⟩:∃p,ps[k]? = some p:=⟨ps[k]'(by lia),by simp⟩;obtain⟨a,t,rfl,hx,hy⟩:=hps k pk pv hpk;refine kg (ZoL (A:=A.in1) D Z hl1 hl2 hx hy fun h' Z' hpair hsz kk=>?_);refine kg (KL ?_);refine kg (wpAny_tryCatch ?_);unfold Builtin.Dict.pairItems;refine kg (qL (T := "tuple") ⟨_,hpair,rfl⟩ ?_);refine wpAny_ite ?_;rw[km (by decide)];refine kg (Td hpair rfl ?_);refine kH ?_;show wpAny _ _ (holding [.int a t,pv] (dictSet d (.int a t) pv)) _ _ _;have hd':h'.DictOf (Z9 prog w) d kvs:=by obtain⟨o,es,ep,ho,r⟩:=hd;exact⟨o,es,ep,kk _ _ dz.1 dz.2.1 dz.2.2.1 dz.2.2.2.1 ho,r⟩
  have lst:∀{h h2:Heap}{l:Addr}{zs:QY},h.IsList l zs->(∀o,h.get? l=some o->h2.get? l=some o)->h2.IsList l zs:=fun {h h2 l zs} q k=>by obtain⟨o,ho,r⟩:=q;exact⟨o,k o ho,r⟩
  refine KL (ZpD (s:={ s with heap:=h' }) hd' (by rw[k9];lia) fun h2 hd2 sb=>?_);refine kH ⟨Tx Zcp _,?_⟩;have hk2:∀c o,c≠z->c≠TO->c≠i1->c≠i2->c≠d->s.heap.get? c=some o->h2.get? c=some o:=fun c o c1 c2 c3 c4 c5 e=>sb.extBut _ _ c5 (kk c o c1 c2 c3 c4 e);have e:((k:Int)+1)=((k+1:Nat):Int):=by lia
  rw[e];have e2:ps.drop k=(Sum.inl a,pv)::ps.drop (k+1):=by obtain⟨h1,h3⟩:=kz.mp hpk;rw[<- h3];exact K8 h1
  refine ih (k+1) { s with heap:=h2,toks:=s.toks+1 } _ (by lia) (Z'.keep fun c o e nd=>sb.extBut _ _ (fun q=>?_) e) (lst hl1 fun o e=>hk2 _ o D.l1z D.l1TO D.l1i1 D.l1i2 dz.2.2.2.2.1 e) (lst hl2 fun o e=>hk2 _ o D.l2z D.l2TO D.l2i1 D.l2i2 dz.2.2.2.2.2 e) hd2 ?_ fun h3 tk hd3 k3=>?_
  ·obtain⟨o',es,ep,ho,hc,_⟩:=hd';rw[q,ho] at e;cases e;exact nd hc.1
  ·have:=stored_length_le kvs (Sum.inl a:Key) pv;lia
  ·refine fin h3 tk ?_ fun c o c1 c2 c3 c4 c5 e=>k3 c o c1 c2 c3 c4 c5 (hk2 c o c1 c2 c3 c4 c5 e);rw[e2];exact hd3
theorem Zn2 {z TI TO i1 i2 l1 l2:Addr}{E:QE}{s:Shared}{xs ys:QY}{ps:List (Key×Value)}{Q:QE}(D:ZipApart z TI TO i1 i2 l1 l2)(hh:A.handled=none)(hn:xs.size=ys.size)(hz:xs.size<=100000)
  (hp:ps.length=xs.size) (hps:∀(i:Nat)(k:Key)(v:Value),ps[i]? = some (k,v) -> ∃(a:Int)(t:Tok),k=Sum.inl a/\xs[i]? = some (Value.int a t)/\ys[i]? = some v)
  (hzp:IsZip s.heap z TI TO .none) (hTI:IsPair s.heap TI (.ref i1) (.ref i2)) (hTO:∃a b,IsPair s.heap TO a b) (h1:s.heap.IsListIter i1 l1 0) (h2:s.heap.IsListIter i2 l2 0) (hl1:s.heap.IsList l1 xs) (hl2:s.heap.IsList l2 ys)
  (h:∀h' tk,h'.DictOf (Z9 prog w) s.heap.objs.size (Zm5 [] ps)->(∀c o,c≠z->c≠TO->c≠i1->c≠i2->s.heap.get? c=some o->h'.get? c=some o)->Q (.ref s.heap.objs.size) { s with heap:=h',toks:=tk }):
  wpAny (model prog w) A (call (.type "dict") [.ref z]) Q E s:=by
 refine callType_codes (Q₁:=fun obj s₁=>obj = .ref s.heap.objs.size/\s₁ = { s with heap:=s.heap.push { cls:=.type "dict", data:=.dict #[] } }) F.kt_called_dict (F.kt_typeCall_dict_1 _) F.entry_dict_init (kt_code_dict_new _ ⟨rfl,rfl⟩) ?_;rintro obj s₁ ⟨rfl,rfl⟩;have hnew:(s.heap.push { cls:=.type "dict", data:=.dict #[] }).DictOf (Z9 prog w) s.heap.objs.size []:=Heap.DictOf.new s.heap;have up:∀c o,s.heap.get? c=some o->(s.heap.push { cls:=.type "dict", data:=.dict #[] }).get? c=some o:=fun c o e=>kC _ e;refine⟨hnew.typeIs,F.args_dict_init_2 _ _,?_⟩;unfold Builtin.«dict.__init__»;refine kg ?_;unfold Builtin.Dict.selfAndRest;refine kg (wpAny_notOrdered_dict hnew.typeIs ?_);show wpAny _ _ (pure (s.heap.objs.size,[Value.ref z])) _ _ _;refine kH ?_;show wpAny _ _ (Builtin.Dict.updateFrom "dict.__init__" s.heap.objs.size (.ref z) [] .none) _ _ _;unfold Builtin.Dict.updateFrom;refine kg (qL (T := "zip") ⟨_,up _ _ hzp,rfl⟩ ?_);rw[km (by decide)];refine kg (Zos (up _ _ hzp) hh fun h' tk kk=>?_);rw[km (by rfl)];refine kg (XA ?_);refine kg (ND (kk _ _ (up _ _ hzp)) ?_);have U:∀c o,s.heap.get? c=some o->h'.get? c=some o:=fun c o e=>kk c o (up c o e);have lt:∀{c:Addr}{o:Obj},s.heap.get? c=some o->s.heap.objs.size≠c:=fun e=>KG (Kn (Kc e));obtain⟨ta,tb,hto⟩:=hTO;have n1:s.heap.objs.size≠i1:=by obtain⟨o,ho,_⟩:=h1;exact lt ho
 have n2:s.heap.objs.size≠i2:=by obtain⟨o,ho,_⟩:=h2;exact lt ho
 have n3:l1≠s.heap.objs.size:=by obtain⟨o,ho,_⟩:=hl1;exact(lt ho).symm
 have n4:l2≠s.heap.objs.size:=by obtain⟨o,ho,_⟩:=hl2;exact(lt ho).symm
 have cp:∀{l:Addr}{zs:QY},s.heap.IsList l zs->h'.IsList l zs:=fun {l zs} q=>by obtain⟨o,ho,r⟩:=q;exact⟨o,U _ _ ho,r⟩
 have ci:∀{i l:Addr}{k:Nat},s.heap.IsListIter i l k->h'.IsListIter i l k:=fun {i l k} q=>by obtain⟨o,ho,r⟩:=q;exact⟨o,U _ _ ho,r⟩
 have hd':h'.DictOf (Z9 prog w) s.heap.objs.size []:=by obtain⟨o,es,ep,ho,r⟩:=hnew;exact⟨o,es,ep,kk _ _ ho,r⟩
 refine kH ⟨Tx Zcp _,?_⟩;refine ZnU (A:=A.in1) D hh hn hz hp hps ⟨lt hzp,lt hto,n1,n2,n3,n4⟩ xs.size 0 _ [] rfl ⟨.inl ⟨U _ _ hzp,ta,tb,U _ _ hto⟩,U _ _ hTI,ci h1,ci h2⟩ (cp hl1) (cp hl2) hd' (kj _) fun h3 tk3 d3 k3=>?_;exact⟨rfl,h h3 tk3 d3 fun c o c1 c2 c3 c4 e=>k3 c o c1 c2 c3 c4 (lt e).symm (U c o e)⟩
end
def Za9 (acc:QD)(ps:List (Int×V)):QD:=ps.foldl (fun a p=>putK a (Sum.inl p.1) p.2) acc
inductive Zsm(K:QF)(Q:VK)(vs:QH)(H1:Hp):Prop|mk(a b:Addr)(ns:QG)(ys:QH)(_:vs = [.ref a,.ref b])(_:Zt K H1 a (ns.map V.int))(_:Zt K H1 b ys)(_:ns.length=ys.length)(_:ns.length<=100000)(_:∀D,H1 D=none->Q (.ref D) (upd H1 D (.dK (Za9 [] (ns.zip ys)))))
def tDz (K:QF)(ta:TA):TE:=fun σ H Q=>ta σ H fun vs H1=>Zsm K Q vs H1
theorem Zj5:∀{ns:QG}{ys:QH}{us vs:QJ}{acc:QD}{acc':List (Key×Value)},Vals (ns.map V.int) us->Vals ys vs->KV acc acc'->KV (Za9 acc (ns.zip ys)) (Zm5 acc' ((ns.map fun n=>(Sum.inl n:Key)).zip vs))
 | [],_,_,_,_,_,_,_,r=>r
 | n::ns,[],_,_,_,_,_,h,r=>by cases h;exact r
 | n::ns,y::ys,_,_,_,_,h1,h2,r=>by
  cases h1 with
  | cons a1 t1=>
   cases h2 with
   | cons a2 t2=>exact Zj5 (ns:=ns) (ys:=ys) t1 t2 (r.put (Sum.inl n) a2)
theorem ZfK:∀(ps:List (Int×V))(acc:QD),(Za9 acc ps).length<=acc.length+ps.length
 | [],acc=>kj _
 | p::ps,acc=>by have h1:=ZfK ps (putK acc (Sum.inl p.1) p.2);have h2:=W6 acc (Sum.inl p.1:Key) p.2;show (Za9 (putK acc (Sum.inl p.1) p.2) ps).length<=_;rw[Kv];lia
section
variable {X:Cx}
theorem Zfb:∀{xs:QH}{us:QJ}{i:Nat}{x:V},Vals xs us->xs[i]? = some x -> ∃u,us[i]? = some u/\RelV x u
 | _,_,_,_,.nil,h=>by simp at h
 | _,_,0,_,.cons r _,h=>by simp at h;subst h;exact⟨_,rfl,r⟩
 | _,_,i+1,x,.cons _ t,h=>by obtain⟨b,h1,h2⟩:=Zfb (i:=i) (x:=x) t (by simpa using h);exact⟨b,by simpa using h1,h2⟩
theorem ZiM {K:QF}{a b:Expr}{ta:TA}{p p2 pos pos2:Pos}(hK:X.K=K)(hc:X.calm=true)(hgd:Gl X "dict")(hmd:X.mg "dict" = none)(hgz:Gl X "zip")(hmz:X.mg "zip" = none)(ha:PA X [a,b] ta)
  (hs:starEach [a,b] X.env = [(false,eval a X.env),(false,eval b X.env)]:=by rfl) (hs2:starEach [b] X.env = [(false,eval b X.env)]:=by rfl)
  (he:starEach [Expr.Call (.Name "zip" p2) [a,b] [] pos2] X.env=(false,eval (Expr.Call (.Name "zip" p2) [a,b] [] pos2) X.env)::starEach [] X.env:=by rfl) (hpl:(backTo pos (starEach [] X.env)).any (·.1)=false:=by rfl):
  PE X (.Call (.Name "dict" p) [.Call (.Name "zip" p2) [a,b] [] pos2] [] pos) (tDz K ta):=by
 subst hK;intro pins s σ H Q I h;refine XU (UU I hgd hmd boot_dict ?_ (by decide) (by decide));refine qa ?_ he hpl;rw[he];show wpAny _ _ (spliced ((false,eval (Expr.Call (.Name "zip" p2) [a,b] [] pos2) X.env)::backTo pos (starEach [] X.env))) _ _ s;refine T3 ?_;refine Call_ (UU I hgz hmz boot_zip (qa (YN (ha pos2 pins s σ H _ I h) fun us s1 ⟨vs,H1,I1,r1,q1⟩=>?_) (by rw[hs,hs2]) (by rw[hs2];rfl)));obtain⟨l1,l2,ns,ys,e,hq1,hq2,hl,hz,q⟩:=q1;subst e;obtain⟨u,v,rfl,ru,rv⟩:=r1.two;cases ru;cases rv;obtain⟨its1,rv1,p1,hz1⟩:=I1.list hq1;obtain⟨its2,rv2,p2',hz2⟩:=I1.list hq2;have L1:@LT.lt Nat _ l1 s1.heap.objs.size:=by obtain⟨o,ho,_⟩:=p1.isList;exact aLt ho
 have L2:@LT.lt Nat _ l2 s1.heap.objs.size:=by obtain⟨o,ho,_⟩:=p2'.isList;exact aLt ho
 refine call_zip_2 p1.isList p2'.isList fun h' g1 g2 g3 g4 g5 hsz kk=>?_;have ap:ZipApart (s1.heap.objs.size+4) (s1.heap.objs.size+2) (s1.heap.objs.size+3) s1.heap.objs.size (s1.heap.objs.size+1) l1 l2:=by constructor<;>(intro e;have e':@Eq Nat _ _:=e;lia)
 refine Nf ?_;have le1:its1.length=ns.length:=by rw[<- rv1.length,ke]
 have le2:its2.length=ys.length:=rv2.length.symm;have hb:@LT.lt Nat _ sysModules h'.objs.size:=by have:@LT.lt Nat _ sysModules s1.heap.objs.size:=I1.big;rw[hsz];lia
 have cp:∀{l:Addr}{zs:QY},s1.heap.IsList l zs->h'.IsList l zs:=fun {l zs} q=>by obtain⟨o,ho,r⟩:=q;exact⟨o,kk _ _ ho,r⟩
 refine Zn2 (s:={ s1 with heap:=h' }) (ps:=(ns.map fun n=>(Sum.inl n:Key)).zip its2) ap (I1.ok.hd hc) (by simp;lia) (by simp;lia) (by simp;lia) (fun i k v hi=>?_) g1 g2 ⟨_,_,g3⟩ g4 g5 (cp p1.isList) (cp p2'.isList) fun h2 tk hd k2=>?_
 ·obtain⟨e1,e2⟩:=XN.mp hi;rw[kF] at e1;obtain⟨a,ha',rfl⟩:=Ke.mp e1;obtain⟨u,hu,t,rfl⟩:=Zfb rv1 (i:=i) (x:=.int a) (by rw[kF,ha'];rfl);exact⟨a,t,rfl,by simpa using hu,by simpa using e2⟩
 ·have keep:∀c o,s1.heap.get? c=some o->h2.get? c=some o:=fun c o e=>by
   have lt:@LT.lt Nat _ c s1.heap.objs.size:=aLt e;refine k2 c o ?_ ?_ ?_ ?_ (kk c o e)<;>(intro e;have e':@Eq Nat _ _:=e;lia)
  have le:@LE.le Nat _ s1.heap.objs.size h'.objs.size:=by rw[hsz];lia
  refine⟨.ref h'.objs.size,_,I1.laid (a:=h'.objs.size) (o:=.dK (Za9 [] (ns.zip ys))) (h':=h2) (t':=tk) keep le (Zia ?_ (qF.mpr (KG (Kn hb))) (Zj5 rv1 rv2 .nil) hd),rfl,q _ (I1.hok.fresh le)⟩;have:=ZfK (ns.zip ys) [];rw[XT,Xs] at this;rw[k9];lia
end
open AutoSeq1 (wpAny_loadPart') in
theorem ZdC (xs:QH)(k:Nat):W3 xs none (some (k:Int))=xs.take k:=by unfold W3;rw[HT.Zd9,HT.Zcb,Mp,Lk,List.take_eq_take_iff];lia
theorem ZdB (xs:QH)(k:Nat):W3 xs (some (k:Int)) none=xs.drop k:=by
 unfold W3;rw[HT.Zd9,HT.Zcb];by_cases h:k<=xs.length
 ·rw[qf h,kJ (by rw[Ks];lia)]
 ·rw[K9 (by lia),qi (kj _),qi (by lia),MH]
end L2
namespace L2
open PySem PySem.Spec PyProof.Rows HT
theorem Vals.rev {xs:QH}{us:QJ}(h:Vals xs us):Vals xs.reverse us.reverse:=by
 induction h with
 | nil=>exact .nil
 | cons r _ ih=>rw[List.reverse_cons,List.reverse_cons];exact XE ih r
def adv (mask:Nat)(p:SetTable.Probe):SetTable.Probe:=
 if p.more>0 then { p with j:=p.j+1,more:=p.more-1 } else
 { p with j:=(SetTable.leap mask p.i p.perturb).1,more:=SetTable.runEnd mask (SetTable.leap mask p.i p.perturb).1-(SetTable.leap mask p.i p.perturb).1,i:=(SetTable.leap mask p.i p.perturb).1,perturb:=(SetTable.leap mask p.i p.perturb).2 }
theorem ZpQ (t:SetTable)(p:SetTable.Probe):t.advance p=adv t.mask p:=rfl
def stH (mask:Nat)(h:Int):Nat->SetTable.Probe
 | 0=>{ j:=SetTable.bits h % (mask+1),more:=SetTable.runEnd mask (SetTable.bits h % (mask+1))-SetTable.bits h % (mask+1),i:=SetTable.bits h % (mask+1),perturb:=SetTable.bits h,dummy:=none }
 | n+1=>adv mask (stH mask h n)
def pj (mask:Nat)(h:Int)(n:Nat):Nat:=(stH mask h n).j
theorem Znl (t:SetTable)(h:Int):t.probeStart h=stH t.mask h 0:=rfl
def WU (mask b:Nat):Nat->Nat×Nat
 | 0=>(b % (mask+1),b)
 | n+1=>SetTable.leap mask (WU mask b n).1 (WU mask b n).2
theorem Zlx (mask i:Nat):SetTable.runEnd mask i-i<=9:=by unfold SetTable.runEnd;split<;>lia
theorem ZiN {mask i q:Nat}{h:Int}{s:Nat}(e:stH mask h s = { j:=i,more:=SetTable.runEnd mask i-i,i:=i,perturb:=q,dummy:=none }):∀m,m<=SetTable.runEnd mask i-i->stH mask h (s+m) = { j:=i+m,more:=SetTable.runEnd mask i-i-m,i:=i,perturb:=q,dummy:=none }
 | 0,_=>e
 | m+1,hm=>by show adv mask (stH mask h (s+m))=_;rw[ZiN e m (by lia)];unfold adv;dsimp only;rw[km (by lia)];congr 1
theorem ZjD (mask:Nat)(h:Int):∀n,∃s,s<=10*n/\stH mask h s = { j:=(WU mask (SetTable.bits h) n).1,more:=SetTable.runEnd mask (WU mask (SetTable.bits h) n).1-(WU mask (SetTable.bits h) n).1,i:=(WU mask (SetTable.bits h) n).1,perturb:=(WU mask (SetTable.bits h) n).2,dummy:=none }
 | 0=>⟨0,by lia,rfl⟩
 | n+1=>by obtain⟨s,hs,e⟩:=ZjD mask h n;have r:=Zlx mask (WU mask (SetTable.bits h) n).1;have e2:=ZiN e _ (kj _);refine⟨s+(SetTable.runEnd mask (WU mask (SetTable.bits h) n).1-(WU mask (SetTable.bits h) n).1)+1,by lia,?_⟩;show adv mask (stH mask h _)=_;rw[e2];unfold adv;dsimp only;rw[ki (by lia)];rfl
theorem Znh (mask b:Nat):∀n,(WU mask b n).2=b / 32 ^ n
 | 0=>by simp[WU]
 | n+1=>by show (WU mask b n).2 / 32=_;rw[Znh mask b n,Nat.div_div_eq_div_mul,Nat.pow_succ]
theorem ZlN (mask b:Nat):∀n,(WU mask b n).1<mask+1
 | 0=>NZ _ (by lia)
 | n+1=>NZ _ (by lia)
def lcg (mask:Nat):Nat->Nat->Nat
 | 0,i=>i
 | k+1,i=>(lcg mask k i*5+1) % (mask+1)
theorem Zjs (h:Int):SetTable.bits h<2 ^ 64:=by unfold SetTable.bits;have:=qJ h (b:=2 ^ 64) (by decide);have:=Xd h (b:=2 ^ 64) (by decide);lia
theorem Zin (mask:Nat){b:Nat}(hb:b<2 ^ 64):∀k,(WU mask b (13+k)).1=lcg mask k (WU mask b 13).1
 | 0=>rfl
 | k+1=>by
  show ((WU mask b (13+k)).1*5+1+(WU mask b (13+k)).2 / 32) % (mask+1)=(lcg mask k _*5+1) % (mask+1);have z:(WU mask b (13+k)).2=0:=by
   rw[Znh];refine Nat.div_eq_of_lt (KD hb ?_)
   calc 2 ^ 64<=32 ^ 13:=by decide
    _<=32 ^ (13+k):=Mq (by decide) (by lia)
  rw[z,Zin mask hb k]
theorem ZsV:∀i,i<8 -> ∀j,j<8 -> ∃k,k<8/\lcg 7 k i=j:=by decide +kernel
theorem Zr9:∀i,i<32 -> ∀j,j<32 -> ∃k,k<32/\lcg 31 k i=j:=by decide +kernel
theorem ZdM (mask i:Nat):∀k a,lcg mask k (lcg mask a i)=lcg mask (k+a) i
 | 0,a=>by rw[XI];rfl
 | k+1,a=>by show (lcg mask k (lcg mask a i)*5+1) % (mask+1)=_;rw[ZdM mask i k a,show k+1+a=(k+a)+1 by lia];rfl
theorem Zlr:∀j,j<128 -> ∃a,a<128/\lcg 127 a 0=j:=by decide +kernel
theorem Zqh:lcg 127 128 0=0:=by decide +kernel
theorem ZqL (i:Nat)(hi:i<128)(j:Nat)(hj:j<128):∃k,k<128/\lcg 127 k i=j:=by
 obtain⟨a,ha,rfl⟩:=Zlr i hi;obtain⟨c,hc,rfl⟩:=Zlr j hj;by_cases z:a<=c
 ·exact⟨c-a,by lia,by rw[ZdM,show c-a+a=c by lia]⟩
 ·exact⟨c+128-a,by lia,by rw[ZdM,show c+128-a+a=c+128 by lia,<- ZdM,Zqh]⟩
theorem Zsf {mask:Nat}(hm:mask=7∨mask=31∨mask=127)(i:Nat)(hi:i<mask+1)(j:Nat)(hj:j<mask+1):∃k,k<mask+1/\lcg mask k i=j:=by
 rcases hm with rfl | rfl | rfl
 ·exact ZsV i hi j hj
 ·exact Zr9 i hi j hj
 ·exact ZqL i hi j hj
theorem cover {mask:Nat}(hm:mask=7∨mask=31∨mask=127)(h:Int){j:Nat}(hj:j<=mask):∃s,s<10*SetTable.turns mask/\pj mask h s=j:=by
 have key:∃n,n+1<SetTable.turns mask/\(WU mask (SetTable.bits h) n).1=j:=by have lt:=ZlN mask (SetTable.bits h) 13;obtain⟨k,hk,e⟩:=Zsf hm _ lt j (by lia);exact⟨13+k,by unfold SetTable.turns;lia,by rw[Zin _ (Zjs h),e]⟩
 obtain⟨n,hn,e⟩:=key;obtain⟨s,hs,es⟩:=ZjD mask h n;refine⟨s,by lia,?_⟩;unfold pj;rw[es];exact e
theorem Zhj {P:Nat->Prop}[DecidablePred P]:∀N,(∃s,s<N/\P s) -> ∃s,s<N/\P s /\ ∀m,m<s -> ¬P m
 | 0,⟨s,h,_⟩=>by lia
 | N+1,h=>by
  by_cases c:∃s,s<N/\P s
  ·obtain⟨s,a,b⟩:=Zhj N c;exact⟨s,by lia,b⟩
  ·obtain⟨s,a,b⟩:=h;have:s=N:=by
    by_cases z:s<N
    ·exact absurd ⟨s,z,b⟩ c
    ·lia
   subst this;exact⟨s,a,b,fun m hm z=>c ⟨m,hm,z⟩⟩
theorem ZiC {l:List Nat}{N:Nat}(r:l.Pairwise (· < ·))(d:∀j∈l,j<=N)(hl:l.length<=N):∃j,j<=N/\j∉l:=by
 have key:∀(l:List Nat)(b:Nat),l.Pairwise (· < ·)->(∀j∈l,b<=j)->(∀j,b<=j->j<b+l.length+1->j∈l)->False:=by
  intro l
  induction l with
  | nil=>intro b _ _ h;have:=h b (kj _) (by simp);cases this
  | cons x l ih=>
   intro b r lo h;obtain⟨r1,r2⟩:=qB.mp r;have hx:x=b:=by
    have:=h b (kj _) (by lia);rcases kO.mp this with z | z
    ·exact z.symm
    ·have:=r1 b z;have:=lo x kS;lia
   subst hx;refine ih (x+1) r2 (fun j hj=>r1 j hj) fun j h1 h2=>?_;have:=h j (by lia) (by rw[Kv];lia);rcases kO.mp this with z | z
   ·lia
   ·exact z
 by_cases c:∃j,j<N+1/\j∉l
 ·obtain⟨j,a,b⟩:=c;exact⟨j,by lia,b⟩
 ·refine(key l 0 r (fun _ _=>Kr _) fun j _ h2=>?_).elim;by_cases z:j∈l
  ·exact z
  ·exact absurd ⟨j,by lia,z⟩ c
theorem UD {l:List Nat}(r:l.Pairwise (· < ·)){i k x y:Nat}(hi:l[i]? = some x)(hk:l[k]? = some y)(h:i<k):x<y:=by obtain⟨h1,e1⟩:=kz.mp hi;obtain⟨h2,e2⟩:=kz.mp hk;rw[<- e1,<- e2];exact T8.mp r i k h1 h2 h
theorem Zeb {xs:Array Nat}{j:Nat}(r:xs.toList.Pairwise (· < ·)):∀(fuel lo hi:Nat),hi-lo<=fuel->lo<=hi->hi<=xs.size->(∀i x,xs.toList[i]? = some x->i<lo->x<j)->(∀i x,xs.toList[i]? = some x->hi<=i->j<=x) ->
  SetTable.below.go xs j fuel lo hi<=xs.size /\ ∀i x,xs.toList[i]? = some x->(i<SetTable.below.go xs j fuel lo hi ↔ x<j)
 | 0,lo,hi,hf,hl,hh,a,b=>by
  have:lo=hi:=by lia
  subst this;show lo<=_ /\ ∀i x,_->(i<lo ↔ _);refine⟨hh,fun i x e=>⟨fun z=>a i x e z,fun z=>?_⟩⟩;by_cases c:i<lo
  ·exact c
  ·have:=b i x e (by lia);lia
 | fuel+1,lo,hi,hf,hl,hh,a,b=>by
  unfold SetTable.below.go;by_cases c:lo<hi
  ·rw[km c];dsimp only;have hm:(lo+hi) / 2<xs.size:=by lia
   have em:xs.toList[(lo+hi) / 2]? = some xs[(lo+hi) / 2]:=by simp[hm]
   have eg:xs.getD ((lo+hi) / 2) j=xs[(lo+hi) / 2]:=by simp[Array.getD,hm]
   rw[eg];generalize xs[(lo+hi) / 2]=v at em;by_cases q:v<j
   ·rw[km q];refine Zeb r fuel _ _ (by lia) (by lia) hh (fun i x e z=>?_) b;by_cases y:i=(lo+hi) / 2
    ·subst y;rw[em] at e;cases e;exact q
    ·have:=UD r e em (by lia);lia
   ·rw[ki q];refine Zeb r fuel _ _ (by lia) (by lia) (by lia) a fun i x e z=>?_;by_cases y:i=(lo+hi) / 2
    ·subst y;rw[em] at e;cases e;lia
    ·have:=UD r em e (by lia);lia
  ·rw[ki c];have:lo=hi:=by lia
   subst this;refine⟨hh,fun i x e=>⟨fun z=>a i x e z,fun z=>?_⟩⟩;by_cases c:i<lo
   ·exact c
   ·have:=b i x e (by lia);lia
theorem ZaX {xs:Array Nat}(r:xs.toList.Pairwise (· < ·))(j:Nat):SetTable.below xs j<=xs.size /\ ∀i x,xs.toList[i]? = some x->(i<SetTable.below xs j ↔ x<j):=
 Zeb r _ _ _ (by lia) (Kr _) (kj _) (fun i x _ h=>by lia) fun i x e h=>by have:=(kz.mp e).1;simp at this;lia
theorem below_at {xs:Array Nat}(r:xs.toList.Pairwise (· < ·)){i j:Nat}(e:xs.toList[i]? = some j):SetTable.below xs j=i:=by
 obtain⟨a,b⟩:=ZaX r j;have h1:=(b i j e);have hi:=(kz.mp e).1;by_cases c:SetTable.below xs j<i
 ·have e2:xs.toList[SetTable.below xs j]? = some (xs.toList[SetTable.below xs j]'(by lia)):=by simp
  have h2:=UD r e2 e c;have:=(b _ _ e2).mpr h2;lia
 ·have:¬i<SetTable.below xs j:=fun z=>by have:=h1.mp z;lia
  lia
theorem Zk0 {t:SetTable}(r:t.place.toList.Pairwise (· < ·)){i j:Nat}(e:t.place.toList[i]? = some j):t.slot j = .live i:=by
 unfold SetTable.slot;rw[below_at r e];have:t.place[i]? = some j:=by rw[<- qd];exact e
 dsimp only;rw[this];simp
theorem ZiT {t:SetTable}(d:t.dummies = #[]){j:Nat}(h:j∉t.place.toList):t.slot j = .empty:=by
 unfold SetTable.slot;have:(t.place[SetTable.below t.place j]? == some j)=false:=by rw[qF];intro z;rw[<- qd] at z;exact h (kZ z)
 dsimp only;rw[this,d];rfl
theorem Zmq {xs:Array Nat}(r:xs.toList.Pairwise (· < ·)){j:Nat}(h:j∉xs.toList):(SetTable.insertAt xs (SetTable.below xs j) j).toList.Pairwise (· < ·):=by
 obtain⟨a,b⟩:=ZaX r j;rw[qm,Mr];refine⟨r.sublist (Ng _ _),qB.mpr ⟨fun y hy=>?_,r.sublist (List.drop_sublist _ _)⟩,fun x hx y hy=>?_⟩
 ·obtain⟨k,hk⟩:=Xy.mp hy;rw[Xp] at hk;have:=(b _ _ hk);have ne:y≠j:=fun z=>h (z ▸ kZ hk);have:¬y<j:=fun z=>by have:=this.mpr z;lia
  lia
 ·obtain⟨k,hk⟩:=Xy.mp hx;have hkl:=(kz.mp hk).1;rw[kL] at hkl;rw[X0,km (by lia)] at hk;have xj:=(b _ _ hk).mp (by lia);rcases kO.mp hy with z | z
  ·rw[z];exact xj
  ·obtain⟨m,hm⟩:=Xy.mp z;rw[Xp] at hm;exact UD r hk hm (by lia)
def Rch (mask:Nat)(P:Nat->Prop)(h:Int)(j:Nat):Prop:=∃s,s<10*SetTable.turns mask/\pj mask h s=j /\ ∀m,m<s->P (pj mask h m)
theorem Rch.mono {mask:Nat}{P Q:Nat->Prop}{h:Int}{j:Nat}(k:∀x,P x->Q x)(r:Rch mask P h j):Rch mask Q h j:=let ⟨s,a,b,c⟩:=r;⟨s,a,b,fun m hm=>k _ (c m hm)⟩
structure TbG (t:SetTable)(hs:QG):Prop where
 dum:t.dummies = #[]
 rise:t.place.toList.Pairwise (· < ·)
 dom:∀j∈t.place.toList,j<=t.mask
 len:t.place.size=hs.length
 msk:t.mask=7∨t.mask=31∨t.mask=127
 few:hs.length*5<t.mask*3
 rch:∀(i j:Nat)(h:Int),t.place.toList[i]? = some j->hs[i]? = some h->Rch t.mask (· ∈ t.place.toList) h j
theorem TbG.fits {t:SetTable}{hs:QG}(x:TbG t hs):t.fits hs.length=true:=by unfold SetTable.fits SetTable.fill;have:=x.few;rw[x.len,x.dum];simp;lia
theorem TbG.free {t:SetTable}{hs:QG}(x:TbG t hs)(h:Int):∃s,s<10*SetTable.turns t.mask/\pj t.mask h s∉t.place.toList /\ ∀m,m<s->pj t.mask h m∈t.place.toList:=by have f:=x.few;obtain⟨j,hj,nj⟩:=ZiC x.rise x.dom (by rw[kY,x.len];lia);obtain⟨s,hs',e⟩:=cover x.msk h hj;obtain⟨s,a,b,c⟩:=Zhj (P:=fun s=>pj t.mask h s∉t.place.toList) _ ⟨s,hs',by rw[e];exact nj⟩;exact⟨s,a,b,fun m hm=>Decidable.not_not.mp (c m hm)⟩
theorem Zlp (mask:Nat)(h:Int):∀n,(stH mask h n).dummy=none
 | 0=>rfl
 | n+1=>by show (adv mask (stH mask h n)).dummy=none;unfold adv;split<;>exact Zlp mask h n
theorem Zhk {t:SetTable}{hashAt:Nat->Int}{h:Int}:∀(d fuel s0:Nat),d<fuel->(∀m,m<d -> ∃i,t.slot (pj t.mask h (s0+m)) = .live i/\(hashAt i==h)=false)->SetTable.probe.go t hashAt h fuel (stH t.mask h s0)=SetTable.probe.go t hashAt h (fuel-d) (stH t.mask h (s0+d))
 | 0,fuel,s0,_,_=>rfl
 | d+1,0,s0,hd,_=>by lia
 | d+1,fuel+1,s0,hd,H=>by
  obtain⟨i,e1,e2⟩:=H 0 (by lia)
  conv=>lhs;unfold SetTable.probe.go
  have e1':t.slot (stH t.mask h s0).j = .live i:=e1;rw[e1'];dsimp only;rw[e2,ki (by decide),ZpQ];have:=Zhk (t:=t) (hashAt:=hashAt) (h:=h) d fuel (s0+1) (by lia) fun m hm=>by
   have:=H (m+1) (by lia)
   rwa [show s0+(m+1)=s0+1+m by lia] at this
  show SetTable.probe.go t hashAt h fuel (stH t.mask h (s0+1))=_;rw[this,show fuel+1-(d+1)=fuel-d by lia,show s0+(d+1)=s0+1+d by lia]
theorem Zqd {l:List Nat}{x:Nat}(h:x∈l):∃i:Nat,l[i]? = some x:=Xy.mp h
theorem ZpI {t:SetTable}{hs:QG}(x:TbG t hs){h:Int}{se:Nat}(hse:se<10*SetTable.turns t.mask)(emp:pj t.mask h se∉t.place.toList)(liv:∀m,m<se->pj t.mask h m∈t.place.toList)(le:pj t.mask h se<=t.mask)(plain led:Bool):
  (t.put (pj t.mask h se)).2=SetTable.below t.place (pj t.mask h se)/\(t.put (pj t.mask h se)).1 = { t with place:=SetTable.insertAt t.place (SetTable.below t.place (pj t.mask h se)) (pj t.mask h se) }:=by
 refine⟨rfl,?_⟩;unfold SetTable.put;have:SetTable.has t.dummies (pj t.mask h se)=false:=by rw[x.dum];rfl
 dsimp only;rw[this,ki (by decide)]
theorem Zcc {α:Type}{l:List α}{p:Nat}{y:α}(hp:p<=l.length){i:Nat}{z:α}(e:(l.take p++y::l.drop p)[i]? = some z):(i=p/\z=y)∨(i<p/\l[i]? = some z)∨(p<i/\l[i-1]? = some z):=by
 have lt:(l.take p).length=p:=by rw[kL];lia
 by_cases c:i<p
 ·rw[KJ (by lia),X0,km c] at e;exact .inr (.inl ⟨c,e⟩)
 ·rw[Ko (by lia),lt] at e;by_cases d:i=p
  ·subst d;rw[TV] at e;exact .inl ⟨rfl,(by simpa using e.symm)⟩
  ·rw[show i-p=(i-p-1)+1 by lia,List.getElem?_cons_succ,Xp,show p+(i-p-1)=i-1 by lia] at e;exact .inr (.inr ⟨by lia,e⟩)
theorem ZqE {t:SetTable}{hs:QG}(x:TbG t hs){h:Int}{se:Nat}(hse:se<10*SetTable.turns t.mask)(emp:pj t.mask h se∉t.place.toList)(liv:∀m,m<se->pj t.mask h m∈t.place.toList)(le:pj t.mask h se<=t.mask)
  (few:(hs.length+1)*5<t.mask*3):TbG { t with place:=SetTable.insertAt t.place (SetTable.below t.place (pj t.mask h se)) (pj t.mask h se) } (hs.take (SetTable.below t.place (pj t.mask h se))++h::hs.drop (SetTable.below t.place (pj t.mask h se))):=by
 obtain⟨b1,b2⟩:=ZaX x.rise (pj t.mask h se);have hl:=x.len;have mem:∀y,y∈t.place.toList->y∈(SetTable.insertAt t.place (SetTable.below t.place (pj t.mask h se)) (pj t.mask h se)).toList:=fun y hy=>by
  rw[qm];rw[<- qz (SetTable.below t.place (pj t.mask h se)) t.place.toList] at hy;rcases Kk.mp hy with z | z
  ·exact Xe _ z
  ·exact KU _ (kU _ z)
 refine⟨x.dum,Zmq x.rise emp,fun j hj=>?_,?_,x.msk,?_,fun i j h' e1 e2=>?_⟩
 ·rw[qm] at hj;rcases Kk.mp hj with z | z
  ·exact x.dom j (Ms z)
  ·rcases kO.mp z with z | z
   ·rw[z];exact le
   ·exact x.dom j (List.mem_of_mem_drop z)
 ·rw[<- kY,qm];simp;lia
 ·simp only[kh,Kv,kL,Ks];lia
 ·rw[qm] at e1;dsimp only at e1 ⊢;rcases Zcc (by simpa using b1) e1 with⟨a,b⟩ | ⟨a,b⟩ | ⟨a,b⟩
  ·rcases Zcc (by lia) e2 with⟨c,d⟩ | ⟨c,d⟩ | ⟨c,d⟩
   ·rw[b,d];exact⟨se,hse,rfl,fun m hm=>mem _ (liv m hm)⟩
   ·lia
   ·lia
  ·rcases Zcc (by lia) e2 with⟨c,d⟩ | ⟨c,d⟩ | ⟨c,d⟩
   ·lia
   ·exact(x.rch i j h' b d).mono mem
   ·lia
  ·rcases Zcc (by lia) e2 with⟨c,d⟩ | ⟨c,d⟩ | ⟨c,d⟩
   ·lia
   ·lia
   ·exact(x.rch (i-1) j h' b d).mono mem
theorem ZoV (mask:Nat)(h:Int):∀n,(stH mask h n).i<=mask/\(stH mask h n).j+(stH mask h n).more=SetTable.runEnd mask (stH mask h n).i
 | 0=>by
  have:SetTable.bits h % (mask+1)<mask+1:=NZ _ (by lia);show SetTable.bits h % (mask+1)<=mask/\SetTable.bits h % (mask+1)+(SetTable.runEnd mask (SetTable.bits h % (mask+1))-SetTable.bits h % (mask+1))=_;refine⟨by lia,?_⟩;show _=SetTable.runEnd mask (SetTable.bits h % (mask+1));have:SetTable.bits h % (mask+1)<=SetTable.runEnd mask (SetTable.bits h % (mask+1)):=by unfold SetTable.runEnd;split<;>lia
  lia
 | n+1=>by
  obtain⟨a,b⟩:=ZoV mask h n;show (adv mask (stH mask h n)).i<=mask/\(adv mask (stH mask h n)).j+(adv mask (stH mask h n)).more=SetTable.runEnd mask (adv mask (stH mask h n)).i;unfold adv;split
  ·exact⟨a,by dsimp only;lia⟩
  ·dsimp only;have l:(SetTable.leap mask (stH mask h n).i (stH mask h n).perturb).1<mask+1:=NZ _ (by lia);generalize (SetTable.leap mask (stH mask h n).i (stH mask h n).perturb).1=v at *;refine⟨by lia,?_⟩;have:v<=SetTable.runEnd mask v:=by unfold SetTable.runEnd;split<;>lia
   lia
theorem Zm0 (mask:Nat)(h:Int)(n:Nat):pj mask h n<=mask:=by
 obtain⟨a,b⟩:=ZoV mask h n;unfold pj;have:SetTable.runEnd mask (stH mask h n).i<=mask:=by unfold SetTable.runEnd;split<;>lia
 lia
def occ (owner:Array (Option Nat))(j:Nat):Prop:=∃k,owner[j]? = some (some k)
theorem ZfV {owner:Array (Option Nat)}{j:Nat}(hj:j<owner.size):(owner.getD j (some 0)).isNone=true ↔ ¬occ owner j:=by
 have e:owner.getD j (some 0)=owner[j]:=by simp[Array.getD,hj]
 unfold occ;rw[e,qH hj];cases owner[j]<;>simp
theorem Zj0 {mask:Nat}{owner:Array (Option Nat)}(hsz:owner.size=mask+1)(h:Int):∀(fuel n s:Nat),s<=10*n->stH mask h s = { j:=(WU mask (SetTable.bits h) n).1,more:=SetTable.runEnd mask (WU mask (SetTable.bits h) n).1-(WU mask (SetTable.bits h) n).1,i:=(WU mask (SetTable.bits h) n).1,perturb:=(WU mask (SetTable.bits h) n).2,dummy:=none } ->
  (∀m,m<s->occ owner (pj mask h m))->(∃n0,n<=n0/\n0-n<fuel/\n0+1<SetTable.turns mask /\ ¬occ owner (WU mask (SetTable.bits h) n0).1) ->
  ∃z,SetTable.layClean.free mask owner fuel (WU mask (SetTable.bits h) n).1 (WU mask (SetTable.bits h) n).2=some (pj mask h z)/\z<10*SetTable.turns mask /\ ¬occ owner (pj mask h z) /\ ∀m,m<z->occ owner (pj mask h m)
 | 0,n,s,_,_,_,⟨n0,_,hf,_⟩=>by lia
 | fuel+1,n,s,hs,e,oc,⟨n0,a1,a2,a3,a4⟩=>by
  have lt:=ZlN mask (SetTable.bits h) n;have rl:=Zlx mask (WU mask (SetTable.bits h) n).1;have run:=ZiN e;have re:SetTable.runEnd mask (WU mask (SetTable.bits h) n).1<=mask/\(WU mask (SetTable.bits h) n).1<=SetTable.runEnd mask (WU mask (SetTable.bits h) n).1:=by unfold SetTable.runEnd;split<;>lia
  have pjr:∀k,k<=SetTable.runEnd mask (WU mask (SetTable.bits h) n).1-(WU mask (SetTable.bits h) n).1->pj mask h (s+k)=(WU mask (SetTable.bits h) n).1+k:=fun k hk=>by unfold pj;rw[run k hk]
  unfold SetTable.layClean.free;have nl:(WU mask (SetTable.bits h) (n+1))=SetTable.leap mask (WU mask (SetTable.bits h) n).1 (WU mask (SetTable.bits h) n).2:=rfl;cases q:(List.range (SetTable.runEnd mask (WU mask (SetTable.bits h) n).1+1-(WU mask (SetTable.bits h) n).1)).find? fun k=>(owner.getD ((WU mask (SetTable.bits h) n).1+k) (some 0)).isNone with
  | some k=>
   dsimp only;obtain⟨q1,q2,q3⟩:=List.find?_range_eq_some.mp q;have hk:k<SetTable.runEnd mask (WU mask (SetTable.bits h) n).1+1-(WU mask (SetTable.bits h) n).1:=by simpa using q2
   have e1:=pjr k (by lia);refine⟨s+k,by rw[e1],by lia,by rw[e1];exact(ZfV (by lia)).mp q1,fun m hm=>?_⟩;by_cases c:m<s
   ·exact oc m c
   ·have e2:=pjr (m-s) (by lia);rw[show s+(m-s)=m by lia] at e2;rw[e2];have:=q3 (m-s) (by lia);refine Xa fun z=>?_;rw[(ZfV (by lia)).mpr z] at this;cases this
  | none=>
   dsimp only;have q1:=List.find?_range_eq_none.mp q;have all:∀k,k<=SetTable.runEnd mask (WU mask (SetTable.bits h) n).1-(WU mask (SetTable.bits h) n).1->occ owner ((WU mask (SetTable.bits h) n).1+k):=fun k hk=>by have:=q1 k (by lia);refine Xa fun z=>?_;rw[(ZfV (by lia)).mpr z] at this;cases this
   have ne:n≠n0:=fun z=>by subst z;exact a4 (by have:=all 0 (by lia);simpa using this)
   obtain⟨s',e'⟩:∃s',s'=s+(SetTable.runEnd mask (WU mask (SetTable.bits h) n).1-(WU mask (SetTable.bits h) n).1)+1:=⟨_,rfl⟩;have st':stH mask h s' = { j:=(WU mask (SetTable.bits h) (n+1)).1,more:=SetTable.runEnd mask (WU mask (SetTable.bits h) (n+1)).1-(WU mask (SetTable.bits h) (n+1)).1,i:=(WU mask (SetTable.bits h) (n+1)).1,perturb:=(WU mask (SetTable.bits h) (n+1)).2,dummy:=none }:=by rw[e'];show adv mask (stH mask h _)=_;rw[run _ (kj _)];unfold adv;dsimp only;rw[ki (by lia)];rfl
   rw[<- nl];refine Zj0 hsz h fuel (n+1) s' (by lia) st' (fun m hm=>?_) ⟨n0,by lia,by lia,a3,a4⟩;by_cases c:m<s
   ·exact oc m c
   ·have e2:=pjr (m-s) (by lia);rw[show s+(m-s)=m by lia] at e2;rw[e2];exact all _ (by lia)
structure OC (mask:Nat)(owner:Array (Option Nat))(hs:QG):Prop where
 sz:owner.size=mask+1
 sur:∀i:Nat,i<hs.length -> ∃j:Nat,owner[j]? = some (some i)
 lt:∀j i:Nat,owner[j]? = some (some i)->i<hs.length
 one:∀j j' i:Nat,owner[j]? = some (some i)->owner[j']? = some (some i)->j=j'
 rch:∀(j i:Nat)(h:Int),owner[j]? = some (some i)->hs[i]? = some h->Rch mask (occ owner) h j
theorem OC.free {mask:Nat}{owner:Array (Option Nat)}{hs:QG}(x:OC mask owner hs)(hl:hs.length<=mask):∃j,j<=mask /\ ¬occ owner j:=by
 refine Xa fun c=>?_;have all:∀j,j<=mask->occ owner j:=fun j hj=>Xa fun z=>c ⟨j,hj,z⟩;have sz:=x.sz;have:=Wb hs.length ((List.range (mask+1)).map fun j=>(((owner.getD j none).getD 0:Nat):Int)) (by
  rw[qr,Xh];refine Nr ?_ (qr.mp Tt);intro a b ha hb ne e;obtain⟨k1,e1⟩:=all a (by have:=Kw.mp ha;lia);obtain⟨k2,e2⟩:=all b (by have:=Kw.mp hb;lia);have g1:owner.getD a none=some k1:=by simp[e1]
  have g2:owner.getD b none=some k2:=by simp[e2]
  rw[g1,g2] at e;have:k1=k2:=by
   have q:((k1:Nat):Int)=(k2:Nat):=by simpa using e
   lia
  subst this;exact ne (x.one a b k1 e1 e2)) (fun y hy=>by
  obtain⟨j,hj,rfl⟩:=KH.mp hy;obtain⟨k1,e1⟩:=all j (by have:=Kw.mp hj;lia);have g1:owner.getD j none=some k1:=by simp[e1]
  rw[g1];have:=x.lt j k1 e1;simp;lia)
 simp at this;lia
theorem Zn9 {mask:Nat}(hm:mask=7∨mask=31∨mask=127){owner:Array (Option Nat)}{hs:QG}(x:OC mask owner hs)(hl:hs.length<=mask)(h:Int):∃j,SetTable.layClean.free mask owner (SetTable.turns mask) (SetTable.bits h % (mask+1)) (SetTable.bits h)=some j/\OC mask (owner.setIfInBounds j (some hs.length)) (hs ++ [h]):=by
 obtain⟨j0,hj0,nj0⟩:=x.free hl;have key:∃n,n+1<SetTable.turns mask/\(WU mask (SetTable.bits h) n).1=j0:=by have lt:=ZlN mask (SetTable.bits h) 13;obtain⟨k,hk,e⟩:=Zsf hm _ lt j0 (by lia);exact⟨13+k,by unfold SetTable.turns;lia,by rw[Zin _ (Zjs h),e]⟩
 obtain⟨n0,hn0,en0⟩:=key;obtain⟨z,e,hz,nz,oc⟩:=Zj0 x.sz h (SetTable.turns mask) 0 0 (Kr _) rfl (fun m hm=>by lia) ⟨n0,by lia,by lia,hn0,by rw[en0];exact nj0⟩;have zd:=Zm0 mask h z;refine⟨pj mask h z,e,?_⟩;have sz:=x.sz;have get:∀j:Nat,(owner.setIfInBounds (pj mask h z) (some hs.length))[j]? = if j=pj mask h z then some (some hs.length) else owner[j]?:=fun j=>by
  rw[Array.getElem?_setIfInBounds];by_cases c:pj mask h z=j
  ·subst c;rw[km rfl,km (by lia),km rfl]
  ·rw[ki c,ki (fun q=>c q.symm)]
 have up:∀y,occ owner y->occ (owner.setIfInBounds (pj mask h z) (some hs.length)) y:=fun y ⟨k,hk⟩=>by
  unfold occ;rw[get];split
  ·exact⟨_,rfl⟩
  ·exact⟨k,hk⟩
 have old:∀j i:Nat,(owner.setIfInBounds (pj mask h z) (some hs.length))[j]? = some (some i)->(j=pj mask h z/\i=hs.length)∨(j≠pj mask h z/\owner[j]? = some (some i)):=fun j i q=>by
  rw[get] at q;split at q
  ·exact .inl ⟨by assumption,by simpa using q.symm⟩
  ·exact .inr ⟨by assumption,q⟩
 refine⟨by rw[Array.size_setIfInBounds];exact sz,fun i hi=>?_,fun j i q=>?_,fun j j' i q q'=>?_,fun j i h' q q'=>?_⟩
 ·rw[kh,Kf] at hi;by_cases c:i=hs.length
  ·exact⟨pj mask h z,by rw[get,km rfl,c]⟩
  ·obtain⟨j,hj⟩:=x.sur i (by lia);refine⟨j,?_⟩;rw[get,ki (fun q=>nz ⟨i,by rw[<- q];exact hj⟩)];exact hj
 ·rw[kh,Kf];rcases old j i q with⟨_,c⟩ | ⟨_,c⟩
  ·lia
  ·have:=x.lt j i c;lia
 ·rcases old j i q with⟨a,c⟩ | ⟨a,c⟩<;>rcases old j' i q' with⟨b,d⟩ | ⟨b,d⟩
  ·rw[a,b]
  ·have:=x.lt j' i d;lia
  ·have:=x.lt j i c;lia
  ·exact x.one j j' i c d
 ·rcases old j i q with⟨a,c⟩ | ⟨a,c⟩
  ·subst a c;rw[Ko (kj _),TV] at q';have:h'=h:=by simpa using q'.symm
   subst this;exact⟨z,hz,rfl,fun m hm=>up _ (oc m hm)⟩
  ·have:=x.lt j i c;rw[KJ this] at q';exact(x.rch j i h' c q').mono up
theorem ZqW (mask:Nat):OC mask (Array.replicate (mask+1) none) []:=by
 have no:∀(j i:Nat),(Array.replicate (mask+1) (none:Option Nat))[j]? ≠ some (some i):=fun j i q=>by rw[Array.getElem?_replicate] at q;split at q<;>simp at q
 exact⟨by simp,fun i hi=>by simp at hi,fun j i q=>absurd q (no j i),fun j j' i q=>absurd q (no j i),fun j i h q=>absurd q (no j i)⟩
theorem Zlu {mask:Nat}(hm:mask=7∨mask=31∨mask=127):∀(rest done:QG)(owner:Array (Option Nat)),OC mask owner done->done.length+rest.length<=mask ->
  ∃o',(rest.foldl (fun acc h=>do
   let (owner,k) <- acc
   let j <- SetTable.layClean.free mask owner (SetTable.turns mask) (SetTable.bits h % (mask+1)) (SetTable.bits h)
   pure (owner.setIfInBounds j (some k),k+1)) (some (owner,done.length)))=some (o',done.length+rest.length)/\OC mask o' (done++rest)
 | [],done,owner,x,_=>⟨owner,rfl,by rw[qe];exact x⟩
 | h::rest,done,owner,x,hl=>by
  rw[Kv] at hl;obtain⟨j,e,x'⟩:=Zn9 hm x (by lia) h;obtain⟨o',e',y⟩:=Zlu hm rest (done ++ [h]) _ x' (by simp;lia);refine⟨o',?_,by simpa using y⟩;rw[List.foldl_cons];have:(do
   let (owner,k) <- (some (owner,done.length):Option (Array (Option Nat)×Nat))
   let j <- SetTable.layClean.free mask owner (SetTable.turns mask) (SetTable.bits h % (mask+1)) (SetTable.bits h)
   pure (owner.setIfInBounds j (some k),k+1))=some (owner.setIfInBounds j (some done.length),(done ++ [h]).length):=by
   show (SetTable.layClean.free mask owner (SetTable.turns mask) (SetTable.bits h % (mask+1)) (SetTable.bits h) >>= fun j=>pure (owner.setIfInBounds j (some done.length),done.length+1))=_;rw[e];simp
  rw[this,e'];simp;lia
theorem Znc {mask:Nat}(hm:mask=7∨mask=31∨mask=127)(hs:QG)(hl:hs.length<=mask):∃o',SetTable.layClean mask hs.toArray=some o'/\OC mask o' hs:=by obtain⟨o',e,x⟩:=Zlu hm hs [] _ (ZqW mask) (by simpa using hl);refine⟨o',?_,by simpa using x⟩;unfold SetTable.layClean;rw[<- Array.foldl_toList];have e2:(hs.foldl _ (some (Array.replicate (mask+1) none,0)))=_:=e;show Option.map _ (hs.foldl _ _)=_;rw[e2];rfl
def liv (owner:Array (Option Nat))(l:List Nat):List (Nat×Nat):=l.filterMap fun j=>(owner.getD j none).map (j,·)
theorem Zab {owner:Array (Option Nat)}{l:List Nat}{j k:Nat}:(j,k)∈liv owner l ↔ j∈l/\owner[j]? = some (some k):=by
 unfold liv;rw[K0];constructor
 ·rintro⟨a,ha,e⟩;obtain⟨b,hb,e2⟩:=Ke.mp e;have:a=j/\b=k:=by simpa using e2
  obtain⟨rfl,rfl⟩:=this;refine⟨ha,?_⟩;by_cases c:a<owner.size
  ·simp[Array.getD,c] at hb;rw[qH c,hb]
  ·simp[Array.getD,c] at hb
 ·rintro⟨ha,e⟩;exact⟨j,ha,by simp[e]⟩
theorem Zb1 (owner:Array (Option Nat)):∀l:List Nat,((liv owner l).map (·.1)).Sublist l
 | []=>.slnil
 | a::l=>by
  unfold liv;rw[K7];cases (owner.getD a none) with
  | none=>exact(Zb1 owner l).cons _
  | some k=>exact(Zb1 owner l).cons₂ _
theorem Zcd {α:Type}{es:List α}{order:List Nat}(p:order.Perm (List.range es.length)):(order.filterMap (es[·]?)).Perm es:=by
 refine(p.filterMap _).trans ?_;have:∀l:List α,(List.range l.length).filterMap (l[·]?)=l:=fun l=>by
  refine Nk fun i=>?_;have key:∀n,n<=l.length->(List.range n).filterMap (l[·]?)=l.take n:=by
   intro n
   induction n with
   | zero=>intro _;simp
   | succ n ih=>
    intro h;rw[KR,Tf,ih (by lia),Ki];simp[ko (show n<l.length by lia)]
  rw[key _ (kj _),kJ (kj _)]
 rw[this]
theorem Zkc {α:Type}{es:List α}:∀{order:List Nat},(∀k∈order,k<es.length) -> ∀{i k:Nat},order[i]? = some k->(order.filterMap (es[·]?))[i]? = es[k]?
 | [],_,i,k,e=>by simp at e
 | a::order,h,i,k,e=>by
  have ha:=h a kS;rw[K7,ko ha];cases i with
  | zero=>simp at e;subst e;simp[ko ha]
  | succ i=>simpa using Zkc (order:=order) (fun k hk=>h k (kU _ hk)) (i:=i) (k:=k) (by simpa using e)
theorem Zmu (t:SetTable)(hs:QG){mk:Nat}(hm:mk=31∨mk=127)(hl:hs.length*5<mk*3){wanted:Nat}(hw:SetTable.sizeAbove wanted=mk+1):∃(t':SetTable)(order:Array Nat),t.relaid hs.toArray wanted=some (t',order)/\order.toList.Perm (List.range hs.length)/\TbG t' (order.toList.filterMap (hs[·]?))/\t'.led=t.led/\t'.plain=t.plain:=by
 obtain⟨o',e,x⟩:=Znc (mask:=mk) (.inr hm) hs (by lia);have sz:=x.sz;have pm:((liv o' (List.range (mk+1))).map (·.2)).Perm (List.range hs.length):=by
  refine(List.perm_ext_iff_of_nodup ?_ Tt).mpr fun k=>?_
  ·rw[qr,Xh];have nd:((liv o' (List.range (mk+1))).map (·.1)).Nodup:=Tt.sublist (Zb1 o' _);rw[qr,Xh] at nd;refine nd.imp_of_mem ?_;rintro⟨a,ka⟩ ⟨b,kb⟩ ha hb ne z;dsimp only at z ne;subst z;exact ne (x.one a b ka (Zab.mp ha).2 (Zab.mp hb).2)
  ·rw[KH,Kw];constructor
   ·rintro⟨⟨a,ka⟩,ha,rfl⟩;exact x.lt a ka (Zab.mp ha).2
   ·intro hk;obtain⟨j,hj⟩:=x.sur k hk;refine⟨(j,k),Zab.mpr ⟨Kw.mpr ?_,hj⟩,rfl⟩;have:=(qt.mp hj).1;lia
 refine⟨{ mask:=mk,place:=((liv o' (List.range (mk+1))).map (·.1)).toArray,dummies:=#[],finger:=t.finger,led:=t.led,moves:=t.movedTo mk,plain:=t.plain },((liv o' (List.range (mk+1))).map (·.2)).toArray,?_,pm,?_,rfl,rfl⟩
 ·unfold SetTable.relaid;rw[hw];unfold SetTable.laid;show (SetTable.layClean mk hs.toArray >>= fun owner=>_)=_;rw[e];rfl
 ·have ll:(liv o' (List.range (mk+1))).length=hs.length:=by have:=pm.length_eq;simpa using this
  have slen:=(Zcd (es:=hs) pm).length_eq;have occm:∀y,occ o' y ↔ y∈(liv o' (List.range (mk+1))).map (·.1):=fun y=>by
   rw[KH];constructor
   ·rintro⟨k,hk⟩;refine⟨(y,k),Zab.mpr ⟨Kw.mpr ?_,hk⟩,rfl⟩;have:=(qt.mp hk).1;lia
   ·rintro⟨⟨a,k⟩,ha,rfl⟩;exact⟨k,(Zab.mp ha).2⟩
  refine⟨rfl,?_,fun j hj=>?_,?_,.inr hm,?_,fun i j h e1 e2=>?_⟩
  ·show ((liv o' (List.range (mk+1))).map (·.1)).Pairwise _;exact List.pairwise_lt_range.sublist (Zb1 o' _)
  ·have hj:j∈(liv o' (List.range (mk+1))).map (·.1):=hj;have:=(Zb1 o' (List.range (mk+1))).subset hj;have:=Kw.mp this;show j<=mk;lia
  ·show ((liv o' (List.range (mk+1))).map (·.1)).toArray.size=(((liv o' (List.range (mk+1))).map (·.2)).toArray.toList.filterMap (hs[·]?)).length;rw[kr,ke,ll];exact slen.symm
  ·show (((liv o' (List.range (mk+1))).map (·.2)).toArray.toList.filterMap (hs[·]?)).length*5<mk*3;rw[slen];lia
  ·have e1:((liv o' (List.range (mk+1))).map (·.1))[i]? = some j:=e1;have e2:(((liv o' (List.range (mk+1))).map (·.2)).filterMap (hs[·]?))[i]? = some h:=e2;rw[kF] at e1;obtain⟨⟨a,k⟩,ha,rfl⟩:=Ke.mp e1;rw[Zkc (fun k hk=>by have:=pm.mem_iff.mp hk;exact Kw.mp this) (i:=i) (k:=k) (by rw[kF,ha];rfl)] at e2;have:=x.rch a k h (Zab.mp (kZ ha)).2 e2;exact this.mono fun y hy=>(occm y).mp hy
section
variable {prog:Program}{w:World}{A:Around}{E:QE}{s:Shared}
theorem ZdS {α β:Type}{F:α -> β -> Prop}{l:List α}{r:List β}(p:Paired F l r):∀order:List Nat,Paired F (order.filterMap (l[·]?)) (order.filterMap (r[·]?))
 | []=>.nil
 | k::order=>by
  have ih:=ZdS p order;have hl:=qj p;have get:∀{l:List α}{r:List β},Paired F l r -> ∀{i:Nat}{x:α}{y:β},l[i]? = some x->r[i]? = some y->F x y:=by
   intro l r p
   induction p with
   | nil=>intro i x y e;simp at e
   | cons a _ ih=>
    intro i x y e1 e2;cases i with
    | zero=>simp at e1 e2;subst e1 e2;exact a
    | succ i=>exact ih (by simpa using e1) (by simpa using e2)
  rw[K7,K7];by_cases c:k<l.length
  ·rw[ko c,ko (by lia:k<r.length)];exact .cons (get p (ko c) (ko (by lia))) ih
  ·rw[Md (by lia),Md (by lia:r.length<=k)];exact ih
set_option maxHeartbeats 6400000 in
theorem Zmr (led:Bool):TbG (.fresh 0 0 led) []:=⟨rfl,.nil,(fun j h=>by cases h),rfl,.inl rfl,(by show 0*5<7*3;decide),(fun i j h e=>by simp[SetTable.fresh] at e)⟩
end
def SWt (prog:Program)(w:World)(a:Addr)(ks:QA)(ep:Nat)(es:Array (Int×Value))(t:SetTable)(h:Heap):Prop:=
 ∃o,h.get? a=some o/\o.ExactSet/\o.data = .set es ep t/\(w.params.followText "set-order" = true∨t.led=true)/\t.plain=true/\TbG t (es.toList.map (·.1))
def slP (pl:List Nat):Nat->Nat
 | 0=>0
 | i+1=>pl.getD i 0+1
theorem Znk {xs:Array Nat}(r:xs.toList.Pairwise (· < ·)){i:Nat}(hi:i<=xs.size):SetTable.below xs (slP xs.toList i)=i:=by
 obtain⟨a,b⟩:=ZaX r (slP xs.toList i);have key:∀(k x:Nat),xs.toList[k]? = some x->(x<slP xs.toList i ↔ k<i):=fun k x e=>by
  cases i with
  | zero=>exact⟨fun z=>absurd z (N8 _),fun z=>absurd z (N8 _)⟩
  | succ i=>
   have hl:i<xs.toList.length:=by rw[kY];lia
   have e2:xs.toList[i]? = some xs.toList[i]:=ko hl;have e3:slP xs.toList (i+1)=xs.toList[i]+1:=by show xs.toList.getD i 0+1=_;rw[Kh,e2];rfl
   rw[e3];rcases Nj k i with z | z | z
   ·have:=UD r e e2 z;lia
   ·subst z;rw[e2] at e;cases e;lia
   ·have:=UD r e2 e z;lia
 rcases Nj (SetTable.below xs (slP xs.toList i)) i with z | z | z
 ·have hl:SetTable.below xs (slP xs.toList i)<xs.toList.length:=by rw[kY];lia
  have e:=ko hl;have:=(b _ _ e).mpr ((key _ _ e).mpr z);lia
 ·exact z
 ·have hl:i<xs.toList.length:=by rw[kY];lia
  have e:=ko hl;have:=(key _ _ e).mp ((b _ _ e).mp z);lia
def ZhJ (w:World)(t:SetTable)(i:Nat):Nat:=if w.params.followText "set-order" = true then 0 else slP t.place.toList i
section
variable {prog:Program}{w:World}{A:Around}{E:QE}{s:Shared}{a it:Addr}{ks:QA}{ep i:Nat}{es:Array (Int×Value)}{t:SetTable}
theorem SWt.kept {h h':Heap}(x:SWt prog w a ks ep es t h)(k:∀o,h.get? a=some o->h'.get? a=some o):SWt prog w a ks ep es t h':=let ⟨o,e,r⟩:=x;⟨o,k o e,r⟩
theorem SWt.fits {h:Heap}(x:SWt prog w a ks ep es t h):t.fits es.size=true:=by obtain⟨_,_,_,_,_,_,tg⟩:=x;have:=tg.fits;simpa using this
theorem SWt.sz {h:Heap}(x:SWt prog w a ks ep es t h):t.place.size=es.size:=by obtain⟨_,_,_,_,_,_,tg⟩:=x;have:=tg.len;simpa using this
theorem Zsg {Q:Option (Value×Nat)->Shared->Prop}(x:SWt prog w a ks ep es t s.heap)(hi:i<=es.size)(h:Q (((ZbW w a ep es)[i]?).map fun e=>(e.2,ZhJ w t (i+1))) s):wpAny (model prog w) A (setNext a (ZhJ w t i) i ep) Q E s:=by
 have sz:=x.sz;have ft:=x.fits;obtain⟨o,ho,hex,hd,hl,hpl,tg⟩:=id x;unfold setNext;refine kg (Te ho hd ft ?_);dsimp only;unfold setsByText;refine kg (kg (XH (kH ?_)));show wpAny _ _ (if w.params.followText "set-order" = true then _ else _) _ _ s;by_cases ht:w.params.followText "set-order" = true
 ·rw[km ht];unfold ZbW ZhJ at h;rw[km ht,km ht] at h;rw[ki (by simp)];refine kg ?_;unfold setWalk setsByText;refine kg (Te ho hd ft ?_);dsimp only;refine kg (kg (XH (kH ?_)));show wpAny _ _ (if w.params.followText "set-order" = true then _ else _) _ _ s;rw[km ht];refine kg (XH (kH (kH ?_)));unfold ZhJ;rw[km ht];exact h
 ·rw[ki ht];unfold ZbW ZhJ at h;rw[ki ht,ki ht] at h;have hl2:t.led=true:=by
   rcases hl with q | q
   ·exact absurd q ht
   ·exact q
  refine Xu (fun q=>absurd q (by show ¬((!t.plain&&_)=true);rw[hpl];simp)) fun _=>?_
  refine kg (TB (a:=()) (by show (if (!t.led && !es.isEmpty)=true then _ else pure ())=_;rw[hl2,ki (by simp)]) ?_)
  unfold ZhJ;rw[ki ht];refine kH ?_;rw[Znk tg.rise (by lia)];by_cases hlt:i<es.size
  ·rw[qH hlt] at h ⊢;have hp:i<t.place.size:=by lia
   rw[qH hp];dsimp only;have e3:slP t.place.toList (i+1)=t.place[i]+1:=by show t.place.toList.getD i 0+1=_;rw[Kh,qd,qH hp];rfl
   rw[<- e3];exact h
  ·rw[N1 (by lia)] at h ⊢;exact h
theorem ZrA:PySem.W.KdlSrc prog w "set" a a es.size (fun i v=>∃e,(ZbW w a ep es)[i]? = some e/\v=e.2) (fun h=>SWt prog w a ks ep es t h):=
 Wlk.src (f:=ZhJ w t) ⟨fun x=>let ⟨o,e,c,d,_,p,_⟩:=id x;⟨o,t,e,c,d,x.fits,p⟩,fun x k=>x.kept k,by unfold ZhJ;split<;>rfl,fun x hi q=>Zsg x hi q⟩
end
end L2
namespace L2
open PySem PyProof.Rows
section
variable {X:Cx}
theorem ZkJ {K:QF}{a:Expr}{ta:TE}(hk:X.K=K)(h:PT X a (fun σ H Q=>ta σ H fun x H'=>Zmy X.K x H' Q)):PT X a (fun σ H Q=>ta σ H fun x H'=>Zmy K x H' Q):=hk ▸ h
end
open PySem PySem.Spec PyProof.Rows
end L2
namespace L2
open PySem PySem.Spec PyProof.Rows
theorem Zle (its:QJ):slicePick its.toArray none none (some (-1))=its.reverse.toArray:=by
 unfold slicePick sliceBounds sliceRange;simp only[Option.getD_some,kr];rw[ki (show ¬((-1:Int)>0) by decide),ki (show ¬((-1:Int)>0) by decide),ki (show ¬((-1:Int)>0) by decide)];congr 1;have ec:(if (its.length:Int)-1 > -1 then((its.length:Int)-1 - -1 - -1-1) / (- -1) else 0).toNat=its.length:=by rw[show (- -1:Int)=1 from rfl,Int.ediv_one];split<;>lia
 rw[ec,ML];have key:∀k,k<=its.length->(List.filterMap ((fun(x:Nat)=>its.toArray[x]?) ∘ fun(m:Nat)=>((its.length:Int)-1+(-1)*(m:Int)).toNat) (List.range k))=its.reverse.take k:=by
  intro k
  induction k with
  | zero=>intro _;rfl
  | succ k ih=>
   intro hk;rw[KR,Tf,ih (by lia),Ki];congr 1;have e1:((its.length:Int)-1+(-1)*(k:Int)).toNat=its.length-1-k:=by lia
   have e2:its.reverse[k]? = its[its.length-1-k]?:=List.getElem?_reverse (by lia);rw[e2,K7,List.filterMap_nil];have e3:((fun(x:Nat)=>its.toArray[x]?) ∘ fun(m:Nat)=>((its.length:Int)-1+(-1)*(m:Int)).toNat) k=its[its.length-1-k]?:=by show its.toArray[((its.length:Int)-1+(-1)*(k:Int)).toNat]? = _;rw[e1,List.getElem?_toArray]
   rw[e3];cases its[its.length-1-k]?<;>rfl
 have:=key its.length (kj _);rw[this,kJ (by simp)]
section
variable {X:Cx}
inductive Zls(K:QF)(Q:VK)(x:V)(H1:Hp):Prop|mk(a xs)(_:x = .ref a)(_:Zt K H1 a xs)(_:∀p,H1 p=none->Q (.ref p) (upd H1 p (.lst xs.reverse)))
def Zr0 (K:QF)(te:TE):TE:=fun σ H Q=>te σ H fun x H1=>Zls K Q x H1
theorem Zjo {K:QF}{e:Expr}{te:TE}{p2 p3 p4 pos:Pos}{j:Nat}(hk:X.K=K)(he:PE X e te):PE X (.Subscript e (.Slice none none (some (.UnaryOp .USub (.Constant (.int 1) j p3) p4)) p2) pos) (Zr0 K te):=by subst hk;intro pins s σ H Q I h;refine Subscript_ (YN (he pins s σ H _ I h) fun v s1 ⟨x,H1,I1,r1,q1⟩=>Mh ?_);rw[Tv];refine kH (kH ?_);rw[evalPart_some];refine YN ((Ug (X:=X) Wm Ze) pins s1 σ H1 (fun v H2=>v = .int (-1)/\H2=H1) I1 ⟨1,rfl,rfl,rfl⟩) fun u s2 ⟨y,H2,I2,r2,ey,eH⟩=>?_;subst ey eH;obtain⟨tk,rfl⟩:=r2;obtain⟨a,xs,rfl,hx,q⟩:=q1;cases r1;have I3:Inv X pins σ H2 { s2 with heap:=s2.heap.push { cls:=.type "slice", data:=.fields #[.none,.none,.int (-1) tk] } }:=I2.kept (t':=s2.toks) fun b ob q=>kC _ q;obtain⟨its,r,ht,hz⟩:=I3.list hx;have hlen:=r.length;refine tail_any (ops:=[.ref a,.ref s2.heap.objs.size]) ht.isList.typeIs Ni.lookup (Q:=EP X pins σ Q) ?_ (by with_unfolding_all rfl);refine Nn (st:=some (-1)) ht.isList (XW ..) .none .none (.int (-1) _) (by decide) ?_ (by rw[kr]<;>lia);rw[Zle];refine⟨.ref _,_,I3.laid (t':=s2.toks) (o:=.lst xs.reverse) (fun b ob q=>kC _ q) (kj _) ?_,rfl,q _ (I3.hok.fresh (kj _))⟩;exact⟨by rw[TU];lia,_,0,r.rev,Kl _ rfl⟩
inductive ZmO(K:QF)(x y:V)(H:Hp)(Q:VK):Prop|mk(p q:Addr)(xs:QH)(_:x = .ref p)(_:y = .ref q)(_:Zt K H p xs)(_:Zt K H q [])(_:Q (.bl xs.isEmpty) H)
theorem ZkA {K:QF}(h:X.K=K)(hu:X.A.units+64<cLine):Us X (compareOp .Eq) (ZmO K):=by
 subst h;intro pins s σ H x y v u Q I rx ry h;obtain⟨p,q,xs,rfl,rfl,hp,hq,hQ⟩:=h;cases rx;cases ry;obtain⟨its,r1,p1,_⟩:=I.list hp;obtain⟨its2,r2,p2,_⟩:=I.list hq;have l1:=r1.length;have l2:its2.length=0:=by simpa using r2.length.symm
 cases xs with
 | nil=>
  have l3:its.length=0:=by simpa using l1.symm
  refine SeqAt.eq_listAt (e:=fun _=>true) p1.isList p2.isList (by simp only[kr];lia) (by lia) (fun j h1 _=>by simp only[kr] at h1;lia) ⟨.bl true,H,I,?_,hQ⟩;show Value.bool _=Value.bool true;simp
 | cons z zs=>
  have l3:its.length=zs.length+1:=by simpa using l1.symm
  exact SeqAt.eq_list_lengthsAt p1.isList p2.isList (by simp only[kr,Ts];lia) (by lia) ⟨.bl false,H,I,rfl,hQ⟩
end
theorem Zeo {H:Hp}:∀{vs:QH}(F:V->Lit->Prop),(∀v∈vs,∃l,J9 H v l/\F v l) -> ∃ls,Jv H vs ls/\vs.length=ls.length /\ ∀l∈ls,∃v∈vs,F v l
 | [],F,_=>⟨[],.nil,rfl,fun _ h=>(nomatch h)⟩
 | v::vs,F,h=>by
  obtain⟨l,h1,h2⟩:=h v kS;obtain⟨ls,g1,g2,g3⟩:=Zeo (vs:=vs) F fun u hu=>h u (kU _ hu);refine⟨l::ls,.cons h1 g1,by rw[Kv,Kv,g2],fun m hm=>?_⟩;rcases kO.mp hm with e | hm
  ·subst e;exact⟨v,kS,h2⟩
  ·obtain⟨u,hu,q⟩:=g3 m hm;exact⟨u,kU _ hu,q⟩
end L2
namespace L2
open PySem PySem.Spec PyProof.Rows MeetsSeq3
section
variable {l b:Addr}{us vs:QY}{m n:Nat}{p q:Option Addr}{sl st:Array (Option Value)}{xs ys:QG}
theorem Zmp (hx:IntsAre us.toList xs)(hy:IntsAre vs.toList ys):∀k i:Nat,i+k=min xs.length ys.length->Meets (Builtin.«list.__eq__.loop» ⟨[.ref l,.ref b,rawInt i,rawInt 0],[]⟩)
  (fun A R s=>(s.heap.get? l=some ⟨.type "list", p,.seq us m,sl⟩/\s.heap.get? b=some ⟨.type "list", q,.seq vs n,st⟩)/\R (.ok (.ret (.bool (lexLt (xs.drop i) (ys.drop i))))) s):=by
 have lu:us.size=xs.length:=kY.symm.trans (IntsAre.length hx);have lv:vs.size=ys.length:=kY.symm.trans (IntsAre.length hy);intro k
 induction k with
 | zero=>
  rintro i hi prog w A R ⟨hp,g,d,tk,os⟩ ⟨⟨hl,hb⟩,h⟩;rw[ZkS (by lia),show decide (xs.length-i<ys.length-i)=decide (us.size<vs.size) from qX.mpr ⟨fun z=>by lia,fun z=>by lia⟩] at h
  wp_walk
  have no:us[((i:Nat):Int).toNat]? = none∨vs[((i:Nat):Int).toNat]? = none:=by simp;lia
  cases e1:us[((i:Nat):Int).toNat]? with
  | none=>
   wp_walk
   exact h
  | some _=>
   cases e2:vs[((i:Nat):Int).toNat]? with
   | none=>
    wp_walk
    exact h
   | some _=>
    rw[e1,e2] at no;rcases no with no | no<;>cases no
 | succ k ih=>
  rintro i hi prog w A R ⟨hp,g,d,tk,os⟩ ⟨⟨hl,hb⟩,h⟩;have i1:i<us.size:=by lia
  have i2:i<vs.size:=by lia
  obtain⟨t1,e1⟩:=ints_get hx i (by simpa using i1) (by lia);obtain⟨t2,e2⟩:=ints_get hy i (by simpa using i2) (by lia);have g1:us[((i:Nat):Int).toNat]? = some (.int (xs[i]'(by lia)) t1):=by rw[<- e1];simp[i1]
  have g2:vs[((i:Nat):Int).toNat]? = some (.int (ys[i]'(by lia)) t2):=by rw[<- e2];simp[i2]
  rw[ZlV (by lia) (by lia)] at h
  wp_walk
  rw[g1,g2];refine kg (wpAny_eqBool_int ?_);by_cases z:xs[i]'(by lia)=ys[i]'(by lia)
  ·rw[km z] at h;rw[NX.mpr z]
   wp_walk
   refine⟨Tx plain_eq_loop _,Xc entry_eq_loop ?_⟩;rw[qP plain_eq_loop _];exact ih (i+1) (by lia) prog w A R _ ⟨⟨hl,hb⟩,h⟩
  ·rw[ki z] at h;rw[qF.mpr z]
   wp_walk
   rw[g1,g2];refine kg (wpAny_lt_int ?_)
   wp_walk
   exact h
theorem Zft (hx:IntsAre us.toList xs)(hy:IntsAre vs.toList ys):Meets (Builtin.«list.__lt__» ⟨[.ref l,.ref b],[]⟩)
  (fun A R s=>(s.heap.get? l=some ⟨.type "list", p,.seq us m,sl⟩/\s.heap.get? b=some ⟨.type "list", q,.seq vs n,st⟩)/\R (.ok (.ret (.bool (lexLt xs ys)))) s):=by
 rintro prog w A R ⟨hp,g,d,tk,os⟩ ⟨⟨hl,hb⟩,h⟩;have su:=AutoSeq1.sub_list_list
 wp_walk
 refine⟨Tx plain_eq_loop _,Xc entry_eq_loop ?_⟩;rw[qP plain_eq_loop _];exact Zmp hx hy _ 0 (XI _) prog w A R _ ⟨⟨hl,hb⟩,h⟩
end
section
variable {prog:Program}{w:World}{A:Around}{E:QE}{s:Shared}{a b:Addr}{xs ys:QG}
theorem ZhW {c:Bool}{Q:Bool->Shared->Prop}(ha:Gi "list" s.heap a xs)(hb:Gi "list" s.heap b ys)(hu:A.units<cLine)(h:Q (lexLt xs ys) s):wpAny (model prog w) A (oneLt' c (.ref a) (.ref b)) Q E s:=by
 obtain⟨_,_,_,_,e,i⟩:=ha;obtain⟨_,_,_,_,e2,i2⟩:=hb;rw[oneLt'_eq];cases c with
 | false=>exact kg (richCompare_meets_room (op:=.Lt) ⟨_,e,rfl⟩ ⟨_,e2,rfl⟩ Mt F.entry_list_lt (F.args_list_lt_2 _ _) (Zft i i2) ⟨⟨e,e2⟩,⟨(fun x=>nomatch x),KZ h⟩⟩ hu)
 | true=>exact kg (wpAny_cRoomFor hu (kg (wpAny_callSpecialIfBound?_slot (T := "list") ⟨_,e,rfl⟩ Mt (Tq Mt ⟨_,e,rfl⟩ F.entry_list_lt (F.args_list_lt_2 _ _) (Zft i i2) ⟨⟨e,e2⟩,kg (KZ (kH h))⟩))))
def Kd2 (kd:SortKind):Prop:=kd=general'∨kd=oneType'
theorem Zkn {kd:SortKind}(hkd:Kd2 kd)(hu:A.units<cLine):Cmp prog w A E s kd (DS "list" s) (ltW s) where
 wo:=⟨fun p=>Zjc _,fun p q h=>Zhr _ _ h,fun p q r h=>Zkg _ _ _ h⟩
 cmp:=fun p q st Q ⟨a,ks,e1,h1⟩ ⟨b,js,e2,h2⟩ hk h=>by
  unfold ltW at h;rw[e1,e2,h1.key,h2.key] at h;rw[lt'_eq];refine Kx (wpS_get ?_);rw[hk,e1,e2];refine Kx (wpS_lift (MG ?_));rcases hkd with rfl | rfl
  ·exact ZhW (c:=false) h1 h2 hu (by exact⟨rfl,KQ h⟩)
  ·exact ZhW (c:=true) h1 h2 hu (by exact⟨rfl,KQ h⟩)
theorem Zdk {M:Model}:∀(vs:QJ){Q:List (Option Value)->Shared->Prop},(∀v∈vs,∃a ks,v = .ref a/\Gi "list" s.heap a ks)->(∀fs:List (Option Value),(∀f∈fs,f=none)->fs.length=vs.length->Q fs s)->wpAny M A (vs.mapM firstOfTuple') Q E s
 | [],Q,_,h=>by rw[List.mapM_nil];exact kH (h [] (fun f hf=>by cases hf) rfl)
 | v::vs,Q,hv,h=>by
  obtain⟨a,ks,rfl,ws,dd,n,sl,e,i⟩:=hv v kS;rw[List.mapM_cons];refine kg ?_;rw[W.kas_first_eq];refine kg (qL (T := "list") ⟨_,e,rfl⟩ ?_);rw[km (by first | decide | simp)];refine kH ?_;refine kg (Zdk vs (fun v hv'=>hv v (kU _ hv')) fun fs hfs hl=>kH (h _ (fun f hf=>?_) (by simp[hl])));rcases kO.mp hf with rfl | hf
  ·rfl
  ·exact hfs f hf
theorem ZiS {M:Model}{vs:QJ}{Q:SortKind->Shared->Prop}(hne:vs ≠ [])(hv:∀v∈vs,∃a ks,v = .ref a/\Gi "list" s.heap a ks)(h:∀kd,Kd2 kd->Q kd s):wpAny M A (keyKind' vs.toArray) Q E s:=by
 rw[kat_kind_eq,List.mapM_toArray,map_eq_pure_bind];refine kg (kg (Zdk vs hv fun fs hfs hfl=>kH ?_));have n0:∃rest,fs=none::rest:=by
  cases fs with
  | nil=>exact absurd (List.eq_nil_of_length_eq_zero hfl.symm) hne
  | cons f r=>exact⟨r,by rw[hfs f kS]⟩
 obtain⟨rest,rfl⟩:=n0;refine Xu (fun q=>?_) (fun _=>Xu (fun _=>kH (h _ (.inl rfl))) fun _=>?_)
 ·exfalso;simp at q
 ·rw[oneTypeOnly'_eq,List.mapM_toArray,map_eq_pure_bind];refine kg (kg (kg (W.kas_mapM (r:=.type "list") _ (fun v hv' Q' hq=>?_) (kH ?_))))
  ·obtain⟨a,ks,rfl,ws,dd,n,sl,e,i⟩:=hv v hv';exact qL (T := "list") ⟨_,e,rfl⟩ hq
  ·split
   ·refine kH (kH (h _ ?_));split
    ·exact .inr rfl
    ·exact .inl rfl
   ·exact kH (kH (h _ (.inl rfl)))
end
def Zqk (H:Hp)(v:V)(ks:QG):Prop:=∃a,v = .ref a/\H a=some (.lst (ks.map V.int))
abbrev Za0 (H:Hp):List V->List QG->Prop:=Paired (Zqk H)
theorem Zh3 {H:Hp}{P:Program}{w:World}{h:Heap}{v:V}{u:Value}{ks:QG}(ok:UX P w H h)(x:Zqk H v ks)(r:RelV v u):∃a,u = .ref a/\H a=some (.lst (ks.map V.int))/\Gi "list" h a ks:=by obtain⟨a,rfl,e⟩:=x;obtain⟨_,its,n,r',h1⟩:=(show YA P w H h a (.lst (ks.map V.int)) from ok a _ e);exact⟨a,r,e,its.toArray,_,n,_,h1,by simpa using GB r'⟩
end L2
namespace HT
open PySem PySem.Spec PyProof.Rows
section
variable {prog:Program}{w:World}{A:Around}{E:QE}{s:Shared}
theorem Zbu {t sl:Addr}{items:QY}{vl vu:Value}{lo hi:QW}{Q:QE}(ht:IsTup s.heap t items)(hs:s.heap.IsSliceOf sl vl vu .none)(pl:IsPart vl lo)(pu:IsPart vu hi)
  (hw:Jy items.size 0 lo=0/\Jy items.size items.size hi=items.size) (h:Q (.ref t) s):wpAny (model prog w) A (getItem (.ref t) (.ref sl)) Q E s:=by
 obtain⟨os,hos,hcs,hds⟩:=id hs;have hTs:s.TypeIs (.ref sl) "slice" := ⟨os,hos,hcs⟩;unfold getItem
 try with_reducible refine KL ?_
 first | refine kg (kH ?_) | skip
 refine kg (Nh ht.typeIs (by decide) ?_);refine kg (qQ (name:=Str.ofString "__getitem__") ht.typeIs qc
  (qC qc ht.typeIs entry_tuple_getitem ?_ (args_tuple_getitem _ _)))
 show wpAny _ _ (Builtin.Tuple.tupleItemsOf (.ref t) >>= _) _ _ s;refine kg (tupleItemsOf_ ht ?_);refine kg (qL hTs ?_);rw[km (by decide)];refine kg (UH hs pl pu ?_);have hyes:((((Jy items.size 0 lo:Nat):Int)==0&&(1:Int)==1&&(Jy items.size items.size hi-Jy items.size 0 lo)==items.size)=true):=by rw[hw.1,hw.2];simp
 show wpAny _ _ (if (((Jy items.size 0 lo:Nat):Int)==0&&(1:Int)==1&&(Jy items.size items.size hi-Jy items.size 0 lo)==items.size)=true then _ else _) _ _ s;rw[km hyes];refine kg (m:=Builtin.Tuple.tupleIsExact _) (kg (qL ht.typeIs (kH ?_)));rw[km (by decide)];exact kg (XA (kH ⟨_,rfl,kH h⟩))
end
end HT
namespace L2
open PySem PySem.Spec PyProof.Rows
inductive ZlR(K:QF)(x:V)(lo hi:QW)(H:Hp)(Q:VK):Prop|mk(a xs)(_:x = .ref a)(_:Y9 K H a xs)(_:W3 xs lo hi=xs->Q x H)(_:∀p,H p=none->Q (.ref p) (upd H p (.tup (W3 xs lo hi))))
theorem ZoD {X:Cx}:SlR X (ZlR X.K):=by
 intro pins s σ H x v vl vu lo hi sl Q I rx hs pl pu h;obtain⟨a,xs,rfl,hx,h1,q⟩:=h;by_cases hw:HT.Jy xs.length 0 lo=0/\HT.Jy xs.length xs.length hi=xs.length
 ·have e:W3 xs lo hi=xs:=by unfold W3;rw[hw.1,hw.2,Mp,Lk,Xl]
  cases rx;obtain⟨its,r,ht,hz⟩:=I.tuple hx;have hlen:its.toArray.size=xs.length:=by rw[kr];exact r.length.symm
  refine⟨"tuple", _,qc.lookup,ht.typeIs,?_⟩;exact HT.Zbu ht hs pl pu (by rw[hlen];exact hw) ⟨.ref a,H,I,rfl,h1 e⟩
 ·exact Zqn pins s σ H _ v vl vu lo hi sl Q I rx hs pl pu ⟨a,xs,rfl,hx,hw,q⟩
theorem Zb3 {X:Cx}{K:QF}(h:X.K=K):SlR X (ZlR K):=h ▸ ZoD
theorem ZlK {K:QF}{G:Hp}{x:V}{w:QG}{k:Nat}{Q:VK}(hx:Jx G x w)(q:∀v G',Zh G G'->Jx G' v (w.take k)->Q v G'):ZlR K x none (some (k:Int)) G Q:=by
 obtain⟨a,rfl,ha⟩:=hx;refine⟨a,_,rfl,Y9.of ha,fun z=>q _ _ (Zh.refl _) ⟨a,rfl,?_⟩,fun p hp=>q _ _ (Zh.laid hp) ⟨p,rfl,?_⟩⟩
 ·rw[ha,<- z,ZdC,qM]
 ·rw[Zc,ZdC,qM]
theorem Zlw {K:QF}{G:Hp}{x:V}{w:QG}{k:Nat}{i:Int}{Q:VK}(hi:i=(k:Int))(hx:Jx G x w)(q:∀v G',Zh G G'->Jx G' v (w.drop k)->Q v G'):ZlR K x (some i) none G Q:=by
 subst hi;obtain⟨a,rfl,ha⟩:=hx;refine⟨a,_,rfl,Y9.of ha,fun z=>q _ _ (Zh.refl _) ⟨a,rfl,?_⟩,fun p hp=>q _ _ (Zh.laid hp) ⟨p,rfl,?_⟩⟩
 ·rw[ha,<- z,ZdB,qD]
 ·rw[Zc,ZdB,qD]
theorem ZdR {G:Hp}{x y:V}{a b:QG}{Q:VK}(hx:Jx G x a)(hy:Jx G y b)(hz:a.length+b.length<=sizeLine)(k:∀v G',Zh G G'->Jx G' v (a++b)->Q v G'):Zno x y G Q:=
 ⟨a,b,hx,hy,hz,fun e=>k y G (Zh.refl _) (by rw[e];exact hy),fun e=>k x G (Zh.refl _) (by rw[e,qe];exact hx),fun p fp=>k _ _ (Zh.laid fp) ⟨p,rfl,Zc⟩⟩
structure M1 (X:Cx)(o:Expr)(m:Str)(apos:Pos)(e:Expr)(cpos:Pos):Prop where
 base:attributeBase o m X.env (eval o X.env)=eval o X.env
 few:((backTo cpos (starEach [e] X.env)).all (fun x=>!x.1)&&(backToKw cpos (keywordEach [] X.env)).all (fun x=>x.1.isSome)
  && decide (([e]:QV).length+([]:List Keyword).length+(if ([]:List Keyword).isEmpty then 0 else 1)<30))=true
 line:(apos.endLine==cpos.line)=true
 trees:backTo cpos (starEach [e] X.env) = [(false,eval e X.env)]
def IsD (H:Hp)(a:Addr):Prop:=(∃kvs,Rd H a (.dK kvs)) ∨ ∃kvs,Rd H a (.dT kvs)
theorem ZpX {X:Cx}{pins:QC}{σ:St}{H:Hp}{s:Shared}{a:Addr}(I:Inv X pins σ H s)(d:IsD H a):
  s.TypeIs (.ref a) "dict" /\ (∀b,Value.ref a = .ref b -> ∃ob,s.heap.get? b=some ob/\ob.dict=none)/\(a==sysModules)=false:=by
 rcases d with⟨kvs,e⟩ | ⟨kvs,e⟩
 ·obtain⟨_,hd,vs,_,dd⟩:=ZfN I.hok e;refine⟨dd.typeIs,fun b q=>?_,hd⟩;cases q;obtain⟨ob,_,_,h1,h2,_⟩:=dd;exact⟨ob,h1,h2.2.1⟩
 ·obtain⟨_,hd,xs,_,dd⟩:=Zfl I.hok e;refine⟨dd.typeIs,fun b q=>?_,hd⟩;cases q;obtain⟨ob,_,_,h1,h2,_⟩:=dd;exact⟨ob,h1,h2.2.1⟩
section
variable {X:Cx}{pins:QC}{σ:St}{H:Hp}{s:Shared}{a:Addr}{y d:V}{u r:Value}{o:QI}{A:Around}{E:QE}
theorem ZpU {Q:QE}(hu:A.units+1<cLine)(I:Inv X pins σ H s)(g:Zby H a y o)(ry:RelV y u)(h:∀w' s',Inv X pins σ H s'->RelV (o.getD .non) w'->Q w' s'):
  wpAny (model X.prog X.w) A (call (.builtin "dict.get") [.ref a,u]) Q E s:=by
 rcases g with⟨kvs,k,e,ey,l⟩ | ⟨kvs,k,b,e,ey,eb,l⟩
 ·subst ey;obtain⟨z,hd,vs,rel,dd⟩:=ZfN I.hok e;refine call_meetsIn Ti dd.typeIs N2 (NI _ _) (meets_dict_get (Z9 X.prog X.w) a (ZfB ry) hd) ⟨_,dd.mapOf,h _ _ (I.tok _) ?_⟩;rw[l];exact(rel.val k).getD rfl
 ·subst ey;cases (show u=Value.ref b from ry);obtain⟨z,hd,xs,rel,dd⟩:=Zfl I.hok e;refine call_meetsIn Ti dd.typeIs N2 (NI _ _) (meetsH_dict_get (tupleKind (Z9 X.prog X.w)) a b hd) ⟨XY hu,k,xs,ZeC I.hok eb,dd,h _ _ (I.tok _) ?_⟩;rw[l];exact(rel.val k).getD rfl
end
inductive ZjY(ty:TE)(σ:St)(Q:VK)(x:V)(H1:Hp):Prop|mk(a)(_:x = .ref a)(_:IsD H1 a)(_:ty σ H1 fun y H2=>∃o,Zby H2 a y o/\Q (o.getD .non) H2)
def Zqs (td ty:TE):TE:=fun σ H Q=>td σ H fun x H1=>ZjY ty σ Q x H1
section
variable {X:Cx}{o e f:Expr}{apos cpos:Pos}{td ty tx:TE}
theorem ZmZ (hu:X.A.units+1<cLine)(ho:PE X o td)(he:PE X e ty)(m:M1 X o "get" apos e cpos):PE X (.Call (.Attribute o "get" apos) [e] [] cpos) (Zqs td ty):=by intro pins s σ H Q I h;refine wpAny_Call_method m.base m.few m.line PySem.F.plainAttrs_dict Ti PySem.F.type_dict_get (YN (ho pins s σ H _ I h) fun u s1 ⟨x,H1,I1,rx,a,ex,d,q1⟩=>?_);subst ex;obtain rfl:u=Value.ref a:=rx;obtain⟨t1,t2,_⟩:=ZpX I1 d;refine⟨t1,t2,?_⟩;rw[m.trees];refine Calls.callWith_builtin rfl (Tz (T3 (YN (he pins s1 σ H1 _ I1 q1) fun iv s2 ⟨y,H2,I2,ry,ov,g,q2⟩=>Nf ?_)));exact ZpU hu I2 g ry fun w' s3 I3 rw'=>⟨_,H2,I3,rw',q2⟩
end
section
variable {prog:Program}{w:World}{A:Around}{E:QE}{s:Shared}
theorem Zh9 {T:String}(c:Bool)(kp:SortKind->Prop){D:Addr}{vs:QJ}{n:Nat}{P:PySem.Fin->Shared->Prop}(sr:∀(s':Shared)(kd:SortKind),kp kd->(∀p∈(pairsOf vs).toList,DS T s' p) -> ¬vs.toArray.size<2->wpS (model prog w) A E s' ZcH (fun _ st'=>(arrOf st').toList.Perm (pairsOf vs).toList/\(c=true->Srt (ltW s') (arrOf st').toList)/\failedOf st'=none) (SortSt.mk' kd (vs.toArray.zip vs.toArray) #[] 7 none))
  (kn:∀(s':Shared)(Q:SortKind->Shared->Prop),vs ≠ []->(∀v∈vs,∃a ks,v = .ref a/\Gi T s'.heap a ks)->(∀kd,kp kd->Q kd s')->wpAny (model prog w) A (keyKind' vs.toArray) Q E s')
  (ho:s.heap.get? D=some (seqObj "list" vs.toArray n)) (hv:∀v∈vs,∃a ks,v = .ref a/\a≠D/\Gi T s.heap a ks) (hz:vs.length<=sizeLine)
  (h:∀out:QY,out.toList.Perm vs->(c=true->ZjM s.heap out.toList)->P (.done (.ret .none)) { s with heap:=sortedHeap s.heap D vs out }):
  wpAny (model prog w) A (Builtin.«list.sort» ⟨[.ref D],[]⟩) P E s:=by
 rw[list_sort_plain];obtain⟨ep,he⟩:∃ep,(s.heap.update D (Obj.mapSeq fun _=>#[])).get? D=some (seqObj "list" #[] ep):=⟨_,get?_update_seq ho fun _=>#[]⟩;refine kg (listItems_at ho rfl (kg (listUpdate_at ho rfl (kg (seqEpoch_at he rfl (kg (wpAny_newTuple (kg (wpAny_newList (KL ?_))) (by simpa using hz))))) (by simpa using hz))));obtain⟨u,eu⟩:∃u:Shared,u = { s with heap:=((s.heap.update D (Obj.mapSeq fun _=>#[])).push (seqObj "tuple" vs.toArray 0)).push (seqObj "list" #[] 0) }:=⟨_,rfl⟩;have keep:∀b o,b≠D->s.heap.get? b=some o->u.heap.get? b=some o:=fun b o hb e=>by rw[eu];exact kC _ (kC _ ((Tc _ _ (KG hb)).trans e))
 have hD:u.heap.get? D=some (seqObj "list" #[] ep):=by rw[eu];exact kC _ (kC _ he)
 have hu4:∀v∈vs,(∃a ks,v = .ref a/\Gi T u.heap a ks)/\Zh4 u.heap v=Zh4 s.heap v:=fun v hv'=>by obtain⟨a,ks,rfl,ne,t⟩:=hv v hv';have t':=t.kept fun o q=>keep a o ne q;exact⟨⟨a,ks,rfl,t'⟩,by rw[t.key,t'.key]⟩
 show wpAny (model prog w) A _ P E { s with heap:=((s.heap.update D (Obj.mapSeq fun _=>#[])).push (seqObj "tuple" vs.toArray 0)).push (seqObj "list" #[] 0) };rw[<- eu];dsimp only;refine ZkT (fun kd=>vs.toArray.size<2∨kp kd) (fun h2 Q' q=>kH (q _ (.inl h2))) (fun h2 Q' q=>kn u Q' (fun z=>h2 (by rw[z];decide)) (fun v hv'=>(hu4 v hv').1) fun kd hk=>q kd (.inr hk)) fun kd hk=>?_;refine kg (K6 (Q:=fun r s''=>s''=u/\(arrOf r.2).toList.Perm (pairsOf vs).toList/\(c=true->Srt (ltW u) (arrOf r.2).toList)/\failedOf r.2=none) ?_ (fun r s'' hr=>?_) fun _ _ e=>e)
 ·by_cases h2:vs.toArray.size<2
  ·rw[km h2,StateT.run_pure];refine kH ⟨rfl,List.Perm.refl _,fun _=>?_,rfl⟩;have lp:(pairsOf vs).toList.length<2:=by rw[kY,N3];simpa using h2
   show Srt _ (pairsOf vs).toList;generalize (pairsOf vs).toList=L at lp ⊢;cases L with
   | nil=>exact .nil
   | cons x t=>
    cases t with
    | nil=>exact List.pairwise_singleton _ _
    | cons y t=>exact absurd lp (by simp)
  ·rw[ki h2];refine K6 (sr u kd (hk.resolve_left h2) (fun p hp=>?_) h2) (fun r s'' x=>x) fun _ _ e=>e;have hp':p∈(pairsOf vs).toList:=hp;rw[pairsOf_toList] at hp';exact(hu4 _ (mem_zip_self hp').2).1
 obtain⟨rfl,hp,hs,hf⟩:=hr;refine kg (seqEpoch_at hD rfl (kg (listUpdate_at hD rfl ?_ (hsz2:=by have:=hp.length_eq;rw[kY,kY,N3] at this;rw[Array.size_map,this];lia))))
 have same:∀p∈(arrOf r.2).toList,p.1=p.2/\p.1∈vs:=fun p hp'=>by have:=hp.mem_iff.mp hp';rw[pairsOf_toList] at this;exact mem_zip_self this
 have:=h ((arrOf r.2).map (·.2)) (by
  rw[NJ];refine(hp.map _).trans ?_;rw[pairsOf_toList,List.map_snd_zip (kj _)]) (fun hc=>by
  rw[NJ];refine Xh.mpr (Nr (fun {p q} hp' hq' x=>?_) (hs hc));rw[<- (same p hp').1,<- (same q hq').1,<- (hu4 _ (same p hp').2).2,<- (hu4 _ (same q hq').2).2];exact x)
 unfold sortedHeap at this;subst eu;rw[hf,ki (by simp)];exact kH this
theorem ZgH {T:String}(c:Bool)(kp:SortKind->Prop){l:Addr}{vs:QJ}{Q:QE}(sr:∀(A:Around)(E:QE),A.units<cLine -> ∀(s':Shared)(kd:SortKind),kp kd->(∀p∈(pairsOf vs).toList,DS T s' p) -> ¬vs.toArray.size<2->wpS (model prog w) A E s' ZcH (fun _ st'=>(arrOf st').toList.Perm (pairsOf vs).toList/\(c=true->Srt (ltW s') (arrOf st').toList)/\failedOf st'=none) (SortSt.mk' kd (vs.toArray.zip vs.toArray) #[] 7 none))
  (kn:∀(A:Around) E (s':Shared) (Q:SortKind->Shared->Prop),vs ≠ []->(∀v∈vs,∃a ks,v = .ref a/\Gi T s'.heap a ks)->(∀kd,kp kd->Q kd s')->wpAny (model prog w) A (keyKind' vs.toArray) Q E s')
  (hu:A.units+2<cLine) (hl:s.heap.IsList l vs.toArray) (hv:∀v∈vs,∃a ks,v = .ref a/\Gi T s.heap a ks) (hz:vs.length<=sizeLine)
  (h:∀(out:QY),out.toList.Perm vs->(∃h1:Heap,(∀a ks,Gi T s.heap a ks->Gi T h1 a ks)/\(c=true->ZjM h1 out.toList))->Q (.ref (s.heap.objs.size+1)) { s with heap:=sortedAll s.heap vs out }):
  wpAny (model prog w) A (call (.builtin "sorted") [.ref l]) Q E s:=by
 refine Calls.call_function_entry kind_sorted plain_sorted entry_sorted (args_sorted1 _) ?_;unfold Builtin.«sorted»;refine kg (TB (a:=()) rfl (kg (collect_list hl (kg (wpAny_newList ?_ hz)) hz)));obtain⟨u,eu⟩:∃u:Heap,u=(s.heap.push (seqObj "list" #[] 0)).update s.heap.objs.size (Obj.mapSeq (· ++ vs.toArray)):=⟨_,rfl⟩;have zu:u.objs.size=s.heap.objs.size+1:=by rw[eu,Heap.size_update,size_push']
 have kp':∀b o,s.heap.get? b=some o->(u.push (seqObj "list" vs.toArray 0)).get? b=some o:=fun b o e=>kC _ (by rw[eu,Heap.get?_update_ne _ _ _ _ (Kn (Kc e))];exact kC _ e)
 have nw:(u.push (seqObj "list" vs.toArray 0)).get? (s.heap.objs.size+1)=some (seqObj "list" vs.toArray 0):=zu ▸ Kl _ rfl;show wpAny _ _ _ _ _ { s with heap:=((s.heap.push (seqObj "list" #[] 0)).update s.heap.objs.size (Obj.mapSeq (· ++ vs.toArray))).push (seqObj "list" vs.toArray 0) };unfold sortedAll at h;rw[<- eu] at h ⊢;rw[zu];refine kg (KL (qC slot_list_sort ⟨_,nw,rfl⟩ entry_list_sort (Zh9 c kp (sr _ _ (by exact hu)) (kn _ _) nw (fun v hv'=>?_) hz fun out a2 a3=>⟨_,rfl,kH ⟨_,rfl,h out a2 ⟨_,fun a ks t=>t.kept fun o e=>kp' a o e,a3⟩⟩⟩) (args_list_sort _)));obtain⟨a,ks,e,t⟩:=hv v hv';refine⟨a,ks,e,?_,t.kept fun o e=>kp' a o e⟩;obtain⟨_,_,_,_,e',_⟩:=t;exact Kn (Nat.lt_succ_of_lt (Kc e'))
end
section
variable {prog:Program}{w:World}{A:Around}{E:QE}{s:Shared}{kd:SortKind}{D:Keyed->Prop}{lt:Keyed->Keyed->Bool}
theorem ZkH {arr:QS}{n:Nat}(hn:arr.size=n)(h:Zcv lt arr 0 n):Srt lt arr.toList:=by
 refine T8.mpr fun i j hi hj hij=>?_;rw[kY] at hi hj;refine h i j _ _ (Kz hij) (by lia) ?_ ?_<;>rw[XI,<- qd]
 ·exact ko _
 ·exact ko _
theorem ZgG (C:Cmp prog w A E s kd D lt){st:SortSt}{Q:Unit->SortSt->Prop}(hD:∀x∈(arrOf st).toList,D x)(hk:kindOf st=kd)(hf:failedOf st=none)(hp:pendingOf st = #[])(h0:0<(arrOf st).size)(h64:(arrOf st).size<64)
  (h:∀st',(arrOf st').toList.Perm (arrOf st).toList->Srt lt (arrOf st').toList->failedOf st'=none->Q () st'):wpS (model prog w) A E s ZcH Q st:=by
 obtain⟨n,en⟩:∃n,n=(arrOf st).size:=⟨_,rfl⟩;have mr:(sortPriv% PySem.Builtin.minRun) n n 0=n:=by
  cases n with
  | zero=>lia
  | succ f=>exact(minRun'_succ f (f+1) 0).trans (km (by lia))
 have last:∀(m:Nat)(st':SortSt),Kp 0 n st st'->Zcv lt (arrOf st') 0 n->m=n ->
   ((none:Option Unit),0+m)=(none,n)/\(arrOf st').toList.Perm (arrOf st).toList/\Srt lt (arrOf st').toList/\failedOf st'=none/\((pendingOf st').push (0,m,0)).size<=1:=fun m st' k g e=>by
  subst e;refine⟨by rw[XI],k.perm,ZkH (by rw[k.size,en]) g,k.fail.trans hf,?_⟩;rw[k.pend,hp];exact kj _
 refine Kx (wpS_get ?_);refine Kx (Mo (XJ (a:=0) (b:=(arrOf st).size) (I:=fun x c st'=>(x=0/\c=(none,0)/\st'=st)∨(c=(none,n)/\(arrOf st').toList.Perm (arrOf st).toList/\Srt lt (arrOf st').toList/\failedOf st'=none/\(pendingOf st').size<=1))
  (Q:=fun c st'=>c.1=none/\(arrOf st').toList.Perm (arrOf st).toList/\Srt lt (arrOf st').toList/\failedOf st'=none/\(pendingOf st').size<=1) ?_ ?_ (.inl ⟨rfl,rfl,rfl⟩)) ?_)
 ·rw[<- en];rintro x c st1 _ hx (⟨rfl,rfl,rfl⟩ | ⟨rfl,z⟩)
  ·show wpS _ _ _ _ (if 0>=n then _ else _) _ _;rw[ki (by lia)];refine Kx (Zho C (lo:=0) (n:=n-0) (by lia) (by lia) hD hk fun m st2 m1 m2 kp sm=>?_);show wpS _ _ _ _ (if m<(sortPriv% PySem.Builtin.minRun) n n 0 then _ else _) _ _;rw[mr];refine ZpV (fun c1=>?_) (fun c1=>?_)
   ·refine Kx (wpS_lift (XA ⟨rfl,?_⟩));have en':min (n-0) n=n:=by lia
    rw[en'];have z2:=kp.size;refine Kx (ZeU C (lo:=0) (n:=n) (ok:=m) m1 (by lia) (by lia) (fun y hy=>hD y (kp.perm.mem_iff.mp hy)) (kp.kind.trans hk) sm fun st3 kp3 sm3=>?_);have k3:Kp 0 n st1 st3:=Kp.trans kp kp3;refine Kx (wpS_get ?_);have hb:(pendingOf st3).back? = none:=by rw[k3.pend,hp];rfl
    show wpS _ _ _ _ (match (pendingOf st3).back? with | some (_,_,_)=>_ | _=>_) _ _;rw[hb];exact Kx (wpS_modify (KQ (Or.inr (last n st3 k3 sm3 rfl))))
   ·refine Kx (wpS_get ?_);have hb:(pendingOf st2).back? = none:=by rw[kp.pend,hp];rfl
    show wpS _ _ _ _ (match (pendingOf st2).back? with | some (_,_,_)=>_ | _=>_) _ _;rw[hb];have e:m=n:=by lia
    exact Kx (wpS_modify (KQ (Or.inr (last m st2 kp (e ▸ sm) e))))
  ·show wpS _ _ _ _ (if n>=n then _ else _) _ _;rw[km (kj _)];exact KQ ⟨rfl,z⟩
 ·rintro c st1 (⟨e,_⟩ | ⟨rfl,z⟩)
  ·lia
  ·exact⟨rfl,z⟩
 ·rintro⟨c1,c2⟩ st1 ⟨hc,p1,p2,p3,p4⟩;dsimp only at hc;subst hc;refine Kx (Mo (XJ (a:=0) (b:=(arrOf st).size) (I:=fun _ c st'=>st'=st1/\c=(none,())) (Q:=fun c st'=>st'=st1/\c=(none,())) ?_ (fun _ _ z=>z) ⟨rfl,rfl⟩) ?_)
  ·rintro y c st4 _ _ ⟨rfl,rfl⟩;refine Kx (wpS_get ?_);show wpS _ _ _ _ (if (pendingOf st4).size<=1 then _ else _) _ _;rw[km p4];exact KQ ⟨rfl,rfl⟩
  ·rintro c st4 ⟨rfl,rfl⟩;exact KQ (h _ p1 p2 p3)
theorem Zgd {T:String}(kp:SortKind->Prop){l:Addr}{vs:QJ}{Q:QE}(cm:∀A,A.units<cLine -> ∀E s' kd,kp kd->Cmp prog w A E s' kd (DS T s') (ltW s'))
  (kn:∀(A:Around) E (s':Shared) (Q:SortKind->Shared->Prop),vs ≠ []->(∀v∈vs,∃a ks,v = .ref a/\Gi T s'.heap a ks)->(∀kd,kp kd->Q kd s')->wpAny (model prog w) A (keyKind' vs.toArray) Q E s')
  (hu:A.units+2<cLine) (hl:s.heap.IsList l vs.toArray) (hv:∀v∈vs,∃a ks,v = .ref a/\Gi T s.heap a ks) (hz:vs.length<=sizeLine) (h64:vs.length<64)
  (h:∀(out:QY),out.toList.Perm vs->(∃h1:Heap,(∀a ks,Gi T s.heap a ks->Gi T h1 a ks)/\ZjM h1 out.toList)->Q (.ref (s.heap.objs.size+1)) { s with heap:=sortedAll s.heap vs out }):
  wpAny (model prog w) A (call (.builtin "sorted") [.ref l]) Q E s:=
 ZgH true kp (fun A E hu s' kd hk hd h2=>ZgG (cm A hu E s' kd hk) hd rfl rfl rfl (by
  have z:(arrOf (SortSt.mk' kd (vs.toArray.zip vs.toArray) #[] 7 none)).size=vs.length:=N3 vs;have h2:¬vs.length<2:=h2;lia) (by
  have z:(arrOf (SortSt.mk' kd (vs.toArray.zip vs.toArray) #[] 7 none)).size=vs.length:=N3 vs;lia) fun st' a1 a2 a3=>⟨a1,fun _=>a2,a3⟩) kn hu hl hv hz fun out p ⟨h1,k,r⟩=>h out p ⟨h1,k,r rfl⟩
end
section
variable {X:Cx}
inductive ZfR(K:QF)(xs:QH)(H:Hp)(Q:VK):Prop|mk(p:Addr)(ys:QH)(ws:QA)(_:xs = [.ref p])(_:Zt K H p ys)(_:Za0 H ys ws)(_:ys.length<64)(_:∀(l:Addr)(zs:QH)(vs:QA),H l=none->zs.Perm ys->vs.Perm ws->Za0 H zs vs->ZoG vs->Q (.ref l) (upd H l (.lst zs)))
theorem Ze3 (hu:X.A.units+64<cLine):YT X (.builtin "sorted") (ZfR X.K):=by
 intro pins s σ H xs us Q I r h;obtain⟨p,ys,ws,rfl,hq,hw,h64,q⟩:=h;obtain⟨u,rfl,ru⟩:=r.one;cases ru;obtain⟨its,rv,pl,hz⟩:=I.list hq;have hlen:ys.length=its.length:=rv.length;refine Zgd Kd2 (fun A hu E s' kd hk=>Zkn hk hu) (fun A E s' Q hn hv h=>ZiS hn hv h) (by lia) pl.isList (fun v hv=>?_) (by lia) (by lia) fun out a2 ⟨h1,k1,a3⟩=>?_
 ·obtain⟨y,hy,ry⟩:=Paired.mem1 (Paired.flip rv) v hv;obtain⟨ks,_,hk⟩:=Paired.mem1 hw y hy;obtain⟨a,e1,e2,e3⟩:=Zh3 I.hok hk ry;exact⟨a,ks,e1,e3⟩
 obtain⟨zs,vs,b1,b2,b3,b4,b5⟩:=Zm8 (fun f r=>(Zh3 I.hok f r).imp fun _ z=>⟨z.1,z.2.2⟩) rv hw a2 k1 a3;obtain⟨e,he⟩:=sortedAll_at s.heap its out;have fr:H (s.heap.objs.size+1)=none:=I.hok.fresh (XC _);refine⟨.ref (s.heap.objs.size+1),_,I.laid (a:=s.heap.objs.size+1) (o:=.lst zs) (t':=s.toks) (fun b o q=>sortedAll_old q) (XC _) ⟨?_,out.toList,e,b1,?_⟩,rfl,q _ _ _ fr b3 b4 b2 b5⟩
 ·rw[b3.length_eq];lia
 ·simpa [seqObj] using he
theorem ZaP {K:QF}(h:X.K=K)(hu:X.A.units+64<cLine):YT X (.builtin "sorted") (ZfR K):=h ▸ Ze3 hu
end
def EI:Int×Value->Int->Prop:=fun e n=>e.1=hashInt n /\ ∃t,e.2 = .int n t
section
variable {prog:Program}{w:World}{A:Around}{E:QE}{s:Shared}
theorem ZeI:∀{r L:QG},r.Nodup->(∀w∈r,w∈L)->r.length<=L.length
 | [],_,_,_=>Kr _
 | a::r,L,n,h=>by obtain⟨n1,n2⟩:=KW.mp n;have ha:=h a kS;have:=ZeI (r:=r) (L:=L.erase a) n2 fun w hw=>(Mv (fun(e:w=a)=>n1 (e ▸ hw))).mpr (h w (kU _ hw));rw[XS ha] at this;have:=N4 ha;rw[Kv];lia
def SI (w:World)(a:Addr)(ks:QG)(ep:Nat)(es:Array (Int×Value))(h:Heap):Prop:=
 ∃o t,h.get? a=some o/\o.ExactSet/\o.data = .set es ep t/\(w.params.followText "set-order" = true∨t.led=true)/\t.plain=true/\TbG t (es.toList.map (·.1))/\Paired EI es.toList ks/\ks.Nodup
theorem SI.kept {a:Addr}{ks:QG}{ep:Nat}{es:Array (Int×Value)}{h h':Heap}(x:SI w a ks ep es h)(k:∀o,h.get? a=some o->h'.get? a=some o):SI w a ks ep es h':=
 let ⟨o,t,e,r⟩:=x;⟨o,t,k o e,r⟩
theorem ZlL {l:List (Int×Value)}{ks:QG}(h:Paired EI l ks):ElemsOf (intKind prog w) l:=by
 induction h with
 | nil=>intro e he;cases he
 | cons q _ ih=>
  intro e he
  rename_i k' _ _ _
  obtain⟨q1,t,q2⟩:=q;rcases kO.mp he with rfl | he
  ·exact⟨⟨k',by rw[q2];exact MT _ _ _ _,q1⟩,by rw[q2];rfl⟩
  ·exact ih e he
theorem Zot {k:Int}{l:List (Int×Value)}{ks:QG}(h:Paired EI l ks):(l.findIdx? fun e=>(intKind prog w).is k e.2)=ks.findIdx? (decide <| · = k):=by
 induction h with
 | nil=>rfl
 | cons q _ ih=>
  obtain⟨q1,t,q2⟩:=q
  rename_i e k' _ _ _
  have:(intKind prog w).is k e.2=decide (k'=k):=by
   have hi:(intKind prog w).is k' e.2=true:=by rw[q2];exact MT _ _ _ _
   exact(KeyKind.is_eq_decide hi k).trans (qX.mpr ⟨Eq.symm,Eq.symm⟩)
  rw[MU,MU,this,ih]
theorem ZoR {t:SetTable}{hs:QG}(x:TbG t hs){h:Int}{se:Nat}(hse:se<10*SetTable.turns t.mask)(emp:pj t.mask h se∉t.place.toList)(liv:∀m,m<se->pj t.mask h m∈t.place.toList):t.freeSlot h=some (pj t.mask h se,false):=by
 have e:t.probe (fun _=>h+1) h (t.probeStart h)=some (.empty (pj t.mask h se) none):=by
  rw[Znl];unfold SetTable.probe;rw[Zhk se _ 0 (by lia) fun m hm=>?_]
  ·rw[XI];obtain⟨fu,hf⟩:∃fu,10*SetTable.turns t.mask-se=fu+1:=⟨10*SetTable.turns t.mask-se-1,by lia⟩;rw[hf];unfold SetTable.probe.go;have d':t.slot (stH t.mask h se).j = .empty:=ZiT x.dum emp;rw[d'];dsimp only;rw[Zlp];rfl
  ·rw[XI];obtain⟨i,e⟩:=Zqd (liv m hm);exact⟨i,Zk0 x.rise e,by rw[qF];lia⟩
 unfold SetTable.freeSlot;rw[e];rfl
theorem Zsk {a:Addr}{ks:QG}{ep:Nat}{es:Array (Int×Value)}{n:Int}{tk:Nat}{Q:Bool->Shared->Prop}(hS:SI w a ks ep es s.heap)(hl:ks.length<=62)
  (h:∀h' ep' es' ks',Heap.SameBut a s.heap h'->SI w a ks' ep' es' h'->ks'.Perm (if n∈ks then ks else n::ks)->Q (!decide (n∈ks)) { s with heap:=h' }):
  wpAny (model prog w) A (setAddHashed a (.int n tk) (hashInt n)) Q E s:=by
 obtain⟨o,t,ho,hex,hd,hl2,hpl,tg,hp,nd⟩:=id hS;have el:=ZlL (prog:=prog) (w:=w) hp;have lk:es.toList.length=ks.length:=qj hp;have sz:es.size=(es.toList.map (·.1)).length:=by simp
 have ft:t.fits es.size=true:=by rw[sz];exact tg.fits
 unfold setAddHashed setAddHashedIn;refine KL (kg (Te ho hd ft ?_));dsimp only;rw[byScan_of (knd:=intKind prog w) (x:=.int n tk) rfl (by rw[<- kY];unfold scanBound;lia) el,km rfl];unfold setAddByScan;refine kg (kg (XA ?_));refine kg (wpAny_setScan_of (knd:=intKind prog w) (MT _ _ _ _) ho hd ft el ?_);rw[Zot hp];by_cases hm:n∈ks
 ·obtain⟨j,ej⟩:∃j,ks.findIdx? (decide <| · = n)=some j:=by
   cases q:ks.findIdx? (decide <| · = n) with
   | some j=>exact⟨j,rfl⟩
   | none=>
    have:=T9.mp q n hm;simp at this
  rw[ej];refine kH (kH ?_);have q:=h s.heap ep es ks (Heap.SameBut.refl a s.heap) hS (by rw[km hm]);rw[kE hm] at q;cases s;exact q
 ·have:ks.findIdx? (decide <| · = n)=none:=T9.mpr fun x hx=>Km fun z=>hm (z ▸ hx);rw[this];dsimp only;obtain⟨se,hse,emp,liv⟩:=tg.free (hashInt n);have le:=Zm0 t.mask (hashInt n) se;obtain⟨p1,p2⟩:=ZpI tg hse emp liv le true true;obtain⟨b1,_⟩:=ZaX tg.rise (pj t.mask (hashInt n) se);generalize hpp:SetTable.below t.place (pj t.mask (hashInt n) se)=pp at *;have ppl:pp<=es.toList.length:=by rw[kY,sz,<- tg.len];exact b1
  have lst:(SetTable.insertAt es pp (hashInt n,Value.int n tk)).toList=es.toList.take pp++(hashInt n,Value.int n tk)::es.toList.drop pp:=qm ..;have sz1:(SetTable.insertAt es pp (hashInt n,Value.int n tk)).size=ks.length+1:=by rw[<- kY,lst,kh,Kv,kL,Ks];lia
  have pr1:Paired EI (SetTable.insertAt es pp (hashInt n,Value.int n tk)).toList (ks.take pp++n::ks.drop pp):=by rw[lst];exact ZeK ⟨rfl,tk,rfl⟩ pp hp
  have pm1:(ks.take pp++n::ks.drop pp).Perm (n::ks):=by refine List.perm_middle.trans ?_;rw[qz]
  have nd1:(ks.take pp++n::ks.drop pp).Nodup:=pm1.nodup_iff.mpr (KW.mpr ⟨hm,nd⟩);have hs1:(SetTable.insertAt es pp (hashInt n,Value.int n tk)).toList.map (·.1)=(es.toList.map (·.1)).take pp++hashInt n::(es.toList.map (·.1)).drop pp:=by rw[lst];simp[qM,qD]
  obtain⟨es1,hes1⟩:∃es1,SetTable.insertAt es pp (hashInt n,Value.int n tk)=es1:=⟨_,rfl⟩;obtain⟨t1,ht1⟩:∃t1:SetTable,{ t with place:=SetTable.insertAt t.place pp (pj t.mask (hashInt n) se) } = t1:=⟨_,rfl⟩;rw[hes1] at lst sz1 pr1 hs1;have pl1:t1.plain=true:=by rw[<- ht1];exact hpl
  have ld1:w.params.followText "set-order" = true∨t1.led=true:=by rw[<- ht1];exact hl2
  have fl1:t1.fill=ks.length+1:=by rw[<- ht1];unfold SetTable.fill;dsimp only;rw[tg.dum,<- kY,qm,kh,Kv,kL,Ks,kY,tg.len,ke];show _+0=_;lia
  have mk1:t1.mask=t.mask:=by rw[<- ht1]
  have fw:=tg.few;rw[ke,lk] at fw;have ft1:t1.fits es1.size=true:=by
   unfold SetTable.fits;rw[fl1,mk1,sz1,<- fl1];have:t1.place.size=t1.fill:=by unfold SetTable.fill;rw[show t1.dummies = #[] by rw[<- ht1];exact tg.dum];rfl
   rw[this,fl1];simp;rcases tg.msk with e | e | e<;>rw[e] at fw ⊢<;>lia
  have lay:layNew t es (hashInt n) (.int n tk)=(es1,t1,false,false):=by unfold layNew;rw[ZoR tg hse emp liv];dsimp only;rw[p1,p2,hes1,ht1];unfold SetTable.orStandIn;rw[ft1];rfl
  rw[lay];dsimp only;refine kg (kH ?_);rw[pl1,km rfl];refine kg (TB (hashByValue_scannable 8 (x:=.int n tk) rfl) ?_);rw[show plainKind (.int n tk)=true from rfl,km rfl];refine kg (wpAny_storeSet_of ho hd ?_ (by rw[sz1,k9];lia));have g1:(s.heap.update a (Obj.putSet es1 t1)).get? a=some { o with data:=.set es1 (ep+1) t1 }:=by have:=qY (Obj.putSet es1 t1) ho (by rw[putSet_of _ _ hd];rfl);rw[putSet_of _ _ hd] at this;exact this
  have sb1:=XO s.heap a (Obj.putSet es1 t1);have r1:(!decide (n∈ks))=true:=by rw[Km hm];rfl
  by_cases few:(ks.length+1)*5<t.mask*3
  ·have tf:t1.tooFull=false:=by unfold SetTable.tooFull;rw[fl1,mk1];exact Km (by lia)
   rw[tf];refine kH (kH ?_);rw[<- r1];refine h _ (ep+1) es1 (ks.take pp++n::ks.drop pp) sb1 ⟨_,t1,g1,hex,rfl,ld1,pl1,?_,pr1,nd1⟩ (by rw[ki hm];exact pm1);rw[hs1,<- ht1,<- hpp];exact ZqE tg hse emp liv le (by rw[ke,lk];exact few)
  ·have tf:t1.tooFull=true:=by unfold SetTable.tooFull;rw[fl1,mk1];exact kE (by lia)
   rw[tf];obtain⟨mk,hmk,lk,wn⟩:∃mk,(mk=31∨mk=127)/\(ks.length+1)*5<mk*3/\SetTable.sizeAbove (SetTable.grown es1.size)=mk+1:=by
    rw[sz1];have:ks.length=4∨ks.length=18:=by rcases tg.msk with e | e | e<;>rw[e] at few fw<;>lia
    rcases this with z | z<;>rw[z]
    ·exact⟨31,.inl rfl,by decide,by decide⟩
    ·exact⟨127,.inr rfl,by decide,by decide⟩
   obtain⟨t2,order,er,op,tg2,ld2,pl2⟩:=Zmu t1 (es1.toList.map (·.1)) hmk (by rw[ke,kY,sz1];exact lk) wn;rw[ke,kY] at op;have eh:(es1.map (·.1))=(es1.toList.map (·.1)).toArray:=Array.ext' (by rw[NJ]);have e2l:(order.filterMap (es1[·]?)).toList=order.toList.filterMap (es1.toList[·]?):=by rw[Array.toList_filterMap];simp
   have op':order.toList.Perm (List.range es1.toList.length):=by rw[kY];exact op
   have e2p:=Zcd (es:=es1.toList) op';have e2s:(order.filterMap (es1[·]?)).size=es1.size:=by rw[<- kY,e2l,e2p.length_eq,kY]
   have f2:t2.fits (order.filterMap (es1[·]?)).size=true:=by
    have:=tg2.fits
    rwa [(Zcd (es:=es1.toList.map (·.1)) (by rw[ke,kY];exact op)).length_eq,ke,kY,<- e2s] at this
   have ra:relayAll t1 es1 (SetTable.grown es1.size)=(order.filterMap (es1[·]?),t2,false):=by unfold relayAll;rw[eh,er];dsimp only;rw[f2,show coversAll order es1.size=true from List.isPerm_iff.mpr op];rfl
   rw[km (by rfl),ra];dsimp only;refine kg (kg (kH ?_));refine kH ?_;refine kg (wpAny_storeSet_of (s:={ s with heap:=s.heap.update a (Obj.putSet es1 t1) }) g1 rfl ?_ (by rw[e2s,sz1,k9];lia));refine kH (kH ?_);rw[<- r1];have g2:((s.heap.update a (Obj.putSet es1 t1)).update a (Obj.putSet (order.filterMap (es1[·]?)) t2)).get? a=some { o with data:=.set (order.filterMap (es1[·]?)) (ep+1+1) t2 }:=by have:=qY (Obj.putSet (order.filterMap (es1[·]?)) t2) g1 (by rw[putSet_of _ _ (o:={ o with data:=.set es1 (ep+1) t1 }) rfl];rfl);rw[putSet_of _ _ (o:={ o with data:=.set es1 (ep+1) t1 }) rfl] at this;exact this
   have sb2:=sb1.trans (XO (s.heap.update a (Obj.putSet es1 t1)) a (Obj.putSet (order.filterMap (es1[·]?)) t2));have lk1:es1.toList.length=(ks.take pp++n::ks.drop pp).length:=qj pr1;have kp:=Zcd (order:=order.toList) (es:=ks.take pp++n::ks.drop pp) (by rw[<- lk1];exact op');refine h _ _ _ _ sb2 ⟨_,t2,g2,hex,rfl,by rw[ld2];exact ld1,by rw[pl2];exact pl1,?_,?_,kp.nodup_iff.mpr nd1⟩ (by rw[ki hm];exact kp.trans pm1)
   ·rw[e2l];have:(order.toList.filterMap (es1.toList[·]?)).map (·.1)=order.toList.filterMap ((es1.toList.map (·.1))[·]?):=by
     rw[List.map_filterMap];congr 1;funext k;rw[kF]
    rw[this];exact tg2
   ·rw[e2l];exact ZdS pr1 order.toList
theorem ZrP {l:Addr}{its:QY}{val:Nat->Int}{Q:QE}(hh:A.handled=none)(hl:s.heap.IsList l its)(hn:its.size<=62)(hv:∀(i:Nat)(v:Value),its[i]? = some v -> ∃t,v = .int (val i) t)
  (h:∀(h':Heap)(tk ep:Nat)(es:Array (Int×Value))(ks:QG),SI w s.heap.objs.size ks ep es h'->(∀x,x∈ks ↔ ∃j,j<its.size/\val j=x)->(∀c o,c<s.heap.objs.size->s.heap.get? c=some o->h'.get? c=some o)->Q (.ref s.heap.objs.size) { s with heap:=h',toks:=tk }):
  wpAny (model prog w) A (call (.type "set") [.ref l]) Q E s:=by
 refine Zof (J:=fun i h=>∃ep es ks,SI w s.heap.objs.size ks ep es h /\ ∀x,x∈ks ↔ ∃j,j<i/\val j=x) hh hl (fun i h h' ⟨ep,es,ks,x,m⟩ k=>⟨ep,es,ks,x.kept fun o e=>k _ o (kj _) e,m⟩) (fun led q=>⟨0,#[],[],⟨_,.fresh 0 0 led,Kl _ rfl,⟨rfl,rfl,rfl⟩,rfl,q,rfl,Zmr led,.nil,.nil⟩,fun x=>by simp⟩) (fun i v e A E s1 Q _ ⟨ep,es,ks,x,m⟩ hQ=>?_) fun h' tk ⟨ep,es,ks,x,m⟩ k=>h h' tk ep es ks x m k;obtain⟨t,rfl⟩:=hv i v e;have hi:i<its.size:=(qt.mp e).1;have few:ks.length<=i:=by
  obtain⟨_,_,_,_,_,_,_,_,_,nd⟩:=x;have:=ZeI (L:=(List.range i).map val) nd fun y hy=>by obtain⟨j,hj,e⟩:=(m y).mp hy;exact KH.mpr ⟨j,Kw.mpr hj,e⟩
  rwa [ke,KP] at this
 unfold setAdd;refine KL (kg ((intKind prog w).pyHash (k:=val i) (MT _ _ _ _) (Zsk (s:={ s1 with toks:=s1.toks+1 }) x (by lia) fun h' ep' es' ks' sb x' pm=>hQ _ h' _ (XC _) ⟨ep',es',ks',x',fun y=>?_⟩ sb)));have:(y∈if val i∈ks then ks else val i::ks) ↔ y∈ks∨val i=y:=by
  by_cases c:val i∈ks
  ·rw[km c];exact⟨.inl,fun z=>z.elim id fun z=>z ▸ c⟩
  ·rw[ki c,kO];exact⟨fun z=>z.elim (.inr ·.symm) .inl,fun z=>z.elim .inr (.inl ·.symm)⟩
 rw[pm.mem_iff,this,m y];constructor
 ·rintro(⟨j,hj,e⟩ | e)
  ·exact⟨j,by lia,e⟩
  ·exact⟨i,Nat.lt_succ_self i,e⟩
 ·rintro⟨j,hj,e'⟩;rcases Nat.lt_succ_iff_lt_or_eq.mp hj with z | rfl
  ·exact .inl ⟨j,z,e'⟩
  ·exact .inr e'
end
def ZeL (prog:Program)(w:World)(a:Addr)(ks:QG):HO:=.ext fun h=>∃ep es t,SWt prog w a [] ep es t h/\Paired EI es.toList ks
theorem ZlC {prog:Program}{w:World}{H:Hp}{h:Heap}{a:Addr}{ep:Nat}{es:Array (Int×Value)}{t:SetTable}{ks:QG}(x:SWt prog w a [] ep es t h)(e:Paired EI es.toList ks):YA prog w H h a (ZeL prog w a ks):=
 ⟨⟨ep,es,t,x,e⟩,let ⟨o,e,_⟩:=x;⟨o,e⟩,fun _ _ ⟨ep,es,t,y,q⟩ k=>⟨ep,es,t,y.kept k,q⟩⟩
section
variable {X:Cx}
theorem Zld (hc:X.calm=true):YT X (.type "set") (fun xs H Q=>∃(p:Addr)(ns:QG),xs = [.ref p]/\H p=some (.lst (ns.map V.int))/\ns.length<=62 /\
  ∀(a:Addr)(ks:QG),H a=none->ks.Nodup->(∀x,x∈ks ↔ x∈ns)->Q (.ref a) (upd H a (ZeL X.prog X.w a ks))):=by
 intro pins s σ H xs us Q I r h;obtain⟨p,ns,rfl,hp,hn,q⟩:=h;obtain⟨u,rfl,ru⟩:=r.one;cases ru;obtain⟨_,its,n,vs,e⟩:_ /\ ∃(its:QJ)(n:Nat),_/\_:=I.hok p _ hp;obtain⟨len,at_⟩:=Zj7 vs;have hl:s.heap.IsList p its.toArray:=⟨_,e,rfl,n,rfl⟩;refine ZrP (val:=fun i=>ns.getD i 0) (I.ok.hd hc) hl (by simp;lia) (fun i v hv=>at_ i v (by simpa using hv)) fun h' tk ep es ks x m keep=>?_;obtain⟨o,t,e1,e2,e3,e4,e5,e6,e7,e8⟩:=x;have I2:=I.laid (a:=s.heap.objs.size) (o:=ZeL X.prog X.w s.heap.objs.size ks) (h':=h') (t':=tk) (fun c o z=>keep c o (Kc z) z) (kj _) (ZlC ⟨o,e1,e2,e3,e4,e5,e6⟩ e7);refine⟨.ref s.heap.objs.size,_,I2,rfl,q _ ks (I.hok.fresh (kj _)) e8 fun x=>?_⟩;rw[m x];constructor
 ·rintro⟨j,hj,rfl⟩;have hj':j<ns.length:=by simp at hj;lia
  show ns.getD j 0∈ns;rw[Kh,ko hj'];exact Tr hj'
 ·intro hx;obtain⟨j,hj,rfl⟩:=List.getElem_of_mem hx;refine⟨j,by simp;lia,?_⟩;show ns.getD j 0=_;rw[Kh,ko hj];rfl
theorem Zr8 {l:List (Int×Value)}{ks:QG}(h:Paired EI l ks):l.map ev4=ks /\ ∀e∈l,∃t,e.2 = .int (ev4 e) t:=by
 induction h with
 | nil=>exact⟨rfl,fun e he=>by cases he⟩
 | cons q _ ih=>
  rename_i e k _ _ _
  obtain⟨q1,t,q2⟩:=q;have z:ev4 e=k:=by unfold ev4;rw[q2]
  refine⟨by rw[Kq,ih.1,z],fun y hy=>?_⟩;rcases kO.mp hy with rfl | hy
  ·exact⟨t,by rw[z];exact q2⟩
  ·exact ih.2 y hy
theorem Ze1 (hc:X.calm=true):YT X (.builtin "sorted") (fun xs H Q=>∃(p:Addr)(ks:QG),xs = [.ref p]/\H p=some (ZeL X.prog X.w p ks)/\ks.length<64 /\
  ∀(l:Addr)(ns:QG),H l=none->ns.Perm ks->ns.Pairwise (· <= ·)->Q (.ref l) (upd H l (.lst (ns.map V.int)))):=by
 intro pins s σ H xs us Q I r h;obtain⟨p,ks,rfl,hp,kl,q⟩:=h;obtain⟨u,rfl,ru⟩:=r.one;cases ru;obtain⟨⟨ep,es,t,x,hpair⟩,_⟩:=I.hok p _ hp;obtain⟨m,fr⟩:=I.fr;have sz:es.size=ks.length:=by rw[<- kY];exact qj hpair
 refine W.kdu_sorted (ZrA (es:=es) (ep:=ep) (t:=t) (ks:=[])) (I.ok.hd hc) fr (news:=WO X.base s.heap X.env.locals) ZeM x (by rw[k9];lia) fun D h' tk ws fr' nw' lt' hlen hP=>?_;obtain⟨v1,v2⟩:=Zr8 hpair;have pm:=ZfL X.w p ep es;have ia:IntsAre ws ((ZbW X.w p ep es).toList.map ev4):=by refine Zkd _ _ (by rw[hlen,ke,pm.length_eq,kY]) fun j v n e1 e2=>?_;obtain⟨e,e3,rfl⟩:=hP j v e1;rw[<- qd] at e3;rw[kF,e3] at e2;cases e2;exact v2 e (pm.mem_iff.mp (kZ e3))
 refine W.ksk_lsort (vs:=ws) (its:=ws.toArray) (n:=0) fr' nw' (news':=fun o=>(D,o)::WO X.base s.heap X.env.locals) (fun o=>.head fun q hq=>Kn (lt' q hq)) rfl ia (by rw[ke,pm.length_eq,kY];lia) fun vs' ns' c h'' fr'' nw'' ia' hl' perm pw _=>?_;have hD:s.heap.get? D=none:=by
  have nb:X.base.get? D=none:=(nw' (D,W.listOf ws.toArray 0) kS).2.2;have nL:D≠X.env.locals:=(nw' (D,W.listOf ws.toArray 0) kS).2.1;cases e:s.heap.get? D with
  | none=>rfl
  | some o=>exact absurd (lt' (D,o) (Uj nL nb e)) (qK _)
 have fresh:H D=none:=by
  cases e:H D with
  | none=>rfl
  | some o=>
   obtain⟨ob,e2⟩:=(I.hok D o e).there;rw[hD] at e2;cases e2
 have pk:ns'.Perm ks:=perm.trans ((pm.map ev4).trans (by rw[v1]));have I2:=I.laidN (o:=.lst (ns'.map V.int)) (D:=D) (h':=h'') (t':=tk) fr fr'' (fun q hq=>nw'' q (kU _ hq)) hD fresh ⟨by rw[ke,pk.length_eq];rw[k9];lia,vs',c,UI ia',(nw'' _ kS).1⟩
 exact⟨.ref D,_,I2,rfl,q D ns' fresh pk pw⟩
theorem Zir {P:Program}{w:World}(h1:X.prog=P)(h2:X.w=w)(hc:X.calm=true):YT X (.type "set") (fun xs H Q=>∃(p:Addr)(ns:QG),xs = [.ref p]/\H p=some (.lst (ns.map V.int))/\ns.length<=62 /\
  ∀(a:Addr)(ks:QG),H a=none->ks.Nodup->(∀x,x∈ks ↔ x∈ns)->Q (.ref a) (upd H a (ZeL P w a ks))):=by
 subst h1 h2;exact Zld hc
theorem Zeg {P:Program}{w:World}(h1:X.prog=P)(h2:X.w=w)(hc:X.calm=true):YT X (.builtin "sorted") (fun xs H Q=>∃(p:Addr)(ks:QG),xs = [.ref p]/\H p=some (ZeL P w p ks)/\ks.length<64 /\
  ∀(l:Addr)(ns:QG),H l=none->ns.Perm ks->ns.Pairwise (· <= ·)->Q (.ref l) (upd H l (.lst (ns.map V.int)))):=by
 subst h1 h2;exact Ze1 hc
end
end L2
namespace Qk36
open PySem L2 PyProof.Rows
def top (i:Nat):Stmt:=PySem.Challenge.pw_bendfronts_k36_bandings_known.main.body.getD i (.Pass ⟨0,0,0,0⟩)
section
variable {P:Program}{w:World}{K:QF}{mg:QN}{base:Heap}
def Uq:Sp:=fun vs H Q _=>∃(b:Addr)(m:Int),vs = [.ref b,.int m]/\US H b/\1<=m/\m<1073741824 /\ ∀(d:Int)(H':Hp),0<=d->d<m->US H' b->Jf b H H'->Q (.int d) H'
abbrev ZaO:Stmt:=top 37
theorem Zcs:Zy ["_law_bag_here", "_law_many", "_law_digit"] ["_law_bag_here", "_law_many"] (Zj ZaO):={}
theorem ZnY {f:Addr}{fd:FuncData}(F:Yx K "_law_take" "_law_take" ZaO f fd):Yi P w K mg base Wx 1 f fd ["_law_bag_here", "_law_many"] Uq:=by
 refine F.ok Zcs (fun vs H Q E h=>?_) (fun cdv A outer s H vs Q E hr h=>?_)
 ·obtain⟨b,m,rfl,_⟩:=h;rfl
 ·obtain⟨b,m,rfl,⟨g,r,hg,hb⟩,h1,h2,k⟩:=h;refine⟨_,(Zd (ZQ (Zu Zcu (Zx (Zn (K:=K) rfl) (pv 0) Ze (fun _ _=>rfl)) Ze (Zs _)) (Zd (Zp (i:=2) Zcs.nd rfl (.inl rfl) (Zl GJ (Zx (Zn (K:=K) rfl) (pv 0) Ze (fun _ _=>rfl)) (pv 1)))
   (Zd (YB (Zl Zb2 (Zx (Zn (K:=K) rfl) (pv 0) Ze (fun _ _=>rfl)) (pv 1)) (YJ (pv 0) Ze set_list))
   (Zg (Zw (pv 2))))) ZG)
   (Zd (YB (Zl GJ (Zl ZD (Zl Wu (Zx (Zn (K:=K) rfl) (pv 0) Ze (fun _ _=>rfl)) Ze) Ze) Ze) (YJ (pv 0) Ze set_list))
   (Zg (Zw (Zl GJ (Zl GJ (Zl ZgB (Zl Zb2 (Zx (Zn (K:=K) rfl) (pv 0) Ze (fun _ _=>rfl)) Ze) Ze) Ze) (pv 1)))))),?_⟩
  refine⟨_,rfl,b,_,_,_,rfl,rfl,Zt.of hb,Zo (j:=0) rfl,_,_,rfl,rfl,_,rfl,?_⟩;refine ZX (fun hp=>?_) (fun hp=>?_)
  ·have hp':0<g:=kG hp;refine⟨_,rfl,b,_,_,_,rfl,rfl,Zt.of hb,Zo (j:=0) rfl,_,rfl,_,_,rfl,rfl,(by omega:0<m),?_⟩;refine⟨_,rfl,b,_,_,_,rfl,rfl,Zt.of hb,Zo (j:=0) rfl,_,rfl,_,_,rfl,rfl,⟨by omega,by omega⟩,_,rfl,b,_,_,0,rfl,rfl,hb,rfl,?_⟩;refine⟨_,rfl,k _ _ (Xd _ (by omega)) (qJ _ (by omega)) ⟨g / m,r,Int.ediv_nonneg (by omega) (by omega),Zc⟩ Jf.upd⟩
  ·refine⟨_,rfl,b,_,_,_,rfl,rfl,Zt.of hb,Zo (j:=1) rfl,_,_,rfl,rfl,.inr ⟨by decide,by decide⟩,_,_,rfl,rfl,_,_,rfl,rfl,(show (0:Int)<2147483647 by decide),_,rfl,b,_,_,1,rfl,rfl,hb,rfl,?_⟩;have e1:0<=(r*48271+11) % 2147483647:=Xd _ (by decide);have e2:(r*48271+11) % 2147483647<2147483647:=qJ _ (by decide);refine⟨_,rfl,b,_,_,_,rfl,rfl,Zt.of Zc,Zo (j:=1) rfl,_,_,rfl,rfl,⟨by decide,by decide⟩,_,_,rfl,rfl,⟨by decide,by decide,by omega⟩,_,_,rfl,rfl,(show (0:Int)<2147483629 by decide),_,rfl,_,_,rfl,rfl,(by omega:0<m),?_⟩;exact k _ _ (Xd _ (by omega)) (qJ _ (by omega)) ⟨g,_,hg,Zc⟩ Jf.upd
def Zmt (K:QF):Sp:=fun vs H Q _=>∃(a:Addr)(i:Int)(ns:QG),vs = [.ref a,.int i]/\Zt K H a (ns.map V.int)/\0<=i/\i<1000 /\ ∀(l:Addr)(H':Hp),H l=none->Zh H H'->US H' l->Q (.ref l) H'
abbrev ZbT:Stmt:=top 36
theorem We:Zy ["_law_script", "_law_at", "_law_cell", "_law_great", "_law_primes"] ["_law_script", "_law_at"] (Zj ZbT):={}
theorem Zp9 {f:Addr}{fd:FuncData}(F:Yx K "_law_bag" "_law_bag" ZbT f fd)(Ye:mg "len" = none)(ZbC:mg "abs" = none):Yi P w K mg base Wx 1 f fd ["_law_script", "_law_at"] (Zmt K):=by
 refine F.ok We (fun vs H Q E h=>?_) (fun cdv A outer s H vs Q E hr h=>?_)
 ·obtain⟨a,i,ns,rfl,_⟩:=h;rfl
 ·obtain⟨a,i,ns,rfl,hS,h0,h1,k⟩:=h;refine⟨_,(Zd (Zp (i:=2) We.nd rfl (.inl rfl) Ze)
   (Zd (ZQ (Zu Ws (pv 1) (Zv (Yb (K:=K) rfl) (by rfl) Ye KO (Za (pv 0) Zb)) (Zs _)) (Zg (Zp (i:=2) We.nd rfl (.inl rfl) (Zx (Zn (K:=K) rfl) (pv 0) (pv 1) (fun _ _=>rfl)))) ZG)
   (Zd (Zp (i:=3) We.nd rfl (.inl rfl) Ze)
   (Zd (ZQ (Zu Zmi (Zv ZcB (by rfl) ZbC boot_abs (Za (pv 2) Zb)) (Zl ZgB Ze Ze) (Zs _)) (Zg (Zp (i:=3) We.nd rfl (.inl rfl) (Zv ZcB (by rfl) ZbC boot_abs (Za (pv 2) Zb)))) ZG)
   (Zd (Zp (i:=4) We.nd rfl (.inl rfl) (Zz (Za Ze (Za Ze (Za Ze (Za Ze (Za Ze (Za Ze (Za Ze (Za Ze Zb))))))))))
   (Zg (Zw (Zz (Za (pv 3) (Za (Zl GJ (Zl ZgB (Zl ZD (Zl ZD (Zl GJ (pv 2) Ze) (Zl Wu Ze (pv 1))) Ze) Ze) (Zx (Zn (K:=K) rfl) (pv 4) (Zl GJ (pv 1) Ze) (fun _ _=>rfl))) Zb)))))))))),?_⟩
  refine⟨_,rfl,_,rfl,a,_,rfl,.inl hS,_,_,rfl,rfl,_,rfl,?_⟩;have last:∀(c:Int),0<=c % 2147483647/\c % 2147483647<2147483647:=fun c=>⟨Xd _ (by decide),qJ _ (by decide)⟩;have e3:0<=i % 8:=Xd _ (by decide);have e4:i % 8<8:=qJ _ (by decide);obtain⟨j,hj⟩:∃j:Nat,i % 8=(j:Int):=⟨(i % 8).toNat,by omega⟩;have hj8:j<8:=by omega
  obtain⟨q,hq,hq0⟩:∃q:Int,([V.int 2147483629,.int 2147483587,.int 2147483579,.int 2147483563,.int 2147483549,.int 2147483543,.int 2147483497,.int 2147483489]:QH)[j]? = some (.int q)/\0<q:=by
   match j,hj8 with
   | 0,_=>exact⟨_,rfl,by decide⟩
   | 1,_=>exact⟨_,rfl,by decide⟩
   | 2,_=>exact⟨_,rfl,by decide⟩
   | 3,_=>exact⟨_,rfl,by decide⟩
   | 4,_=>exact⟨_,rfl,by decide⟩
   | 5,_=>exact⟨_,rfl,by decide⟩
   | 6,_=>exact⟨_,rfl,by decide⟩
   | 7,_=>exact⟨_,rfl,by decide⟩
  have two:∀(c:Int)(B:Prop),B->(c=0 ∨ ∃j:Nat,i=(j:Int)/\ns[j]? = some c)->B:=fun _ _ b _=>b;refine ZX (fun hp=>?_) (fun hp=>?_)
  ·have hp':i<((ns.map V.int).length:Int):=kG hp;rw[ke] at hp';obtain⟨n,hn⟩:∃n:Nat,i=(n:Int):=⟨i.toNat,by omega⟩;have hnl:n<ns.length:=by omega
   refine⟨_,rfl,_,rfl,a,_,_,_,rfl,rfl,hS,(by rw[hn];exact Zo (v:=V.int ns[n]) (by simp[hnl])),?_⟩;refine⟨_,rfl,_,rfl,_,_,rfl,rfl,⟨by decide,by decide,by decide⟩,_,_,rfl,rfl,_,rfl,?_⟩;refine ZX (fun hp=>?_) (fun hp=>?_)
   ·refine⟨_,rfl,_,rfl,?_⟩;have l0:=last ns[n];refine⟨(by show 8<=sizeLine;decide),fun pl hpl=>?_⟩;refine⟨_,rfl,_,rfl,_,_,rfl,rfl,(show (0:Int)<2147483647 by decide),_,rfl,_,_,rfl,rfl,.inl ⟨by decide,by decide⟩,_,_,rfl,rfl,_,_,rfl,rfl,_,_,rfl,rfl,⟨by decide,by decide,by omega⟩,_,rfl,_,rfl,_,_,rfl,rfl,(show (0:Int)<8 by decide),pl,_,_,_,rfl,rfl,Zt.of Zc,(by rw[hj];exact Zo hq),_,_,rfl,rfl,hq0,sz2,fun l hl=>?_⟩;have hl0:H l=none:=(Zh.laid hpl).free hl;exact k l _ hl0 ((Zh.laid hpl).step hl) ⟨_,_,(by split<;>omega),Zc⟩
   ·have l0:=last ns[n];refine⟨(by show 8<=sizeLine;decide),fun pl hpl=>?_⟩;refine⟨_,rfl,_,rfl,_,_,rfl,rfl,(show (0:Int)<2147483647 by decide),_,rfl,_,_,rfl,rfl,.inl ⟨by decide,by decide⟩,_,_,rfl,rfl,_,_,rfl,rfl,_,_,rfl,rfl,⟨by decide,by decide,by omega⟩,_,rfl,_,rfl,_,_,rfl,rfl,(show (0:Int)<8 by decide),pl,_,_,_,rfl,rfl,Zt.of Zc,(by rw[hj];exact Zo hq),_,_,rfl,rfl,hq0,sz2,fun l hl=>?_⟩;have hl0:H l=none:=(Zh.laid hpl).free hl;exact k l _ hl0 ((Zh.laid hpl).step hl) ⟨0,_,qO _,Zc⟩
  ·refine⟨_,rfl,_,rfl,_,_,rfl,rfl,⟨by decide,by decide,by decide⟩,_,_,rfl,rfl,_,rfl,?_⟩;refine ZX (fun hp=>?_) (fun hp=>?_)
   ·exact absurd hp (by decide)
   ·have l0:=last 0;refine⟨(by show 8<=sizeLine;decide),fun pl hpl=>?_⟩;refine⟨_,rfl,_,rfl,_,_,rfl,rfl,(show (0:Int)<2147483647 by decide),_,rfl,_,_,rfl,rfl,.inl ⟨by decide,by decide⟩,_,_,rfl,rfl,_,_,rfl,rfl,_,_,rfl,rfl,⟨by decide,by decide,by omega⟩,_,rfl,_,rfl,_,_,rfl,rfl,(show (0:Int)<8 by decide),pl,_,_,_,rfl,rfl,Zt.of Zc,(by rw[hj];exact Zo hq),_,_,rfl,rfl,hq0,sz2,fun l hl=>?_⟩;have hl0:H l=none:=(Zh.laid hpl).free hl;exact k l _ hl0 ((Zh.laid hpl).step hl) ⟨0,_,qO _,Zc⟩
def nX (ls:QB):Nat:=ls.countP fun p=>decide (p.1=("cross" : Str))
theorem Gg (a b:QB):nX (a++b)=nX a+nX b:=MV
theorem ZnA (a:QB)(k:Int):nX (a ++ [(("born" : Str),k)])=nX a:=by rw[Gg];rfl
theorem Zl6 (a:QB)(k:Int):nX (a ++ [(("end" : Str),k)])=nX a:=by rw[Gg];rfl
theorem ZaF (a:QB)(k:Int):nX (a ++ [(("cross" : Str),k)])=nX a+1:=by rw[Gg];rfl
def ZiD (lo:Int):Sp:=fun vs H Q _=>∃(b:Addr)(m n:Int),vs = [.ref b,.int m,.int n]/\US H b/\1<=m/\m<1000/\0<=n/\n<1000 /\ ∀(l:Addr)(H':Hp)(ls:QB),H l=none->US H' b->Jf b H H'->Drw H' l ls->((nX ls:Int)<=n/\1<=ls.length)->Q (.ref l) H'
def Zel:Sp:=fun vs H Q _=>∃(b:Addr)(n:Int),vs = [.ref b,.int n]/\US H b/\0<=n/\n<20 /\ ∀(l:Addr)(H':Hp)(ls:QB),H l=none->US H' b->Jf b H H'->Drw H' l ls->((nX ls:Int)<=n/\1<=ls.length)->Q (.ref l) H'
abbrev GV:Stmt:=top 38
theorem ZR:Zy ["_law_bag_here", "_law_births", "_law_most", "_law_letters", "_law_many", "_law_left", "_law_crosses", "_law_turn", "_law_way"] ["_law_bag_here", "_law_births", "_law_most"] (Zj GV):={}
theorem Zoe {f:Addr}{fd:FuncData}(F:Yx K "_law_drawing" "_law_drawing" GV f fd)(Zr:Yq P w K mg base 1 "_law_take" ["_law_bag_here", "_law_many"] Uq)(ZZ:mg "range" = none):
  Yi P w K mg base Wx 2 f fd ["_law_bag_here", "_law_births", "_law_most"] (ZiD 0):=by
 refine F.ok ZR (fun vs H Q E h=>?_) (fun cdv A outer s H vs Q E hr h=>?_)
 ·obtain⟨b,m,n,rfl,_⟩:=h;rfl
 ·obtain⟨b,m,n,rfl,hbag,m1,m2,n1,n2,k⟩:=h;refine⟨_,(Zd (Zp (i:=3) ZR.nd rfl (.inl rfl) (Zz Zb))
   (Zd (Zp (i:=4) ZR.nd rfl (.inl rfl) Ze)
   (Zd (Zp (i:=5) ZR.nd rfl (.inl rfl) (Zl ZD Ze (Zq Zr hr (Za (pv 0) (Za (pv 1) Zb)))))
   (Zd (Zp (i:=6) ZR.nd rfl (.inl rfl) (Zq Zr hr (Za (pv 0) (Za (Zl ZD (pv 2) Ze) Zb))))
   (Zd (Yw Kg rfl (YR (by rfl) ZZ (Za Ze Zb)) (Zk (i:=7) ZR.nd rfl (.inl rfl)) (Zd (Zp (i:=8) ZR.nd rfl (.inl rfl) (Zq Zr hr (Za (pv 0) (Za Ze Zb))))
   (Zg (ZQ (PW.pt (Ur (Zu Zcu (pv 5) Ze (Zs _)) (Ur (Zu Ws (pv 4) Ze (Zs _)) (UT (PW.pt (Zc3 (Zu Yo (pv 4) Ze (Zs _)) (ZbM (Zu Yo (pv 8) Ze (Zs _))))))))) (Zd (Z8 (Yf (K:=K) rfl (YC kK kW kX ZP (pv 3) (Za (ZN (Za ZI (Za (Zq Zr hr (Za (pv 0) (Za (Zl ZD (pv 4) Ze) Zb))) Zb))) Zb))))
   (Zd (Zp (i:=4) ZR.nd rfl (.inl rfl) (Zl ZD (pv 4) Ze))
   (Zg (Zp (i:=5) ZR.nd rfl (.inl rfl) (Zl Jd (pv 5) Ze))))) (Zg (ZQ (PW.pt (Ur (Zu Zcu (pv 4) Ze (Zs _)) (UT (Zu Yo (pv 8) Ze (Zs _))))) (Zd (Z8 (Yf (K:=K) rfl (YC kK kW kX ZP (pv 3) (Za (ZN (Za ZI (Za (Zq Zr hr (Za (pv 0) (Za (Zl Jd (pv 4) Ze) Zb))) Zb))) Zb))))
   (Zg (Zp (i:=4) ZR.nd rfl (.inl rfl) (Zl Jd (pv 4) Ze)))) (Zg (ZQ (PW.pt (Ur (Zu Zcu (pv 4) Ze (Zs _)) (UT (Zu Zcu (pv 6) Ze (Zs _))))) (Zd (Z8 (Yf (K:=K) rfl (YC kK kW kX ZP (pv 3) (Za (ZN (Za ZI (Za (Zq Zr hr (Za (pv 0) (Za (Zl Jd (pv 4) Ze) Zb))) Zb))) Zb))))
   (Zg (Zp (i:=6) ZR.nd rfl (.inl rfl) (Zl Jd (pv 6) Ze)))) ZG))))))))
   (Zd (Zco Kg (Zu Zcu (pv 4) Ze (Zs _)) (Zd (Z8 (Yf (K:=K) rfl (YC kK kW kX ZP (pv 3) (Za (ZN (Za ZI (Za (Zq Zr hr (Za (pv 0) (Za (Zl Jd (pv 4) Ze) Zb))) Zb))) Zb))))
   (Zg (Zp (i:=4) ZR.nd rfl (.inl rfl) (Zl Jd (pv 4) Ze)))))
   (Zg (Zw (pv 3))))))))),?_⟩
  refine⟨sz0,fun l hl=>?_⟩;obtain⟨g0,r0,hg0,hb0⟩:=id hbag;have hlb:l≠b:=(Zf hb0 hl).symm;have bag1:US (upd H l (.lst [])) b:=⟨g0,r0,hg0,by rw[Zi (KG hlb)];exact hb0⟩;refine⟨_,rfl,_,rfl,b,m,rfl,bag1,m1,by lia,fun d1 H1 _ _ bg1 f1=>?_⟩;refine⟨_,_,rfl,rfl,?_⟩;refine⟨_,rfl,_,rfl,_,_,rfl,rfl,b,_,rfl,bg1,by lia,by lia,fun d2 H2 d20 d21 bg2 f2=>?_⟩;have hl2:H2 l=some (.lst []):=f2 l _ (f1 l _ Zc hlb) hlb;have fr2:Jf b H H2:=fun c o e nb=>f2 c o (f1 c o (by rw[Zi (Zf e hl)];exact e) nb) nb;refine⟨30,rfl,by decide,by decide,JL (n:=30) (fun i σ H'=>∃(xs:QH)(ls:QB)(c:Nat)(lf cr:Int)(tv wv:QI),σ = [some (.ref b),some (.int m),some (.int n),some (.ref l),some (.int (2*(c:Int))),some (.int lf),some (.int cr),tv,wv]/\c<=4/\US H' b/\Jf b H H'/\H' l=some (.lst xs)/\ZH H' xs ls/\Wk ls (2*(c:Int))/\ls.length<=i/\(nX ls:Int)+cr<=n/\0<=cr/\(1<=ls.length∨(i=0/\c=0/\0<lf)))
   ⟨[],[],0,_,_,none,none,rfl,by decide,bg2,fr2,hl2,.nil,Wk.nil0,kj _,(by show ((0:Nat):Int)+d2<=n;lia),d20,.inr ⟨rfl,rfl,by lia⟩⟩ ?_ ?_⟩
  ·rintro i σ H3 hi ⟨xs,ls,c,lf,cr,tv,wv,rfl,hc,bg3,fr3,hl3,hL,hW,hlen,hx,hx0,ne⟩;have hxl:xs.length<sizeLine:=by
    rw[hL.len];exact ZC (by lia)
   refine⟨_,rfl,b,8,rfl,bg3,by decide,by decide,fun wy H4 _ _ bg4 f4=>?_⟩;have hl4:H4 l=some (.lst xs):=f4 l _ hl3 hlb;have fr4:Jf b H H4:=fr3.trans f4;have hL4:ZH H4 xs ls:=hL.frm f4 bg3;dsimp only[ZfJ];refine ZiY (Zgr (β:=decide (0<lf)) (fun Q q=>⟨_,rfl,_,_,rfl,rfl,_,rfl,q⟩) fun _=>Zgr (β:=decide (2*(c:Int)<7)) (fun Q q=>⟨_,rfl,_,_,rfl,rfl,_,rfl,q⟩) fun _=>Zse (fun Q q=>⟨_,rfl,rfl,_,rfl,q⟩) fun _=>(fun Q q=>⟨_,rfl,rfl,_,rfl,q⟩)) (fun hp=>?_) (fun hq=>?_)
   ·
    have hp1:2*(c:Int)<7:=by simp only[Kj,Ku] at hp;exact hp.2.1
    refine⟨_,rfl,.inl ⟨rfl,_,Zt.of hl4⟩,_,rfl,_,rfl,_,_,rfl,rfl,b,_,rfl,bg4,by lia,by lia,fun d H5 hd0 hd1 bg5 f5=>⟨sz2,fun t ht=>?_⟩⟩;obtain⟨a1,a2,a3,a4,a5⟩:=W2 "born" d fr4 bg4 hl4 hL4 hlb hl f5 bg5 ht;refine⟨l,_,_,rfl,rfl,a1,hxl,_,rfl,_,_,rfl,rfl,_,rfl,_,_,rfl,rfl,?_⟩;refine⟨xs ++ [.ref t],ls ++ [((("born" : Str),d):Str×Int)],c+1,lf-1,cr,some (.int (0+(i:Int))),some (.int wy),?_,by lia,a2,a3,a4,a5,?_,by rw[kh,Kf];lia,by rw[ZnA];exact hx,hx0,.inl (by rw[kh];exact qA _ _)⟩
    ·have e:2*((c+1:Nat):Int)=2*(c:Int)+2:=by lia
     rw[e];rfl
    ·have e:2*((c+1:Nat):Int)=2*(c:Int)+2:=by lia
     rw[e];exact Wk.born hW hd0 (by lia)
   ·refine ZiY (Zgr (β:=decide (2<2*(c:Int))) (fun Q q=>⟨_,rfl,_,_,rfl,rfl,_,rfl,q⟩) fun _=>(fun Q q=>⟨_,rfl,rfl,_,rfl,q⟩)) (fun hp=>?_) (fun _=>?_)
    ·
     have hp1:2<2*(c:Int):=by simp only[Kj,Ku] at hp;exact hp.1
     refine⟨_,rfl,.inl ⟨rfl,_,Zt.of hl4⟩,_,rfl,_,rfl,_,_,rfl,rfl,b,_,rfl,bg4,by lia,by lia,fun d H5 hd0 hd1 bg5 f5=>⟨sz2,fun t ht=>?_⟩⟩;obtain⟨a1,a2,a3,a4,a5⟩:=W2 "end" d fr4 bg4 hl4 hL4 hlb hl f5 bg5 ht;refine⟨l,_,_,rfl,rfl,a1,hxl,_,rfl,_,_,rfl,rfl,?_⟩;have e:2*((c-1:Nat):Int)=2*(c:Int)-2:=by lia
     refine⟨xs ++ [.ref t],ls ++ [((("end" : Str),d):Str×Int)],c-1,lf,cr,some (.int (0+(i:Int))),some (.int wy),?_,by lia,a2,a3,a4,a5,?_,by rw[kh,Kf];lia,by rw[Zl6];exact hx,hx0,.inl (by rw[kh];exact qA _ _)⟩
     ·rw[e];rfl
     ·rw[e];exact Wk.fin hW hd0 (by lia)
    ·refine ZiY (Zgr (β:=decide (1<2*(c:Int))) (fun Q q=>⟨_,rfl,_,_,rfl,rfl,_,rfl,q⟩) fun _=>(fun Q q=>⟨_,rfl,_,_,rfl,rfl,_,rfl,q⟩)) (fun hp=>?_) (fun _=>?_)
     ·
      have hp1:1<2*(c:Int):=by simp only[Kj,Ku] at hp;exact hp.1
      have hcr:0<cr:=by simp only[Kj,Ku] at hp;exact hp.2
      refine⟨_,rfl,.inl ⟨rfl,_,Zt.of hl4⟩,_,rfl,_,rfl,_,_,rfl,rfl,b,_,rfl,bg4,by lia,by lia,fun d H5 hd0 hd1 bg5 f5=>⟨sz2,fun t ht=>?_⟩⟩;obtain⟨a1,a2,a3,a4,a5⟩:=W2 "cross" d fr4 bg4 hl4 hL4 hlb hl f5 bg5 ht;refine⟨l,_,_,rfl,rfl,a1,hxl,_,rfl,_,_,rfl,rfl,?_⟩;exact⟨xs ++ [.ref t],ls ++ [((("cross" : Str),d):Str×Int)],c,_,_,_,_,rfl,hc,a2,a3,a4,a5,Wk.cross hW hd0 (by lia),by rw[kh,Kf];lia,by rw[ZaF];lia,by lia,.inl (by rw[kh];exact qA _ _)⟩
     ·exact⟨xs,ls,c,_,_,_,_,rfl,hc,bg4,fr4,hl4,hL4,hW,by lia,hx,hx0,.inl (ne.elim id fun⟨_,z,z'⟩=>absurd hq (by subst z;simp[z']))⟩
  ·
   rintro σ H3 ⟨xs,ls,c,lf,cr,tv,wv,rfl,hc,bg3,fr3,hl3,hL,hW,hlen,hx,hx0,ne⟩;refine ZmD (fun σ H'=>∃(xs:QH)(ls:QB)(c:Nat),σ = [some (.ref b),some (.int m),some (.int n),some (.ref l),some (.int (2*(c:Int))),some (.int lf),some (.int cr),tv,wv]/\c<=4/\US H' b/\Jf b H H'/\H' l=some (.lst xs)/\ZH H' xs ls/\Wk ls (2*(c:Int))/\ls.length+c<=34/\((nX ls:Int)<=n/\1<=ls.length))
    (fun(σ:L2.St) _=>match σ[4]? with | some (some (V.int m))=>m.toNat | _=>0) ⟨xs,ls,c,rfl,hc,bg3,fr3,hl3,hL,hW,by lia,by lia,ne.elim id fun z=>absurd z.1 (by decide)⟩ ?_ ?_
   ·rintro σ H4 ⟨xs,ls,c,rfl,hc,bg4,fr4,hl4,hL4,hW,hlen,hx⟩;have hxl:xs.length<sizeLine:=by
     rw[hL4.len];exact ZC (by lia)
    refine⟨_,rfl,_,_,rfl,rfl,_,rfl,?_⟩;refine ZX (fun hp=>?_) (fun hp=>?_)
    ·have hp1:0<2*(c:Int):=kG hp;refine⟨_,rfl,.inl ⟨rfl,_,Zt.of hl4⟩,_,rfl,_,rfl,_,_,rfl,rfl,b,_,rfl,bg4,by lia,by lia,fun d H5 hd0 hd1 bg5 f5=>⟨sz2,fun t ht=>?_⟩⟩;obtain⟨a1,a2,a3,a4,a5⟩:=W2 "end" d fr4 bg4 hl4 hL4 hlb hl f5 bg5 ht;refine⟨l,_,_,rfl,rfl,a1,hxl,_,rfl,_,_,rfl,rfl,?_⟩;have e:2*((c-1:Nat):Int)=2*(c:Int)-2:=by lia
     refine⟨⟨xs ++ [.ref t],ls ++ [((("end" : Str),d):Str×Int)],c-1,?_,by lia,a2,a3,a4,a5,?_,by rw[kh,Kf];lia,by rw[Zl6];exact hx.1,by rw[kh];exact qA _ _⟩,?_⟩
     ·rw[e];rfl
     ·rw[e];exact Wk.fin hW hd0 (by lia)
     ·show (2*(c:Int)-2).toNat<(2*(c:Int)).toNat;lia
    ·have hp1:¬ 0<2*(c:Int):=fun z=>hp (kE z);have hc0:c=0:=by lia
     subst hc0;refine⟨_,rfl,k l H4 ls hl bg4 fr4 ⟨xs,hl4,hL4,by simpa using hW,by lia⟩ hx⟩
   ·rintro σ H Q Q' f ⟨v,e,i,j,e1,e2,kk,e3,q⟩;exact⟨v,e,i,j,e1,e2,kk,e3,f _ _ q⟩
abbrev WZ:Stmt:=top 39
theorem JN:Zy ["_law_bag_here", "_law_most", "_law_births", "_law_letters", "_law_turn", "_law_k"] ["_law_bag_here", "_law_most"] (Zj WZ):={}
theorem Zow {f:Addr}{fd:FuncData}(F:Yx K "_law_plat" "_law_plat" WZ f fd)(Zr:Yq P w K mg base 1 "_law_take" ["_law_bag_here", "_law_many"] Uq)(ZZ:mg "range" = none):
  Yi P w K mg base Wx 2 f fd ["_law_bag_here", "_law_most"] Zel:=by
 refine F.ok JN (fun vs H Q E h=>?_) (fun cdv A outer s H vs Q E hr h=>?_)
 ·obtain⟨b,n,rfl,_⟩:=h;rfl
 ·obtain⟨b,n,rfl,hbag,n1,n2,k⟩:=h;refine⟨_,(Zd (Zp (i:=2) JN.nd rfl (.inl rfl) (Zl ZD Ze (Zq Zr hr (Za (pv 0) (Za Ze Zb)))))
   (Zd (Zc7 (i:=3) JN.nd rfl (.inl rfl) (Ls:=["_law_k"]) (Fs:=[]) (fi:=[]) (ZV.of (show Yv ["_law_bag_here", "_law_most", "_law_births", "_law_letters", "_law_turn", "_law_k"] (Zj WZ) _ [] []=true by decide +kernel)) rfl (YR (by rfl) ZZ (Za (pv 2) Zb)) (fun cl C s3 H3 ex=>⟨(Zk (i:=0) (show ((["_law_k"]:QP)++([]:QP)).Nodup by decide +kernel) rfl (.inl rfl)),YE,(ZN (Za ZI (Za (Zl Wu Ze (pv 0)) Zb)))⟩))
   (Zd (Yw Kg rfl (YR (by rfl) ZZ (Za (Zq Zr hr (Za (pv 0) (Za (Zl ZD (pv 1) Ze) Zb))) Zb)) (Zk (i:=4) JN.nd rfl (.inl rfl)) (Zd (Zp (i:=5) JN.nd rfl (.inl rfl) (Zq Zr hr (Za (pv 0) (Za (Zl Jd (Zl Wu Ze (pv 2)) Ze) Zb))))
   (Zd (ZQ (PW.pt (Ur (Zu Zcu (pv 2) Ze (Zs _)) (UT (Zu Yo (Zq Zr hr (Za (pv 0) (Za Ze Zb))) Ze (Zs _))))) (Zg (Zp (i:=5) JN.nd rfl (.inl rfl) (Zl ZD (Zl Wu Ze (Zl GJ (Zl Zb2 (pv 5) Ze) (Zl Jd (pv 2) Ze))) Ze))) ZG)
   (Zg (Z8 (Yf (K:=K) rfl (YC kK kW kX ZP (pv 3) (Za (ZN (Za ZI (Za (pv 5) Zb))) Zb))))))))
   (Zg (Zw (Zl Y8 (pv 3) (WA (Ls:=["_law_k"]) (Fs:=[]) (fi:=[]) (ZV.of (show Yv ["_law_bag_here", "_law_most", "_law_births", "_law_letters", "_law_turn", "_law_k"] (Zj WZ) _ [] []=true by decide +kernel)) rfl (YR (by rfl) ZZ (Za (pv 2) Zb)) (fun cl C s3 H3 ex=>⟨(Zk (i:=0) (show ((["_law_k"]:QP)++([]:QP)).Nodup by decide +kernel) rfl (.inl rfl)),YE,(ZN (Za ZI (Za Ze Zb)))⟩)))))))),?_⟩
  refine⟨_,rfl,b,3,rfl,hbag,by decide,by decide,fun d H1 hd0 hd1 bg1 f1=>?_⟩;refine⟨_,_,rfl,rfl,?_⟩;have hc1:1<=(1+d).toNat:=by lia
  have hc2:(1+d).toNat<=3:=by lia
  refine⟨_,rfl,_,rfl,by lia,by lia,Zig (n:=(1+d).toNat) (Kz (ZC (by lia))) (fun i ys H'=>Zh H1 H'/\ZH H' ys ((List.range i).map fun(j:Nat)=>(("born", 2*(j:Int)):Str×Int))) ⟨Zh.refl _,.nil⟩
   (fun i ys H' p=>by rw[p.2.len];simp) (fun i ys H' hi p=>?_) (fun ys H2 p l hl=>?_)⟩
  ·refine lcG ?_;refine⟨_,rfl,_,_,rfl,rfl,.inl ⟨by decide,by decide⟩,sz2,fun t ht=>⟨p.1.step ht,?_⟩⟩;rw[KR,kQ];have e:(2*(0+(i:Int)))=2*(i:Int):=by lia
   refine ZH.snoc (p.2.same (Zh.laid ht)) ?_;rw[<- e];exact Zc
  ·
   obtain⟨sm,hL0⟩:=p;obtain⟨g0,r0,hg0,hb0⟩:=id bg1;have hb2:H2 b=some (.lst [.int g0,.int r0]):=sm b _ hb0;have hlb:l≠b:=(Zf hb2 hl).symm;have bg2:US (upd H2 l (.lst ys)) b:=⟨g0,r0,hg0,by rw[Zi (KG hlb)];exact hb2⟩;have hlH:H l=none:=f1.free bg1 (sm.free hl);have fr2:Jf b H (upd H2 l (.lst ys)):=(f1.trans sm.frm).new hl;have hL2:ZH (upd H2 l (.lst ys)) ys ((List.range (1+d).toNat).map fun(j:Nat)=>(("born", 2*(j:Int)):Str×Int)):=hL0.same (Zh.laid hl);refine⟨_,rfl,_,rfl,_,_,rfl,rfl,b,_,rfl,bg2,by lia,by lia,fun d2 H3 he0 he1 bg3 f3=>?_⟩;refine⟨_,rfl,by lia,by lia,JL (n:=d2.toNat) (fun i σ H'=>∃(xs:QH)(ls:QB)(tv kv:QI),σ = [some (.ref b),some (.int n),some (.int (1+d)),some (.ref l),tv,kv]/\US H' b/\Jf b H H'/\H' l=some (.lst xs)/\ZH H' xs ls/\Wk ls (2*((1+d).toNat:Int))/\ls.length<=3+i/\nX ls<=i/\1<=ls.length)
    ⟨ys,_,none,none,rfl,bg3,fr2.trans f3,f3 l _ Zc hlb,hL2.frm f3 bg2,Zfx _,by rw[ke,KP];lia,by unfold nX;rw[List.countP_map];refine Ld (MB.mpr fun _ _=>by simp;decide),by rw[ke,KP];exact hc1⟩ ?_ ?_⟩
   ·rintro i σ H4 hi ⟨xs,ls,tv,kv,rfl,bg4,fr4,hl4,hL4,hW,hlen,hx,ne⟩;have hxl:xs.length<sizeLine:=by
     rw[hL4.len];exact ZC (by lia)
    refine⟨_,rfl,_,rfl,_,_,rfl,rfl,.inl ⟨by decide,by decide⟩,_,_,rfl,rfl,b,_,rfl,bg4,by lia,by lia,fun k1 H5 hk0 hk1 bg5 f5=>?_⟩;have hl5:H5 l=some (.lst xs):=f5 l _ hl4 hlb;have fr5:Jf b H H5:=fr4.trans f5;have hL5:ZH H5 xs ls:=hL4.frm f5 bg4;refine⟨_,rfl,_,_,rfl,rfl,_,rfl,?_⟩;refine ZX (fun hp=>?_) (fun hp=>?_)
    ·have hp1:1<1+d:=kG hp;refine⟨_,rfl,b,2,rfl,bg5,by decide,by decide,fun d3 H6 _ _ bg6 f6=>⟨rfl,_,rfl,?_⟩⟩;have hl6:H6 l=some (.lst xs):=f6 l _ hl5 hlb;have fr6:Jf b H H6:=fr5.trans f6;have hL6:ZH H6 xs ls:=hL5.frm f6 bg5;refine ZX (fun hq=>?_) (fun hq=>?_)
     ·refine⟨_,rfl,_,_,rfl,rfl,⟨by decide,by decide⟩,_,rfl,_,_,rfl,rfl,_,_,rfl,rfl,(show (0:Int)<1+d-1 by lia),_,_,rfl,rfl,.inl ⟨by decide,by decide⟩,_,_,rfl,rfl,?_⟩;have z0:0<=k1 / 2 % (1+d-1):=Xd _ (by lia);have z1:k1 / 2 % (1+d-1)<1+d-1:=qJ _ (by lia);refine⟨_,rfl,.inl ⟨rfl,_,Zt.of hl6⟩,_,rfl,sz2,fun t ht=>?_⟩;obtain⟨a1,a2,a3,a4,a5⟩:=W2 "cross" (2*(k1 / 2 % (1+d-1))+1) fr6 bg6 hl6 hL6 hlb hlH (Jf.refl b H6) bg6 ht;refine⟨l,_,_,rfl,rfl,a1,hxl,?_⟩;exact⟨xs ++ [.ref t],_,_,_,rfl,a2,a3,a4,a5,Wk.cross hW (by lia) (by lia),by rw[kh,Kf];lia,by rw[ZaF];lia,by rw[kh];exact qA _ _⟩
     ·refine⟨_,rfl,.inl ⟨rfl,_,Zt.of hl6⟩,_,rfl,sz2,fun t ht=>?_⟩;obtain⟨a1,a2,a3,a4,a5⟩:=W2 "cross" k1 fr6 bg6 hl6 hL6 hlb hlH (Jf.refl b H6) bg6 ht;refine⟨l,_,_,rfl,rfl,a1,hxl,?_⟩;exact⟨xs ++ [.ref t],_,_,_,rfl,a2,a3,a4,a5,Wk.cross hW (by lia) (by lia),by rw[kh,Kf];lia,by rw[ZaF];lia,by rw[kh];exact qA _ _⟩
    ·refine⟨_,rfl,.inl ⟨rfl,_,Zt.of hl5⟩,_,rfl,sz2,fun t ht=>?_⟩;obtain⟨a1,a2,a3,a4,a5⟩:=W2 "cross" k1 fr5 bg5 hl5 hL5 hlb hlH (Jf.refl b H5) bg5 ht;refine⟨l,_,_,rfl,rfl,a1,hxl,?_⟩;exact⟨xs ++ [.ref t],_,_,_,rfl,a2,a3,a4,a5,Wk.cross hW (by lia) (by lia),by rw[kh,Kf];lia,by rw[ZaF];lia,by rw[kh];exact qA _ _⟩
   ·rintro σ H4 ⟨xs,ls,tv,kv,rfl,bg4,fr4,hl4,hL4,hW,hlen,hx,ne⟩;refine⟨_,rfl,_,rfl,_,rfl,by lia,by lia,Zig (n:=(1+d).toNat) (Kz (ZC (by lia))) (fun i ys H'=>Zh H4 H'/\ZH H' ys (List.replicate i ((("end" : Str),0):Str×Int))) ⟨Zh.refl _,.nil⟩
     (fun i ys H' p=>by rw[p.2.len];simp) (fun i ys H' hi p=>?_) (fun zs H5 p D hD=>?_)⟩
    ·refine lcG ?_;refine⟨sz2,fun t ht=>⟨p.1.step ht,?_⟩⟩;rw[XF];exact ZH.snoc (p.2.same (Zh.laid ht)) Zc
    ·obtain⟨sm5,hZ⟩:=p;have hl5:H5 l=some (.lst xs):=sm5 l _ hl4;have hZl:=hZ.len;rw[KN] at hZl;have hXl:=hL4.len;refine⟨l,D,xs,zs,rfl,rfl,(by rw[Zi (Zf hl5 hD)];exact hl5),Zc,Kz (ZC (by lia)),fun p hp=>?_⟩;have sm6:Zh H4 (upd (upd H5 D (.lst zs)) p (.lst (xs++zs))):=(sm5.step hD).step hp;have hpH:H p=none:=fr4.free bg4 ((sm5.step hD).free hp);obtain⟨g4,r4,hg4,hb4⟩:=id bg4;refine k p _ (ls++List.replicate (1+d).toNat ((("end" : Str),0):Str×Int)) hpH ⟨g4,r4,hg4,sm6 b _ hb4⟩ (fr4.trans sm6.frm) ⟨xs++zs,Zc,?_,?_,?_⟩ ⟨by
      rw[Gg];have:nX (List.replicate (1+d).toNat ((("end" : Str),0):Str×Int))=0:=MB.mpr fun a ha=>by rw[(List.mem_replicate.mp ha).2];decide
      lia,by rw[kh];lia⟩
     ·exact(hL4.same sm6).append (hZ.same ((Zh.laid hD).step hp))
     ·have:=ZdN _ hW (1+d).toNat (kj _);simpa using this
     ·rw[kh,KN];lia
abbrev ZbN:Stmt:=top 40
theorem Zhv:Zy ["_law_bag_here", "_law_most"] ["_law_bag_here", "_law_most"] (Zj ZbN):={}
theorem Zp2 {f:Addr}{fd:FuncData}(F:Yx K "_law_any" "_law_any" ZbN f fd)(Zr:Yq P w K mg base 1 "_law_take" ["_law_bag_here", "_law_many"] Uq)(Wc:Yq P w K mg base 2 "_law_plat" ["_law_bag_here", "_law_most"] Zel)
  (GH:Yq P w K mg base 2 "_law_drawing" ["_law_bag_here", "_law_births", "_law_most"] (ZiD 0)):Yi P w K mg base Wx 3 f fd ["_law_bag_here", "_law_most"] Zel:=by
 refine F.ok Zhv (fun vs H Q E h=>?_) (fun cdv A outer s H vs Q E hr h=>?_)
 ·obtain⟨b,n,rfl,_⟩:=h;rfl
 ·obtain⟨b,n,rfl,hbag,n1,n2,k⟩:=h;refine⟨_,(Zd (ZQ (Zu Yo (Zq Zr hr (Za (pv 0) (Za Ze Zb))) Ze (Zs _)) (Zg (Zw (Zq Wc hr (Za (pv 0) (Za (pv 1) Zb))))) ZG)
   (Zg (Zw (Zq GH hr (Za (pv 0) (Za Ze (Za (pv 1) Zb))))))),?_⟩
  refine⟨_,rfl,b,3,rfl,hbag,by decide,by decide,fun d H1 _ _ bg1 f1=>⟨rfl,_,rfl,?_⟩⟩;refine ZX (fun _=>?_) (fun _=>?_)
  ·exact⟨_,rfl,_,rfl,b,n,rfl,bg1,n1,n2,fun l H2 ls hl bg2 f2 dr nx=>k l H2 ls (f1.free bg1 hl) bg2 (f1.trans f2) dr nx⟩
  ·exact⟨_,rfl,_,rfl,b,4,n,rfl,bg1,by decide,by decide,n1,by lia,fun l H2 ls hl bg2 f2 dr nx=>k l H2 ls (f1.free bg1 hl) bg2 (f1.trans f2) dr nx⟩
abbrev ZcN:Stmt:=top 10
theorem J5:Zy ["drawing", "rows", "born", "kind", "k", "row"] ["drawing"] (Zj ZcN):={}
theorem Zi7 {f:Addr}{fd:FuncData}(F:Yx K "threads" "threads" ZcN f fd)(Z6:mg "list" = none):Yi P w K mg base Wx 1 f fd ["drawing"] ZaC:=by
 refine F.ok J5 (fun vs H Q E h=>?_) (fun cdv A outer s H vs Q E hr h=>?_)
 ·obtain⟨l,xs,ls,rfl,_⟩:=h;rfl
 ·obtain⟨l,xs,ls,rfl,hl,hL,hlen,hW,k⟩:=h;refine⟨_,(Zd (Zp (i:=1) J5.nd rfl (.inl rfl) (Zz (Za (Zz Zb) Zb)))
   (Zd (Zp (i:=2) J5.nd rfl (.inl rfl) Ze)
   (Zd (Yw Kg rfl (ZU (K:=K) rfl (pv 0)) (Z0 (K:=K) (n:=2) rfl rfl (Zm (Zk (i:=3) J5.nd rfl (.inl rfl)) (Zm (Zk (i:=4) J5.nd rfl (.inl rfl)) ZO))) (Zd (Zp (i:=5) J5.nd rfl (.inl rfl) (Yc (J8 (K:=K) rfl) (by rfl) Z6 Xw (Za (Zx (Zn (K:=K) rfl) (pv 1) (Ug Wm Ze) (fun _ _=>rfl)) Zb)))
   (Zd (ZQ (Zu Yo (pv 3) ZI (Zs _)) (Zd (YB (Zz (Za (pv 2) (Za (Zl ZD (pv 2) Ze) Zb))) (Zp8 (pv 5) (ZW (pv 4)) (ZW (pv 4))))
   (Zg (Zm2 (i:=2) J5.nd rfl (.inl rfl) Ze ZpY))) (Zg (ZQ (Zu Yo (pv 3) ZI (Zs _)) (Zg (YB (ZN (Za (Zx (Zn (K:=K) rfl) (pv 5) (Zl ZD (pv 4) Ze) (fun _ _=>rfl)) (Za (Zx (Zn (K:=K) rfl) (pv 5) (pv 4) (fun _ _=>rfl)) Zb))) (Z0 (K:=K) (n:=2) rfl rfl (Zm (YJ (pv 5) (pv 4) set_list) (Zm (YJ (pv 5) (Zl ZD (pv 4) Ze) set_list) ZO))))) (Zg (ZlW (pv 5) (ZW (pv 4)) (ZW (Zl ZD (pv 4) Ze)))))))
   (Zg (Z8 (Yf (K:=K) rfl (YC kK kW kX ZP (pv 1) (Za (pv 5) Zb))))))))
   (Zg (Zw (pv 1)))))),?_⟩
  have hxl:=hL.len;refine⟨sz0,fun e0 he0=>⟨sz1,fun R hR=>?_⟩⟩;have hRH:H R=none:=(Zh.laid he0).free hR;have hRe:e0≠R:=Zf (Zc (H:=H) (a:=e0) (o:=.lst [])) hR;have sm0:Zh H (upd (upd H e0 (.lst [])) R (.lst [.ref e0])):=(Zh.laid he0).step hR;refine⟨_,rfl,l,rfl,⟨_,Zt.of (sm0 l _ hl)⟩,JX (K:=K) (a:=l) (xs:=xs) (fun i σ H'=>∃(ys:QH)(v3 v4 v5:QI),σ = [some (.ref l),some (.ref R),some (.int (rb (ls.take i)).2),v3,v4,v5]/\Zh H H'/\H' R=some (.lst ys)/\Y0 H' ys (rowsOf ls (i+1))/\(∀t,V.ref t∈ys->H t=none/\t≠R)/\ys.Nodup)
   ⟨[.ref e0],none,none,none,rfl,sm0,Zc,?_,?_,by simp⟩ (fun i σ H' _ ⟨_,_,_,_,_,sm,_⟩=>Zt.of (sm l _ hl)) ?_ ?_⟩
  ·refine Paired.cons ⟨e0,rfl,?_⟩ .nil;rw[Zi hRe,Zc];rfl
  ·intro t ht;have:t=e0:=V.ref.inj (kT.mp ht);subst this;exact⟨he0,hRe⟩
  ·rintro i x σ H' hx ⟨ys,v3,v4,v5,rfl,sm,hR',rv,ap,nd⟩;obtain⟨⟨qx,qk⟩,tl,hq,rfl,htl⟩:=hL.get hx;have htl':=sm tl _ htl;have hi:i<ls.length:=(kz.mp hq).1;obtain⟨ztk,cases3⟩:=Zfq hW hq;have rv':=rv;rw[Zba] at rv';obtain⟨ys0,t,rfl,ht⟩:=rv'.last;have hyl:(ys0 ++ [V.ref t]).length<sizeLine:=by
    rw[rv.len];unfold rowsOf;rw[ke,KP];exact ZC (by lia)
   have rl:((rb (ls.take i)).1.map V.int).length=(rb (ls.take i)).1.length:=ke _;obtain⟨m,hm⟩:=Gv hW i;have r8:(rb (ls.take i)).1.length<=900:=by have z1:=Za5 hm;have z2:=Zbt hm;rw[kL] at z2;lia
   refine⟨tl,_,rfl,Y9.of htl',rfl,_,_,rfl,_,_,rfl,rfl,?_⟩;refine⟨_,rfl,1,rfl,R,_,_,_,rfl,rfl,Zt.of hR',Uz _ _,t,_,rfl,.inl (Zt.of ht),fun w hw=>?_⟩;have hwR:w≠R:=(Zf hR' hw).symm;refine⟨_,rfl,rfl,_,rfl,?_⟩;rcases cases3 with⟨e,b0,b1⟩ | ⟨e,b0,b1⟩ | ⟨e,b0,b1⟩
   ·have e:qx = "born" := e;subst e;refine ZX (fun _=>?_) (fun hn=>absurd (by simp) hn);refine⟨_,rfl,_,rfl,_,_,rfl,rfl,sz2,fun nl hnl=>?_⟩;have hwn:w≠nl:=Zf (Zc (H:=H') (a:=w)) hnl;refine⟨_,rfl,_,rfl,_,rfl,_,rfl,_,rfl,w,nl,_,_,qk,qk,rfl,rfl,rfl,rfl,(by rw[Zi hwn];exact Zc),Zc,hwn,b0,qO _,(by rw[rl];exact b1),(by rw[rl];exact Kz (ZC (by show _+2<=1000;lia))),?_⟩;refine⟨_,rfl,_,_,rfl,rfl,?_⟩;have hR2:(upd (upd (upd H' w (.lst ((rb (ls.take i)).1.map V.int))) nl (.lst [.int (rb (ls.take i)).2,.int ((rb (ls.take i)).2+1)])) w (.lst (((rb (ls.take i)).1.map V.int).take qk.toNat ++ [.int (rb (ls.take i)).2,.int ((rb (ls.take i)).2+1)]++((rb (ls.take i)).1.map V.int).drop qk.toNat))) R=some (.lst (ys0 ++ [.ref t])):=by
     rw[Zi (KG hwR)];exact(Zh.laid hnl) R _ ((Zh.laid hw) R _ hR')
    refine⟨_,rfl,.inl ⟨rfl,_,Zt.of hR2⟩,_,rfl,R,_,_,rfl,rfl,hR2,hyl,?_⟩;obtain⟨z1,z2,z3,z4⟩:=GF (G:=upd (upd (upd (upd H' w (.lst ((rb (ls.take i)).1.map V.int))) nl (.lst [.int (rb (ls.take i)).2,.int ((rb (ls.take i)).2+1)])) w (.lst (((rb (ls.take i)).1.map V.int).take qk.toNat ++ [.int (rb (ls.take i)).2,.int ((rb (ls.take i)).2+1)]++((rb (ls.take i)).1.map V.int).drop qk.toNat))) R (.lst ((ys0 ++ [.ref t]) ++ [.ref w]))) hRH sm rv ap nd hw hwR (fun c o e n=>by
      rw[Zi n,Zi (Zf e hw)];exact(Zh.laid hnl) c _ ((Zh.laid hw) c _ e)) (by
      rw[Zi hwR,Zc,ztk,YK,W7];simp[kQ,qM,qD])
    refine⟨ys0 ++ [.ref t] ++ [.ref w],some (.str "born"),some (.int qk),some (.ref w),?_,z1,Zc,z2,z3,z4⟩;rw[ztk,YK,W7];rfl
   ·have e:qx = "cross" := e;subst e;refine ZX (fun hn=>absurd (V.str.inj (kG hn)) nb1) (fun _=>?_);refine⟨_,rfl,rfl,_,rfl,?_⟩;refine ZX (fun _=>?_) (fun hn=>absurd (by simp) hn);obtain⟨kk,rfl⟩:=kI b0;have k1:kk+1<(rb (ls.take i)).1.length:=by have b1:(kk:Int)+1<_:=b1;lia
    have ec:((kk:Int)+1)=((kk+1:Nat):Int):=by lia
    have a1:atI ((rb (ls.take i)).1.map V.int) ((kk:Int)+1)=some (V.int ((rb (ls.take i)).1.getD (kk+1) 0)):=by rw[ec];exact Zo (map_getD _ k1)
    have a0:atI ((rb (ls.take i)).1.map V.int) (kk:Int)=some (V.int ((rb (ls.take i)).1.getD kk 0)):=Zo (map_getD _ (by lia));refine⟨_,rfl,_,rfl,_,_,rfl,rfl,w,_,_,_,rfl,rfl,Zt.of Zc,a1,_,rfl,_,rfl,w,_,_,_,rfl,rfl,Zt.of Zc,a0,sz2,fun tt htt=>?_⟩;have hwt:w≠tt:=Zf (Zc (H:=H') (a:=w)) htt;refine⟨tt,_,rfl,Y9.of Zc,rfl,_,_,rfl,_,rfl,_,rfl,w,_,_,kk,rfl,rfl,(by rw[Zi hwt];exact Zc),(by rw[rl];exact Jg (by lia)),?_⟩;refine⟨_,_,rfl,_,rfl,_,rfl,_,_,rfl,rfl,w,_,_,kk+1,rfl,rfl,Zc,(by rw[KY,rl,ec];exact Jg k1),rfl,?_⟩;rw[JM,Zi9];have hR2:(upd (upd (upd H' w (.lst ((rb (ls.take i)).1.map V.int))) tt (.tup [.int ((rb (ls.take i)).1.getD (kk+1) 0),.int ((rb (ls.take i)).1.getD kk 0)])) w (.lst ((G8 (rb (ls.take i)).1 kk).map V.int))) R=some (.lst (ys0 ++ [.ref t])):=by rw[Zi (KG hwR)];exact(Zh.laid htt) R _ ((Zh.laid hw) R _ hR')
    refine⟨_,rfl,.inl ⟨rfl,_,Zt.of hR2⟩,_,rfl,R,_,_,rfl,rfl,hR2,hyl,?_⟩;obtain⟨z1,z2,z3,z4⟩:=GF (G:=upd (upd (upd (upd H' w (.lst ((rb (ls.take i)).1.map V.int))) tt (.tup [.int ((rb (ls.take i)).1.getD (kk+1) 0),.int ((rb (ls.take i)).1.getD kk 0)])) w (.lst ((G8 (rb (ls.take i)).1 kk).map V.int))) R (.lst ((ys0 ++ [.ref t]) ++ [.ref w]))) hRH sm rv ap nd hw hwR (fun c o e n=>by
      rw[Zi n,Zi (Zf e hw)];exact(Zh.laid htt) c _ ((Zh.laid hw) c _ e)) (by
      rw[Zi hwR,Zc,ztk,YK,Wd];rfl)
    refine⟨ys0 ++ [.ref t] ++ [.ref w],some (.str "cross"),some (.int kk),some (.ref w),?_,z1,Zc,z2,z3,z4⟩;rw[ztk,YK,Wd];rfl
   ·have e:qx = "end" := e;subst e;refine ZX (fun hn=>absurd (V.str.inj (kG hn)) nb2) (fun _=>?_);refine⟨_,rfl,rfl,_,rfl,?_⟩;refine ZX (fun hn=>absurd (V.str.inj (kG hn)) nb3) (fun _=>?_);have b1':qk+1<((rb (ls.take i)).1.length:Int):=b1;refine⟨_,rfl,_,rfl,_,rfl,_,rfl,_,_,rfl,rfl,_,rfl,w,_,qk,qk+2,rfl,rfl,rfl,Zc,b0,by lia,(by rw[rl];lia),?_⟩;rw[JM];have hR2:(upd H' w (.lst (((rb (ls.take i)).1.map V.int).take qk.toNat++((rb (ls.take i)).1.map V.int).drop (qk+2).toNat))) R=some (.lst (ys0 ++ [.ref t])):=(Zh.laid hw) R _ hR';refine⟨_,rfl,.inl ⟨rfl,_,Zt.of hR2⟩,_,rfl,R,_,_,rfl,rfl,hR2,hyl,?_⟩;have e2:(qk+2).toNat=qk.toNat+2:=by have b0':0<=qk:=b0;lia
    obtain⟨z1,z2,z3,z4⟩:=GF (G:=upd (upd H' w (.lst (((rb (ls.take i)).1.map V.int).take qk.toNat++((rb (ls.take i)).1.map V.int).drop (qk+2).toNat))) R (.lst ((ys0 ++ [.ref t]) ++ [.ref w]))) hRH sm rv ap nd hw hwR (fun c o e n=>by
      rw[Zi n];exact(Zh.laid hw) c _ e) (by
      rw[Zi hwR,Zc,ztk,YK,Ub,e2,kQ,qM,qD])
    refine⟨ys0 ++ [.ref t] ++ [.ref w],some (.str "end"),some (.int qk),some (.ref w),?_,z1,Zc,z2,z3,z4⟩;rw[ztk,YK,Ub];rfl
  ·rintro σ H' ⟨ys,v3,v4,v5,rfl,sm,hR',rv,ap,nd⟩;rw[hxl] at rv;exact⟨_,rfl,k R H' ys hRH sm hR' rv ap nd⟩
abbrev ZaU:Stmt:=top 41
theorem Jj:Zy ["_law_drawing_here", "_law_rows_here", "_law_born", "_law_word", "_law_k", "_law_row"] ["_law_drawing_here"] (Zj ZaU):={}
theorem Zn4 {f:Addr}{fd:FuncData}(F:Yx K "_law_rows" "_law_rows" ZaU f fd)(Z6:mg "list" = none):Yi P w K mg base Wx 1 f fd ["_law_drawing_here"] ZaC:=by
 refine F.ok Jj (fun vs H Q E h=>?_) (fun cdv A outer s H vs Q E hr h=>?_)
 ·obtain⟨l,xs,ls,rfl,_⟩:=h;rfl
 ·obtain⟨l,xs,ls,rfl,hl,hL,hlen,hW,k⟩:=h;refine⟨_,(Zd (Zp (i:=1) Jj.nd rfl (.inl rfl) (Zz (Za (Zz Zb) Zb)))
   (Zd (Zp (i:=2) Jj.nd rfl (.inl rfl) Ze)
   (Zd (Yw Kg rfl (ZU (K:=K) rfl (pv 0)) (Z0 (K:=K) (n:=2) rfl rfl (Zm (Zk (i:=3) Jj.nd rfl (.inl rfl)) (Zm (Zk (i:=4) Jj.nd rfl (.inl rfl)) ZO))) (Zd (Zp (i:=5) Jj.nd rfl (.inl rfl) (Yc (J8 (K:=K) rfl) (by rfl) Z6 Xw (Za (Zx (Zn (K:=K) rfl) (pv 1) (Ug Wm Ze) (fun _ _=>rfl)) Zb)))
   (Zd (ZQ (Zu Yo (pv 3) ZI (Zs _)) (Zd (Z8 (Yf (K:=K) rfl (YC kK Nt Nu ZfH (pv 5) (Za (pv 4) (Za (Zl ZD (pv 2) Ze) Zb)))))
   (Zd (Z8 (Yf (K:=K) rfl (YC kK Nt Nu ZfH (pv 5) (Za (pv 4) (Za (pv 2) Zb)))))
   (Zg (Zp (i:=2) Jj.nd rfl (.inl rfl) (Zl ZD (pv 2) Ze))))) (Zg (ZQ (Zu Yo (pv 3) ZI (Zs _)) (Zg (YB (ZN (Za (Zx (Zn (K:=K) rfl) (pv 5) (Zl ZD (pv 4) Ze) (fun _ _=>rfl)) (Za (Zx (Zn (K:=K) rfl) (pv 5) (pv 4) (fun _ _=>rfl)) Zb))) (Z0 (K:=K) (n:=2) rfl rfl (Zm (YJ (pv 5) (pv 4) set_list) (Zm (YJ (pv 5) (Zl ZD (pv 4) Ze) set_list) ZO))))) (Zd (Z8 (Yf (K:=K) rfl (YC kK Tj To ZeB (pv 5) (Za (pv 4) Zb))))
   (Zg (Z8 (Yf (K:=K) rfl (YC kK Tj To ZeB (pv 5) (Za (pv 4) Zb)))))))))
   (Zg (Z8 (Yf (K:=K) rfl (YC kK kW kX ZP (pv 1) (Za (pv 5) Zb))))))))
   (Zg (Zw (pv 1)))))),?_⟩
  have hxl:=hL.len;refine⟨sz0,fun e0 he0=>⟨sz1,fun R hR=>?_⟩⟩;have hRH:H R=none:=(Zh.laid he0).free hR;have hRe:e0≠R:=Zf (Zc (H:=H) (a:=e0) (o:=.lst [])) hR;have sm0:Zh H (upd (upd H e0 (.lst [])) R (.lst [.ref e0])):=(Zh.laid he0).step hR;refine⟨_,rfl,l,rfl,⟨_,Zt.of (sm0 l _ hl)⟩,JX (K:=K) (a:=l) (xs:=xs) (fun i σ H'=>∃(ys:QH)(v3 v4 v5:QI),σ = [some (.ref l),some (.ref R),some (.int (rb (ls.take i)).2),v3,v4,v5]/\Zh H H'/\H' R=some (.lst ys)/\Y0 H' ys (rowsOf ls (i+1))/\(∀t,V.ref t∈ys->H t=none/\t≠R)/\ys.Nodup)
   ⟨[.ref e0],none,none,none,rfl,sm0,Zc,?_,?_,by simp⟩ (fun i σ H' _ ⟨_,_,_,_,_,sm,_⟩=>Zt.of (sm l _ hl)) ?_ ?_⟩
  ·refine Paired.cons ⟨e0,rfl,?_⟩ .nil;rw[Zi hRe,Zc];rfl
  ·intro t ht;have:t=e0:=V.ref.inj (kT.mp ht);subst this;exact⟨he0,hRe⟩
  ·rintro i x σ H' hx ⟨ys,v3,v4,v5,rfl,sm,hR',rv,ap,nd⟩;obtain⟨⟨qx,qk⟩,tl,hq,rfl,htl⟩:=hL.get hx;have htl':=sm tl _ htl;have hi:i<ls.length:=(kz.mp hq).1;obtain⟨ztk,cases3⟩:=Zfq hW hq;have rv':=rv;rw[Zba] at rv';obtain⟨ys0,t,rfl,ht⟩:=rv'.last;have hyl:(ys0 ++ [V.ref t]).length<sizeLine:=by
    rw[rv.len];unfold rowsOf;rw[ke,KP];exact ZC (by lia)
   have rl:((rb (ls.take i)).1.map V.int).length=(rb (ls.take i)).1.length:=ke _;obtain⟨m,hm⟩:=Gv hW i;have r8:(rb (ls.take i)).1.length<=900:=by have z1:=Za5 hm;have z2:=Zbt hm;rw[kL] at z2;lia
   refine⟨tl,_,rfl,Y9.of htl',rfl,_,_,rfl,_,_,rfl,rfl,?_⟩;refine⟨_,rfl,1,rfl,R,_,_,_,rfl,rfl,Zt.of hR',Uz _ _,t,_,rfl,.inl (Zt.of ht),fun w hw=>?_⟩;have hwR:w≠R:=(Zf hR' hw).symm;refine⟨_,rfl,rfl,_,rfl,?_⟩;rcases cases3 with⟨e,b0,b1⟩ | ⟨e,b0,b1⟩ | ⟨e,b0,b1⟩
   ·have e:qx = "born" := e;subst e;refine ZX (fun _=>?_) (fun hn=>absurd (by simp) hn);have b0':0<=qk:=b0;have b1':qk<=((rb (ls.take i)).1.length:Int):=b1;refine⟨_,rfl,.inl ⟨rfl,_,Zt.of Zc⟩,_,rfl,_,rfl,_,_,rfl,rfl,w,_,qk,_,rfl,rfl,Zc,b0',(by rw[rl];exact b1'),(by rw[rl];exact ZC (by lia)),(by rw[rl];lia),?_⟩;have rl2:(((rb (ls.take i)).1.map V.int).take qk.toNat++V.int ((rb (ls.take i)).2+1)::((rb (ls.take i)).1.map V.int).drop qk.toNat).length=(rb (ls.take i)).1.length+1:=by
     rw[kh,Kv,kL,Ks,rl];lia
    refine⟨_,rfl,.inl ⟨rfl,_,Zt.of Zc⟩,_,rfl,_,rfl,w,_,qk,_,rfl,rfl,Zc,b0',(by rw[rl2];lia),(by rw[rl2];exact ZC (by lia)),(by rw[rl2];lia),?_⟩;refine⟨_,rfl,_,_,rfl,rfl,?_⟩;rw[JM,JM,ZnX _ _ _ _ (by rw[rl];lia)];have hR2:(upd H' w (.lst (((rb (ls.take i)).1.map V.int).take qk.toNat ++ [.int (rb (ls.take i)).2,.int ((rb (ls.take i)).2+1)]++((rb (ls.take i)).1.map V.int).drop qk.toNat))) R=some (.lst (ys0 ++ [.ref t])):=(Zh.laid hw) R _ hR';refine⟨_,rfl,.inl ⟨rfl,_,Zt.of hR2⟩,_,rfl,R,_,_,rfl,rfl,hR2,hyl,?_⟩;obtain⟨z1,z2,z3,z4⟩:=GF (G:=upd (upd H' w (.lst (((rb (ls.take i)).1.map V.int).take qk.toNat ++ [.int (rb (ls.take i)).2,.int ((rb (ls.take i)).2+1)]++((rb (ls.take i)).1.map V.int).drop qk.toNat))) R (.lst ((ys0 ++ [.ref t]) ++ [.ref w]))) hRH sm rv ap nd hw hwR (fun c o e n=>by
      rw[Zi n];exact(Zh.laid hw) c _ e) (by
      rw[Zi hwR,Zc,ztk,YK,W7];simp[kQ,qM,qD])
    refine⟨ys0 ++ [.ref t] ++ [.ref w],some (.str "born"),some (.int qk),some (.ref w),?_,z1,Zc,z2,z3,z4⟩;rw[ztk,YK,W7];rfl
   ·have e:qx = "cross" := e;subst e;refine ZX (fun hn=>absurd (V.str.inj (kG hn)) nb1) (fun _=>?_);refine⟨_,rfl,rfl,_,rfl,?_⟩;refine ZX (fun _=>?_) (fun hn=>absurd (by simp) hn);obtain⟨kk,rfl⟩:=kI b0;have k1:kk+1<(rb (ls.take i)).1.length:=by have b1:(kk:Int)+1<_:=b1;lia
    have ec:((kk:Int)+1)=((kk+1:Nat):Int):=by lia
    have a1:atI ((rb (ls.take i)).1.map V.int) ((kk:Int)+1)=some (V.int ((rb (ls.take i)).1.getD (kk+1) 0)):=by rw[ec];exact Zo (map_getD _ k1)
    have a0:atI ((rb (ls.take i)).1.map V.int) (kk:Int)=some (V.int ((rb (ls.take i)).1.getD kk 0)):=Zo (map_getD _ (by lia));refine⟨_,rfl,_,rfl,_,_,rfl,rfl,w,_,_,_,rfl,rfl,Zt.of Zc,a1,_,rfl,_,rfl,w,_,_,_,rfl,rfl,Zt.of Zc,a0,sz2,fun tt htt=>?_⟩;have hwt:w≠tt:=Zf (Zc (H:=H') (a:=w)) htt;refine⟨tt,_,rfl,Y9.of Zc,rfl,_,_,rfl,_,rfl,_,rfl,w,_,_,kk,rfl,rfl,(by rw[Zi hwt];exact Zc),(by rw[rl];exact Jg (by lia)),?_⟩;refine⟨_,_,rfl,_,rfl,_,rfl,_,_,rfl,rfl,w,_,_,kk+1,rfl,rfl,Zc,(by rw[KY,rl,ec];exact Jg k1),rfl,?_⟩;rw[JM,Zi9];have hR2:(upd (upd (upd H' w (.lst ((rb (ls.take i)).1.map V.int))) tt (.tup [.int ((rb (ls.take i)).1.getD (kk+1) 0),.int ((rb (ls.take i)).1.getD kk 0)])) w (.lst ((G8 (rb (ls.take i)).1 kk).map V.int))) R=some (.lst (ys0 ++ [.ref t])):=by rw[Zi (KG hwR)];exact(Zh.laid htt) R _ ((Zh.laid hw) R _ hR')
    refine⟨_,rfl,.inl ⟨rfl,_,Zt.of hR2⟩,_,rfl,R,_,_,rfl,rfl,hR2,hyl,?_⟩;obtain⟨z1,z2,z3,z4⟩:=GF (G:=upd (upd (upd (upd H' w (.lst ((rb (ls.take i)).1.map V.int))) tt (.tup [.int ((rb (ls.take i)).1.getD (kk+1) 0),.int ((rb (ls.take i)).1.getD kk 0)])) w (.lst ((G8 (rb (ls.take i)).1 kk).map V.int))) R (.lst ((ys0 ++ [.ref t]) ++ [.ref w]))) hRH sm rv ap nd hw hwR (fun c o e n=>by
      rw[Zi n,Zi (Zf e hw)];exact(Zh.laid htt) c _ ((Zh.laid hw) c _ e)) (by
      rw[Zi hwR,Zc,ztk,YK,Wd];rfl)
    refine⟨ys0 ++ [.ref t] ++ [.ref w],some (.str "cross"),some (.int kk),some (.ref w),?_,z1,Zc,z2,z3,z4⟩;rw[ztk,YK,Wd];rfl
   ·have e:qx = "end" := e;subst e;refine ZX (fun hn=>absurd (V.str.inj (kG hn)) nb2) (fun _=>?_);refine⟨_,rfl,rfl,_,rfl,?_⟩;refine ZX (fun hn=>absurd (V.str.inj (kG hn)) nb3) (fun _=>?_);have b1':qk+1<((rb (ls.take i)).1.length:Int):=b1;obtain⟨kk,rfl⟩:=kI b0;have k1:kk+1<(rb (ls.take i)).1.length:=by lia
    have l1:(((rb (ls.take i)).1.map V.int).eraseIdx kk).length=(rb (ls.take i)).1.length-1:=by rw[T6 (by rw[rl];lia),rl]
    refine⟨_,rfl,.inl ⟨rfl,_,Zt.of Zc⟩,_,rfl,w,_,_,kk,_,rfl,rfl,Zc,by lia,by lia,(by rw[rl];exact Zfs (by lia)),map_getD _ (by lia),?_⟩;obtain⟨y2,hy2⟩:∃y2,(((rb (ls.take i)).1.map V.int).eraseIdx kk)[kk]? = some y2:=⟨_,ko (by rw[l1];lia)⟩;refine⟨_,rfl,.inl ⟨rfl,_,Zt.of Zc⟩,_,rfl,w,_,_,kk,_,rfl,rfl,Zc,by lia,by lia,(by rw[l1];exact Zfs (by lia)),hy2,?_⟩;rw[JM,JM,Znw];have hR2:(upd H' w (.lst (((rb (ls.take i)).1.map V.int).take kk++((rb (ls.take i)).1.map V.int).drop (kk+2)))) R=some (.lst (ys0 ++ [.ref t])):=(Zh.laid hw) R _ hR';refine⟨_,rfl,.inl ⟨rfl,_,Zt.of hR2⟩,_,rfl,R,_,_,rfl,rfl,hR2,hyl,?_⟩;obtain⟨z1,z2,z3,z4⟩:=GF (G:=upd (upd H' w (.lst (((rb (ls.take i)).1.map V.int).take kk++((rb (ls.take i)).1.map V.int).drop (kk+2)))) R (.lst ((ys0 ++ [.ref t]) ++ [.ref w]))) hRH sm rv ap nd hw hwR (fun c o e n=>by
      rw[Zi n];exact(Zh.laid hw) c _ e) (by
      rw[Zi hwR,Zc,ztk,YK,Ub,kM,kQ,qM,qD])
    refine⟨ys0 ++ [.ref t] ++ [.ref w],some (.str "end"),some (.int kk),some (.ref w),?_,z1,Zc,z2,z3,z4⟩;rw[ztk,YK,Ub];rfl
  ·rintro σ H' ⟨ys,v3,v4,v5,rfl,sm,hR',rv,ap,nd⟩;rw[hxl] at rv;exact⟨_,rfl,k R H' ys hRH sm hR' rv ap nd⟩
def Zav (pr:Str->Bool):Sp:=fun vs H Q _=>∃(l:Addr)(xs:QH)(ls:QB),vs = [.ref l]/\H l=some (.lst xs)/\ZH H xs ls/\ls.length<=60/\(∀p∈ls,Kd p.1) /\ ∀(p:Addr)(H':Hp),H p=none->Zh H H'->H' p=some (.lst ((Yg ls pr ls.length).map V.int))->Q (.ref p) H'
def Zbs:Sp:=fun vs H Q _=>∃(l:Addr)(kd:Str)(xs:QH)(ls:QB),vs = [.ref l,.str kd]/\H l=some (.lst xs)/\ZH H xs ls/\ls.length<=60 /\ ∀(p:Addr)(H':Hp),H p=none->Zh H H'->H' p=some (.lst ((Yg ls (fun x=>decide (x=kd)) ls.length).map V.int))->Q (.ref p) H'
abbrev Gz:Stmt:=top 2
theorem ZeP:Zy ["drawing", "kind"] ["drawing", "kind"] (Zj Gz):={}
theorem ZiV {f:Addr}{fd:FuncData}(F:Yx K "letters_of" "letters_of" Gz f fd)(ZA:mg "enumerate" = none):Yi P w K mg base Wx 1 f fd ["drawing", "kind"] Zbs:=by
 refine F.ok ZeP (fun vs H Q E h=>?_) (fun cdv A outer s H vs Q E hr h=>?_)
 ·obtain⟨l,kd,xs,ls,rfl,_⟩:=h;rfl
 ·obtain⟨l,kd,xs,ls,rfl,hl,hL,hlen,k⟩:=h;refine⟨_,(Zg (Zw (WA (Ls:=["t", "letter"]) (Fs:=["kind"]) (fi:=[1]) (ZV.of (show Yv ["drawing", "kind"] (Zj Gz) _ ["kind"] [1]=true by decide +kernel)) rfl (JU (K:=K) rfl (by rfl) ZA (Za (pv 0) Zb)) (fun cl C s3 H3 ex=>⟨(Z0 (K:=K) (n:=2) rfl rfl (Zm (Zk (i:=0) (show ((["t", "letter"]:QP)++(["kind"]:QP)).Nodup by decide +kernel) rfl (.inl rfl)) (Zm (Zk (i:=1) (show ((["t", "letter"]:QP)++(["kind"]:QP)).Nodup by decide +kernel) rfl (.inl rfl)) ZO))),(Zaj (Zu Yo (Zx (Yp (K:=K) rfl) (pv 1) Ze (fun _ _=>rfl)) (pv 2) (Zs _))),(pv 0)⟩)))),?_⟩;have hxl:=hL.len;refine⟨_,rfl,l,rfl,⟨_,Zt.of hl⟩,ZiQ (xs:=xs) (Kz (ZC (by lia))) (fun i ys H'=>Zh H H'/\ys=(Yg ls (fun x=>decide (x=kd)) i).map V.int) ⟨Zh.refl _,rfl⟩
   (fun i ys H' p=>by rw[p.2,ke];exact JV _ _ _) (fun i ys H' p=>Zt.of (p.1 l _ hl)) (fun i x p ys H' hx pv hp=>?_) (fun ys H' pv D hD=>?_)⟩
  ·obtain⟨sm,rfl⟩:=pv;obtain⟨q,t,hq,rfl,ht⟩:=hL.get hx;have ht':(upd H' p (.tup [.int i,.ref t])) t=some (.tup [.str q.1,.int q.2]):=by rw[Zi (Zf (sm t _ ht) hp)];exact sm t _ ht
   refine⟨p,_,rfl,Y9.of Zc,rfl,_,_,rfl,_,_,rfl,rfl,?_⟩;refine⟨_,rfl,t,_,_,_,rfl,rfl,Y9.of ht',Zo (j:=0) rfl,_,rfl,rfl,_,rfl,?_⟩;refine ZX (fun hc=>?_) (fun hc=>?_)
   ·have e:q.1=kd:=V.str.inj (kG hc);exact⟨_,rfl,sm.step hp,ZdY hq (by simpa using e)⟩
   ·have e:¬q.1=kd:=fun z=>hc (kE (KC V.str z));exact⟨sm.step hp,ZgQ hq (by simpa using e)⟩
  ·obtain⟨sm,rfl⟩:=pv;rw[hxl];exact k D _ (sm.free hD) (sm.step hD) Zc
abbrev ZcL:Stmt:=top 4
theorem Zi0:Zy ["drawing"] ["drawing"] (Zj ZcL):={}
theorem Zoz {f:Addr}{fd:FuncData}(F:Yx K "ends_of" "ends_of" ZcL f fd)(JI:Yq P w K mg base 1 "letters_of" ["drawing", "kind"] Zbs):Yi P w K mg base Wx 2 f fd ["drawing"] (Zav fun x=>decide (x = "end")):=by
 refine F.ok Zi0 (fun vs H Q E h=>?_) (fun cdv A outer s H vs Q E hr h=>?_)
 ·obtain⟨l,xs,ls,rfl,_⟩:=h;rfl
 ·obtain⟨l,xs,ls,rfl,hl,hL,hlen,_,k⟩:=h;refine⟨_,(Zg (Zw (Zq JI hr (Za (pv 0) (Za ZI Zb))))),?_⟩;exact⟨_,rfl,l,_,xs,ls,rfl,hl,hL,hlen,k⟩
abbrev Zan:Stmt:=top 5
theorem ZhA:Zy ["drawing"] ["drawing"] (Zj Zan):={}
theorem Zll {f:Addr}{fd:FuncData}(F:Yx K "names_of" "names_of" Zan f fd)(ZA:mg "enumerate" = none):Yi P w K mg base Wx 1 f fd ["drawing"] (Zav fun x=>!decide (x = "born")):=by
 refine F.ok ZhA (fun vs H Q E h=>?_) (fun cdv A outer s H vs Q E hr h=>?_)
 ·obtain⟨l,xs,ls,rfl,_⟩:=h;rfl
 ·obtain⟨l,xs,ls,rfl,hl,hL,hlen,_,k⟩:=h;refine⟨_,(Zg (Zw (WA (Ls:=["t", "letter"]) (Fs:=[]) (fi:=[]) (ZV.of (show Yv ["drawing"] (Zj Zan) _ [] []=true by decide +kernel)) rfl (JU (K:=K) rfl (by rfl) ZA (Za (pv 0) Zb)) (fun cl C s3 H3 ex=>⟨(Z0 (K:=K) (n:=2) rfl rfl (Zm (Zk (i:=0) (show ((["t", "letter"]:QP)++([]:QP)).Nodup by decide +kernel) rfl (.inl rfl)) (Zm (Zk (i:=1) (show ((["t", "letter"]:QP)++([]:QP)).Nodup by decide +kernel) rfl (.inl rfl)) ZO))),(Zaj (Zu Zck (Zx (Yp (K:=K) rfl) (pv 1) Ze (fun _ _=>rfl)) ZI (Zs _))),(pv 0)⟩)))),?_⟩;have hxl:=hL.len;refine⟨_,rfl,l,rfl,⟨_,Zt.of hl⟩,ZiQ (xs:=xs) (Kz (ZC (by lia))) (fun i ys H'=>Zh H H'/\ys=(Yg ls (fun x=>!decide (x = "born")) i).map V.int) ⟨Zh.refl _,rfl⟩
   (fun i ys H' p=>by rw[p.2,ke];exact JV _ _ _) (fun i ys H' p=>Zt.of (p.1 l _ hl)) (fun i x p ys H' hx pv hp=>?_) (fun ys H' pv D hD=>?_)⟩
  ·obtain⟨sm,rfl⟩:=pv;obtain⟨q,t,hq,rfl,ht⟩:=hL.get hx;have ht':(upd H' p (.tup [.int i,.ref t])) t=some (.tup [.str q.1,.int q.2]):=by rw[Zi (Zf (sm t _ ht) hp)];exact sm t _ ht
   refine⟨p,_,rfl,Y9.of Zc,rfl,_,_,rfl,_,_,rfl,rfl,?_⟩;refine⟨_,rfl,t,_,_,_,rfl,rfl,Y9.of ht',Zo (j:=0) rfl,rfl,_,rfl,?_⟩;refine ZX (fun hc=>?_) (fun hc=>?_)
   ·have e:¬q.1 = "born" := fun z=>by
     have:(!decide (V.str q.1=V.str "born"))=true:=hc;rw[kE (KC V.str z)] at this;cases this
    exact⟨_,rfl,sm.step hp,ZdY hq (by simpa using e)⟩
   ·have e:q.1 = "born" := by
     by_cases z:q.1 = "born"
     ·exact z
     ·exact absurd (show (!decide (V.str q.1=V.str "born"))=true by rw[Km (fun y=>z (V.str.inj y))];rfl) hc
    exact⟨sm.step hp,ZgQ hq (by simpa using e)⟩
  ·obtain⟨sm,rfl⟩:=pv;rw[hxl];exact k D _ (sm.free hD) (sm.step hD) Zc
theorem Zjn {H:Hp}:∀{xs:QH}{ls:QB}{i:Nat}{q:Str×Int},ZH H xs ls->ls[i]? = some q -> ∃t,xs[i]? = some (.ref t)/\H t=some (.tup [.str q.1,.int q.2])
 | _,_,_,_,.nil,e=>by simp at e
 | _,_,0,_,.cons ⟨t,e1,q⟩ _,e=>by simp at e;subst e;exact⟨t,by simp[e1],q⟩
 | _,_,i+1,q,.cons _ r,e=>by obtain⟨t,h1,h2⟩:=Zjn (i:=i) (q:=q) r (by simpa using e);exact⟨t,by simpa using h1,h2⟩
def ZdO:Sp:=fun vs H Q _=>∃(l n:Addr)(xs:QH)(ls:QB)(ns:QG),vs = [.ref l,.ref n]/\H l=some (.lst xs)/\ZH H xs ls/\ls.length<=60/\Wk ls 0/\H n=some (.lst (ns.map V.int))/\ns.length<=60/\(∀t∈ns,0<=t /\ ∃q,ls[t.toNat]? = some q/\q.1 ≠ "born") /\
 ∀(p:Addr)(H':Hp)(ys:QH),H p=none->Zh H H'->H' p=some (.lst ys)->JQ H' ys (ns.map fun t=>YM ls t.toNat)->Q (.ref p) H'
abbrev Ul:Stmt:=top 11
theorem JE:Zy ["drawing", "numbers", "rows", "found", "t", "k"] ["drawing", "numbers"] (Zj Ul):={}
theorem Zmc {f:Addr}{fd:FuncData}(F:Yx K "pairs_ahead" "pairs_ahead" Ul f fd)(ZcV:Yq P w K mg base 1 "threads" ["drawing"] ZaC):Yi P w K mg base Wx 2 f fd ["drawing", "numbers"] ZdO:=by
 refine F.ok JE (fun vs H Q E h=>?_) (fun cdv A outer s H vs Q E hr h=>?_)
 ·obtain⟨l,n,xs,ls,ns,rfl,_⟩:=h;rfl
 ·obtain⟨l,n,xs,ls,ns,rfl,hl,hL,hlen,hW,hn,hnl,hns,k⟩:=h;refine⟨_,(Zd (Zp (i:=2) JE.nd rfl (.inl rfl) (Zq ZcV hr (Za (pv 0) Zb)))
   (Zd (Zp (i:=3) JE.nd rfl (.inl rfl) (Zz Zb))
   (Zd (Yw Kg rfl (ZU (K:=K) rfl (pv 1)) (Zk (i:=4) JE.nd rfl (.inl rfl)) (Zd (Zp (i:=5) JE.nd rfl (.inl rfl) (Zx (Yp (K:=K) rfl) (Zx (Zn (K:=K) rfl) (pv 0) (pv 4) (fun _ _=>rfl)) Ze (fun _ _=>rfl)))
   (Zg (Z8 (Yf (K:=K) rfl (YC kK kW kX ZP (pv 3) (Za (ZN (Za (Zx (Zn (K:=K) rfl) (Zx (Zn (K:=K) rfl) (pv 2) (pv 4) (fun _ _=>rfl)) (pv 5) (fun _ _=>rfl)) (Za (Zx (Zn (K:=K) rfl) (Zx (Zn (K:=K) rfl) (pv 2) (pv 4) (fun _ _=>rfl)) (Zl ZD (pv 5) Ze) (fun _ _=>rfl)) Zb))) Zb)))))))
   (Zg (Zw (pv 3)))))),?_⟩
  refine⟨_,rfl,l,xs,ls,rfl,hl,hL,hlen,hW,fun R H1 ys fR s1 eR rv ap nd=>?_⟩;refine⟨sz0,fun fA hfA=>?_⟩;have hl1:=s1 l _ hl;have hL1:=hL.same s1;have hn1:=s1 n _ hn;refine⟨_,rfl,n,rfl,⟨_,Zt.of ((Zh.laid hfA) n _ hn1)⟩,JX (K:=K) (a:=n) (xs:=ns.map V.int) (fun i σ H'=>∃(zs:QH)(v4 v5:QI),σ = [some (.ref l),some (.ref n),some (.ref R),some (.ref fA),v4,v5]/\Zh H1 H'/\H' fA=some (.lst zs)/\JQ H' zs ((ns.take i).map fun t=>YM ls t.toNat))
   ⟨[],none,none,rfl,Zh.laid hfA,Zc,.nil⟩ (fun i σ H' _ ⟨_,_,_,_,sm,_⟩=>Zt.of (sm n _ hn1)) ?_ ?_⟩
  ·rintro i x σ H' hx ⟨zs,v4,v5,rfl,sm,hf,pv⟩;obtain⟨t,ht,rfl⟩:=WJ hx;obtain⟨t0,⟨qx,qk⟩,hq,hb⟩:=hns t (kZ ht);obtain⟨tn,rfl⟩:=kI t0;rw[kM] at hq;have htl:tn<ls.length:=(kz.mp hq).1;obtain⟨k0,k1,pe⟩:=ZhE hW hq hb;obtain⟨kn,rfl⟩:=kI (show 0<=qk from k0);simp only[kM] at k1 pe;obtain⟨ta,hxt,hta⟩:=Zjn hL1 hq;obtain⟨ra,hra,hrr⟩:=rv.at (Zbo ls (i:=tn) (n:=ls.length+1) (by lia));have e1:((kn:Int)+1)=((kn+1:Nat):Int):=by lia
   refine⟨_,rfl,_,rfl,l,_,_,_,rfl,rfl,Zt.of (sm l _ hl1),Zo hxt,ta,_,_,_,rfl,rfl,Y9.of (sm ta _ hta),Zo (j:=1) rfl,?_⟩;refine⟨_,rfl,.inl ⟨rfl,_,Zt.of hf⟩,_,rfl,_,rfl,R,_,_,_,rfl,rfl,Zt.of (sm R _ eR),Zo hra,_,rfl,ra,_,_,_,rfl,rfl,Zt.of (sm ra _ hrr),Zo (map_getD _ (by lia)),?_⟩;refine⟨_,rfl,_,rfl,R,_,_,_,rfl,rfl,Zt.of (sm R _ eR),Zo hra,_,rfl,_,_,rfl,rfl,ra,_,_,_,rfl,rfl,Zt.of (sm ra _ hrr),(by rw[e1];exact Zo (map_getD _ k1)),sz2,fun tt htt=>?_⟩;have hft:fA≠tt:=Zf hf htt;have zl:zs.length<sizeLine:=by rw[pv.len,ke,kL];exact ZC (by lia)
   refine⟨fA,_,_,rfl,rfl,(by rw[Zi hft];exact hf),zl,?_⟩;refine⟨zs ++ [.ref tt],some (.int tn),some (.int kn),rfl,(sm.step htt).put hfA,Zc,?_⟩;rw[Jp _ ht];refine JQ.snoc (pv.mono fun a p e=>?_) ?_
   ·rw[Zi (Zee e hf (by intro z;cases z)),Zi (Zf e htt)];exact e
   ·rw[Zi (KG hft),Zc,kM,pe]
  ·rintro σ H' ⟨zs,v4,v5,rfl,sm,hf,pv⟩;refine⟨_,rfl,k fA H' zs (s1.free hfA) (s1.trans sm) hf ?_⟩;rw[ke,kJ (kj _)] at pv;exact pv
def Zgl:Sp:=fun vs H Q _=>∃(l:Addr)(xs:QH)(ls:QB),vs = [.ref l]/\H l=some (.lst xs)/\ZH H xs ls/\ls.length<=60/\Wk ls 0 /\
 ∀(p:Addr)(H':Hp)(ys:QH),H p=none->Zh H H'->H' p=some (.lst ys)->JQ H' ys (Jk ls)->Q (.ref p) H'
abbrev Zbb:Stmt:=top 12
theorem ZfY:Zy ["drawing"] ["drawing"] (Zj Zbb):={}
theorem ZgJ {f:Addr}{fd:FuncData}(F:Yx K "end_pairs" "end_pairs" Zbb f fd)(Jr:Yq P w K mg base 2 "pairs_ahead" ["drawing", "numbers"] ZdO)(JK:Yq P w K mg base 2 "ends_of" ["drawing"] (Zav fun x=>decide (x = "end"))):Yi P w K mg base Wx 3 f fd ["drawing"] Zgl:=by
 refine F.ok ZfY (fun vs H Q E h=>?_) (fun cdv A outer s H vs Q E hr h=>?_)
 ·obtain⟨l,xs,ls,rfl,_⟩:=h;rfl
 ·obtain⟨l,xs,ls,rfl,hl,hL,hlen,hW,k⟩:=h;refine⟨_,(Zg (Zw (Zq Jr hr (Za (pv 0) (Za (Zq JK hr (Za (pv 0) Zb)) Zb))))),?_⟩;refine⟨_,rfl,_,rfl,l,xs,ls,rfl,hl,hL,hlen,hW.kd,fun n H1 hn s1 e1=>?_⟩;refine⟨l,n,xs,ls,Yg ls UK ls.length,rfl,s1 l _ hl,hL.same s1,hlen,hW,e1,Kb (JV _ _ _) hlen,fun t ht=>?_,fun p H2 ys hp s2 e2 pv=>k p H2 ys (s1.free hp) (s1.trans s2) e2 pv⟩;obtain⟨a,_,q,hq,z⟩:=ZhB ht;refine⟨a,q,hq,fun z2=>?_⟩;have z:q.1 = "end" := kG z;rw[z2] at z;exact nb2 z.symm
def ZnF:Sp:=fun vs H Q _=>∃x:Int,vs = [.int x]/\0<=x/\Q (.int (bw x)) H
abbrev ZaQ:Stmt:=top 13
theorem ZgE:Zy ["thread"] ["thread"] (Zj ZaQ):={}
theorem Zrn {f:Addr}{fd:FuncData}(F:Yx K "born_with" "born_with" ZaQ f fd):Yi P w K mg base Wx 1 f fd ["thread"] ZnF:=by
 refine F.ok ZgE (fun vs H Q E h=>?_) (fun cdv A outer s H vs Q E hr h=>?_)
 ·obtain⟨x,rfl,_⟩:=h;rfl
 ·obtain⟨x,rfl,h0,k⟩:=h;refine⟨_,(Zg (Zw (Zl Zp1 (pv 0) Ze))),?_⟩;refine⟨_,rfl,_,_,rfl,rfl,?_⟩;show Q (.int (Builtin.bitXor x 1)) H;rw[ZqK h0];exact k
def tab {α:Type}(N:Nat)(g:Int -> α):List α:=(List.range N).map fun(x:Nat)=>g (x:Int)
theorem Gx {α:Type}(N:Nat)(g:Int -> α):(tab N g).length=N:=by simp[tab]
theorem Zgf {α:Type}{N:Nat}(g:Int -> α){j:Nat}(h:j<N):(tab N g)[j]? = some (g (j:Int)):=by unfold tab;rw[kF];simp[h]
theorem Jq {α:Type}{N:Nat}{g g':Int -> α}(h:∀x:Int,0<=x->x<(N:Int)->g x=g' x):tab N g=tab N g':=by unfold tab;refine MC fun x hx=>?_;have:=Kw.mp hx;exact h x (by lia) (by lia)
theorem Zb0 {α:Type}{N:Nat}(g:Int -> α)(j:Nat)(v:α):(tab N g).set j v=tab N (fun x=>if x=(j:Int) then v else g x):=by
 apply Nk;intro i;rw[qh,Gx];by_cases hi:i<N
 ·rw[Zgf _ hi,Zgf _ hi];by_cases e:j=i
  ·subst e;simp[hi]
  ·rw[ki e,ki (by lia)]
 ·rw[show (tab N g)[i]? = none from Na.mpr (by rw[Gx];lia),show (tab N (fun x=>if x=(j:Int) then v else g x))[i]? = none from Na.mpr (by rw[Gx];lia)];by_cases e:j=i
  ·subst e;rw[km rfl,ki hi]
  ·rw[ki e]
theorem Zcl {α β:Type}(N:Nat)(g:Int -> α)(f:α -> β):(tab N g).map f=tab N (fun x=>f (g x)):=by unfold tab;rw[TY];rfl
theorem Zbn {α:Type}(N:Nat)(v:α):(List.replicate N [v]).flatten=tab N (fun _=>v):=by
 unfold tab
 induction N with
 | zero=>rfl
 | succ n ih=>rw[XF,qV,ih,KR,kQ];simp
theorem Zev:∀{ps:QL}{u l x:Int},u∉ZM ps->l∉ZM ps->u≠l->JA (ps ++ [(u,l)]) x=if x=l then u else if x=u then l else JA ps x
 | [],u,l,x,_,_,ne=>by
  simp only[Xq,JA];by_cases h1:x=u
  ·subst h1;simp[ne]
  ·simp[h1]
 | p::r,u,l,x,hu,hl,ne=>by
  have e:ZM (p::r)=p.1::p.2::ZM r:=by simp[ZM]
  rw[e] at hu hl;simp only[kO,not_or] at hu hl;have ih:=Zev (x:=x) hu.2.2 hl.2.2 ne;simp only[NC,JA,ih];by_cases h1:x=p.1
  ·subst h1;simp[KG hu.1,KG hl.1]
  ·by_cases h2:x=p.2
   ·subst h2;simp[h1,KG hu.2.1,KG hl.2.1]
   ·simp[h1,h2]
theorem ZiU {ps:QL}{i:Nat}{p:Int×Int}(h:ps[i]? = some p):ZM (ps.take (i+1))=ZM (ps.take i) ++ [p.1,p.2]:=by rw[Ki,h,Jh];simp[ZM]
theorem ZmW {ps:QL}(nd:(ZM ps).Nodup){i:Nat}{p:Int×Int}(h:ps[i]? = some p):p.1∉ZM (ps.take i)/\p.2∉ZM (ps.take i)/\p.1≠p.2:=by have e:ps=ps.take (i+1)++ps.drop (i+1):=(qz _ _).symm;rw[e,Jh,ZiU h] at nd;have nd:=(qE.mp nd).1;obtain⟨_,n2,n3⟩:=qE.mp nd;refine⟨fun z=>n3 _ z _ (by simp) rfl,fun z=>n3 _ z _ (by simp) rfl,?_⟩;have:=KW.mp n2;simpa using this.1
theorem Zjj {ls:QB}(hW:Wk ls 0){p:Int×Int}(h:p∈Jk ls):(0<=p.1/\p.1<(Js ls:Int))/\(0<=p.2/\p.2<(Js ls:Int)):=
 ⟨YV.mp ((W4 hW).mem_iff.mp (KS.mpr ⟨p,h,by simp⟩)),YV.mp ((W4 hW).mem_iff.mp (KS.mpr ⟨p,h,by simp⟩))⟩
theorem Zfu {ls:QB}(hW:Wk ls 0):(ZM (Jk ls)).Nodup:=(W4 hW).nodup_iff.mpr (GX _)
def ZgU:Sp:=fun vs H Q _=>∃(l:Addr)(xs:QH)(ls:QB),vs = [.ref l]/\H l=some (.lst xs)/\ZH H xs ls/\ls.length<=60/\Wk ls 0 /\
 ∀(p:Addr)(H':Hp),H p=none->Zh H H'->H' p=some (.lst ((tab (Js ls) (JA (Jk ls))).map V.int))->Q (.ref p) H'
abbrev ZaB:Stmt:=top 14
theorem Wv:Zy ["drawing", "pairs", "mates", "upper", "lower"] ["drawing"] (Zj ZaB):={}
theorem ZmC {f:Addr}{fd:FuncData}(F:Yx K "end_mates" "end_mates" ZaB f fd)(Wf:Yq P w K mg base 3 "end_pairs" ["drawing"] Zgl)(Ye:mg "len" = none):Yi P w K mg base Wx 4 f fd ["drawing"] ZgU:=by
 refine F.ok Wv (fun vs H Q E h=>?_) (fun cdv A outer s H vs Q E hr h=>?_)
 ·obtain⟨l,xs,ls,rfl,_⟩:=h;rfl
 ·obtain⟨l,xs,ls,rfl,hl,hL,hlen,hW,k⟩:=h;refine⟨_,(Zd (Zp (i:=1) Wv.nd rfl (.inl rfl) (Zq Wf hr (Za (pv 0) Zb)))
   (Zd (Zp (i:=2) Wv.nd rfl (.inl rfl) (Zl ZbY (Zz (Za Ze Zb)) (Zl Wu Ze (Zv (Yb (K:=K) rfl) (by rfl) Ye KO (Za (pv 1) Zb)))))
   (Zd (Yw Kg rfl (ZU (K:=K) rfl (pv 1)) (Z0 (K:=K) (n:=2) rfl rfl (Zm (Zk (i:=3) Wv.nd rfl (.inl rfl)) (Zm (Zk (i:=4) Wv.nd rfl (.inl rfl)) ZO))) (Zd (YB (pv 4) (YJ (pv 2) (pv 3) set_list))
   (Zg (YB (pv 3) (YJ (pv 2) (pv 4) set_list)))))
   (Zg (Zw (pv 2)))))),?_⟩
  refine⟨_,rfl,l,xs,ls,rfl,hl,hL,hlen,hW,fun pA H1 ys fp s1 ep pv=>?_⟩;have n120:=WI hlen;have yl:2*ys.length=Js ls:=by rw[pv.len];rfl
  refine⟨sz1,fun l0 hl0=>?_⟩;have ep0:=(Zh.laid (o:=.lst [.int 0]) hl0) pA _ ep;refine⟨_,rfl,pA,_,rfl,.inl (Zt.of ep0),_,_,rfl,rfl,.inl ⟨by decide,by decide⟩,?_⟩;have e2:((2:Int)*(ys.length:Int))=((Js ls:Nat):Int):=by lia
  refine⟨l0,_,_,rfl,rfl,Zc,by lia,by lia,?_,fun mA hmA=>?_⟩
  ·rw[e2];show 1*_<=sizeLine;exact Kz (ZC (by lia))
  have hm1:H1 mA=none:=(Zh.laid hl0).free hmA;have sm1:Zh H1 (upd (upd H1 l0 (.lst [.int 0])) mA (.lst (List.replicate ((2:Int)*(ys.length:Int)).toNat [V.int 0]).flatten)):=(Zh.laid hl0).step hmA;refine⟨_,rfl,pA,rfl,⟨_,Zt.of (sm1 pA _ ep)⟩,JX (K:=K) (a:=pA) (xs:=ys) (fun i σ H'=>∃(v3 v4:QI),σ = [some (.ref l),some (.ref pA),some (.ref mA),v3,v4]/\Zh H1 H'/\H' mA=some (.lst ((tab (Js ls) (JA ((Jk ls).take i))).map V.int)))
   ⟨none,none,rfl,sm1,?_⟩ (fun i σ H' _ ⟨_,_,_,sm,_⟩=>Zt.of (sm pA _ ep)) ?_ ?_⟩
  ·rw[Zc,e2,kM,Zbn,Zcl];rfl
  ·rintro i x σ H' hx ⟨v3,v4,rfl,sm,hm⟩;obtain⟨p,t,hp,rfl,ht⟩:=pv.get hx;obtain⟨u,lw⟩:=p;obtain⟨⟨d1,d2⟩,d3,d4⟩:=Zjj hW (kZ hp);obtain⟨n1,n2,n3⟩:=ZmW (Zfu hW) hp;obtain⟨un,rfl⟩:=kI (show 0<=u from d1);obtain⟨wn,rfl⟩:=kI (show 0<=lw from d3);have d2:(un:Int)<_:=d2;have d4:(wn:Int)<_:=d4;refine⟨t,_,rfl,Y9.of (sm t _ ht),rfl,_,_,rfl,_,_,rfl,rfl,?_⟩;refine⟨_,rfl,_,rfl,_,rfl,mA,_,_,un,rfl,rfl,hm,(by rw[ke,Gx];exact Jg (by lia)),?_⟩;refine⟨_,rfl,_,rfl,_,rfl,mA,_,_,wn,rfl,rfl,Zc,(by rw[KY,ke,Gx];exact Jg (by lia)),?_⟩;refine⟨some (.int un),some (.int wn),rfl,(sm.put hm1).put hm1,?_⟩;rw[Zc,<- qW,<- qW,Zb0,Zb0,Ki,hp];congr 2;refine KC (List.map V.int) (Jq fun x _ _=>?_);rw[show (some ((un:Int),(wn:Int))).toList = [((un:Int),(wn:Int))] from rfl,Zev n1 n2 n3]
  ·rintro σ H' ⟨v3,v4,rfl,sm,hm⟩;refine⟨_,rfl,k mA H' (s1.free hm1) (s1.trans sm) ?_⟩;rw[pv.len,kJ (kj _)] at hm;exact hm
theorem Zbe {N:Nat}(m:QX){x:Int}(h0:0<=x)(h1:x<(N:Int)):atI ((tab N m).map V.int) x=some (V.int (m x)):=by obtain⟨n,rfl⟩:=kI h0;refine Zo ?_;rw[kF,Zgf _ (by lia)];rfl
def Zit:Sp:=fun vs H Q _=>∃(f:Int)(mA:Addr)(m:QX)(N:Nat),vs = [.int f,.ref mA]/\H mA=some (.lst ((tab N m).map V.int))/\Wa m N/\N<=200/\0<=f/\f<(N:Int) /\
 ∀(p:Addr)(H':Hp)(T:QG),H p=none->Zh H H'->H' p=some (.lst (T.map V.int))->Jt m f T->Q (.ref p) H'
abbrev Za2:Stmt:=top 15
theorem Zam:Zy ["first", "mates", "tour", "onward"] ["first", "mates"] (Zj Za2):={}
theorem Zny {f:Addr}{fd:FuncData}(F:Yx K "tour_from" "tour_from" Za2 f fd)(JD:Yq P w K mg base 1 "born_with" ["thread"] ZnF):Yi P w K mg base Wx 2 f fd ["first", "mates"] Zit:=by
 refine F.ok Zam (fun vs H Q E h=>?_) (fun cdv A outer s H vs Q E hr h=>?_)
 ·obtain⟨f,mA,m,N,rfl,_⟩:=h;rfl
 ·obtain⟨f,mA,m,N,rfl,hm,M,hN,h0,h1,k⟩:=h;refine⟨_,(Zd (Zp (i:=2) Zam.nd rfl (.inl rfl) (Zz (Za (pv 0) (Za (Zx (Zn (K:=K) rfl) (pv 1) (pv 0) (fun _ _=>rfl)) Zb))))
   (Zd (Zco Kg (Zu Zck (Zq JD hr (Za (Zx (Zn (K:=K) rfl) (pv 2) (Ug Wm Ze) (fun _ _=>rfl)) Zb)) (pv 0) (Zs _)) (Zd (Zp (i:=3) Zam.nd rfl (.inl rfl) (Zq JD hr (Za (Zx (Zn (K:=K) rfl) (pv 2) (Ug Wm Ze) (fun _ _=>rfl)) Zb)))
   (Zd (Z8 (Yf (K:=K) rfl (YC kK kW kX ZP (pv 2) (Za (pv 3) Zb))))
   (Zg (Z8 (Yf (K:=K) rfl (YC kK kW kX ZP (pv 2) (Za (Zx (Zn (K:=K) rfl) (pv 1) (pv 3) (fun _ _=>rfl)) Zb))))))))
   (Zg (Zw (pv 2))))),?_⟩
  have dom:=YL M h0 h1;have mdom:∀i,0<=m (gt m f i)/\m (gt m f i)<N:=fun i=>⟨M.lo _ (dom i).1 (dom i).2,M.hi _ (dom i).1 (dom i).2⟩;have ol:∀i,(Gd m f (i+1)).map V.int=((Gd m f i).map V.int ++ [V.int (gt m f i)]) ++ [V.int (m (gt m f i))]:=fun i=>by simp[Gd]
  refine⟨_,rfl,_,rfl,_,rfl,mA,_,_,_,rfl,rfl,Zt.of hm,Zbe m h0 h1,sz2,fun tA htA=>?_⟩;refine⟨fun mm σ H'=>∃(i:Nat)(v3:QI),mm+i=N /\ σ = [some (.int f),some (.ref mA),some (.ref tA),v3]/\Zh H H'/\H' tA=some (.lst ((Gd m f (i+1)).map V.int))/\(∀j,1<=j->j<i+1->gt m f j≠f),
   ⟨N,0,none,rfl,rfl,Zh.laid htA,Zc,fun j a b=>by lia⟩,?_⟩
  rintro mm σ H' ⟨i,v3,hi,rfl,sm,ht,nf⟩;have short:=UQ M h0 h1 nf;refine⟨_,rfl,1,rfl,tA,_,_,V.int (m (gt m f i)),rfl,rfl,Zt.of ht,(by rw[ol];exact Uz _ _),_,rfl,(mdom i).1,_,rfl,rfl,_,rfl,?_⟩;refine ZX (fun hc=>?_) (fun hc=>?_)
  ·have ne:gt m f (i+1)≠f:=fun z=>by
    have hc:(!decide (V.int (bw (m (gt m f i)))=V.int f))=true:=hc;rw[kE (show V.int (bw (m (gt m f i)))=V.int f from KC V.int z)] at hc;cases hc
   have nf':∀j,1<=j->j<i+2->gt m f j≠f:=fun j a b=>by
    by_cases e:j=i+1
    ·rw[e];exact ne
    ·exact nf j a (by lia)
   have short2:=UQ M h0 h1 nf';refine⟨fun σ' H''=>∃v3:QI,σ' = [some (.int f),some (.ref mA),some (.ref tA),v3]/\Zh H H''/\H'' tA=some (.lst ((Gd m f (i+2)).map V.int)),fun σ' H'' ⟨v,e,a,b⟩=>⟨mm-1,by lia,i+1,v,by lia,e,a,b,nf'⟩,?_⟩;refine⟨_,rfl,1,rfl,tA,_,_,V.int (m (gt m f i)),rfl,rfl,Zt.of ht,(by rw[ol];exact Uz _ _),_,rfl,(mdom i).1,?_⟩;refine⟨_,rfl,.inl ⟨rfl,_,Zt.of ht⟩,_,rfl,tA,_,_,rfl,rfl,ht,(by rw[ke,WQ];exact ZC (by lia)),?_⟩;have hma:tA≠mA:=fun z=>by rw[z,hm] at htA;cases htA
   refine⟨_,rfl,.inl ⟨rfl,_,Zt.of Zc⟩,_,rfl,_,rfl,mA,_,_,_,rfl,rfl,Zt.of (by rw[Zi (KG hma)];exact sm mA _ hm),Zbe m (dom (i+1)).1 (dom (i+1)).2,tA,_,_,rfl,rfl,Zc,(by rw[kh,ke,WQ];exact ZC (by show _+1<=1000;lia)),?_⟩;refine⟨_,rfl,(sm.put htA).put htA,?_⟩;rw[Zc,ol (i+1)];rfl
  ·have e:gt m f (i+1)=f:=by
    by_cases z:gt m f (i+1)=f
    ·exact z
    ·exact absurd (show (!decide (V.int (gt m f (i+1))=V.int f))=true by rw[Km (fun y=>z (V.int.inj y))];rfl) hc
   exact⟨_,rfl,k tA H' (Gd m f (i+1)) htA sm ht ⟨i+1,by lia,e,nf,rfl⟩⟩
def ZdP:Sp:=fun vs H Q _=>∃(l:Addr)(xs:QH)(ls:QB),vs = [.ref l]/\H l=some (.lst xs)/\ZH H xs ls/\ls.length<=60/\Wk ls 0 /\
 ∀(p:Addr)(H':Hp)(ys:QH)(ts:QA),H p=none->Zh H H'->H' p=some (.lst ys)->Y0 H' ys ts->(∀t,V.ref t∈ys->H t=none)->Ut (JA (Jk ls)) (Js ls) ts->Q (.ref p) H'
theorem Zhz {N:Nat}(g:Int->V){x:Int}(h0:0<=x)(h1:x<(N:Int)):atI (tab N g) x=some (g x):=by obtain⟨n,rfl⟩:=kI h0;exact Zo (Zgf _ (by lia))
abbrev Zgb:Stmt:=top 16
theorem GY:Zy ["drawing", "mates", "gone", "found", "first", "tour", "thread"] ["drawing"] (Zj Zgb):={}
theorem ZmY {f:Addr}{fd:FuncData}(F:Yx K "tours" "tours" Zgb f fd)(ZaZ:Yq P w K mg base 4 "end_mates" ["drawing"] ZgU)(ZaE:Yq P w K mg base 2 "tour_from" ["first", "mates"] Zit)(Ye:mg "len" = none)(ZZ:mg "range" = none):Yi P w K mg base Wx 5 f fd ["drawing"] ZdP:=by
 refine F.ok GY (fun vs H Q E h=>?_) (fun cdv A outer s H vs Q E hr h=>?_)
 ·obtain⟨l,xs,ls,rfl,_⟩:=h;rfl
 ·obtain⟨l,xs,ls,rfl,hl,hL,hlen,hW,k⟩:=h;have n120:=WI hlen;have M:=WH hW;generalize hm':JA (Jk ls)=m at *;generalize hn':Js ls=N at *;refine⟨_,(Zd (Zp (i:=1) GY.nd rfl (.inl rfl) (Zq ZaZ hr (Za (pv 0) Zb)))
   (Zd (Zp (i:=2) GY.nd rfl (.inl rfl) (Zl ZbY (Zz (Za Gs Zb)) (Zv (Yb (K:=K) rfl) (by rfl) Ye KO (Za (pv 1) Zb))))
   (Zd (Zp (i:=3) GY.nd rfl (.inl rfl) (Zz Zb))
   (Zd (Yw Kg rfl (YR (by rfl) ZZ (Za (Zv (Yb (K:=K) rfl) (by rfl) Ye KO (Za (pv 1) Zb)) Zb)) (Zk (i:=4) GY.nd rfl (.inl rfl)) (Zg (ZQ (Gj (Ww (Zx (Zn (K:=K) rfl) (pv 2) (pv 4) (fun _ _=>rfl)))) (Zd (Zp (i:=5) GY.nd rfl (.inl rfl) (Zq ZaE hr (Za (pv 4) (Za (pv 1) Zb))))
   (Zd (Yw Kg rfl (ZU (K:=K) rfl (pv 5)) (Zk (i:=6) GY.nd rfl (.inl rfl)) (Zg (YB Gs (YJ (pv 2) (pv 6) set_list))))
   (Zg (Z8 (Yf (K:=K) rfl (YC kK kW kX ZP (pv 3) (Za (pv 5) Zb))))))) ZG)))
   (Zg (Zw (pv 3))))))),?_⟩
  refine⟨_,rfl,l,xs,ls,rfl,hl,hL,hlen,hW,fun mA H1 fm s1 em=>?_⟩;rw[hm',hn'] at em;refine⟨sz1,fun l0 hl0=>?_⟩;refine⟨_,rfl,mA,_,rfl,.inl (Zt.of ((Zh.laid hl0) mA _ em)),?_⟩;have el:((((tab N m).map V.int).length:Nat):Int)=((N:Nat):Int):=by rw[ke,Gx]
  rw[el];refine⟨l0,_,_,rfl,rfl,Zc,by lia,by lia,(by show 1*_<=sizeLine;exact Kz (ZC (by lia))),fun gA hgA=>?_⟩;obtain⟨H2,hH2⟩:∃H2,H2=upd (upd H1 l0 (.lst [.bl false])) gA (.lst (List.replicate ((N:Nat):Int).toNat [V.bl false]).flatten):=⟨_,rfl⟩;rw[<- hH2];have s12:Zh H1 H2:=by rw[hH2];exact(Zh.laid hl0).step hgA
  have hg1:H1 gA=none:=(Zh.laid hl0).free hgA;have hg2:H2 gA=some (.lst (tab N fun _=>V.bl false)):=by rw[hH2,Zc,kM,Zbn]
  refine⟨sz0,fun fA hfA=>?_⟩;have hf1:H1 fA=none:=s12.free hfA;have hgf:gA≠fA:=Zf hg2 hfA;refine⟨_,rfl,mA,_,rfl,.inl (Zt.of ((s12.step hfA) mA _ em)),((N:Nat):Int),KC (fun z=>[V.int z]) el,by lia,by lia,JL (n:=((N:Nat):Int).toNat) (fun i σ H'=>∃(ys:QH)(ts:QA)(v4 v5 v6:QI),σ = [some (.ref l),some (.ref mA),some (.ref gA),some (.ref fA),v4,v5,v6]/\Zh H1 H'/\H' gA=some (.lst (tab N fun x=>V.bl (decide (x∈ts.flatten))))/\H' fA=some (.lst ys)/\Y0 H' ys ts/\Ut m i ts/\(∀t,V.ref t∈ys->t≠gA/\t≠fA/\H1 t=none))
   ⟨[],[],none,none,none,rfl,s12.step hfA,?_,Zc,.nil,.nil,fun t ht=>by cases ht⟩ ?_ ?_⟩
  ·rw[Zi hgf,hg2];exact KC (fun z=>some (HO.lst z)) (Jq fun x _ _=>by simp)
  ·rintro i σ H' hi ⟨ys,ts,v4,v5,v6,rfl,sm,hg,hf,rv,tr,ap⟩;rw[kM] at hi;have e0:(0:Int)+(i:Int)=(i:Int):=Int.zero_add _;have good:=tr.good M (by lia);refine⟨_,rfl,_,rfl,gA,_,_,_,rfl,rfl,Zt.of hg,Zhz _ (by lia) (by lia),_,rfl,?_⟩;rw[e0];by_cases hin:(i:Int)∈ts.flatten
   ·rw[kE hin];refine YZ ?_;exact⟨ys,ts,_,v5,v6,rfl,sm,hg,hf,rv,tr.skip hin,ap⟩
   ·rw[Km hin];refine J6 ?_;refine⟨_,rfl,_,rfl,_,mA,m,N,rfl,sm mA _ em,M,by lia,by lia,by lia,fun tA H3 T htA s3 eT isT=>?_⟩;have tdom:=isT.dom M (by lia) (by lia);have tlen:=isT.len M (by lia) (by lia);have htg:tA≠gA:=(Zf hg htA).symm;have htf:tA≠fA:=(Zf hf htA).symm;refine⟨_,rfl,tA,rfl,⟨_,Zt.of eT⟩,JX (K:=K) (a:=tA) (xs:=T.map V.int) (fun j σ H''=>∃v6:QI,σ = [some (.ref l),some (.ref mA),some (.ref gA),some (.ref fA),some (.int (i:Int)),some (.ref tA),v6]/\Jf gA H3 H''/\H'' gA=some (.lst (tab N fun x=>V.bl (decide (x∈ts.flatten∨x∈T.take j)))))
     ⟨_,rfl,Jf.refl _ _,?_⟩ (fun j σ H'' _ ⟨_,_,fr,_⟩=>Zt.of (fr tA _ eT htg)) ?_ ?_⟩
    ·rw[s3 gA _ hg];exact KC (fun z=>some (HO.lst z)) (Jq fun x _ _=>by simp)
    ·rintro j x σ H'' hx ⟨v6,rfl,fr,hg''⟩;obtain⟨t,ht,rfl⟩:=WJ hx;obtain⟨d0,d1⟩:=tdom t (kZ ht);obtain⟨tn,rfl⟩:=kI d0;refine⟨_,rfl,_,rfl,gA,_,_,tn,rfl,rfl,hg'',(by rw[Gx];exact Jg (by lia)),?_⟩;refine⟨_,rfl,fr.trans Jf.upd,?_⟩;rw[Zc,Zb0];refine KC (fun z=>some (HO.lst z)) (Jq fun x _ _=>?_);rw[Ki,ht];by_cases e:x=(tn:Int)
     ·rw[km e];congr 1;exact(kE (.inr (by rw[e];simp))).symm
     ·rw[ki e];congr 1;exact qX.mpr (by simp[e])
    ·rintro σ H'' ⟨v6,rfl,fr,hg''⟩;have hf'':=fr fA _ (s3 fA _ hf) (KG hgf);refine⟨_,rfl,.inl ⟨rfl,_,Zt.of hf''⟩,_,rfl,fA,_,_,rfl,rfl,hf'',(by rw[rv.len];have:=tr.len M (by lia);exact ZC (by lia)),?_⟩;have keep:∀c o,H' c=some o->c≠gA->c≠fA->(upd H'' fA (.lst (ys ++ [.ref tA]))) c=some o:=fun c o e n1 n2=>by
      rw[Zi n2];exact fr c o (s3 c o e) n1
     refine⟨ys ++ [.ref tA],ts ++ [T],_,_,_,rfl,fun c o e=>keep c o (sm c o e) (Zf e hg1) (Zf e hf1),?_,Zc,?_,tr.add hin isT,fun t ht=>?_⟩
     ·rw[Zi hgf,hg'',ke,kJ (kj _)];refine KC (fun z=>some (HO.lst z)) (Jq fun x _ _=>?_);congr 1;exact qX.mpr (by rw[qV];simp)
     ·refine Y0.snoc (rv.mono fun t o ht e=>keep t o e (ap t ht).1 (ap t ht).2.1) ?_;rw[Zi htf];exact fr tA _ eT htg
     ·rcases Kk.mp ht with z | z
      ·exact ap t z
      ·have:t=tA:=V.ref.inj (kT.mp z);subst this;exact⟨htg,htf,sm.free htA⟩
  ·rintro σ H' ⟨ys,ts,v4,v5,v6,rfl,sm,hg,hf,rv,tr,ap⟩;rw[kM] at tr;exact⟨_,rfl,k fA H' ys ts (s1.free hf1) (s1.trans sm) hf rv (fun t ht=>s1.free (ap t ht).2.2) tr⟩
def Yd (ps:QL)(x:Int):Int:=if x∈ps.map (·.1) then 1 else -1
inductive DV (H:Hp):List (Key×V)->List (Int×Int)->Prop
 | nil:DV H [] []
 | snoc {kvs:QD}{ps:QL}{u l:Int}{a b:Addr}:DV H kvs ps->H a=some (.tup [.int l,.int 1])->H b=some (.tup [.int u,.int (-1)])->DV H (kvs ++ [(Sum.inl u,.ref a),(Sum.inl l,.ref b)]) (ps ++ [(u,l)])
theorem DV.mono {H H':Hp}(h:∀t p,H t=some (.tup p)->H' t=some (.tup p)){kvs:QD}{ps:QL}(d:DV H kvs ps):DV H' kvs ps:=by
 induction d with
 | nil=>exact .nil
 | snoc _ ea eb ih=>exact .snoc ih (h _ _ ea) (h _ _ eb)
theorem DV.keys {H:Hp}{kvs:QD}{ps:QL}(d:DV H kvs ps):kvs.map (·.1)=(ZM ps).map Sum.inl:=by
 induction d with
 | nil=>rfl
 | snoc _ _ _ ih=>rw[kQ,ih,Jh,kQ];rfl
theorem DV.len {H:Hp}{kvs:QD}{ps:QL}(d:DV H kvs ps):kvs.length=2*ps.length:=by have:=KC List.length d.keys;simpa [UB] using this
theorem Zhe {kvs:QD}{k:Key}{v:V}(h:k∉kvs.map (·.1)):putK kvs k v=kvs ++ [(k,v)]:=by unfold putK;rw[ki];intro z;rw[List.any_eq_true] at z;obtain⟨p,hp,e⟩:=z;exact h (KH.mpr ⟨p,hp,kG e⟩)
theorem Zhh {kvs:QD}{k:Key}(h:k∉kvs.map (·.1)):(kvs.find? fun kv=>decide (kv.1=k))=none:=by rw[List.find?_eq_none];intro p hp z;exact h (KH.mpr ⟨p,hp,kG z⟩)
theorem ZdG {ps:QL}{H:Hp}{kvs:QD}(d:DV H kvs ps){x:Int}(h:x∉ZM ps):(Sum.inl x:Key)∉kvs.map (·.1):=by rw[d.keys];intro z;obtain⟨y,hy,e⟩:=KH.mp z;cases e;exact h hy
theorem DV.look {H:Hp}{kvs:QD}{ps:QL}(d:DV H kvs ps):(ZM ps).Nodup -> ∀x∈ZM ps,∃a,JS kvs (Sum.inl x)=some (.ref a)/\H a=some (.tup [.int (JA ps x),.int (Yd ps x)]):=by
 induction d with
 | nil=>intro _ x hx;cases hx
 | @snoc kvs ps u l a b d ea eb ih=>
  intro nd x hx;rw[Jh] at nd hx;have ef:ZM [(u,l)] = [u,l]:=by simp[ZM]
  rw[ef] at nd hx;obtain⟨n1,n2,n3⟩:=qE.mp nd;have hu:u∉ZM ps:=fun z=>n3 u z u (by simp) rfl;have hl:l∉ZM ps:=fun z=>n3 l z l (by simp) rfl;have ne:u≠l:=by have:=(KW.mp n2).1;simpa using this
  rw[Zev hu hl ne];have dn:Yd (ps ++ [(u,l)]) x=if x=u then 1 else Yd ps x:=by
   unfold Yd;rw[kQ];by_cases e:x=u
   ·simp[e]
   ·rw[ki e];by_cases q:x∈ps.map (·.1)
    ·rw[km q,km (Xe _ q)]
    ·rw[ki q,ki (fun z=>(Kk.mp z).elim q (fun z=>e (by simpa using z)))]
  rw[dn];rcases Kk.mp hx with z | z
  ·obtain⟨c,hv,hc⟩:=ih n1 x z;have e1:x≠u:=fun e=>hu (e ▸ z);have e2:x≠l:=fun e=>hl (e ▸ z);refine⟨c,?_,?_⟩
   ·unfold JS at hv ⊢;rw[Nl];cases q:(kvs.find? fun kv=>decide (kv.1=Sum.inl x)) with
    | none=>rw[q] at hv;cases hv
    | some y=>rw[q] at hv;exact hv
   ·rw[ki e2,ki e1,ki e1];exact hc
  ·have z:x=u∨x=l:=by simpa using z
   rcases z with e | e
   ·subst e;refine⟨a,?_,?_⟩
    ·unfold JS;rw[Nl,Zhh (ZdG d hu)];simp
    ·rw[ki ne,km rfl,km rfl];exact ea
   ·subst e;refine⟨b,?_,?_⟩
    ·unfold JS;rw[Nl,Zhh (ZdG d hl)];have:¬((Sum.inl u:Key)=Sum.inl x):=fun z=>ne (by cases z;rfl);simp[this]
    ·have:Yd ps x = -1:=by
      unfold Yd;rw[ki];intro z;obtain⟨p,hp,e⟩:=KH.mp z;exact hl (KS.mpr ⟨p,hp,by simp[e]⟩)
     rw[km rfl,ki (KG ne),this];exact eb
theorem few {ls:QB}(hW:Wk ls 0):∀i,i<=ls.length->(rb (ls.take i)).2+2*((Jz ls i).length:Int)<=2*(i:Int)
 | 0,_=>by simp[Jz,Yg,rb]
 | i+1,hi=>by
  have ih:=few hW i (by lia);have hq:ls[i]? = some ls[i]:=by simp[show i<ls.length by lia]
  obtain⟨tk,c⟩:=Zfq hW hq;rw[GG,tk,YK];have kk:∀pr:Str->Bool,isK ls pr i=pr ls[i].1:=fun pr=>by unfold isK;rw[hq];cases h:pr ls[i].1<;>simp[h]
  rw[kk];generalize ls[i]=p at c;obtain⟨px,pk⟩:=p;rcases c with⟨e,_⟩ | ⟨e,_⟩ | ⟨e,_⟩
  ·have e:px = "born" := e;subst e;have hf:UK "born" = false:=by unfold UK;decide +kernel
   rw[W7,hf];simp only[qI,XB,qe];lia
  ·have e:px = "cross" := e;subst e;have hf:UK "cross" = false:=by unfold UK;decide +kernel
   rw[Wd,hf];simp only[qI,XB,qe];lia
  ·have e:px = "end" := e;subst e;have hf:UK "end" = true:=by unfold UK;simp
   rw[Ub,hf];simp only[Tu,kh,Kf];lia
theorem Zjh {ls:QB}(hW:Wk ls 0):Js ls<=ls.length:=by
 have h:=few hW ls.length (kj _);obtain⟨g0,g1,g2⟩:=ZcA hW ls.length (kj _);have e:rowAt ls ls.length = []:=by unfold rowAt;rw[kJ (kj _)];have:=Za5 hW;exact qq.mp (by lia)
 rw[e,Xq] at g2;have hl:=g2.length_eq;rw[Uy,UB] at hl;show 2*(Jz ls ls.length).length<=_;lia
theorem ZaT:∀n,(Zaz n).Pairwise (· < ·)
 | 0=>by simp[Zaz]
 | n+1=>by
  unfold Zaz;rw[KR,kQ,Mr];refine⟨ZaT n,by simp,fun a ha b hb=>?_⟩;have h1:=(YV (n:=n)).mp ha;have:b=(n:Int):=by simpa using hb
  lia
def GZ (N:Nat)(ts:QA):QG:=(Zaz N).filter fun x=>decide (x∉ts.flatten)
theorem Zi4 {N:Nat}{ts:QA}{x:Int}:x∈GZ N ts ↔ (0<=x/\x<(N:Int))/\x∉ts.flatten:=by unfold GZ;rw[N5,YV];simp
theorem ZjG {N:Nat}{ts:QA}{f:Int}{r:QG}(e:GZ N ts=f::r):(0<=f/\f<(N:Int))/\f∉ts.flatten /\ ∀j:Nat,(j:Int)<f->(j:Int)∈ts.flatten:=by
 have hf:f∈GZ N ts:=by rw[e];exact kS
 obtain⟨d,n⟩:=Zi4.mp hf;refine⟨d,n,fun j hj=>?_⟩;by_cases z:(j:Int)∈ts.flatten
 ·exact z
 ·have hm:(j:Int)∈GZ N ts:=Zi4.mpr ⟨⟨by lia,by lia⟩,z⟩;have pw:(GZ N ts).Pairwise (· < ·):=(ZaT N).filter _;rw[e] at hm pw;rcases kO.mp hm with y | y
  ·lia
  ·have:=(qB.mp pw).1 _ y;lia
theorem Zj4 {N:Nat}{ts:QA}{T:QG}:GZ N (ts ++ [T])=(GZ N ts).filter fun x=>decide (x∉T):=by unfold GZ;rw[List.filter_filter];refine List.filter_congr fun x _=>?_;rw[qV];by_cases h1:x∈T<;>by_cases h2:x∈ts.flatten<;>simp[h1,h2]
theorem ZoO {N:Nat}{ts:QA}{T:QG}{f:Int}{r:QG}(e:GZ N ts=f::r)(h:f∈T):(GZ N (ts ++ [T])).length<(GZ N ts).length:=by rw[Zj4,e,List.filter_cons,ki (by simpa using h)];have:=Xz (fun x=>decide (x∉T)) r;simp only[Kv];lia
theorem ZpL {m:QX}{N i:Nat}{ts:QA}(e:GZ N ts = [])(tr:Ut m i ts)(hi:i<=N):Ut m N ts:=by
 have:=tr.jump (N-i) fun j a b=>by
  by_cases z:(j:Int)∈ts.flatten
  ·exact z
  ·have:(j:Int)∈GZ N ts:=Zi4.mpr ⟨⟨by lia,by lia⟩,z⟩;rw[e] at this;cases this
 rwa [show i+(N-i)=N by lia] at this
theorem Zn7 {m:QX}{N i:Nat}{ts:QA}{f:Int}{r T:QG}(e:GZ N ts=f::r)(tr:Ut m i ts)(hi:i<=N)(isT:Jt m f T):∃j:Nat,j<=N/\Ut m j (ts ++ [T]):=by
 obtain⟨⟨d0,d1⟩,n,lo⟩:=ZjG e;obtain⟨fn,rfl⟩:=kI d0;have hif:i<=fn:=by refine NA fun z=>n (tr.mem fn z)
 have:=tr.jump (fn-i) fun j a b=>lo j (by lia);rw[show i+(fn-i)=fn by lia] at this;exact⟨fn+1,by lia,this.add n isT⟩
def ev2 (y:Int):Int:=if y % 2=0 then 1 else -1
theorem Zra (y:Int):y+ev2 y=bw y:=by unfold ev2 bw;split<;>lia
def fl (dn:QX):List Int->Int
 | x::y::r=>dn x+ev2 y+fl dn r
 | _=>0
theorem ZgA (dn:QX)(x y:Int):∀(n:Nat)(A:QG),A.length=2*n->fl dn (A ++ [x,y])=fl dn A+dn x+ev2 y
 | 0,A,h=>by
  have:A = []:=qq.mp (by lia);subst this;simp[fl]
 | n+1,[],h=>by simp at h
 | n+1,[a],h=>by simp at h;lia
 | n+1,a::b::r,h=>by have ih:=ZgA dn x y n r (by simp at h;lia);simp only[NC,fl,ih];lia
theorem ZqR (dn m:QX)(f:Int)(i:Nat):fl dn (Gd m f (i+1))=fl dn (Gd m f i)+dn (gt m f i)+ev2 (m (gt m f i)):=ZgA dn _ _ i _ (WQ m f i)
def Zh5 (i:Int):Int:=if i<0 then -i else i
def WV (z:Addr)(dn:QX)(H:Hp)(ys:QH)(ts:QA):Prop:=Paired (fun v (T:QG)=>∃a g,v=V.ref a/\H a=some (.tup [.ref g,.int (Zh5 (fl dn T) / 2)])/\H g=some (.lst (T.map V.int))/\g≠z) ys ts
theorem WV.mono {z:Addr}{dn:QX}{H H':Hp}(h:∀c o,c≠z->H c=some o->H' c=some o)(hz:∃xs,H z=some (.lst xs)):∀{ys:QH}{ts:QA},WV z dn H ys ts->WV z dn H' ys ts
 | _,_,.nil=>.nil
 | _,_,.cons ⟨a,g,e,ha,hg,n⟩ r=>.cons ⟨a,g,e,h a _ (fun y=>by obtain⟨xs,hz⟩:=hz;rw[y,hz] at ha;cases ha) ha,h g _ n hg,n⟩ (WV.mono h hz r)
theorem WV.same {z:Addr}{dn:QX}{H H':Hp}(s:Zh H H'):∀{ys:QH}{ts:QA},WV z dn H ys ts->WV z dn H' ys ts
 | _,_,.nil=>.nil
 | _,_,.cons ⟨a,g,e,ha,hg,n⟩ r=>.cons ⟨a,g,e,s a _ ha,s g _ hg,n⟩ (WV.same s r)
theorem WV.len {z:Addr}{dn:QX}{H:Hp}{ys:QH}{ts:QA}(h:WV z dn H ys ts):ys.length=ts.length:=qj h
theorem Zf7 {r:QG}{k:Nat}(h:k+1<r.length):W3 (r.map V.int) (some (k:Int)) (some ((k:Int)+2)) = [V.int (r.getD k 0),V.int (r.getD (k+1) 0)]:=by
 have e1:HT.Jy (r.map V.int).length 0 (some (k:Int))=k:=by rw[HT.Zcb,ke];omega
 have e2:HT.Jy (r.map V.int).length (r.map V.int).length (some ((k:Int)+2))=k+2:=by rw[show (k:Int)+2=((k+2:Nat):Int) by omega,HT.Zcb,ke];omega
 unfold W3;rw[e1,e2,show k+2-k=2 by omega,<- qD,<- qM];have c:=ZnO r k h;have hl:(r.take k).length=k:=by rw[kL];omega
 have e3:r.drop k = [r.getD k 0,r.getD (k+1) 0]++r.drop (k+2):=by
  conv=>lhs;rw[c]
  rw[Kt,List.drop_append_of_le_length (by omega),qi (by omega),Xq]
 rw[e3];simp
theorem Zpc (y:Int):atI [V.int 1,V.int (-1)] (y % 2)=some (V.int (ev2 y)):=by
 unfold ev2;rcases Int.emod_two_eq y with e | e<;>rw[e]
 ·exact Zo (j:=0) rfl
 ·exact Zo (j:=1) rfl
def Zf1:Sp:=fun vs H Q _=>∃(l:Addr)(xs:QH)(ls:QB),vs = [.ref l]/\H l=some (.lst xs)/\ZH H xs ls/\ls.length<=60/\Wk ls 0 /\
 ∀(p:Addr)(H':Hp)(ys:QH)(ts:QA),H p=none->Zh H H'->H' p=some (.lst ys)->WV p (Yd (Jk ls)) H' ys ts->Ut (JA (Jk ls)) (Js ls) ts->Q (.ref p) H'
abbrev GC:Stmt:=top 42
theorem ZK:Zy ["_law_drawing_here", "_law_rows_here", "_law_mates", "_law_t", "_law_letter", "_law_upper", "_law_lower", "_law_found", "_law_left", "_law_gone", "_law_fall", "_law_here", "_law_there", "_law_down"] ["_law_drawing_here"] (Zj GC):={}
theorem Zmw {f:Addr}{fd:FuncData}(F:Yx K "_law_walks" "_law_walks" GC f fd)(YY:Yq P w K mg base 1 "_law_rows" ["_law_drawing_here"] ZaC)(ZA:mg "enumerate" = none)(YX:mg "sorted" = none)(ZbC:mg "abs" = none):Yi P w K mg base Wx 2 f fd ["_law_drawing_here"] Zf1:=by
 refine F.ok ZK (fun vs H Q E h=>?_) (fun cdv A outer s H vs Q E hr h=>?_)
 ·obtain⟨l,xs,ls,rfl,_⟩:=h;rfl
 ·obtain⟨l,xs,ls,rfl,hl,hL,hlen,hW,k⟩:=h;have hxl:=hL.len;have n60:=Zjh hW;have M:=WH hW;have nd:=Zfu hW;have pm:=W4 hW;refine⟨_,(Zd (Zp (i:=1) ZK.nd rfl (.inl rfl) (Zq YY hr (Za (pv 0) Zb)))
   (Zd (Zp (i:=2) ZK.nd rfl (.inl rfl) Zm1)
   (Zd (Yw Kg rfl (JU (K:=K) rfl (by rfl) ZA (Za (pv 0) Zb)) (Z0 (K:=K) (n:=2) rfl rfl (Zm (Zk (i:=3) ZK.nd rfl (.inl rfl)) (Zm (Zk (i:=4) ZK.nd rfl (.inl rfl)) ZO))) (Zg (ZQ (Zu Yo (Zx (Yp (K:=K) rfl) (pv 4) Ze (fun _ _=>rfl)) ZI (Zs _)) (Zd (YB (Z7 (Ym (K:=K) rfl) (Zx (Zn (K:=K) rfl) (pv 1) (pv 3) (fun _ _=>rfl)) (ZW (Zx (Yp (K:=K) rfl) (pv 4) Ze (fun _ _=>rfl))) (ZW (Zl ZD (Zx (Yp (K:=K) rfl) (pv 4) Ze (fun _ _=>rfl)) Ze))) (ZdI (K:=K) (n:=2) rfl rfl (Zm (Zk (i:=5) ZK.nd rfl (.inl rfl)) (Zm (Zk (i:=6) ZK.nd rfl (.inl rfl)) ZO))))
   (Zg (YB (ZN (Za (ZN (Za (pv 6) (Za Ze Zb))) (Za (ZN (Za (pv 5) (Za (Ug Wm Ze) Zb))) Zb))) (Z0 (K:=K) (n:=2) rfl rfl (Zm (YJ (pv 2) (pv 5) (set_dict (WW hr))) (Zm (YJ (pv 2) (pv 6) (set_dict (WW hr))) ZO)))))) ZG)))
   (Zd (Zp (i:=7) ZK.nd rfl (.inl rfl) (Zz Zb))
   (Zd (Zp (i:=8) ZK.nd rfl (.inl rfl) (Zv (Zgn rfl) (by rfl) YX TH (Za (pv 2) Zb)))
   (Zd (Zco Kg (Zu (ZfA (K:=K) rfl hr.units) (pv 8) (Zz Zb) (Zs _)) (Zd (Zp (i:=9) ZK.nd rfl (Or.inr rfl) (Zz Zb))
   (Zd (Zp (i:=10) ZK.nd rfl (.inl rfl) Ze)
   (Zd (Zp (i:=11) ZK.nd rfl (.inl rfl) (Zx (Zn (K:=K) rfl) (pv 8) Ze (fun _ _=>rfl)))
   (Zd (Zco Kg (Zu (ZbG (K:=K) rfl) (pv 11) (pv 9) rfl) (Zd (YB (Zx (Zbm (WW hr)) (pv 2) (pv 11) (fun _ _=>rfl)) (Z0 (K:=K) (n:=2) rfl rfl (Zm (Zk (i:=12) ZK.nd rfl (.inl rfl)) (Zm (Zk (i:=13) ZK.nd rfl (.inl rfl)) ZO))))
   (Zd (Zp (i:=9) ZK.nd rfl (Or.inr rfl) (Zl Y8 (pv 9) (Zz (Za (pv 11) (Za (pv 12) Zb)))))
   (Zd (Zp (i:=10) ZK.nd rfl (.inl rfl) (Zl ZD (Zl ZD (pv 10) (pv 13)) (Zx (Zn (K:=K) rfl) (Zz (Za Ze (Za (Ug Wm Ze) Zb))) (Zl GJ (pv 12) Ze) (fun _ _=>rfl))))
   (Zg (Zp (i:=11) ZK.nd rfl (.inl rfl) (Zl ZD (pv 12) (Zx (Zn (K:=K) rfl) (Zz (Za Ze (Za (Ug Wm Ze) Zb))) (Zl GJ (pv 12) Ze) (fun _ _=>rfl)))))))))
   (Zd (Z8 (Yf (K:=K) rfl (YC kK kW kX ZP (pv 7) (Za (ZN (Za (pv 9) (Za (Zl Zb2 (Zv ZcB (by rfl) ZbC boot_abs (Za (pv 10) Zb)) Ze) Zb))) Zb))))
   (Zg (Zc7 (i:=8) ZK.nd rfl (.inl rfl) (Ls:=["_law_thread"]) (Fs:=["_law_gone"]) (fi:=[9]) (ZV.of (show Yv ["_law_drawing_here", "_law_rows_here", "_law_mates", "_law_t", "_law_letter", "_law_upper", "_law_lower", "_law_found", "_law_left", "_law_gone", "_law_fall", "_law_here", "_law_there", "_law_down"] (Zj GC) _ ["_law_gone"] [9]=true by decide +kernel)) rfl (ZU (K:=K) rfl (pv 8)) (fun cl C s3 H3 ex=>⟨(Zk (i:=0) (show ((["_law_thread"]:QP)++(["_law_gone"]:QP)).Nodup by decide +kernel) rfl (.inl rfl)),(Zaj (Zu (ZbG (K:=K) rfl) (pv 0) (pv 1) rfl)),(pv 0)⟩)))))))))
   (Zg (Zw (pv 7))))))))),?_⟩
  refine⟨_,rfl,l,xs,ls,rfl,hl,hL,hlen,hW,fun R H1 ys fR s1 eR rv ap ndr=>?_⟩;refine fun dA hdA=>?_;have hdH:H dA=none:=s1.free hdA;have hl1:=s1 l _ hl;have hL1:=hL.same s1;refine⟨_,rfl,l,rfl,⟨_,Zt.of ((Zh.laid hdA) l _ hl1)⟩,UZ (K:=K) (a:=l) (xs:=xs) (fun i σ H'=>∃(kvs:QD)(v3 v4 v5 v6:QI),σ = [some (.ref l),some (.ref R),some (.ref dA),v3,v4,v5,v6,none,none,none,none,none,none,none]/\Zh H1 H'/\H' dA=some (.dK kvs)/\DV H' kvs (Jz ls i))
   ⟨[],none,none,none,none,rfl,Zh.laid hdA,Zc,.nil⟩ (fun i σ H' _ ⟨_,_,_,_,_,_,sm,_⟩=>Zt.of (sm l _ hl1)) ?_ ?_⟩
  ·rintro i x p σ H' hx ⟨kvs,v3,v4,v5,v6,rfl,sm,hd,dv⟩ hp;obtain⟨⟨qx,qk⟩,ta,hq,rfl,hta⟩:=hL1.get hx;have hta':=(sm.step (o:=.tup [.int i,.ref ta]) hp) ta _ hta;obtain⟨G0,hG0⟩:∃G0,G0=upd H' p (.tup [.int i,.ref ta]):=⟨_,rfl⟩;have sp:Zh H' G0:=by rw[hG0];exact Zh.laid hp
   have sg0:Zh H1 G0:=sm.trans sp;have hd0:=sp dA _ hd;have kk:isK ls UK i=UK qx:=by unfold isK;rw[hq];cases h:UK qx<;>simp[h]
   refine⟨p,_,rfl,Y9.of Zc,rfl,_,_,rfl,_,_,rfl,rfl,?_⟩;rw[<- hG0] at hta' ⊢;refine⟨_,rfl,ta,_,_,_,rfl,rfl,Y9.of hta',Zo (j:=0) rfl,rfl,_,rfl,?_⟩;refine ZX (fun hc=>?_) (fun hc=>?_)
   ·have e:qx = "end" := V.str.inj (kG hc);subst e;obtain⟨k0,k1,pe⟩:=ZhE hW hq (fun z=>nb2 z);obtain⟨kn,rfl⟩:=kI (show 0<=qk from k0);simp only[kM] at k1 pe;have hi:i<ls.length:=(kz.mp hq).1;obtain⟨ra,hra,hrr⟩:=rv.at (Zbo ls (i:=i) (n:=ls.length+1) (by lia));have ei:isK ls UK i=true:=by rw[kk];unfold UK;simp
    have pin:YM ls i∈Jk ls:=KH.mpr ⟨(i:Int),by unfold Yg;exact K0.mpr ⟨i,Kw.mpr hi,by rw[km ei]⟩,by simp⟩
    have es:Jz ls (i+1)=Jz ls i ++ [YM ls i]:=by rw[GG,km ei]
    obtain⟨u,hu⟩:∃u,u=(rowAt ls i).getD kn 0:=⟨_,rfl⟩;obtain⟨w,hw⟩:∃w,w=(rowAt ls i).getD (kn+1) 0:=⟨_,rfl⟩;rw[<- hu,<- hw] at pe;have nde:(ZM (Jz ls (i+1))).Nodup:=by
     have e:Yg ls UK (i+1) <+: Yg ls UK ls.length:=by
      have:∀d,Yg ls UK (i+1) <+: Yg ls UK (i+1+d):=by
       intro d
       induction d with
       | zero=>exact List.prefix_refl _
       | succ d ih=>
        refine ih.trans ?_;show _ <+: Yg ls UK (i+1+d+1);rw[WG];exact List.prefix_append _ _
      have:=this (ls.length-(i+1))
      rwa [show i+1+(ls.length-(i+1))=ls.length by lia] at this
     obtain⟨r,e⟩:=e;have:Jk ls=Jz ls (i+1)++r.map (fun t=>YM ls t.toNat):=by unfold Jk Jz;rw[<- e,kQ]
     rw[this,Jh] at nd;exact(qE.mp nd).1
    rw[es,Jh,pe] at nde;have ef:ZM [(u,w)] = [u,w]:=by simp[ZM]
    rw[ef] at nde;obtain⟨n1,n2,n3⟩:=qE.mp nde;have nu:u∉ZM (Jz ls i):=fun z=>n3 u z u (by simp) rfl;have nw:w∉ZM (Jz ls i):=fun z=>n3 w z w (by simp) rfl;have nuw:u≠w:=by have:=(KW.mp n2).1;simpa using this
    have e2:((Jz ls i).length)<=60:=by unfold Jz;rw[ke];exact Kb (JV _ _ _) (by lia)
    refine⟨_,rfl,_,rfl,R,_,_,_,rfl,rfl,Zt.of (sg0 R _ eR),Zo hra,_,rfl,ta,_,_,_,rfl,rfl,Y9.of hta',Zo (j:=1) rfl,_,rfl,_,rfl,ta,_,_,_,rfl,rfl,Y9.of hta',Zo (j:=1) rfl,_,_,rfl,rfl,_,rfl,ra,_,rfl,Zt.of (sg0 ra _ hrr),fun cA hcA=>?_⟩;rw[Zf7 k1,<- hu,<- hw];refine⟨cA,_,rfl,Zt.of Zc,rfl,_,_,rfl,_,_,rfl,rfl,?_⟩;obtain⟨G1,hG1⟩:∃G1,G1=upd G0 cA (.lst [.int u,.int w]):=⟨_,rfl⟩;have sg1:Zh G0 G1:=by rw[hG1];exact Zh.laid hcA
    rw[<- hG1];refine⟨_,rfl,sz2,fun t1 ht1=>?_⟩;obtain⟨G2,hG2⟩:∃G2,G2=upd G1 t1 (.tup [.int w,.int 1]):=⟨_,rfl⟩;have sg2:Zh G1 G2:=by rw[hG2];exact Zh.laid ht1
    have e21:G2 t1=some (.tup [.int w,.int 1]):=by rw[hG2];exact Zc
    rw[<- hG2];refine⟨_,rfl,1,rfl,sz2,fun t2 ht2=>?_⟩;obtain⟨G3,hG3⟩:∃G3,G3=upd G2 t2 (.tup [.int u,.int (-1)]):=⟨_,rfl⟩;have sg3:Zh G2 G3:=by rw[hG3];exact Zh.laid ht2
    have e32:G3 t2=some (.tup [.int u,.int (-1)]):=by rw[hG3];exact Zc
    rw[<- hG3];refine⟨sz2,fun t3 ht3=>?_⟩;obtain⟨G4,hG4⟩:∃G4,G4=upd G3 t3 (.tup [.ref t1,.ref t2]):=⟨_,rfl⟩;have sg4:Zh G3 G4:=by rw[hG4];exact Zh.laid ht3
    have e43:G4 t3=some (.tup [.ref t1,.ref t2]):=by rw[hG4];exact Zc
    rw[<- hG4];have sAll:Zh G0 G4:=((sg1.trans sg2).trans sg3).trans sg4;have hd4:=sAll dA _ hd0;have kl:kvs.length<sizeLine:=by rw[dv.len];exact ZC (by lia)
    have o1:(Sum.inl u:Key)∉kvs.map (·.1):=ZdG dv nu;have p1:putK kvs (Sum.inl u) (.ref t1)=kvs ++ [(Sum.inl u,.ref t1)]:=Zhe o1;have o2:(Sum.inl w:Key)∉(kvs ++ [((Sum.inl u:Key),V.ref t1)]).map (·.1):=by
     rw[kQ];intro z;rcases Kk.mp z with z | z
     ·exact ZdG dv nw z
     ·have:(Sum.inl w:Key)=Sum.inl u:=by simpa using z
      cases this;exact nuw rfl
    have p2:putK (kvs ++ [((Sum.inl u:Key),V.ref t1)]) (Sum.inl w) (.ref t2)=kvs ++ [((Sum.inl u:Key),V.ref t1),(Sum.inl w,.ref t2)]:=by rw[Zhe o2];simp
    refine⟨t3,_,rfl,Y9.of e43,rfl,_,_,rfl,_,rfl,_,rfl,dA,_,rfl,ZhK.k (k:=Sum.inl u) hd4 kl,?_⟩;rw[p1];refine⟨_,_,rfl,_,rfl,_,rfl,dA,_,rfl,ZhK.k (k:=Sum.inl w) Zc (by rw[kh,dv.len];exact ZC (by show _+1<=1000;lia)),rfl,?_⟩;rw[p2,JM];refine⟨_,_,_,_,_,rfl,fun c o e=>?_,Zc,?_⟩
    ·rw[Zi (Zf e hdA)];exact sAll c o (sg0 c o e)
    ·rw[es,pe];have tk:∀t q,G4 t=some (.tup q)->(upd G4 dA (.dK (kvs ++ [((Sum.inl u:Key),V.ref t1),(Sum.inl w,.ref t2)]))) t=some (.tup q):=fun t q e=>by
      rw[Zi (Zee e hd4 (by intro z;cases z))];exact e
     exact DV.snoc (dv.mono fun t q e=>tk t q (sAll t _ (sp t _ e))) (tk _ _ (sg4 t1 _ (sg3 t1 _ e21))) (tk _ _ (sg4 t2 _ e32))
   ·have e:¬qx = "end" := fun z=>hc (kE (KC V.str z));have ei:isK ls UK i=false:=by rw[kk];unfold UK;simp[e]
    have es:Jz ls (i+1)=Jz ls i:=by rw[GG,ei];simp
    refine⟨kvs,_,_,_,_,rfl,sg0,hd0,?_⟩;rw[es];exact dv.mono fun t q e=>sp t _ e
  ·rintro σ H2 ⟨kvs,v3,v4,v5,v6,rfl,sm2,hd2,dv2⟩;rw[hxl] at dv2;have s02:Zh H H2:=s1.trans sm2;refine⟨sz0,fun fA hfA=>?_⟩;have hfd:dA≠fA:=Zf hd2 hfA;refine⟨_,rfl,dA,kvs,ZM (Jk ls),rfl,(Zh.laid hfA) dA _ hd2,dv2.keys,(by rw[UB];show Js ls<64;lia),fun lA ns hlA hperm hsort=>?_⟩;have ens:ns=Zaz (Js ls):=ZbU (hperm.trans pm) hsort ((ZaT _).imp fun h=>Int.le_of_lt h);subst ens;have hlf:lA≠fA:=(Zf (Zc (H:=H2) (a:=fA) (o:=.lst [])) hlA).symm;generalize hmm:JA (Jk ls)=m at *;generalize hdn:Yd (Jk ls)=dn at *;generalize hnn:Js ls=N at *;have dget:∀(G:Hp),Zh H2 G -> ∀x:Int,0<=x->x<(N:Int) -> ∃a,Zby G dA (.int x) (some (.ref a))/\G a=some (.tup [.int (m x),.int (dn x)]):=fun G sG x x0 x1=>by
    obtain⟨a,hv,ha⟩:=dv2.look nd x (pm.mem_iff.mpr (YV.mpr ⟨x0,x1⟩));have:=Zby.k (k:=Sum.inl x) (sG dA _ hd2);rw[hv] at this;have e1:JA (Jz ls ls.length)=m:=hmm;have e2:Yd (Jz ls ls.length)=dn:=hdn;rw[e1,e2] at ha;exact⟨a,this,sG a _ ha⟩
   refine⟨fun mm σ H'=>∃(ts:QA)(ys:QH)(i:Nat)(lf:Addr)(v9 v10 v11 v12 v13:QI),mm=(GZ N ts).length /\ σ = [some (.ref l),some (.ref R),some (.ref dA),v3,v4,v5,v6,some (.ref fA),some (.ref lf),v9,v10,v11,v12,v13]/\Zh H2 H'/\H' fA=some (.lst ys)/\H' lf=some (.lst ((GZ N ts).map V.int))/\lf≠fA/\WV fA dn H' ys ts/\Ut m i ts/\i<=N,
    ⟨_,[],[],0,lA,none,none,none,none,none,rfl,rfl,(Zh.laid hfA).step hlA,?_,?_,hlf,.nil,.nil,Kr _⟩,?_⟩
   ·rw[Zi (KG hlf),Zc]
   ·rw[Zc];congr 3;unfold GZ;rw[List.filter_eq_self.mpr];intro x _;simp
   rintro mm σ H' ⟨ts,ys,i,lf,v9,v10,v11,v12,v13,rfl,rfl,sm,hf,hlf',nlf,wv,tr,hi⟩;refine⟨_,rfl,sz0,fun nA hnA=>?_⟩;obtain⟨G0,hG0⟩:∃G0,G0=upd H' nA (.lst []):=⟨_,rfl⟩;have s0:Zh H' G0:=by rw[hG0];exact Zh.laid hnA
   rw[<- hG0];refine⟨lf,nA,_,rfl,rfl,Zt.of (s0 lf _ hlf'),Zt.of (by rw[hG0];exact Zc),_,rfl,?_⟩;cases elf:GZ N ts with
   | nil=>
    refine YZ ?_;refine⟨_,rfl,k fA G0 ys ts (s02.free hfA) (s02.trans (sm.trans s0)) (s0 fA _ hf) (wv.same s0) (ZpL elf tr hi)⟩
   | cons f0 rest=>
    refine J6 ?_;obtain⟨⟨f0lo,f0hi⟩,f0n,f0l⟩:=ZjG elf;have dom:=YL M f0lo f0hi;refine⟨fun σ' H''=>∃(ts':QA)(ys:QH)(i:Nat)(lf:Addr)(v9 v10 v11 v12 v13:QI),(GZ N ts').length<(f0::rest).length /\ σ' = [some (.ref l),some (.ref R),some (.ref dA),v3,v4,v5,v6,some (.ref fA),some (.ref lf),v9,v10,v11,v12,v13]/\Zh H2 H''/\H'' fA=some (.lst ys)/\H'' lf=some (.lst ((GZ N ts').map V.int))/\lf≠fA/\WV fA dn H'' ys ts'/\Ut m i ts'/\i<=N,
     fun σ' H'' ⟨ts',ys,i,lf,v9,v10,v11,v12,v13,a,b⟩=>⟨_,a,ts',ys,i,lf,v9,v10,v11,v12,v13,rfl,b⟩,?_⟩
    refine⟨sz0,fun gA hgA=>?_⟩;have s1':Zh H' (upd G0 gA (.lst [])):=s0.step hgA;have hgf:gA≠fA:=(Zf (s0 fA _ hf) hgA).symm;refine⟨_,rfl,lf,_,_,V.int f0,rfl,rfl,Zt.of (s1' lf _ hlf'),Zo (j:=0) (by rw[elf];rfl),?_⟩;refine⟨fun m2 σ H''=>∃(j:Nat)(g:Addr)(v12 v13:QI),m2+j=N+1 /\ σ = [some (.ref l),some (.ref R),some (.ref dA),v3,v4,v5,v6,some (.ref fA),some (.ref lf),some (.ref g),some (.int (fl dn (Gd m f0 j))),some (.int (gt m f0 j)),v12,v13]/\Zh H' H''/\H'' g=some (.lst ((Gd m f0 j).map V.int))/\g≠fA/\(∀q,1<=q->q<j->gt m f0 q≠f0),
     ⟨N+1,0,gA,v12,v13,rfl,rfl,s1',Zc,hgf,fun q a b=>by lia⟩,?_⟩
    rintro m2 σ H'' ⟨j,g,w12,w13,hj,rfl,sm2',hg,ngf,nf⟩;have short:=UQ M f0lo f0hi nf;have s22:Zh H2 H'':=sm.trans sm2';refine⟨_,rfl,_,rfl,g,_,rfl,.inl (Zt.of hg),rfl,Zfr _,_,rfl,?_⟩;show if (!inV (V.int (gt m f0 j)) ((Gd m f0 j).map V.int))=true then _ else _
    rw[ZaW];by_cases hin:gt m f0 j∈Gd m f0 j
    ·rw[kE hin];refine YZ ?_;obtain⟨j1,ej⟩:=(ZlM M f0lo f0hi nf).mp hin;have isT:Jt m f0 (Gd m f0 j):=⟨j,j1,ej,nf,rfl⟩;have hf'':=sm2' fA _ hf;refine⟨_,rfl,.inl ⟨rfl,_,Zt.of hf''⟩,_,rfl,_,rfl,_,rfl,_,_,rfl,rfl,⟨by decide,by decide⟩,sz2,fun tt htt=>?_⟩;have hft:fA≠tt:=Zf hf'' htt;have yl:ys.length<sizeLine:=by rw[wv.len];have:=tr.len M (by lia);exact ZC (by lia)
     refine⟨fA,_,_,rfl,rfl,(by rw[Zi hft];exact hf''),yl,?_⟩;have K5:∀(o1 o2:HO) c o,H'' c=some o->c≠fA->(upd (upd H'' tt o1) fA o2) c=some o:=fun o1 o2 c o e n=>by rw[Zi n,Zi (Zf e htt)];exact e
     have hlf2:H'' lf=some (.lst ((f0::rest).map V.int)):=by have:=sm2' lf _ hlf';rw[elf] at this;exact this
     obtain⟨j2,hj2,tr2⟩:=Zn7 elf tr hi isT;have f0T:f0∈Gd m f0 j:=isT.self;have less:=ZoO elf f0T;rw[elf] at less;have llen:(f0::rest).length<=120:=by rw[<- elf];unfold GZ;refine Kb (Xz _ _) ?_;rw[Uy];lia
     refine⟨_,rfl,lf,rfl,⟨_,Zt.of (K5 _ _ lf _ hlf2 nlf)⟩,Ja (K:=K) (a:=lf) (xs:=(f0::rest).map V.int) (by rw[ke];exact Kz (ZC (by lia))) (fun i zs G=>((∀c o,H'' c=some o->c≠fA->G c=some o)/\G fA=some (.lst (ys ++ [.ref tt]))/\G tt=some (.tup [.ref g,.int (Zh5 (fl dn (Gd m f0 j)) / 2)]))/\zs=(((f0::rest).take i).filter fun x=>decide (x∉Gd m f0 j)).map V.int)
      ⟨⟨fun c o e n=>K5 _ _ c o e n,Zc,by rw[Zi (KG hft),Zc];rfl⟩,by simp⟩ (fun i zs G p=>?_) (fun i zs G p=>Zt.of (p.1.1 lf _ hlf2 nlf)) (fun i x zs G hx p=>?_) (fun zs G p D hD=>?_)⟩
     ·rw[p.2,ke];exact Kb (Xz _ _) (by rw[kL];lia)
     ·obtain⟨kp,rfl⟩:=p;obtain⟨t,ht,rfl⟩:=WJ hx;have tk:((f0::rest).take (i+1)).filter (fun x=>decide (x∉Gd m f0 j))=((f0::rest).take i).filter (fun x=>decide (x∉Gd m f0 j))++(if t∈Gd m f0 j then[] else[t]):=by
       rw[Ki,ht,MW];by_cases z:t∈Gd m f0 j<;>simp[z]
      refine⟨_,rfl,_,rfl,g,_,rfl,.inl (Zt.of (kp.1 g _ hg ngf)),rfl,Zfr _,_,rfl,?_⟩;show if (!inV (V.int t) ((Gd m f0 j).map V.int))=true then _ else _
      rw[ZaW];by_cases z:t∈Gd m f0 j
      ·rw[kE z];refine YZ ⟨kp,?_⟩;rw[tk,km z,qe]
      ·rw[Km z];refine J6 ⟨_,rfl,kp,?_⟩;rw[tk,ki z,kQ];rfl
     ·obtain⟨kp,rfl⟩:=p;have hDf:D≠fA:=(Zf kp.2.1 hD).symm;have kD:∀c o,H'' c=some o->c≠fA->(upd G D (.lst ((((f0::rest).take ((f0::rest).map V.int).length).filter fun x=>decide (x∉Gd m f0 j)).map V.int))) c=some o:=fun c o e n=>by
       have e2:=kp.1 c o e n;rw[Zi (Zf e2 hD)];exact e2
      refine⟨ts ++ [Gd m f0 j],ys ++ [.ref tt],j2,D,_,_,_,_,_,less,rfl,fun c o e=>kD c o (s22 c o e) (Zf e hfA),?_,?_,hDf,?_,tr2,hj2⟩
      ·rw[Zi (KG hDf)];exact kp.2.1
      ·rw[Zc,Zj4,elf,ke,kJ (kj _)]
      ·refine XE (wv.mono (fun c o n e=>kD c o (sm2' c o e) n) ⟨_,hf⟩) ⟨tt,g,rfl,?_,kD g _ hg ngf,ngf⟩;rw[Zi (Zf kp.2.2 hD)];exact kp.2.2
    ·rw[Km hin];refine J6 ?_;have nf':∀q,1<=q->q<j+1->gt m f0 q≠f0:=fun q a b e=>by
      by_cases z:q=j
      ·subst z;exact hin ((ZlM M f0lo f0hi nf).mpr ⟨a,e⟩)
      ·exact nf q a (by lia) e
     have short2:=UQ M f0lo f0hi nf';refine⟨fun σ' H3=>∃(g:Addr)(v12 v13:QI),σ' = [some (.ref l),some (.ref R),some (.ref dA),v3,v4,v5,v6,some (.ref fA),some (.ref lf),some (.ref g),some (.int (fl dn (Gd m f0 (j+1)))),some (.int (gt m f0 (j+1))),v12,v13]/\Zh H' H3/\H3 g=some (.lst ((Gd m f0 (j+1)).map V.int))/\g≠fA,
      fun σ' H3 ⟨g,a,b,e,h1,h2,h3⟩=>⟨m2-1,by lia,j+1,g,a,b,by lia,e,h1,h2,h3,nf'⟩,?_⟩
     obtain⟨a,dg,ha⟩:=dget H'' s22 (gt m f0 j) (dom j).1 (dom j).2;refine⟨_,rfl,_,rfl,dA,_,rfl,dg,?_⟩;refine⟨a,_,rfl,Y9.of ha,rfl,_,_,rfl,_,_,rfl,rfl,?_⟩;refine⟨_,rfl,_,rfl,_,rfl,sz2,fun b hb=>?_⟩;refine⟨g,b,_,_,rfl,rfl,(Zh.laid hb) g _ hg,Zc,(by rw[ke,WQ];exact Kz (ZC (by show _+2<=1000;lia))),fun g' hg'=>?_⟩;have s3:Zh H'' (upd (upd H'' b (.lst [.int (gt m f0 j),.int (m (gt m f0 j))])) g' (.lst ((Gd m f0 j).map V.int ++ [.int (gt m f0 j),.int (m (gt m f0 j))]))):=(Zh.laid hb).step hg';have ng':g'≠fA:=(Zf ((Zh.laid (o:=.lst [.int (gt m f0 j),.int (m (gt m f0 j))]) hb) fA _ (sm2' fA _ hf)) hg').symm;refine⟨_,rfl,_,rfl,_,_,rfl,rfl,1,rfl,sz2,fun c hc=>?_⟩;refine⟨_,rfl,_,_,rfl,rfl,(by show (0:Int)<2;decide),c,_,_,_,rfl,rfl,Zt.of Zc,Zpc _,_,_,rfl,rfl,?_⟩;refine⟨_,rfl,1,rfl,sz2,fun c2 hc2=>?_⟩;refine⟨_,rfl,_,_,rfl,rfl,(by show (0:Int)<2;decide),c2,_,_,_,rfl,rfl,Zt.of Zc,Zpc _,_,_,rfl,rfl,?_⟩;refine⟨g',some (.int (m (gt m f0 j))),some (.int (dn (gt m f0 j))),?_,((sm2'.trans s3).step hc).step hc2,?_,ng'⟩
     ·rw[ZqR,show gt m f0 (j+1)=m (gt m f0 j)+ev2 (m (gt m f0 j)) from(Zra _).symm];rfl
     ·have e1:=(Zh.laid (o:=.lst [.int 1,.int (-1)]) hc) g' _ Zc;have e2:=(Zh.laid (o:=.lst [.int 1,.int (-1)]) hc2) g' _ e1;refine e2.trans ?_;simp[Gd]
def Zb4:Sp:=fun vs H Q _=>∃(l:Addr)(xs:QH)(ls:QB),vs = [.ref l]/\H l=some (.lst xs)/\ZH H xs ls/\ls.length<=60/\Wk ls 0 /\
 ∀(p:Addr)(H':Hp),H p=none->Zh H H'->H' p=some (.lst (tab (Js ls) fun x=>V.bl (decide (x∈(Jk ls).map (·.1)))))->Q (.ref p) H'
abbrev WL:Stmt:=top 17
theorem Jw:Zy ["drawing", "uppers", "upper", "lower"] ["drawing"] (Zj WL):={}
theorem Zk4 {f:Addr}{fd:FuncData}(F:Yx K "uppers_at_ends" "uppers_at_ends" WL f fd)(JK:Yq P w K mg base 2 "ends_of" ["drawing"] (Zav fun x=>decide (x = "end")))(Wf:Yq P w K mg base 3 "end_pairs" ["drawing"] Zgl)(Ye:mg "len" = none):Yi P w K mg base Wx 4 f fd ["drawing"] Zb4:=by
 refine F.ok Jw (fun vs H Q E h=>?_) (fun cdv A outer s H vs Q E hr h=>?_)
 ·obtain⟨l,xs,ls,rfl,_⟩:=h;rfl
 ·obtain⟨l,xs,ls,rfl,hl,hL,hlen,hW,k⟩:=h;have n120:=WI hlen;have nt:2*(Yg ls UK ls.length).length=Js ls:=by unfold Js Jk Jz;rw[ke]
  refine⟨_,(Zd (Zp (i:=1) Jw.nd rfl (.inl rfl) (Zl ZbY (Zz (Za Gs Zb)) (Zl Wu Ze (Zv (Yb (K:=K) rfl) (by rfl) Ye KO (Za (Zq JK hr (Za (pv 0) Zb)) Zb)))))
   (Zd (Yw Kg rfl (ZU (K:=K) rfl (Zq Wf hr (Za (pv 0) Zb))) (Z0 (K:=K) (n:=2) rfl rfl (Zm (Zk (i:=2) Jw.nd rfl (.inl rfl)) (Zm (Zk (i:=3) Jw.nd rfl (.inl rfl)) ZO))) (Zg (YB Gs (YJ (pv 1) (pv 2) set_list))))
   (Zg (Zw (pv 1))))),?_⟩
  refine⟨sz1,fun l0 hl0=>?_⟩;have s0:Zh H (upd H l0 (.lst [.bl false])):=Zh.laid hl0;refine⟨_,rfl,l,xs,ls,rfl,s0 l _ hl,hL.same s0,hlen,hW.kd,fun eA H1 fe s1 ee=>?_⟩;refine⟨eA,_,rfl,.inl (Zt.of ee),_,_,rfl,rfl,.inl ⟨by decide,by decide⟩,?_⟩;have el:((2:Int)*((((Yg ls (fun x=>decide (x = "end")) ls.length).map V.int).length:Nat):Int))=((Js ls:Nat):Int):=by rw[ke];have:(Yg ls (fun x=>decide (x = "end")) ls.length).length=(Yg ls UK ls.length).length:=rfl;lia
  show ZoT (V.ref l0) (V.int ((2:Int)*((((Yg ls (fun x=>decide (x = "end")) ls.length).map V.int).length:Nat):Int))) H1 _;rw[el];refine⟨l0,_,_,rfl,rfl,s1 l0 _ Zc,by lia,by lia,(by show 1*_<=sizeLine;exact Kz (ZC (by lia))),fun rA hrA=>?_⟩;obtain⟨H2,hH2⟩:∃H2,H2=upd H1 rA (.lst (List.replicate ((Js ls:Nat):Int).toNat [V.bl false]).flatten):=⟨_,rfl⟩;rw[<- hH2];have s02:Zh H H2:=by rw[hH2];exact(s0.trans s1).step hrA
  have hrH:H rA=none:=(s0.trans s1).free hrA;have hr2:H2 rA=some (.lst (tab (Js ls) fun _=>V.bl false)):=by rw[hH2,Zc,kM,Zbn]
  refine⟨_,rfl,l,xs,ls,rfl,s02 l _ hl,hL.same s02,hlen,hW,fun pA H3 ys fp s3 ep pv=>?_⟩;have hpr:pA≠rA:=(Zf hr2 fp).symm;refine⟨pA,rfl,⟨_,Zt.of ep⟩,JX (K:=K) (a:=pA) (xs:=ys) (fun i σ H'=>∃(v2 v3:QI),σ = [some (.ref l),some (.ref rA),v2,v3]/\Jf rA H3 H'/\H' rA=some (.lst (tab (Js ls) fun x=>V.bl (decide (x∈((Jk ls).take i).map (·.1))))))
   ⟨none,none,rfl,Jf.refl _ _,?_⟩ (fun i σ H' _ ⟨_,_,_,fr,_⟩=>Zt.of (fr pA _ ep hpr)) ?_ ?_⟩
  ·rw[s3 rA _ hr2];exact KC (fun z=>some (HO.lst z)) (Jq fun x _ _=>by simp)
  ·rintro i x σ H' hx ⟨v2,v3,rfl,fr,hr'⟩;obtain⟨p,t,hp,rfl,ht⟩:=pv.get hx;obtain⟨u,lw⟩:=p;obtain⟨⟨d1,d2⟩,d3,d4⟩:=Zjj hW (kZ hp);obtain⟨un,rfl⟩:=kI (show 0<=u from d1);have d2:(un:Int)<_:=d2;have htr:t≠rA:=Zee ht (s3 rA _ hr2) (by intro z;cases z);refine⟨t,_,rfl,Y9.of (fr t _ ht htr),rfl,_,_,rfl,_,_,rfl,rfl,?_⟩;refine⟨_,rfl,_,rfl,rA,_,_,un,rfl,rfl,hr',(by rw[Gx];exact Jg (by lia)),?_⟩;refine⟨_,_,rfl,fr.trans Jf.upd,?_⟩;rw[Zc,Zb0,Jp (ns:=Jk ls) _ hp];refine KC (fun z=>some (HO.lst z)) (Jq fun x _ _=>?_);by_cases e:x=(un:Int)
   ·rw[km e];congr 1;exact(kE (by rw[e];simp)).symm
   ·rw[ki e];congr 1;exact qX.mpr (by simp[e])
  ·rintro σ H' ⟨v2,v3,rfl,fr,hr'⟩;refine⟨_,rfl,k rA H' hrH (fun c o e=>fr c o (s3 c o (s02 c o e)) (Zf e hrH)) ?_⟩;rw[pv.len,kJ (kj _)] at hr';exact hr'
def stA (dn:QX)(T:QG)(i:Nat):Int:=if i % 2=0 then dn (T.getD i 0) else ev2 (T.getD i 0)
theorem Zi3 (dn:QX)(T:QG):∀n,2*n<=T.length->((List.range (2*n)).map (stA dn T)).sum=fl dn (T.take (2*n))
 | 0,_=>by simp[fl]
 | n+1,h=>by
  have ih:=Zi3 dn T n (by lia);have e:2*(n+1)=2*n+1+1:=by lia
  have h1:T[2*n]? = some (T.getD (2*n) 0):=by simp[show 2*n<T.length by lia]
  have h2:T[2*n+1]? = some (T.getD (2*n+1) 0):=by simp[show 2*n+1<T.length by lia]
  rw[e,KR,KR,Ki,Ki,h1,h2];have e2:T.take (2*n)++(some (T.getD (2*n) 0)).toList++(some (T.getD (2*n+1) 0)).toList=T.take (2*n) ++ [T.getD (2*n) 0,T.getD (2*n+1) 0]:=by simp
  rw[e2,ZgA dn _ _ n _ (by rw[kL];lia),<- ih];have a1:stA dn T (2*n)=dn (T.getD (2*n) 0):=km (by lia);have a2:stA dn T (2*n+1)=ev2 (T.getD (2*n+1) 0):=ki (by lia);rw[kQ,kQ,TN,TN];simp only[Kq,NW,Nv,List.sum_nil,a1,a2];lia
def Zdz:Sp:=fun vs H Q _=>∃(tA uA:Addr)(T:QG)(N:Nat)(ps:QG)(n:Nat),vs = [.ref tA,.ref uA]/\H tA=some (.lst (T.map V.int))/\H uA=some (.lst (tab N fun x=>V.bl (decide (x∈ps))))/\T.length=2*n/\T.length<=200/\(∀x∈T,0<=x/\x<(N:Int)) /\
 ∀(p:Addr)(H':Hp)(ss:QG),H p=none->Zh H H'->H' p=some (.lst (ss.map V.int))->ss.sum=fl (fun x=>if x∈ps then 1 else -1) T->ss=(List.range T.length).map (stA (fun x=>if x∈ps then 1 else -1) T)->Q (.ref p) H'
abbrev U5:Stmt:=top 18
theorem JZ:Zy ["tour", "uppers", "steps", "at", "thread", "upper"] ["tour", "uppers"] (Zj U5):={}
theorem ZlB {f:Addr}{fd:FuncData}(F:Yx K "steps_down" "steps_down" U5 f fd)(JD:Yq P w K mg base 1 "born_with" ["thread"] ZnF)(ZA:mg "enumerate" = none):Yi P w K mg base Wx 2 f fd ["tour", "uppers"] Zdz:=by
 refine F.ok JZ (fun vs H Q E h=>?_) (fun cdv A outer s H vs Q E hr h=>?_)
 ·obtain⟨tA,uA,T,N,ps,n,rfl,_⟩:=h;rfl
 ·obtain⟨tA,uA,T,N,ps,n,rfl,hT,hU,hn,hlen,dom,k⟩:=h;obtain⟨dn,hdn⟩:∃dn:QX,dn=fun x=>if x∈ps then 1 else -1:=⟨_,rfl⟩
  rw[<- hdn] at k;refine⟨_,(Zd (Zp (i:=2) JZ.nd rfl (.inl rfl) (Zz Zb))
   (Zd (Yw Kg rfl (JU (K:=K) rfl (by rfl) ZA (Za (pv 0) Zb)) (Z0 (K:=K) (n:=2) rfl rfl (Zm (Zk (i:=3) JZ.nd rfl (.inl rfl)) (Zm (Zk (i:=4) JZ.nd rfl (.inl rfl)) ZO))) (Zd (Zp (i:=5) JZ.nd rfl (.inl rfl) (Zcr (Zg8 (Zl ZqF (pv 3) Ze) (fun _=>rfl)) (Yl Ws (pv 4) (Zq JD hr (Za (pv 4) Zb)) (Zs _)) (Zx (Zn (K:=K) rfl) (pv 1) (pv 4) (fun _ _=>rfl))))
   (Zg (Z8 (Yf (K:=K) rfl (YC kK kW kX ZP (pv 2) (Za (Zcr (Ww (pv 5)) Ze (Ug Wm Ze)) Zb)))))))
   (Zg (Zw (pv 2))))),?_⟩
  refine⟨sz0,fun sA hsA=>?_⟩;refine⟨_,rfl,tA,rfl,⟨_,Zt.of ((Zh.laid hsA) tA _ hT)⟩,UZ (K:=K) (a:=tA) (xs:=T.map V.int) (fun i σ H'=>∃(v3 v4 v5:QI),σ = [some (.ref tA),some (.ref uA),some (.ref sA),v3,v4,v5]/\Zh H H'/\H' sA=some (.lst (((List.range i).map (stA dn T)).map V.int)))
   ⟨none,none,none,rfl,Zh.laid hsA,Zc⟩ (fun i σ H' _ ⟨_,_,_,_,sm,_⟩=>Zt.of (sm tA _ hT)) ?_ ?_⟩
  ·rintro i x p σ H' hx ⟨v3,v4,v5,rfl,sm,hs⟩ hp;obtain⟨t,ht,rfl⟩:=WJ hx;have hi:i<T.length:=(kz.mp ht).1;obtain⟨d0,d1⟩:=dom t (kZ ht);have td:T.getD i 0=t:=by simp[ht]
   obtain⟨G0,hG0⟩:∃G0,G0=upd H' p (.tup [.int i,.int t]):=⟨_,rfl⟩;have sp:Zh H' G0:=by rw[hG0];exact Zh.laid hp
   have ep:G0 p=some (.tup [.int i,.int t]):=by rw[hG0];exact Zc
   rw[<- hG0];have sg0:Zh H G0:=sm.trans sp;have l2:(((List.range i).map (stA dn T)).map V.int).length<sizeLine:=by rw[ke,ke,KP];exact ZC (by omega)
   have tail:∀v:Int,v=stA dn T i->(upd G0 sA (.lst (((List.range i).map (stA dn T)).map V.int ++ [V.int v]))) sA=some (.lst (((List.range (i+1)).map (stA dn T)).map V.int)):=fun v e=>by rw[Zc,KR,kQ,kQ,e];rfl
   have hbit:Builtin.bitAnd (i:Int) 1=(i:Int) % 2:=ZoF (by omega);refine⟨p,_,rfl,Y9.of ep,rfl,_,_,rfl,_,_,rfl,rfl,?_⟩;refine⟨_,rfl,_,_,rfl,rfl,_,rfl,?_⟩;show if (Builtin.bitAnd (i:Int) 1 != 0)=true then _ else _
   rw[hbit];refine ZX (fun hc=>?_) (fun hc=>?_)
   ·have odd:¬i % 2=0:=fun z=>by
     rw[Ts] at hc;omega
    have se:stA dn T i=ev2 t:=by unfold stA;rw[ki odd,td]
    refine⟨_,rfl,_,rfl,_,rfl,d0,_,_,rfl,rfl,?_⟩;refine⟨_,rfl,.inl ⟨rfl,_,Zt.of (sp sA _ hs)⟩,_,rfl,_,rfl,?_⟩;refine ZX (fun hd=>?_) (fun hd=>?_)
    ·have e:(1:Int)=stA dn T i:=by
      have hd:t<bw t:=kG hd;rw[se];unfold ev2;unfold bw at hd;split at hd
      ·rw[km (by assumption)]
      ·omega
     exact⟨sA,_,_,rfl,rfl,sp sA _ hs,l2,_,_,_,rfl,sg0.put hsA,tail _ e⟩
    ·have e:(-1:Int)=stA dn T i:=by
      have hd:¬t<bw t:=fun z=>hd (kE z);rw[se];unfold ev2;unfold bw at hd;split at hd
      ·omega
      ·rw[ki (by assumption)]
     exact⟨1,rfl,sA,_,_,rfl,rfl,sp sA _ hs,l2,_,_,_,rfl,sg0.put hsA,tail _ e⟩
   ·have evn0:i % 2=0:=by
     by_cases z:i % 2=0
     ·exact z
     ·exact absurd (by rw[Ts];omega) hc
    have se:stA dn T i=dn t:=by unfold stA;rw[km evn0,td]
    rw[hdn] at se;refine⟨_,rfl,_,rfl,uA,_,_,_,rfl,rfl,Zt.of (sg0 uA _ hU),Zhz _ d0 d1,?_⟩;refine⟨_,rfl,.inl ⟨rfl,_,Zt.of (sp sA _ hs)⟩,_,rfl,_,rfl,?_⟩;refine ZX (fun hd=>?_) (fun hd=>?_)
    ·have e:(1:Int)=stA dn T i:=by
      rw[hdn,se];exact(km (kG hd)).symm
     exact⟨sA,_,_,rfl,rfl,sp sA _ hs,l2,_,_,_,rfl,sg0.put hsA,tail _ e⟩
    ·have e:(-1:Int)=stA dn T i:=by
      rw[hdn,se];exact(ki (fun z=>hd (kE z))).symm
     exact⟨1,rfl,sA,_,_,rfl,rfl,sp sA _ hs,l2,_,_,_,rfl,sg0.put hsA,tail _ e⟩
  ·rintro σ H' ⟨v3,v4,v5,rfl,sm,hs⟩;rw[ke] at hs;refine⟨_,rfl,k sA H' _ hsA sm hs ?_ (by rw[hdn])⟩;rw[hn,Zi3 dn T n (by omega),kJ (by omega)]
def ZaN (dn:QX)(T:QG):Int:=Zh5 (fl dn T) / 2
def Zgc:Sp:=fun vs H Q _=>∃(l:Addr)(xs:QH)(ls:QB),vs = [.ref l]/\H l=some (.lst xs)/\ZH H xs ls/\ls.length<=60/\Wk ls 0 /\
 ∀(p:Addr)(H':Hp)(ts:QA),H p=none->Zh H H'->Ut (JA (Jk ls)) (Js ls) ts->H' p=some (.lst ((ts.map (ZaN (Yd (Jk ls)))).map V.int))->Q (.ref p) H'
theorem ZkQ {m:QX}{i:Nat}{ts:QA}(a:Ut m i ts):∀T∈ts,∃n,T.length=2*n:=by
 induction a with
 | nil=>intro T h;cases h
 | add a h t ih=>
  intro T hT;rcases Kk.mp hT with z | z
  ·exact ih T z
  ·rw[kT.mp z];obtain⟨L,_,_,_,rfl⟩:=t;exact⟨L,WQ _ _ _⟩
 | skip a h ih=>exact ih
abbrev ZdJ:Stmt:=top 19
theorem ZhP:Zy ["drawing", "uppers"] ["drawing"] (Zj ZdJ):={}
theorem ZlX {f:Addr}{fd:FuncData}(F:Yx K "turns" "turns" ZdJ f fd)(YG:Yq P w K mg base 4 "uppers_at_ends" ["drawing"] Zb4)(JF:Yq P w K mg base 2 "steps_down" ["tour", "uppers"] Zdz)(Zbd:Yq P w K mg base 5 "tours" ["drawing"] ZdP)(ZbC:mg "abs" = none)(Zfw:mg "sum" = none):Yi P w K mg base Wx 6 f fd ["drawing"] Zgc:=by
 refine F.ok ZhP (fun vs H Q E h=>?_) (fun cdv A outer s H vs Q E hr h=>?_)
 ·obtain⟨l,xs,ls,rfl,_⟩:=h;rfl
 ·obtain⟨l,xs,ls,rfl,hl,hL,hlen,hW,k⟩:=h;have n60:=Zjh hW;have M:=WH hW;refine⟨_,(Zd (Zp (i:=1) ZhP.nd rfl (Or.inr rfl) (Zq YG hr (Za (pv 0) Zb)))
   (Zg (Zw (WA (Ls:=["tour"]) (Fs:=["uppers"]) (fi:=[1]) (ZV.of (show Yv ["drawing", "uppers"] (Zj ZdJ) _ ["uppers"] [1]=true by decide +kernel)) rfl (ZU (K:=K) rfl (Zq Zbd hr (Za (pv 0) Zb))) (fun cl C s3 H3 ex=>⟨(Zk (i:=0) (show ((["tour"]:QP)++(["uppers"]:QP)).Nodup by decide +kernel) rfl (.inl rfl)),YE,(Zl Zb2 (Zv ZcB (by rfl) ZbC boot_abs (Za (Zv (Zfo (K:=K) rfl rfl) (by rfl) Zfw boot_sum (Za (Zq JF hr (Za (pv 0) (Za (pv 1) Zb))) Zb)) Zb)) Ze)⟩))))),?_⟩
  refine⟨_,rfl,l,xs,ls,rfl,hl,hL,hlen,hW,fun uA H1 fu s1 eu=>?_⟩;refine⟨_,rfl,l,xs,ls,rfl,s1 l _ hl,hL.same s1,hlen,hW,fun tsA H2 ys ts ft s2 et rv ap tr=>?_⟩;have good:=tr.good M (qO _);have tl:=tr.len M (qO _);refine⟨tsA,rfl,⟨_,Zt.of et⟩,Ja (K:=K) (a:=tsA) (xs:=ys) (by rw[rv.len];exact Kz (ZC (by lia))) (fun i zs G=>Zh H2 G/\zs=((ts.take i).map (ZaN (Yd (Jk ls)))).map V.int) ⟨Zh.refl _,rfl⟩ (fun i zs G p=>by rw[p.2,ke,ke,kL];lia) (fun i zs G p=>Zt.of (p.1 tsA _ et)) (fun i x zs G hx p=>?_) (fun zs G p D hD=>?_)⟩
  ·obtain⟨sG,rfl⟩:=p;obtain⟨q,T,hT,rfl,hq⟩:=rv.atX hx;obtain⟨n,hn⟩:=ZkQ tr T (kZ hT);have inT:∀x∈T,x∈ts.flatten:=fun x hx=>List.mem_flatten.mpr ⟨T,kZ hT,hx⟩;have sub:T.length<=ts.flatten.length:=by
    obtain⟨a,b,e⟩:=List.append_of_mem (kZ hT);rw[e,qV,Xg,kh,kh];lia
   have fs:=Wb (Js ls) ts.flatten good.1 good.2.1;refine lcG ?_;refine⟨_,rfl,_,rfl,q,uA,T,Js ls,(Jk ls).map (·.1),n,rfl,sG q _ hq,sG uA _ (s2 uA _ eu),hn,by lia,fun x hx=>good.2.1 x (inT x hx),fun pA G1 ss fp sp ep es _=>?_⟩;refine⟨pA,_,rfl,Zt.of ep,_,rfl,_,_,rfl,rfl,⟨by decide,by decide⟩,sG.trans sp,?_⟩;rw[Jp (ns:=ts) _ hT,kQ];refine KC (fun z=>_ ++ [V.int z]) ?_;show (if ss.sum<0 then -ss.sum else ss.sum) / 2=_;rw[es];rfl
  ·obtain⟨sG,rfl⟩:=p;refine k D _ ts (s1.free (s2.free (sG.free hD))) ((s1.trans (s2.trans sG)).step hD) tr ?_;rw[Zc,rv.len,kJ (kj _)]
def hAt (dn:QX)(T:QG):Nat->Int
 | 0=>1
 | i+1=>hAt dn T i-stA dn T i
def plc (T:QG)(x:Int):Nat:=T.idxOf x
def hgt (dn:QX)(T:QG)(x:Int):Int:=hAt dn T (plc T x)
theorem Zlk {T:QG}(nd:T.Nodup){i:Nat}(hi:i<T.length):plc T T[i]=i:=by unfold plc;exact List.Nodup.idxOf_getElem nd i hi
theorem Zqv {dn:QX}{T:QG}(nd:T.Nodup){i:Nat}(hi:i<T.length):hgt dn T T[i]=hAt dn T i:=by unfold hgt;rw[Zlk nd hi]
theorem Zjx (dn:QX)(T:QG):∀i,hAt dn T i=1-((List.range i).map (stA dn T)).sum
 | 0=>by simp[hAt]
 | i+1=>by rw[KR,kQ,TN];show hAt dn T i-stA dn T i=_;rw[Zjx dn T i];simp;lia
theorem ZiH (m:QX)(f:Int):∀(L j:Nat),j<L->(Gd m f L)[2*j]? = some (gt m f j)/\(Gd m f L)[2*j+1]? = some (m (gt m f j))
 | 0,j,h=>by lia
 | L+1,j,h=>by
  have hl:=WQ m f L;by_cases e:j=L
  ·subst e;constructor
   ·show (Gd m f j ++ [gt m f j,m (gt m f j)])[2*j]? = _;rw[Ko (by lia),hl];simp
   ·show (Gd m f j ++ [gt m f j,m (gt m f j)])[2*j+1]? = _;rw[Ko (by lia),hl];simp[show 2*j+1-2*j=1 by lia]
  ·obtain⟨a,b⟩:=ZiH m f L j (by lia);constructor
   ·show (Gd m f L++_)[2*j]? = _;rw[KJ (by lia)];exact a
   ·show (Gd m f L++_)[2*j+1]? = _;rw[KJ (by lia)];exact b
structure One (ps:QL)(N:Nat)(T:QG)(L:Nat):Prop where
 M:Wa (JA ps) N
 fl0:(ZM ps).Nodup
 T_is:T=Gd (JA ps) 0 L
 L1:1<=L
 back:gt (JA ps) 0 L=0
 nd:T.Nodup
 all:∀x:Int,0<=x->x<N->x∈T
 dom:∀x∈T,0<=x/\x<(N:Int)
 zero:fl (Yd ps) T=0
theorem ZnT {ps:QL}{u l b:Int}(nd:(ZM ps).Nodup)(h:(u,l)∈ps)(h2:(l,b)∈ps):False:=by
 induction ps with
 | nil=>cases h
 | cons p r ih=>
  have e:ZM (p::r)=p.1::p.2::ZM r:=by simp[ZM]
  have fr:=nd;rw[e] at nd;obtain⟨n1,nd2⟩:=KW.mp nd;obtain⟨n2,nd3⟩:=KW.mp nd2;have inr:∀{a c:Int},(a,c)∈r->a∈ZM r/\c∈ZM r:=fun {a c} z=>⟨KS.mpr ⟨(a,c),z,by simp⟩,KS.mpr ⟨(a,c),z,by simp⟩⟩;rcases kO.mp h with z | z
  ·rcases kO.mp h2 with y | y
   ·subst z;have:(u,l)=(l,b):=y.symm;have e1:u=l:=KC Prod.fst this;exact ZbQ fr (kS) e1
   ·subst z;exact n2 (inr y).1
  ·rcases kO.mp h2 with y | y
   ·subst y;exact n1 (kU _ (inr z).2)
   ·exact ih nd3 z y
namespace One
variable {ps:QL}{N:Nat}{T:QG}{L:Nat}
theorem len (o:One ps N T L):T.length=2*L:=by rw[o.T_is];exact WQ _ _ _
theorem at0 (o:One ps N T L){j:Nat}(h:j<L):T[2*j]? = some (gt (JA ps) 0 j):=by rw[o.T_is];exact(ZiH _ _ L j h).1
theorem at1 (o:One ps N T L){j:Nat}(h:j<L):T[2*j+1]? = some (JA ps (gt (JA ps) 0 j)):=by rw[o.T_is];exact(ZiH _ _ L j h).2
theorem hg (o:One ps N T L){i:Nat}{x:Int}(h:T[i]? = some x):hgt (Yd ps) T x=hAt (Yd ps) T i:=by obtain⟨hi,e⟩:=kz.mp h;rw[<- e];exact Zqv o.nd hi
theorem stE (o:One ps N T L){j:Nat}(h:j<L):hAt (Yd ps) T (2*j+1)=hAt (Yd ps) T (2*j)-Yd ps (gt (JA ps) 0 j):=by show hAt (Yd ps) T (2*j)-stA (Yd ps) T (2*j)=_;unfold stA;rw[km (by lia)];have:=o.at0 h;simp[this]
theorem stO (o:One ps N T L){j:Nat}(h:j<L):hAt (Yd ps) T (2*j+2)=hAt (Yd ps) T (2*j+1)-ev2 (JA ps (gt (JA ps) 0 j)):=by show hAt (Yd ps) T (2*j+1)-stA (Yd ps) T (2*j+1)=_;unfold stA;rw[ki (by lia)];have:=o.at1 h;simp[this]
theorem Zsx (o:One ps N T L):hAt (Yd ps) T (2*L)=1:=by rw[Zjx];have:=Zi3 (Yd ps) T L (by rw[o.len];exact kj _);rw[this,kJ (by rw[o.len];exact kj _),o.zero];rfl
theorem on (o:One ps N T L){x:Int}(h0:0<=x)(h1:x<N):∃j,j<L/\(x=gt (JA ps) 0 j∨x=JA ps (gt (JA ps) 0 j)):=by have:=o.all x h0 h1;rw[o.T_is] at this;exact Ji.mp this
theorem pos (o:One ps N T L):(0:Int)<N:=by have:=o.at0 (j:=0) o.L1;have h:=o.dom _ (kZ this);have e:gt (JA ps) 0 0=0:=rfl;rw[e] at h;exact h.2
theorem Zn5 (o:One ps N T L)(j:Nat):0<=gt (JA ps) 0 j/\gt (JA ps) 0 j<(N:Int):=YL o.M (by decide) o.pos j
theorem ends (o:One ps N T L){u l:Int}(h:(u,l)∈ps)(hu:0<=u/\u<(N:Int)):hgt (Yd ps) T u=hgt (Yd ps) T l+1:=by
 obtain⟨m1,m2⟩:=Zed o.fl0 h;have ne:=ZbQ o.fl0 h;have du:Yd ps u=1:=km (KH.mpr ⟨(u,l),h,rfl⟩);have dl:Yd ps l = -1:=by unfold Yd;rw[ki];intro z;obtain⟨⟨a,b⟩,hab,e⟩:=KH.mp z;have e:a=l:=e;subst e;have q:=(Zed o.fl0 hab).1;rw[m2] at q;subst q;exact ZnT o.fl0 h hab
 obtain⟨j,hj,c⟩:=o.on hu.1 hu.2;rcases c with c | c
 ·have a0:=o.at0 hj;have a1:=o.at1 hj;rw[<- c] at a0 a1;rw[m1] at a1;rw[o.hg a0,o.hg a1,o.stE hj,<- c,du];lia
 ·have a0:=o.at0 hj;have a1:=o.at1 hj;have e:gt (JA ps) 0 j=l:=by
   have:=o.M.inv _ (o.Zn5 j).1 (o.Zn5 j).2;rw[<- c,m1] at this;exact this.symm
  rw[e] at a0;rw[<- c] at a1;rw[o.hg a0,o.hg a1,o.stE hj,e,dl];lia
theorem ZlE (o:One ps N T L){x:Int}(h0:0<=x)(h1:x<N)(hx:x % 2=0):hgt (Yd ps) T x=hgt (Yd ps) T (x+1)+1:=by
 have key:∀y:Int,(∃j,j<L/\y=JA ps (gt (JA ps) 0 j))->0<=y->hgt (Yd ps) T (bw y)=hgt (Yd ps) T y-ev2 y:=by
  rintro y ⟨j,hj,e⟩ _;have a1:=o.at1 hj;rw[<- e] at a1;rw[o.hg a1];have nx:gt (JA ps) 0 (j+1)=bw y:=by rw[e];rfl
  have st:=o.stO hj;rw[<- e] at st;by_cases lt:j+1<L
  ·have a2:=o.at0 lt;rw[nx] at a2;rw[o.hg a2,<- st];rfl
  ·have eL:j+1=L:=by omega
   have z0:bw y=0:=by rw[<- nx,eL];exact o.back
   have a0:=o.at0 (j:=0) o.L1;have e0:gt (JA ps) 0 0=0:=rfl;rw[e0] at a0;rw[z0,o.hg a0,<- st];have:=o.Zsx;rw[show 2*L=2*j+2 by omega] at this;rw[this];rfl
 have hb:bw x=x+1:=km hx;have hb1:bw (x+1)=x:=by rw[<- hb];exact Zc5 x
 have h2:=ZlA o.M.ev h0 h1;rw[hb] at h2;obtain⟨j,hj,c⟩:=o.on h2.1 h2.2;rcases c with c | c
 ·
  have hx':∃i,i<L/\x=JA ps (gt (JA ps) 0 i):=by
   cases j with
   | zero=>
    have e0:gt (JA ps) 0 0=0:=rfl;rw[e0] at c;omega
   | succ i=>
    refine⟨i,by omega,?_⟩;have:gt (JA ps) 0 (i+1)=bw (JA ps (gt (JA ps) 0 i)):=rfl;rw[this] at c;rw[<- Zc5 (JA ps (gt (JA ps) 0 i)),<- c,hb1]
  have q:=key x hx' h0;rw[hb] at q;have:ev2 x=1:=km hx;omega
 ·have q:=key (x+1) ⟨j,hj,c⟩ h2.1;rw[hb1] at q;have:ev2 (x+1) = -1:=ki (by omega);omega
theorem h0 (o:One ps N T L):hgt (Yd ps) T 0=1:=by have a0:=o.at0 (j:=0) o.L1;have e0:gt (JA ps) 0 0=0:=rfl;rw[e0] at a0;rw[o.hg a0];rfl
theorem h1 (o:One ps N T L):hgt (Yd ps) T 1=0:=by have:=o.ZlE (x:=0) (by decide) o.pos (by decide);rw[o.h0] at this;have e:(0:Int)+1=1:=rfl;rw[e] at this;lia
end One
theorem Zeh {m:QX}{ts:QA}(h:Ut m 0 ts):ts = []:=by cases h;rfl
theorem ZcZ {m:QX}:∀{n:Nat}{ts:QA},Ut m (n+1) ts -> ∃T r,ts=T::r/\Jt m 0 T
 | 0,ts,h=>by
  cases h with
  | add a b c=>rw[Zeh a];exact⟨_,[],rfl,c⟩
  | skip a b=>rw[Zeh a] at b;simp at b
 | n+1,ts,h=>by
  cases h with
  | add a b c=>
   obtain⟨T,r,e,t⟩:=ZcZ a;rw[e];exact⟨T,_,rfl,t⟩
  | skip a b=>exact ZcZ a
theorem ZqJ (ps:QL)(x:Int):Yd ps x % 2=1:=by unfold Yd;split<;>decide
theorem ZoA (x:Int):ev2 x % 2=1:=by unfold ev2;split<;>decide
theorem Zkb (ps:QL):∀T:QG,fl (Yd ps) T % 2=0
 | []=>rfl
 | [_]=>rfl
 | x::y::r=>by have h:=Zkb ps r;have a:=ZqJ ps x;have b:=ZoA y;show (Yd ps x+ev2 y+fl (Yd ps) r) % 2=0;omega
theorem sub_len:∀{l l':QG},l.Nodup->(∀x∈l,x∈l')->l.length<=l'.length
 | [],_,_,_=>Kr _
 | a::r,l',nd,h=>by obtain⟨na,nr⟩:=KW.mp nd;have ih:=sub_len (l':=l'.erase a) nr fun x hx=>(Mv (fun z:x=a=>na (by rw[<- z];exact hx))).mpr (h x (kU _ hx));have ha:=h a kS;rw[XS ha] at ih;have:0<l'.length:=N4 ha;rw[Kv];lia
theorem Zml {ls:QB}{T:QG}(hW:Wk ls 0)(tr:Ut (JA (Jk ls)) (Js ls) [T])(h0:ZaN (Yd (Jk ls)) T=0):∃L,One (Jk ls) (Js ls) T L/\T.length=Js ls:=by
 have M:=WH hW;have nd0:(ZM (Jk ls)).Nodup:=(W4 hW).symm.nodup (GX _);cases e:Js ls with
 | zero=>rw[e] at tr;exact absurd (Zeh tr) (by simp)
 | succ n=>
  rw[e] at tr M;obtain⟨T',r,q,t⟩:=ZcZ tr;cases q;have p0:(0:Int)<((n+1:Nat):Int):=by lia
  obtain⟨L,L1,bk,no,rfl⟩:=id t;have nd:=t.nodup M (by decide) p0;have all:∀x:Int,0<=x->x<((n+1:Nat):Int)->x∈Gd (JA (Jk ls)) 0 L:=fun x x0 x1=>by obtain⟨k,rfl⟩:=kI x0;simpa using tr.mem k (by lia)
  refine⟨L,⟨M,nd0,rfl,L1,bk,nd,all,t.dom M (by decide) p0,?_⟩,?_⟩
  ·have:=Zkb (Jk ls) (Gd (JA (Jk ls)) 0 L);unfold ZaN Zh5 at h0;split at h0<;>lia
  ·have a:=t.len M (by decide) p0;have b:n+1<=(Gd (JA (Jk ls)) 0 L).length:=by
    have sub:∀x∈Zaz (n+1),x∈Gd (JA (Jk ls)) 0 L:=fun x hx=>all x (YV.mp hx).1 (YV.mp hx).2;have:=sub_len (GX (n+1)) sub
    rwa [Uy] at this
   lia
def Zqm:Sp:=fun vs H Q _=>∃(tA uA:Addr)(T:QG)(ps:QL)(N L:Nat),vs = [.ref tA,.ref uA]/\H tA=some (.lst (T.map V.int))/\H uA=some (.lst (tab N fun x=>V.bl (decide (x∈ps.map (·.1)))))/\One ps N T L/\T.length=N/\N<=120 /\
 ∀(p:Addr)(H':Hp),H p=none->Zh H H'->H' p=some (.lst (tab N fun x=>V.int (hgt (Yd ps) T x)))->Q (.ref p) H'
abbrev Gn:Stmt:=top 21
theorem YI:Zy ["tour", "uppers", "heights", "height", "thread", "step"] ["tour", "uppers"] (Zj Gn):={}
theorem ZrE {f:Addr}{fd:FuncData}(F:Yx K "heights_along" "heights_along" Gn f fd)(JF:Yq P w K mg base 2 "steps_down" ["tour", "uppers"] Zdz)(Ye:mg "len" = none)(Zay:mg "zip" = none):Yi P w K mg base Wx 3 f fd ["tour", "uppers"] Zqm:=by
 refine F.ok YI (fun vs H Q E h=>?_) (fun cdv A outer s H vs Q E hr h=>?_)
 ·obtain⟨tA,uA,T,ps,N,L,rfl,_⟩:=h;rfl
 ·obtain⟨tA,uA,T,ps,N,L,rfl,hT,hU,o,hTl,n120,k⟩:=h;refine⟨_,(Zd (Zp (i:=2) YI.nd rfl (.inl rfl) (Zl ZbY (Zz (Za Ze Zb)) (Zv (Yb (K:=K) rfl) (by rfl) Ye KO (Za (pv 0) Zb))))
   (Zd (Zp (i:=3) YI.nd rfl (.inl rfl) Ze)
   (Zd (Yw Kg rfl (Zf0 (K:=K) rfl (by rfl) Zay (Za (pv 0) (Za (Zq JF hr (Za (pv 0) (Za (pv 1) Zb))) Zb))) (Z0 (K:=K) (n:=2) rfl rfl (Zm (Zk (i:=4) YI.nd rfl (.inl rfl)) (Zm (Zk (i:=5) YI.nd rfl (.inl rfl)) ZO))) (Zd (YB (pv 3) (YJ (pv 2) (pv 4) set_list))
   (Zg (Zm2 (i:=3) YI.nd rfl (.inl rfl) (pv 5) Zpv))))
   (Zg (Zw (pv 2)))))),?_⟩
  refine⟨sz1,fun l0 hl0=>?_⟩;have s0:Zh H (upd H l0 (.lst [.int 0])):=Zh.laid hl0;refine⟨_,rfl,tA,_,rfl,.inl (Zt.of (s0 _ _ hT)),?_⟩;rw[ke,hTl];refine⟨l0,_,_,rfl,rfl,Zc,by lia,by lia,(by show 1*_<=sizeLine;exact Kz (ZC (by lia))),fun hA hhA=>?_⟩;obtain⟨H1,e1⟩:∃G,G=upd (upd H l0 (.lst [.int 0])) hA (.lst (List.replicate ((N:Nat):Int).toNat [V.int 0]).flatten):=⟨_,rfl⟩;rw[<- e1];have s1:Zh H H1:=by rw[e1];exact s0.step hhA
  have h1:H1 hA=some (.lst (tab N fun _=>V.int 0)):=by rw[e1,Zc,kM,Zbn]
  have fh:H hA=none:=s0.free hhA;refine⟨_,rfl,_,rfl,_,rfl,tA,uA,T,N,ps.map (·.1),L,rfl,s1 _ _ hT,s1 _ _ hU,o.len,by lia,o.dom,fun sA H2 ss fs s2 es _ ess=>?_⟩;have dn:(fun x=>if x∈ps.map (·.1) then(1:Int) else -1)=Yd ps:=rfl;rw[dn] at ess;have sl:ss.length=T.length:=by rw[ess,ke,KP]
  have s02:=s1.trans s2;have h2:=s2 _ _ h1;have nta:tA≠hA:=Zf hT fh;have nsa:sA≠hA:=(Zf h1 fs).symm;refine⟨tA,sA,rfl,⟨_,Zt.of (s02 _ _ hT)⟩,⟨_,Zt.of es⟩,ZoK (K:=K) (a:=tA) (b:=sA) (xs:=T.map V.int) (ys:=ss.map V.int) (by rw[ke,ke,sl]) (fun i σ G=>∃(v4 v5:QI),σ = [some (.ref tA),some (.ref uA),some (.ref hA),some (.int (hAt (Yd ps) T i)),v4,v5]/\Jf hA H2 G /\
   G hA=some (.lst (tab N fun x=>V.int (if plc T x<i then hgt (Yd ps) T x else 0)))) ⟨none,none,rfl,Jf.refl _ _,?_⟩ (fun i σ G ⟨_,_,_,fr,_⟩=>⟨Zt.of (fr _ _ (s02 _ _ hT) nta),Zt.of (fr _ _ es nsa)⟩) ?_ ?_⟩
  ·rw[h2];exact KC (fun z=>some (HO.lst z)) (Jq fun x _ _=>by simp)
  ·rintro i x y p σ G hx hy ⟨v4,v5,rfl,fr,hG⟩ hp;obtain⟨t,ht,rfl⟩:=WJ hx;obtain⟨d,hd,rfl⟩:=WJ hy;have hi:i<T.length:=(kz.mp ht).1;obtain⟨d0,d1⟩:=o.dom t (kZ ht);obtain⟨tn,rfl⟩:=kI d0;have hds:d=stA (Yd ps) T i:=by
    rw[ess] at hd;simp[hi] at hd;exact hd.symm
   refine⟨p,_,rfl,Y9.of Zc,rfl,_,_,rfl,_,_,rfl,rfl,?_⟩;have np:hA≠p:=Zf hG hp;have hG1:(upd G p (.tup [.int (tn:Int),.int d])) hA=some (.lst (tab N fun x=>V.int (if plc T x<i then hgt (Yd ps) T x else 0))):=by rw[Zi np];exact hG
   refine⟨_,rfl,_,rfl,_,rfl,hA,_,_,tn,rfl,rfl,hG1,(by rw[Gx];exact Jg (by lia)),?_⟩;refine⟨_,rfl,_,rfl,_,_,rfl,rfl,?_⟩;refine⟨some (.int (tn:Int)),some (.int d),?_,(fr.new hp).trans Jf.upd,?_⟩
   ·rw[hds];rfl
   ·rw[Zc,Zb0];refine KC (fun z=>some (HO.lst z)) (Jq fun x x0 x1=>?_);have pt:plc T ((tn:Nat):Int)=i:=by
     obtain⟨_,e⟩:=kz.mp ht;rw[<- e];exact Zlk o.nd hi
    by_cases e:x=(tn:Int)
    ·rw[km e,e,pt,km (Nat.lt_succ_self i)];unfold hgt;rw[pt]
    ·rw[ki e];have nx:plc T x≠i:=fun z=>e (by
      have hx:=o.all x x0 x1;have lt:plc T x<T.length:=TZ hx;have gx:T[plc T x]=x:=List.getElem_idxOf lt;obtain⟨_,e2⟩:=kz.mp ht;rw[<- gx,<- e2];simp[z])
     by_cases c:plc T x<i
     ·rw[km c,km (by lia)]
     ·rw[ki c,ki (by lia)]
  ·rintro σ G ⟨v4,v5,rfl,fr,hG⟩;refine⟨_,rfl,k hA G fh ?_ ?_⟩
   ·exact fun c u e=>fr c u (s02 c u e) (Zf e fh)
   ·rw[hG];refine KC (fun z=>some (HO.lst z)) (Jq fun x x0 x1=>?_);rw[km];rw[ke];unfold plc;exact TZ (o.all x x0 x1)
def hsB (sc:Int)(ls:QB)(b:Bool):Prop:=(sc=1->b=true)/\(sc≠1 -> ∃ts,Ut (JA (Jk ls)) (Js ls) ts/\b=decide (ts.map (ZaN (Yd (Jk ls))) = [0]))
def Zqg:Sp:=fun vs H Q _=>∃(l:Addr)(sc:Int)(xs:QH)(ls:QB),vs = [.ref l,.int sc]/\H l=some (.lst xs)/\ZH H xs ls/\ls.length<=60/\Wk ls 0 /\
 ∀(H':Hp)(b:Bool),Zh H H'->hsB sc ls b->Q (.bl b) H'
abbrev ZaD:Stmt:=top 22
theorem Zgx:Zy ["drawing", "scale"] ["drawing", "scale"] (Zj ZaD):={}
theorem ZrX {f:Addr}{fd:FuncData}(F:Yx K "has_scale" "has_scale" ZaD f fd)(Zf4:Yq P w K mg base 6 "turns" ["drawing"] Zgc):Yi P w K mg base Wx 7 f fd ["drawing", "scale"] Zqg:=by
 refine F.ok Zgx (fun vs H Q E h=>?_) (fun cdv A outer s H vs Q E hr h=>?_)
 ·obtain⟨l,sc,xs,ls,rfl,_⟩:=h;rfl
 ·obtain⟨l,sc,xs,ls,rfl,hl,hL,hlen,hW,k⟩:=h;refine⟨_,(Zg (Zw (Zji (Yl Yo (pv 1) Ze (Zs _)) (ZaK (Yl (ZoI (K:=K) rfl hr.units) (Zq Zf4 hr (Za (pv 0) Zb)) (Zz (Za Ze Zb)) (Zs _)))))),?_⟩;refine⟨_,rfl,rfl,_,rfl,?_⟩;refine ZX (fun c=>?_) (fun c=>?_)
  ·have e:sc=1:=V.int.inj (kG c);exact k H true (Zh.refl _) ⟨fun _=>rfl,fun z=>absurd e z⟩
  ·have e:sc≠1:=fun z=>c (kE (KC V.int z));refine⟨_,rfl,l,xs,ls,rfl,hl,hL,hlen,hW,fun p H1 ts fp s1 tr ep=>?_⟩;refine⟨sz1,fun q hq=>?_⟩;refine⟨p,q,ts.map (ZaN (Yd (Jk ls))),[0],rfl,rfl,Zt.of ((Zh.laid hq) _ _ ep),Zt.of Zc,?_⟩;exact k _ _ (s1.step hq) ⟨fun z=>absurd z e,fun _=>⟨ts,tr,rfl⟩⟩
def thV (sc:Int)(ls:QB)(zs:QH):Prop:=(sc=1/\zs=tab (Js ls) fun _=>V.int 0)∨(sc≠1 /\ ∃T L,Ut (JA (Jk ls)) (Js ls) [T]/\ZaN (Yd (Jk ls)) T=0/\One (Jk ls) (Js ls) T L/\zs=tab (Js ls) fun x=>V.int (hgt (Yd (Jk ls)) T x))
def Zq6 (C:Addr):Sp:=fun vs H Q E=>∃(l:Addr)(sc:Int)(xs:QH)(ls:QB),vs = [.ref l,.int sc]/\H l=some (.lst xs)/\ZH H xs ls/\ls.length<=60/\Wk ls 0 /\
 (∀(p:Addr)(H':Hp)(zs:QH),H p=none->Zh H H'->H' p=some (.lst zs)->thV sc ls zs->Q (.ref p) H') /\
 (∀(H':Hp)(ts:QA),Zh H H'->sc≠1->Ut (JA (Jk ls)) (Js ls) ts->ts.map (ZaN (Yd (Jk ls))) ≠ [0]->E (.ref C) none H')
theorem ZpM {dn:QX}{ts:QA}(h:ts.map (ZaN dn) = [0]):∃T,ts = [T]/\ZaN dn T=0:=by
 cases ts with
 | nil=>cases h
 | cons T r=>
  cases r with
  | nil=>exact⟨T,rfl,by simpa using h⟩
  | cons a b=>simp at h
abbrev WM:Stmt:=top 23
theorem Zct:Zy ["drawing", "scale"] ["drawing", "scale"] (Zj WM):={}
theorem Zr7 {f Yu:Addr}{fd:FuncData}(F:Yx K "thread_heights" "thread_heights" WM f fd)(Za4:mg "NoHeights" = some (.ref Yu))(Gb:PySem.W.excIn K Yu bmV "ValueError.__new__" = true)
  (Za1:Yq P w K mg base 7 "has_scale" ["drawing", "scale"] Zqg) (JK:Yq P w K mg base 2 "ends_of" ["drawing"] (Zav fun x=>decide (x = "end"))) (Zbd:Yq P w K mg base 5 "tours" ["drawing"] ZdP) (YG:Yq P w K mg base 4 "uppers_at_ends" ["drawing"] Zb4)
  (Gq:Yq P w K mg base 3 "heights_along" ["tour", "uppers"] Zqm) (Ye:mg "len" = none):Yi P w K mg base (CX1 P w) 8 f fd ["drawing", "scale"] (Zq6 Yu):=by
 refine F.okX Zct (fun vs H Q E h=>?_) (fun cdv A outer s H vs Q E hr h=>?_)
 ·obtain⟨l,sc,xs,ls,rfl,_⟩:=h;rfl
 ·obtain⟨l,sc,xs,ls,rfl,hl,hL,hlen,hW,k,kx⟩:=h;have n120:=WI hlen;have nt:2*(Yg ls UK ls.length).length=Js ls:=by unfold Js Jk Jz;rw[ke]
  refine⟨_,(Zd (ZQ (Gj (Ww (Zq Za1 hr (Za (pv 0) (Za (pv 1) Zb))))) (Zg (ZmH (by rfl) Za4 Gb (Za ZI Zb))) ZG)
   (Zd (ZQ (Zu Yo (pv 1) Ze (Zs _)) (Zg (Zw (Zl ZbY (Zz (Za Ze Zb)) (Zl Wu Ze (Zv (Yb (K:=K) rfl) (by rfl) Ye KO (Za (Zq JK hr (Za (pv 0) Zb)) Zb)))))) ZG)
   (Zg (Zw (Zq Gq hr (Za (Zx (Zn (K:=K) rfl) (Zq Zbd hr (Za (pv 0) Zb)) Ze (fun _ _=>rfl)) (Za (Zq YG hr (Za (pv 0) Zb)) Zb))))))),?_⟩
  refine⟨_,rfl,_,rfl,l,sc,xs,ls,rfl,hl,hL,hlen,hW,fun H1 b s1 hb=>?_⟩;refine⟨b,rfl,?_⟩;cases b with
  | false=>
   refine J6 ?_;refine⟨sz1,?_⟩;have ne:sc≠1:=fun z=>by cases hb.1 z
   obtain⟨ts,tr,e⟩:=hb.2 ne;exact kx H1 ts s1 ne tr (fun z=>by rw[kE z] at e;cases e)
  | true=>
   refine YZ ?_;refine⟨_,rfl,rfl,_,rfl,?_⟩;refine ZX (fun c=>?_) (fun c=>?_)
   ·have e:sc=1:=V.int.inj (kG c);refine⟨sz1,fun l0 hl0=>?_⟩;have s0:=s1.step (o:=.lst [.int 0]) hl0;refine⟨_,rfl,l,xs,ls,rfl,s0 l _ hl,hL.same s0,hlen,hW.kd,fun eA H2 fe s2 ee=>?_⟩;refine⟨eA,_,rfl,.inl (Zt.of ee),_,_,rfl,rfl,.inl ⟨by decide,by decide⟩,?_⟩;have el:((2:Int)*((((Yg ls (fun x=>decide (x = "end")) ls.length).map V.int).length:Nat):Int))=((Js ls:Nat):Int):=by
     rw[ke];have:(Yg ls (fun x=>decide (x = "end")) ls.length).length=(Yg ls UK ls.length).length:=rfl;lia
    show ZoT (V.ref l0) (V.int ((2:Int)*((((Yg ls (fun x=>decide (x = "end")) ls.length).map V.int).length:Nat):Int))) H2 _;rw[el];refine⟨l0,_,_,rfl,rfl,s2 l0 _ Zc,by lia,by lia,(by show 1*_<=sizeLine;exact Kz (ZC (by lia))),fun rA hrA=>?_⟩;refine k rA _ _ ((s0.trans s2).free hrA) ((s0.trans s2).step hrA) Zc (.inl ⟨e,?_⟩);rw[kM,Zbn]
   ·have e:sc≠1:=fun z=>c (kE (KC V.int z));obtain⟨ts0,tr0,e0⟩:=hb.2 e;obtain⟨T,rfl,t0⟩:=ZpM (kG e0.symm);obtain⟨L,o,hTl⟩:=Zml hW tr0 t0;refine⟨_,rfl,l,xs,ls,rfl,s1 l _ hl,hL.same s1,hlen,hW,fun tsA H2 ys ts ft s2 et rv ap tr=>?_⟩;have ets:ts = [T]:=(tr.uniq tr0);subst ets;obtain⟨tA,rfl,eT⟩:∃tA,ys = [V.ref tA]/\H2 tA=some (.lst (T.map V.int)):=by
     cases rv with
     | cons a r=>
      cases r;obtain⟨q,rfl,hq⟩:=a;exact⟨q,rfl,hq⟩
    refine⟨tsA,_,_,_,rfl,rfl,Zt.of et,Zo (j:=0) rfl,?_⟩;have s12:=s1.trans s2;refine⟨_,rfl,l,xs,ls,rfl,s12 l _ hl,hL.same s12,hlen,hW,fun uA H3 fu s3 eu=>?_⟩;refine⟨tA,uA,T,Jk ls,Js ls,L,rfl,s3 _ _ eT,eu,o,hTl,n120,fun p H4 fp s4 ep=>?_⟩;have s04:=(s12.trans s3).trans s4;exact k p H4 _ ((s12.trans s3).free fp) s04 ep (.inr ⟨e,T,L,tr0,t0,o,rfl⟩)
def kn (kvs:QD)(x:Int):Prop:=(JS kvs (Sum.inl x)).isSome=true
structure Dc (g:QX)(H:Hp)(d:Addr)(n:Nat)(kvs:QD):Prop where
 at_:H d=some (.dK kvs)
 le:kvs.length<=n
 ok:∀x v,JS kvs (Sum.inl x)=some v->v = .int (g x)
theorem ZcU {kvs:QD}{x y:Int}{v:V}:kn (putK kvs (Sum.inl y) v) x ↔ (x=y∨kn kvs x):=by
 unfold kn;rw[Zec];by_cases e:x=y
 ·rw[km (KC Sum.inl e)];simp[e]
 ·rw[ki (fun z=>e (Nc z))];simp[e]
theorem Dc.put {g:QX}{H:Hp}{d:Addr}{n:Nat}{kvs:QD}{y:Int}(h:Dc g H d n kvs):Dc g (upd H d (.dK (putK kvs (Sum.inl y) (.int (g y))))) d (n+1) (putK kvs (Sum.inl y) (.int (g y))):=by
 refine⟨Zc,?_,fun x v e=>?_⟩
 ·have:=W6 kvs (Sum.inl y) (.int (g y));have:=h.le;lia
 ·rw[Zec] at e;split at e
  ·rename_i z
   cases e;rw[Nc z]
  ·exact h.ok x v e
theorem Dc.val {g:QX}{H:Hp}{d:Addr}{n:Nat}{kvs:QD}{x:Int}(h:Dc g H d n kvs)(k:kn kvs x):JS kvs (Sum.inl x)=some (.int (g x)):=by
 unfold kn at k;cases e:JS kvs (Sum.inl x) with
 | none=>rw[e] at k;cases k
 | some v=>rw[h.ok x v e]
theorem ZfC {g:QX}{tu tl td:TE}{σ:L2.St}{H:Hp}{d:Addr}{n:Nat}{kvs:QD}{u l:Int}{D:Ends}(hu:∀(H:Hp)(Q:VK),Q (.int u) H->tu σ H Q)(hl:∀(H:Hp)(Q:VK),Q (.int l) H->tl σ H Q)(hd:∀(H:Hp)(Q:VK),Q (.ref d) H->td σ H Q)
  (dc:Dc g H d n kvs) (hn:n<1000000) (hg:g u=g l+1)
  (k:∀(H':Hp)(kvs':QD),Jf d H H'->Dc g H' d (n+1) kvs'->(∀x,kn kvs x->kn kvs' x)->((kn kvs u∨kn kvs l)->kn kvs' u/\kn kvs' l)->D.nx σ H'):
  ZkC (tB (ZlQ tu td)) (Zma (tOp (rI0 fun i j=>V.int (i-j)) (tOp Zn1 td tu) (tC (V.int 1))) (Zpu td tl ZjW))
   (ZkC (tB (ZlQ tl td)) (Zma (tOp (rI0 fun i j=>V.int (i+j)) (tOp Zn1 td tl) (tC (V.int 1))) (Zpu td tu ZjW)) Zo8) D σ H:=by
 have sz:kvs.length<sizeLine:=by have:=dc.le;rw[k9];lia
 refine hu _ _ (hd _ _ ⟨d,_,rfl,Zby.k (k:=Sum.inl u) dc.at_,_,rfl,?_⟩);refine ZX (fun c=>?_) (fun c=>?_)
 ·have ku:kn kvs u:=c;refine hd _ _ (hu _ _ ⟨d,.int (g u),rfl,?_,_,_,rfl,rfl,hd _ _ (hl _ _ ⟨d,_,rfl,ZhK.k (k:=Sum.inl l) dc.at_ sz,?_⟩)⟩)
  ·have:=Zby.k (k:=Sum.inl u) dc.at_;rw[dc.val ku] at this;exact this
  ·have e:g u-1=g l:=by lia
   show D.nx σ (upd H d (.dK (putK kvs (Sum.inl l) (.int (g u-1)))));rw[e];exact k _ _ Jf.upd dc.put (fun x h=>ZcU.mpr (.inr h)) (fun _=>⟨ZcU.mpr (.inr ku),ZcU.mpr (.inl rfl)⟩)
 ·have nu:¬kn kvs u:=c;refine hl _ _ (hd _ _ ⟨d,_,rfl,Zby.k (k:=Sum.inl l) dc.at_,_,rfl,?_⟩);refine ZX (fun c2=>?_) (fun c2=>?_)
  ·have kl:kn kvs l:=c2;refine hd _ _ (hl _ _ ⟨d,.int (g l),rfl,?_,_,_,rfl,rfl,hd _ _ (hu _ _ ⟨d,_,rfl,ZhK.k (k:=Sum.inl u) dc.at_ sz,?_⟩)⟩)
   ·have:=Zby.k (k:=Sum.inl l) dc.at_;rw[dc.val kl] at this;exact this
   ·have e:g l+1=g u:=hg.symm;show D.nx σ (upd H d (.dK (putK kvs (Sum.inl u) (.int (g l+1)))));rw[e];exact k _ _ Jf.upd dc.put (fun x h=>ZcU.mpr (.inr h)) (fun _=>⟨ZcU.mpr (.inl rfl),ZcU.mpr (.inr kl)⟩)
  ·have nl:¬kn kvs l:=c2;exact k H kvs (Jf.refl _ _) ⟨dc.at_,by have:=dc.le;lia,dc.ok⟩ (fun x h=>h) (fun z=>z.elim (fun y=>absurd y nu) (fun y=>absurd y nl))
theorem One.pair {ps:QL}{N:Nat}{T:QG}{L:Nat}(o:One ps N T L)(pf:∀x:Int,0<=x->x<N->x∈ZM ps){x:Int}(h0:0<=x)(h1:x<N):∃u l,(u,l)∈ps/\((x=u/\JA ps x=l)∨(x=l/\JA ps x=u)):=by
 obtain⟨⟨u,l⟩,hp,hx⟩:=KS.mp (pf x h0 h1);obtain⟨a,b⟩:=Zed o.fl0 hp;refine⟨u,l,hp,?_⟩;rcases kO.mp hx with z | z
 ·have z:x=u:=z;exact .inl ⟨z,by rw[z];exact a⟩
 ·have z:x=l:=kT.mp z;exact .inr ⟨z,by rw[z];exact b⟩
theorem One.grow {ps:QL}{N:Nat}{T:QG}{L:Nat}(o:One ps N T L)(pf:∀x:Int,0<=x->x<N->x∈ZM ps){A B C:QD}
  (ab:∀x,kn A x->kn B x) (bc:∀x,kn B x->kn C x) (pe:∀u l,(u,l)∈ps->(kn A u∨kn A l)->kn B u/\kn B l) (pb:∀j:Nat,2*j<N->(kn B (2*j)∨kn B (2*j+1))->kn C (2*j)/\kn C (2*j+1)) {r:Nat}
  (h:∀i x,i<=r->T[i]? = some x->kn A x):∀i x,i<=r+1->T[i]? = some x->kn C x:=by
 intro i x hi hx;by_cases c:i<=r
 ·exact bc _ (ab _ (h i x c hx))
 ·have e:i=r+1:=by omega
  subst e;have hlt:r+1<T.length:=(kz.mp hx).1;have hL:=o.len;by_cases ev:r % 2=0
  ·obtain⟨j,rfl⟩:∃j,r=2*j:=⟨r / 2,by omega⟩;have a0:=o.at0 (j:=j) (by omega);have a1:=o.at1 (j:=j) (by omega);rw[hx] at a1;have ex:x=JA ps (gt (JA ps) 0 j):=Ka a1;have kA:=h (2*j) _ (kj _) a0;obtain⟨u,l,hp,c⟩:=o.pair pf (o.Zn5 j).1 (o.Zn5 j).2;rw[ex];rcases c with⟨z1,z2⟩ | ⟨z1,z2⟩
   ·rw[z2];exact bc _ (pe u l hp (.inl (z1 ▸ kA))).2
   ·rw[z2];exact bc _ (pe u l hp (.inr (z1 ▸ kA))).1
  ·obtain⟨j,rfl⟩:∃j,r=2*j+1:=⟨r / 2,by omega⟩;have a1:=o.at1 (j:=j) (by omega);have a2:=o.at0 (j:=j+1) (by omega);have e2:2*(j+1)=2*j+1+1:=by omega
   rw[e2,hx] at a2;have ex:x=bw (JA ps (gt (JA ps) 0 j)):=Ka a2;have kB:=ab _ (h (2*j+1) _ (kj _) a1);obtain⟨y,hy⟩:∃y,y=JA ps (gt (JA ps) 0 j):=⟨_,rfl⟩;rw[<- hy] at ex kB;have yd:0<=y/\y<(N:Int):=by rw[hy];exact o.dom _ (kZ a1)
   have ne:=o.M.ev;rw[ex];unfold bw;split
   ·rename_i z
    obtain⟨q,hq⟩:∃q:Nat,y=2*(q:Int):=⟨(y / 2).toNat,by omega⟩;rw[hq] at kB yd ⊢;exact(pb q (by omega) (.inl kB)).2
   ·rename_i z
    obtain⟨q,hq⟩:∃q:Nat,y=2*(q:Int)+1:=⟨(y / 2).toNat,by omega⟩;rw[hq] at kB yd ⊢;have:=(pb q (by omega) (.inr kB)).1
    rwa [show 2*(q:Int)+1-1=2*(q:Int) by omega]
def lhV (sc:Int)(ls:QB)(H H':Hp)(v:V):Prop:=(sc=1 /\ ∃p,v = .ref p/\H p=none/\H' p=some (.lst (tab (Js ls) fun _=>V.int 0))) ∨
 (sc≠1 /\ ∃ts,Ut (JA (Jk ls)) (Js ls) ts/\((ts.map (ZaN (Yd (Jk ls))) ≠ [0]/\v = .non)∨(∃p T L,ts = [T]/\ZaN (Yd (Jk ls)) T=0/\One (Jk ls) (Js ls) T L/\v = .ref p/\H p=none/\H' p=some (.lst (tab (Js ls) fun x=>V.int (hgt (Yd (Jk ls)) T x))))))
def Zpt:Sp:=fun vs H Q _=>∃(l:Addr)(sc:Int)(xs:QH)(ls:QB),vs = [.ref l,.int sc]/\H l=some (.lst xs)/\ZH H xs ls/\ls.length<=60/\Wk ls 0 /\
 ∀(v:V)(H':Hp),Zh H H'->lhV sc ls H H' v->Q v H'
theorem Zob {ls:QB}{ts:QA}(hW:Wk ls 0)(tr:Ut (JA (Jk ls)) (Js ls) ts):(ts.map fun T=>(T.length:Int)).sum=(Js ls:Int):=by
 have good:=tr.good (WH hW) (qO _);have e:∀us:QA,(us.map fun T=>(T.length:Int)).sum=(us.flatten.length:Int):=by
  intro us
  induction us with
  | nil=>rfl
  | cons a r ih=>simp only[Kq,Nv,ih,Xg,kh];lia
 rw[e];have a:=Wb (Js ls) ts.flatten good.1 (fun x hx=>good.2.1 x hx);have b:Js ls<=ts.flatten.length:=by
  have:=sub_len (GX (Js ls)) (l':=ts.flatten) (fun x hx=>by obtain⟨x0,x1⟩:=YV.mp hx;obtain⟨k,rfl⟩:=kI x0;exact tr.mem k (by lia))
  rwa [Uy] at this
 lia
theorem WV.at' {z:Addr}{dn:QX}{H:Hp}:∀{ys:QH}{ts:QA}{i:Nat}{x:V},WV z dn H ys ts->ys[i]? = some x -> ∃T,ts[i]? = some T /\ ∃a g,x=V.ref a/\H a=some (.tup [.ref g,.int (Zh5 (fl dn T) / 2)])/\H g=some (.lst (T.map V.int))
 | _,_,_,_,.nil,e=>by simp at e
 | _,_,0,_,.cons ⟨a,g,q,ha,hg,_⟩ _,e=>by simp at e;subst e;exact⟨_,rfl,a,g,q,ha,hg⟩
 | _,_,i+1,x,.cons _ r,e=>by obtain⟨T,h1,h2⟩:=WV.at' (i:=i) (x:=x) r (by simpa using e);exact⟨T,by simpa using h1,h2⟩
abbrev JC:Stmt:=top 43
theorem ZY:Zy ["_law_drawing_here", "_law_scale", "_law_walks_here", "_law_many", "_law_rows_here", "_law_found", "_law_turn", "_law_t", "_law_letter", "_law_upper", "_law_lower", "_law_thread"] ["_law_drawing_here", "_law_scale"] (Zj JC):={}
theorem ZrQ {f:Addr}{fd:FuncData}(F:Yx K "_law_heights" "_law_heights" JC f fd)(Zaf:Yq P w K mg base 2 "_law_walks" ["_law_drawing_here"] Zf1)(YY:Yq P w K mg base 1 "_law_rows" ["_law_drawing_here"] ZaC)
  (ZA:mg "enumerate" = none) (Zfw:mg "sum" = none) (Ye:mg "len" = none) (ZZ:mg "range" = none):Yi P w K mg base Wx 3 f fd ["_law_drawing_here", "_law_scale"] Zpt:=by
 refine F.ok ZY (fun vs H Q E h=>?_) (fun cdv A outer s H vs Q E hr h=>?_)
 ·obtain⟨l,sc,xs,ls,rfl,_⟩:=h;rfl
 ·obtain⟨l,sc,xs,ls,rfl,hl,hL,hlen,hW,k⟩:=h;have n120:=WI hlen;have hxl:=hL.len;refine⟨_,(Zd (Zp (i:=2) ZY.nd rfl (.inl rfl) (Zq Zaf hr (Za (pv 0) Zb)))
   (Zd (Zp (i:=3) ZY.nd rfl (.inl rfl) (Zv (Zfo (K:=K) rfl rfl) (by rfl) Zfw boot_sum (Za (WA (Ls:=["_law_gone", "_law_turn"]) (Fs:=[]) (fi:=[]) (ZV.of (show Yv ["_law_drawing_here", "_law_scale", "_law_walks_here", "_law_many", "_law_rows_here", "_law_found", "_law_turn", "_law_t", "_law_letter", "_law_upper", "_law_lower", "_law_thread"] (Zj JC) _ [] []=true by decide +kernel)) rfl (ZU (K:=K) rfl (pv 2)) (fun cl C s3 H3 ex=>⟨(Z0 (K:=K) (n:=2) rfl rfl (Zm (Zk (i:=0) (show ((["_law_gone", "_law_turn"]:QP)++([]:QP)).Nodup by decide +kernel) rfl (.inl rfl)) (Zm (Zk (i:=1) (show ((["_law_gone", "_law_turn"]:QP)++([]:QP)).Nodup by decide +kernel) rfl (.inl rfl)) ZO))),YE,(Zv (Yb (K:=K) rfl) (by rfl) Ye KO (Za (pv 0) Zb))⟩)) Zb)))
   (Zd (ZQ (Zu Yo (pv 1) Ze (Zs _)) (Zg (Zw (Zl ZbY (Zz (Za Ze Zb)) (pv 3)))) ZG)
   (Zd (ZQ (PW.pt (Zc3 (Zu Zck (Zv (Yb (K:=K) rfl) (by rfl) Ye KO (Za (pv 2) Zb)) Ze (Zs _)) (ZbM (Zu Zck (Zx (Yp (K:=K) rfl) (Zx (Zn (K:=K) rfl) (pv 2) Ze (fun _ _=>rfl)) Ze (fun _ _=>rfl)) Ze (Zs _))))) (Zg (Zw JP)) ZG)
   (Zd (Zp (i:=4) ZY.nd rfl (.inl rfl) (Zq YY hr (Za (pv 0) Zb)))
   (Zd (Zp (i:=5) ZY.nd rfl (Or.inr rfl) (ZnW (ZhO Ze Ze (ZhO Ze Ze ZoM)) rfl rfl (by intro z;cases z) (by decide)))
   (Zd (Yw Kg rfl (YR (by rfl) ZZ (Za (pv 3) Zb)) (Zk (i:=6) ZY.nd rfl (.inl rfl)) (Zd (Yw Kg rfl (JU (K:=K) rfl (by rfl) ZA (Za (pv 0) Zb)) (Z0 (K:=K) (n:=2) rfl rfl (Zm (Zk (i:=7) ZY.nd rfl (.inl rfl)) (Zm (Zk (i:=8) ZY.nd rfl (.inl rfl)) ZO))) (Zg (ZQ (Zu Yo (Zx (Yp (K:=K) rfl) (pv 8) Ze (fun _ _=>rfl)) ZI (Zs _)) (Zd (YB (Z7 (Ym (K:=K) rfl) (Zx (Zn (K:=K) rfl) (pv 4) (pv 7) (fun _ _=>rfl)) (ZW (Zx (Yp (K:=K) rfl) (pv 8) Ze (fun _ _=>rfl))) (ZW (Zl ZD (Zx (Yp (K:=K) rfl) (pv 8) Ze (fun _ _=>rfl)) Ze))) (ZdI (K:=K) (n:=2) rfl rfl (Zm (Zk (i:=9) ZY.nd rfl (.inl rfl)) (Zm (Zk (i:=10) ZY.nd rfl (.inl rfl)) ZO))))
   (Zg (ZQ (Zf3 (ZgW (WW hr) (pv 9) (pv 5))) (Zg (YB (Zl Jd (Zx (Zbm (WW hr)) (pv 5) (pv 9) (fun _ _=>rfl)) Ze) (YJ (pv 5) (pv 10) (set_dict (WW hr))))) (Zg (ZQ (Zf3 (ZgW (WW hr) (pv 10) (pv 5))) (Zg (YB (Zl ZD (Zx (Zbm (WW hr)) (pv 5) (pv 10) (fun _ _=>rfl)) Ze) (YJ (pv 5) (pv 9) (set_dict (WW hr))))) ZG))))) ZG)))
   (Zg (Yw Kg rfl (Zla (by rfl) ZZ (Za Ze (Za (pv 3) (Za Ze Zb)))) (Zk (i:=11) ZY.nd rfl (.inl rfl)) (Zg (ZQ (Zf3 (ZgW (WW hr) (pv 11) (pv 5))) (Zg (YB (Zl Jd (Zx (Zbm (WW hr)) (pv 5) (pv 11) (fun _ _=>rfl)) Ze) (YJ (pv 5) (Zl ZD (pv 11) Ze) (set_dict (WW hr))))) (Zg (ZQ (Zf3 (ZgW (WW hr) (Zl ZD (pv 11) Ze) (pv 5))) (Zg (YB (Zl ZD (Zx (Zbm (WW hr)) (pv 5) (Zl ZD (pv 11) Ze) (fun _ _=>rfl)) Ze) (YJ (pv 5) (pv 11) (set_dict (WW hr))))) ZG))))))))
   (Zg (Zw (WA (Ls:=["_law_thread"]) (Fs:=["_law_found"]) (fi:=[5]) (ZV.of (show Yv ["_law_drawing_here", "_law_scale", "_law_walks_here", "_law_many", "_law_rows_here", "_law_found", "_law_turn", "_law_t", "_law_letter", "_law_upper", "_law_lower", "_law_thread"] (Zj JC) _ ["_law_found"] [5]=true by decide +kernel)) rfl (YR (by rfl) ZZ (Za (pv 3) Zb)) (fun cl C s3 H3 ex=>⟨(Zk (i:=0) (show ((["_law_thread"]:QP)++(["_law_found"]:QP)).Nodup by decide +kernel) rfl (.inl rfl)),YE,(Zx (Zbm (WW hr)) (pv 1) (pv 0) (fun _ _=>rfl))⟩))))))))))),?_⟩
  refine⟨_,rfl,l,xs,ls,rfl,hl,hL,hlen,hW,fun wA H1 ys ts fw s1 ew wv tr=>?_⟩;have good:=tr.good (WH hW) (qO _);have tl:=tr.len (WH hW) (qO _);have yl:=wv.len;refine⟨_,rfl,wA,rfl,⟨_,Zt.of ew⟩,Ja (K:=K) (a:=wA) (xs:=ys) (Kz (ZC (by lia))) (fun i zs G=>Zh H1 G/\zs=((ts.take i).map fun T=>(T.length:Int)).map V.int) ⟨Zh.refl _,rfl⟩
   (fun i zs G q=>by rw[q.2,ke,ke,kL];lia) (fun i zs G q=>Zt.of (q.1 wA _ ew)) (fun i x zs G hx q=>?_) (fun zs G q D hD=>?_)⟩
  ·obtain⟨sq,rfl⟩:=q;obtain⟨T,hT,a,g,rfl,ha,hg⟩:=wv.at' hx;refine⟨a,_,rfl,Y9.of (sq _ _ ha),rfl,_,_,rfl,_,_,rfl,rfl,?_⟩;dsimp only[ZfF];rw[km rfl];refine⟨_,rfl,g,_,rfl,.inl (Zt.of (sq _ _ hg)),sq,?_⟩;rw[ke,Jp (ns:=ts) _ hT,kQ];rfl
  obtain⟨sq,rfl⟩:=q;rw[yl,kJ (kj _)];refine⟨D,_,rfl,Zt.of Zc,?_⟩;rw[Zob hW tr];have s2:=(s1.trans sq).step (o:=.lst ((ts.map fun T=>(T.length:Int)).map V.int)) hD;have s12:=sq.step (o:=.lst ((ts.map fun T=>(T.length:Int)).map V.int)) hD;generalize upd G D (.lst ((ts.map fun T=>(T.length:Int)).map V.int))=H2 at *;have ew2:=s12 _ _ ew;refine⟨_,rfl,rfl,_,rfl,?_⟩;refine ZX (fun c=>?_) (fun c=>?_)
  ·have e:sc=1:=V.int.inj (kG c);refine⟨sz1,fun l0 hl0=>⟨_,rfl,?_⟩⟩;refine⟨l0,_,_,rfl,rfl,Zc,by lia,by lia,(by show 1*_<=sizeLine;exact Kz (ZC (by lia))),fun rA hrA=>?_⟩;refine k _ _ ((s2.step hl0).step hrA) (.inl ⟨e,rA,rfl,(s2.step hl0).free hrA,?_⟩);rw[Zc,kM,Zbn]
  ·have e:sc≠1:=fun z=>c (kE (KC V.int z));refine⟨_,rfl,wA,_,rfl,.inl (Zt.of ew2),rfl,_,rfl,?_⟩;by_cases len1:ts.length=1
   ·obtain⟨T,rfl⟩:∃T,ts = [T]:=by
     cases ts with
     | nil=>simp at len1
     | cons T r=>
      cases r with
      | nil=>exact⟨T,rfl⟩
      | cons _ _=>simp at len1
    have ly:((ys.length:Nat):Int)=1:=by rw[yl];rfl
    rw[ly];refine Zpo rfl ?_;obtain⟨T',hT',a,g,e1,ha,hg⟩:=wv.at' (i:=0) (x:=ys[0]'(by rw[yl];exact Nat.zero_lt_one)) (by simp[yl]);have eT:T'=T:=by simpa using hT'.symm
    subst eT;refine⟨_,rfl,wA,_,_,_,rfl,rfl,Zt.of ew2,Zo (j:=0) (by simp[yl];rfl),?_⟩;rw[e1];refine⟨a,_,_,_,rfl,rfl,Y9.of (s12 _ _ ha),Zo (j:=1) rfl,rfl,_,rfl,?_⟩;by_cases t0:ZaN (Yd (Jk ls)) T'=0
    ·have t0':Zh5 (fl (Yd (Jk ls)) T') / 2=0:=t0;rw[t0'];refine Zpo rfl ?_;obtain⟨L,o,hTl⟩:=Zml hW tr t0;have pf:∀x:Int,0<=x->x<(Js ls:Int)->x∈ZM (Jk ls):=fun x x0 x1=>(W4 hW).mem_iff.mpr (YV.mpr ⟨x0,x1⟩);obtain⟨gg,hgg⟩:∃gg,gg=hgt (Yd (Jk ls)) T':=⟨_,rfl⟩;refine⟨_,rfl,l,xs,ls,rfl,s2 l _ hl,hL.same s2,hlen,hW,fun R H3 rys fR s3 eR rv ap ndr=>?_⟩;have s03:=s2.trans s3;refine fun dA hdA=>⟨Zc,[(Sum.inl 0,.int 1),(Sum.inl 1,.int 0)],rfl,by decide,?_⟩;have hdH:H dA=none:=s03.free hdA;have mk:ZcK [] [((Sum.inl 0:Key),V.int 1),(Sum.inl 1,.int 0)] = [((Sum.inl 0:Key),V.int 1),(Sum.inl 1,.int 0)]:=by decide +kernel
     rw[mk,JM];obtain⟨Hd,hHd⟩:∃Hd,Hd=upd H3 dA (.dK [((Sum.inl 0:Key),V.int 1),(Sum.inl 1,.int 0)]):=⟨_,rfl⟩;rw[<- hHd];have sd:Zh H3 Hd:=by rw[hHd];exact Zh.laid hdA
     have dc0:Dc gg Hd dA 2 [((Sum.inl 0:Key),V.int 1),(Sum.inl 1,.int 0)]:=by
      refine⟨by rw[hHd];exact Zc,by decide,fun x v e=>?_⟩;by_cases x0:x=0
      ·subst x0;rw[Je rfl] at e;cases e;rw[hgg,o.h0]
      ·rw[Jc (fun z=>x0 (Nc z).symm)] at e;by_cases x1:x=1
       ·subst x1;rw[Je rfl] at e;cases e;rw[hgg,o.h1]
       ·rw[Jc (fun z=>x1 (Nc z).symm)] at e;cases e
     have hlH3:=s03 l _ hl;have hL3:=hL.same s03;have nld:l≠dA:=Zf hlH3 hdA;have nRd:R≠dA:=Zf eR hdA;have keepT:∀{G:Hp},Jf dA Hd G -> ∀c o,H3 c=some o->G c=some o:=fun fr c o e=>fr c o (sd c o e) (Zf e hdA);refine⟨_,rfl,_,rfl,by lia,by lia,JL (n:=((Js ls:Nat):Int).toNat) (fun r σ G=>∃(kvs:QD)(v6 v7 v8 v9 v10 v11:QI),σ = [some (.ref l),some (.int sc),some (.ref wA),some (.int (Js ls)),some (.ref R),some (.ref dA),v6,v7,v8,v9,v10,v11]/\Jf dA Hd G/\Dc gg G dA (2+r*200) kvs /\ ∀i x,i<=r->T'[i]? = some x->kn kvs x)
      ⟨_,none,none,none,none,none,none,rfl,Jf.refl _ _,dc0,fun i x hi hx=>?_⟩ ?_ ?_⟩
     ·have:i=0:=by lia
      subst this;have:=o.at0 (j:=0) o.L1;rw[show 2*0=0 from rfl,hx] at this;have e0:x=0:=Ka this;rw[e0];rfl
     ·rintro r σ G hr' ⟨kvs,v6,v7,v8,v9,v10,v11,rfl,fr,dc,kw⟩;rw[kM] at hr';refine⟨_,rfl,l,rfl,⟨_,Zt.of (keepT fr _ _ hlH3)⟩,UZ (K:=K) (a:=l) (xs:=xs) (fun i σ G'=>∃(kv2:QD)(v7 v8 v9 v10 v11:QI),σ = [some (.ref l),some (.int sc),some (.ref wA),some (.int (Js ls)),some (.ref R),some (.ref dA),some (.int (0+(r:Int))),v7,v8,v9,v10,v11]/\Jf dA Hd G'/\Dc gg G' dA (2+r*200+i) kv2/\(∀x,kn kvs x->kn kv2 x) /\ ∀u w,(u,w)∈Jz ls i->(kn kvs u∨kn kvs w)->kn kv2 u/\kn kv2 w)
       ⟨kvs,_,_,_,_,_,rfl,fr,dc,fun _ h=>h,fun u w h=>by unfold Jz Yg at h;simp at h⟩ (fun i σ G' _ ⟨_,_,_,_,_,_,_,fr',_⟩=>Zt.of (keepT fr' _ _ hlH3)) ?_ ?_⟩
      ·rintro i x p σ G1 hx ⟨kv2,v7,v8,v9,v10,v11,rfl,fr1,dc1,mono1,pe1⟩ hp;obtain⟨⟨qx,qk⟩,ta,hq,rfl,hta⟩:=hL3.get hx;have hi:i<ls.length:=(kz.mp hq).1;obtain⟨G0,hG0⟩:∃G0,G0=upd G1 p (.tup [.int i,.ref ta]):=⟨_,rfl⟩;have npd:dA≠p:=Zf dc1.at_ hp;have fr0:Jf dA Hd G0:=by rw[hG0];exact fr1.new hp
       have dc0':Dc gg G0 dA (2+r*200+i) kv2:=⟨by rw[hG0,Zi npd];exact dc1.at_,dc1.le,dc1.ok⟩;have hta':=keepT fr0 _ _ hta;have kk:isK ls UK i=UK qx:=by unfold isK;rw[hq];cases h:UK qx<;>simp[h]
       refine⟨p,_,rfl,Y9.of Zc,rfl,_,_,rfl,_,_,rfl,rfl,?_⟩;rw[<- hG0];refine⟨_,rfl,ta,_,_,_,rfl,rfl,Y9.of hta',Zo (j:=0) rfl,rfl,_,rfl,?_⟩;refine ZX (fun hc=>?_) (fun hc=>?_)
       ·have e:qx = "end" := V.str.inj (kG hc);subst e;obtain⟨k0,k1,pe⟩:=ZhE hW hq (fun z=>nb2 z);obtain⟨kn',rfl⟩:=kI (show 0<=qk from k0);simp only[kM] at k1 pe;obtain⟨ra,hra,hrr⟩:=rv.at (Zbo ls (i:=i) (n:=ls.length+1) (by lia));have ei:isK ls UK i=true:=by rw[kk];unfold UK;simp
        have pin:YM ls i∈Jk ls:=KH.mpr ⟨(i:Int),by unfold Yg;exact K0.mpr ⟨i,Kw.mpr hi,by rw[km ei]⟩,by simp⟩
        have es:Jz ls (i+1)=Jz ls i ++ [YM ls i]:=by rw[GG,km ei]
        obtain⟨u,hu⟩:∃u,u=(rowAt ls i).getD kn' 0:=⟨_,rfl⟩;obtain⟨w',hw⟩:∃w',w'=(rowAt ls i).getD (kn'+1) 0:=⟨_,rfl⟩;rw[<- hu,<- hw] at pe;rw[pe] at pin es;refine⟨_,rfl,_,rfl,R,_,_,_,rfl,rfl,Zt.of (keepT fr0 R _ eR),Zo hra,_,rfl,ta,_,_,_,rfl,rfl,Y9.of hta',Zo (j:=1) rfl,_,rfl,_,rfl,ta,_,_,_,rfl,rfl,Y9.of hta',Zo (j:=1) rfl,_,_,rfl,rfl,_,rfl,ra,_,rfl,Zt.of (keepT fr0 ra _ hrr),fun cA hcA=>?_⟩;rw[Zf7 k1,<- hu,<- hw];refine⟨cA,_,rfl,Zt.of Zc,rfl,_,_,rfl,_,_,rfl,rfl,?_⟩;have ncd:dA≠cA:=Zf dc0'.at_ hcA;have fr2:Jf dA Hd (upd G0 cA (.lst [.int u,.int w'])):=fr0.new hcA;have dc2:Dc gg (upd G0 cA (.lst [.int u,.int w'])) dA (2+r*200+i) kv2:=⟨by rw[Zi ncd];exact dc0'.at_,dc0'.le,dc0'.ok⟩;have ud:0<=u/\u<(Js ls:Int):=YV.mp ((W4 hW).mem_iff.mp (KS.mpr ⟨(u,w'),pin,by simp⟩));show ZkC (tB (ZlQ (ZcJ 9) (ZcJ 5))) _ _ _ _ _;refine ZfC (g:=gg) (u:=u) (l:=w') (d:=dA) (fun H Q q=>⟨_,rfl,q⟩) (fun H Q q=>⟨_,rfl,q⟩) (fun H Q q=>⟨_,rfl,q⟩) dc2 (by lia) (by rw[hgg];exact o.ends pin ud) fun H' kv3 frx dcx mx px=>?_;refine⟨kv3,_,_,_,_,_,rfl,fr2.trans frx,dcx,fun x h=>mx x (mono1 x h),fun u2 w2 h h2=>?_⟩;rw[es] at h;rcases Kk.mp h with h | h
        ·obtain⟨a1,a2⟩:=pe1 u2 w2 h h2;exact⟨mx _ a1,mx _ a2⟩
        ·have:=kT.mp h;cases this;exact px (h2.elim (fun z=>.inl (mono1 _ z)) (fun z=>.inr (mono1 _ z)))
       ·have e:¬qx = "end" := fun z=>hc (kE (KC V.str z));have ei:isK ls UK i=false:=by rw[kk];unfold UK;simp[e]
        have es:Jz ls (i+1)=Jz ls i:=by rw[GG,ei];simp
        refine⟨kv2,_,_,_,_,_,rfl,fr0,⟨dc0'.at_,by have:=dc0'.le;lia,dc0'.ok⟩,mono1,?_⟩;rw[es];exact pe1
      ·rintro σ G1 ⟨kv2,v7,v8,v9,v10,v11,rfl,fr1,dc1,mono1,pe1⟩;have ev2':∃hN:Nat,Js ls=2*hN:=⟨(Jk ls).length,rfl⟩;obtain⟨hN,hN2⟩:=ev2';refine⟨_,rfl,hN,?_,by lia,Zio (lo:=0) (n:=hN) (fun j σ G'=>∃(kv3:QD)(v11:QI),σ = [some (.ref l),some (.int sc),some (.ref wA),some (.int (Js ls)),some (.ref R),some (.ref dA),some (.int (0+(r:Int))),v7,v8,v9,v10,v11]/\Jf dA Hd G'/\Dc gg G' dA (2+r*200+60+j) kv3/\(∀x,kn kv2 x->kn kv3 x) /\ ∀q:Nat,q<j->(kn kv2 (2*q)∨kn kv2 (2*q+1))->kn kv3 (2*q)/\kn kv3 (2*q+1))
        ⟨kv2,_,rfl,fr1,⟨dc1.at_,by have:=dc1.le;lia,dc1.ok⟩,fun _ h=>h,fun q h=>by lia⟩ ?_ ?_⟩
       ·rw[hN2];simp
       ·rintro j σ G2 hj ⟨kv3,v11',rfl,fr2,dc2,mono2,pb2⟩;have ej:(0:Int)+(j:Int)*2=2*(j:Int):=by lia
        rw[ej];show ZkC (tB (ZlQ (ZcJ 11) (ZcJ 5))) _ _ _ _ _;refine ZfC (g:=gg) (u:=2*(j:Int)) (l:=2*(j:Int)+1) (d:=dA) (fun H Q q=>⟨_,rfl,q⟩) (fun H Q q=>⟨_,rfl,_,_,rfl,rfl,q⟩) (fun H Q q=>⟨_,rfl,q⟩) dc2 (by lia) (by rw[hgg];exact o.ZlE (by lia) (by lia) (by lia)) fun H' kv4 frx dcx mx px=>?_;refine⟨kv4,_,rfl,fr2.trans frx,dcx,fun x h=>mx x (mono2 x h),fun q hq h=>?_⟩;by_cases c:q<j
        ·obtain⟨a1,a2⟩:=pb2 q c h;exact⟨mx _ a1,mx _ a2⟩
        ·have:q=j:=by lia
         subst this;exact px (h.elim (fun z=>.inl (mono2 _ z)) (fun z=>.inr (mono2 _ z)))
       ·rintro σ G2 ⟨kv3,v11',rfl,fr2,dc2,mono2,pb2⟩;refine⟨kv3,_,_,_,_,_,_,rfl,fr2,⟨dc2.at_,by have:=dc2.le;lia,dc2.ok⟩,?_⟩;refine o.grow pf mono1 mono2 (fun u w' h h2=>?_) (fun j hj h=>pb2 j (by lia) h) kw;refine pe1 u w' ?_ h2;rw[hxl];exact h
     ·rintro σ G ⟨kvs,v6,v7,v8,v9,v10,v11,rfl,fr,dc,kw⟩;rw[kM] at kw;have all:∀x:Int,0<=x->x<(Js ls:Int)->kn kvs x:=fun x x0 x1=>by
       obtain⟨i,hi,e⟩:=Mk.mp (o.all x x0 x1);exact kw i x (by lia) (by simp[hi,e])
      refine⟨_,rfl,_,rfl,by lia,by lia,Zig (lo:=0) (n:=((Js ls:Nat):Int).toNat) (Kz (ZC (by lia))) (fun i zs G'=>Zh G G'/\zs=(List.range i).map fun(x:Nat)=>V.int (gg (x:Int))) ⟨Zh.refl _,rfl⟩
       (fun i zs G' q=>by rw[q.2];simp) (fun i zs G' hi q=>?_) (fun zs G' q D hD=>?_)⟩
      ·obtain⟨sq',rfl⟩:=q;refine lcG ?_;have kx:=all (i:Int) (by lia) (by lia);have dg:=Zby.k (k:=Sum.inl (0+(i:Int))) (sq' _ _ dc.at_);rw[show (0:Int)+(i:Int)=(i:Int) by lia,dc.val kx] at dg;refine⟨_,rfl,_,rfl,dA,.int (gg (i:Int)),rfl,?_,sq',?_⟩
       ·rw[show (0:Int)+(i:Int)=(i:Int) by lia];exact dg
       ·rw[KR,kQ];rfl
      ·obtain⟨sq',rfl⟩:=q;have sf:Zh H (upd G' D (.lst ((List.range ((Js ls:Nat):Int).toNat).map fun(x:Nat)=>V.int (gg (x:Int))))):=fun c u e=>(sq'.step hD) c u (keepT fr c u (s03 c u e));refine k _ _ sf (.inr ⟨e,_,tr,.inr ⟨D,T',L,rfl,t0,o,rfl,?_,?_⟩⟩)
       ·cases z:H D with
        | none=>rfl
        | some u=>
         have:=(sq' _ _ (keepT fr _ _ (s03 _ _ z)));rw[hD] at this;cases this
       ·rw[Zc,kM,hgg];rfl
    ·have t1:¬Zh5 (fl (Yd (Jk ls)) T') / 2=0:=t0;refine ZX (fun _=>?_) (fun hc=>absurd ?_ hc)
     ·exact k .non H2 s2 (.inr ⟨e,_,tr,.inl ⟨by simpa using t0,rfl⟩⟩)
     ·show (!decide (V.int (Zh5 (fl (Yd (Jk ls)) T') / 2)=V.int 0))=true;rw[Km (fun z=>t1 (V.int.inj z))];rfl
   ·refine ZX (fun _=>?_) (fun hc=>absurd ?_ hc)
    ·refine J6 (k .non H2 s2 (.inr ⟨e,_,tr,.inl ⟨fun z=>len1 ?_,rfl⟩⟩));have:=KC List.length z;simpa using this
    ·show (!decide (V.int (ys.length:Int)=V.int 1))=true;rw[Km (fun z=>len1 (by have:=V.int.inj z;lia))];rfl
theorem gK:ZkY "born" = 2/\ZkY "cross" = 0/\ZkY "end" = -2:=⟨by decide +kernel,by decide +kernel,by decide +kernel⟩
theorem wkS {ls:QB}{n:Int}(h:Wk ls n):Zek ls=n:=by
 induction h with
 | nil=>rfl
 | born _ _ _ ih=>rw[ZcW,ih,gK.1]
 | cross _ _ _ ih=>rw[ZcW,ih,gK.2.1];lia
 | fin _ _ _ ih=>rw[ZcW,ih,gK.2.2];lia
theorem ZnK {A A':QB}{n:Int}(ha:Wk A n)(ha':Wk A' n){X:QB}{m:Int}(h:Wk X m):∀B,X=A++B->Wk (A'++B) m:=by
 have base:∀{X:QB}{m:Int},Wk X m->X=A->Wk (A' ++ []) m:=fun {X m} hx e=>by subst e;have e1:=wkS hx;have e2:=wkS ha;rw[qe];rw[show m=n by lia];exact ha'
 have spl:∀{ls B:QB}{p:Str×Int},ls ++ [p]=A++B->(B = []/\ls ++ [p]=A) ∨ ∃B',B=B' ++ [p]/\ls=A++B':=fun {ls B p} e=>by
  rcases List.eq_nil_or_concat B with z | ⟨B',q,z⟩
  rotate_left
  rw[List.concat_eq_append] at z
  rotate_left
  ·subst z;exact .inl ⟨rfl,by simpa using e⟩
  ·subst z;rw[<- Kt] at e;obtain⟨e1,e2⟩:=List.append_inj' e rfl;have e2:p=q:=by simpa using e2
   subst e2;exact .inr ⟨B',rfl,e1⟩
 induction h with
 | nil=>
  intro B e;obtain⟨e1,e2⟩:=List.append_eq_nil_iff.mp e.symm;subst e2;exact base .nil e1.symm
 | @born ls n' k h h0 h1 ih=>
  intro B e;rcases spl e with⟨z,y⟩ | ⟨B',z,y⟩
  ·subst z;exact base (.born h h0 h1) y
  ·rw[z,<- Kt];exact .born (ih B' y) h0 h1
 | @cross ls n' k h h0 h1 ih=>
  intro B e;rcases spl e with⟨z,y⟩ | ⟨B',z,y⟩
  ·subst z;exact base (.cross h h0 h1) y
  ·rw[z,<- Kt];exact .cross (ih B' y) h0 h1
 | @fin ls n' k h h0 h1 ih=>
  intro B e;rcases spl e with⟨z,y⟩ | ⟨B',z,y⟩
  ·subst z;exact base (.fin h h0 h1) y
  ·rw[z,<- Kt];exact .fin (ih B' y) h0 h1
def crl (b c:Int):QB:=[("born", b),("cross", c),("end", b)]
theorem Zqp {ls:QB}{t:Nat}{b c:Int}(hW:Wk ls 0)(hb0:0<=b)(hb1:b<=Zek (ls.take t))(hc0:0<=c)(hc1:c<=Zek (ls.take t)):Wk (ls.take t++crl b c++ls.drop t) 0:=by
 obtain⟨n,hn⟩:=Gv hW t;have en:=wkS hn;rw[en] at hb1 hc1;have w1:=Wk.born (k:=b) hn hb0 hb1;have w2:=Wk.cross (k:=c) w1 hc0 (by lia);have w3:=Wk.fin (k:=b) w2 hb0 (by lia);have e:ls.take t ++ [(("born" : Str),b)] ++ [(("cross" : Str),c)] ++ [(("end" : Str),b)]=ls.take t++crl b c:=by simp[crl]
 rw[e,show n+2-2=n by lia] at w3;exact ZnK hn w3 hW (ls.drop t) (qz t ls).symm
theorem Zjb:∀ls:QB,(∀p∈ls,Kd p.1)->2*(((ls.map fun p=>V.str p.1).countP fun z=>eqV z (.str "born"):Nat):Int)-2*(((ls.map fun p=>V.str p.1).countP fun z=>eqV z (.str "end"):Nat):Int)=Zek ls
 | [],_=>rfl
 | p::r,h=>by
  have ih:=Zjb r fun q hq=>h q (kU _ hq);have gk:=gK;have e:Zek (p::r)=ZkY p.1+Zek r:=by unfold Zek;simp
  have eqs:∀x y:Str,eqV (V.str x) (V.str y)=decide (x=y):=fun x y=>by unfold eqV;by_cases z:x=y<;>simp[z]
  rw[Kq,XG,XG,e,<- ih,eqs,eqs];rcases h p kS with z | z | z
  ·rw[z,gk.1];simp[show ¬(("born" : Str) = "end") by decide +kernel];lia
  ·rw[z,gk.2.1];simp[show ¬(("cross" : Str) = "end") by decide +kernel,show ¬(("cross" : Str) = "born") by decide +kernel]
  ·rw[z,gk.2.2];simp[show ¬(("end" : Str) = "born") by decide +kernel];lia
theorem Zkp {H:Hp}{xs:QH}{ls:QB}(h:ZH H xs ls):∀t,ZH H (xs.take t) (ls.take t):=by
 induction h with
 | nil=>intro t;rw[MH,MH];exact .nil
 | cons a _ ih=>
  intro t;cases t with
  | zero=>exact .nil
  | succ n=>exact .cons a (ih n)
theorem ZkR {H:Hp}{xs:QH}{ls:QB}(h:ZH H xs ls):∀t,ZH H (xs.drop t) (ls.drop t):=by
 induction h with
 | nil=>intro t;rw[List.drop_nil,List.drop_nil];exact .nil
 | cons a b ih=>
  intro t;cases t with
  | zero=>exact .cons a b
  | succ n=>exact ih n
theorem ZF {H H':Hp}{b:Addr}(s:Zh H H')(x:US H b):US H' b:=let ⟨g,r,h,e⟩:=x;⟨g,r,h,s _ _ e⟩
theorem lay {G:Hp}{c:Addr}{o:HO}(fc:G c=none):∃G',upd G c o=G'/\Zh G G'/\G' c=some o:=⟨_,rfl,Zh.laid fc,Zc⟩
@[elab_as_elim] theorem lay2 {G:Hp}{c:Addr}{o:HO}{R:Hp->Prop} (fc:G c=none) (k:∀G',Zh G G'->G' c=some o->R G'):R (upd G c o):=k _ (Zh.laid fc) Zc
theorem ZiO (xs:QH)(k:Nat):W3 xs (some (k:Int)) none=xs.drop k:=by
 unfold W3;rw[HT.Zd9,HT.Zcb];by_cases h:k<=xs.length
 ·rw[qf h,kJ (by rw[Ks];lia)]
 ·rw[K9 (by lia),TV,List.take_zero,List.drop_of_length_le (by lia)]
def Zgk:Sp:=fun vs H Q _=>∃(b l0:Addr)(m:Int)(ls0:QB),vs = [.ref b,.ref l0,.int m]/\US H b/\Drw H l0 ls0/\l0≠b/\ls0.length<=40/\(nX ls0<=13/\1<=ls0.length)/\0<=m/\m<=3 /\ ∀(l:Addr)(H':Hp)(ls:QB),H l=none->US H' b->Jf b H H'->Drw H' l ls->(nX ls<=13/\1<=ls.length)->Q (.ref l) H'
theorem Zkx (ls:QB):((ls.map fun p=>V.str p.1).countP fun z=>eqV z (.str "cross"))=nX ls:=by unfold nX;rw[List.countP_map];refine List.countP_congr fun p _=>?_;simp[eqV]
abbrev WN:Stmt:=top 47
theorem Yk:Zy ["_law_bag_here", "_law_letters", "_law_most", "_law_found", "_law_turn", "_law_t", "_law_words", "_law_many", "_law_k", "_law_three"] ["_law_bag_here", "_law_letters", "_law_most"] (Zj WN):={}
theorem Zk7 {f:Addr}{fd:FuncData}(F:Yx K "_law_curled" "_law_curled" WN f fd)(Zr:Yq P w K mg base 1 "_law_take" ["_law_bag_here", "_law_many"] Uq)(Z6:mg "list" = none)(ZZ:mg "range" = none)(Ye:mg "len" = none)(Ga:mg "max" = none):
  Yi P w K mg base Wx 2 f fd ["_law_bag_here", "_law_letters", "_law_most"] Zgk:=by
 refine F.ok Yk (fun vs H Q E h=>?_) (fun cdv A outer s H vs Q E hr h=>?_)
 ·obtain⟨b,l0,m,ls0,rfl,_⟩:=h;rfl
 ·obtain⟨b,l0,m,ls0,rfl,hbag,dr,l0b,len0,nx0,m0,m3,k⟩:=h;refine⟨_,(Zd (Zp (i:=3) Yk.nd rfl (.inl rfl) (Yc (J8 (K:=K) rfl) (by rfl) Z6 Xw (Za (pv 1) Zb)))
   (Zd (Yw Kg rfl (YR (by rfl) ZZ (Za (Zq Zr hr (Za (pv 0) (Za (Zl ZD (pv 2) Ze) Zb))) Zb)) (Zk (i:=4) Yk.nd rfl (.inl rfl)) (Zd (Zp (i:=5) Yk.nd rfl (.inl rfl) (Zq Zr hr (Za (pv 0) (Za (Zl ZD (Zv (Yb (K:=K) rfl) (by rfl) Ye KO (Za (pv 3) Zb)) Ze) Zb))))
   (Zd (Zc7 (i:=6) Yk.nd rfl (.inl rfl) (Ls:=["_law_letter"]) (Fs:=[]) (fi:=[]) (ZV.of (show Yv ["_law_bag_here", "_law_letters", "_law_most", "_law_found", "_law_turn", "_law_t", "_law_words", "_law_many", "_law_k", "_law_three"] (Zj WN) _ [] []=true by decide +kernel)) rfl (ZU (K:=K) rfl (pv 3)) (fun cl C s3 H3 ex=>⟨(Zk (i:=0) (show ((["_law_letter"]:QP)++([]:QP)).Nodup by decide +kernel) rfl (.inl rfl)),YE,(Zx (Yp (K:=K) rfl) (pv 0) Ze (fun _ _=>rfl))⟩))
   (Zd (Zp (i:=7) Yk.nd rfl (.inl rfl) (Zl Jd (Zl Wu Ze (Yf (K:=K) rfl (YC kK Xm Xn (Zbq (K:=K) rfl) (Z7 (Ym (K:=K) rfl) (pv 6) Yy (ZW (pv 5))) (Za ZI Zb)))) (Zl Wu Ze (Yf (K:=K) rfl (YC kK Xm Xn (Zbq (K:=K) rfl) (Z7 (Ym (K:=K) rfl) (pv 6) Yy (ZW (pv 5))) (Za ZI Zb))))))
   (Zd (Zp (i:=8) Yk.nd rfl (.inl rfl) (Zq Zr hr (Za (pv 0) (Za (Zv (WE rfl) (by rfl) Ga NK (Za Ze (Za (pv 7) Zb))) Zb))))
   (Zd (Zp (i:=9) Yk.nd rfl (.inl rfl) (Zz (Za (ZN (Za ZI (Za (pv 8) Zb))) (Za (ZN (Za ZI (Za (Zl ZD (pv 8) Ze) Zb))) (Za (ZN (Za ZI (Za (pv 8) Zb))) Zb)))))
   (Zjz (ZQ (Zu Yo (Zq Zr hr (Za (pv 0) (Za Ze Zb))) Ze (Zs _)) (Zg (Zp (i:=9) Yk.nd rfl (.inl rfl) (Zz (Za (ZN (Za ZI (Za (Zl ZD (pv 8) Ze) Zb))) (Za (ZN (Za ZI (Za (pv 8) Zb))) (Za (ZN (Za ZI (Za (Zl ZD (pv 8) Ze) Zb))) Zb)))))) ZG)
   (Zg (ZQ (PW.pt (Ur (Zlq Ws Ws Ze (pv 7) Ze) (Ur (Zu Ws (Yf (K:=K) rfl (YC kK Xm Xn (Zbq (K:=K) rfl) (pv 6) (Za ZI Zb))) Ze (Zs _)) (UT (Zu Ws (Yf (K:=K) rfl (YC kK Xm Xn (Zbq (K:=K) rfl) (pv 6) (Za ZI Zb))) Ze (Zs _)))))) (Zg (Zp (i:=3) Yk.nd rfl (.inl rfl) (Zl Y8 (Zl Y8 (Z7 (Ym (K:=K) rfl) (pv 3) Yy (ZW (pv 5))) (pv 9)) (Z7 (Ym (K:=K) rfl) (pv 3) (ZW (pv 5)) Yy)))) ZG)))))))))
   (Zg (Zw (pv 3))))),?_⟩
  obtain⟨xs0,hl0,hL0,hW0,hlen0⟩:=dr;refine⟨_,rfl,l0,xs0,rfl,.inl (Zt.of hl0),fun l hl=>?_⟩;have s1:=Zh.laid (o:=.lst xs0) hl;have el1:upd H l (.lst xs0) l=some (.lst xs0):=Zc;generalize upd H l (.lst xs0)=H1 at *;have bg1:=ZF s1 hbag;have nb:∀{c:Addr},H c=none->c≠b:=fun {c} h z=>by obtain⟨_,_,_,e⟩:=hbag;rw[z,e] at h;cases h
  refine⟨_,rfl,_,rfl,_,_,rfl,rfl,b,_,rfl,bg1,by lia,by lia,fun d H2 d0 d1 bg2 f2=>?_⟩;refine⟨_,rfl,by lia,by lia,JL (n:=d.toNat) (fun i σ G=>∃(lA:Addr)(xs:QH)(ls:QB)(v4 v5 v6 v7 v8 v9:QI),σ = [some (.ref b),some (.ref l0),some (.int m),some (.ref lA),v4,v5,v6,v7,v8,v9]/\US G b/\Jf b H G/\H lA=none/\G lA=some (.lst xs)/\ZH G xs ls/\Wk ls 0/\ls.length<=40+3*i/\nX ls<=13/\1<=ls.length)
   ⟨l,xs0,ls0,none,none,none,none,none,none,rfl,bg2,s1.frm.trans f2,hl,f2 _ _ el1 (nb hl),(hL0.same s1).frm f2 bg1,hW0,by lia,nx0⟩ ?_ ?_⟩
  ·rintro i σ G hi ⟨lA,xs,ls,v4,v5,v6,v7,v8,v9,rfl,bg,fr,flA,hG,hL,hW,hlen,hnx,ne⟩;have hxl:=hL.len;have i3:i<4:=by lia
   have nlb:=nb flA;refine⟨_,rfl,_,rfl,lA,_,rfl,.inl (Zt.of hG),_,_,rfl,rfl,b,_,rfl,bg,by lia,by lia,fun t' G1 e0 e1 bg1' f1=>?_⟩;obtain⟨t,rfl⟩:=kI e0;have hG1:=f1 _ _ hG nlb;have hL1:=hL.frm f1 bg;have tl:t<=ls.length:=by lia
   refine⟨_,rfl,lA,rfl,⟨_,Zt.of hG1⟩,Ja (K:=K) (a:=lA) (xs:=xs) (Kz (ZC (by lia))) (fun j zs G'=>Zh G1 G'/\zs=(ls.take j).map fun p=>V.str p.1) ⟨Zh.refl _,rfl⟩
    (fun j zs G' q=>by rw[q.2,ke,kL];exact Nat.min_le_left _ _) (fun j zs G' q=>Zt.of (q.1 _ _ hG1)) (fun j x zs G' hx q=>?_) (fun zs G' q wA hwA=>?_)⟩
   ·obtain⟨sq,rfl⟩:=q;obtain⟨p,ta,hp,rfl,hta⟩:=hL1.get hx;refine lcG ⟨_,rfl,ta,_,_,_,rfl,rfl,Y9.of (sq _ _ hta),Zo (j:=0) rfl,sq,?_⟩;rw[Jp (ns:=ls) _ hp]
   obtain⟨sq,rfl⟩:=q;rw[hxl,kJ (kj _)];have s2:Zh G1 (upd G' wA (.lst (ls.map fun p=>V.str p.1))):=sq.step hwA;have ew:(upd G' wA (.lst (ls.map fun p=>V.str p.1))) wA=some (.lst (ls.map fun p=>V.str p.1)):=Zc;generalize upd G' wA (.lst (ls.map fun p=>V.str p.1))=G2 at *;have fs:∀r:QB,(r.map fun p=>V.str p.1).all W8=true:=fun r=>by rw[KA];intro x hx;obtain⟨p,_,rfl⟩:=KH.mp hx;rfl
   have ect:W3 (ls.map fun p=>V.str p.1) none (some (t:Int))=(ls.take t).map fun p=>V.str p.1:=by rw[ZlG (xs:=ls.map fun p=>V.str p.1) (t:=t) (by rw[ke];exact tl),qM]
   refine⟨_,rfl,_,rfl,_,rfl,wA,_,rfl,Zt.of ew,fun c1 hc1=>?_⟩;rw[ect];obtain⟨G3,z,s3,e3⟩:=lay (o:=.lst ((ls.take t).map fun p=>V.str p.1)) hc1;rw[z];clear z;refine⟨.inl ⟨rfl,_,Zt.of e3⟩,c1,_,_,rfl,rfl,Zt.of e3,rfl,fs _,_,_,rfl,rfl,.inl ⟨by decide,by decide⟩,?_⟩;refine⟨_,rfl,_,rfl,_,rfl,wA,_,rfl,Zt.of (s3 _ _ ew),fun c2 hc2=>?_⟩;rw[ect];obtain⟨G4,z,s4,e4⟩:=lay (o:=.lst ((ls.take t).map fun p=>V.str p.1)) hc2;rw[z];clear z;refine⟨.inl ⟨rfl,_,Zt.of e4⟩,c2,_,_,rfl,rfl,Zt.of e4,rfl,fs _,_,_,rfl,rfl,.inl ⟨by decide,by decide⟩,_,_,rfl,rfl,?_⟩;have cs:=Zjb (ls.take t) fun p hp=>hW.kd p (Ms hp);obtain⟨mm,hm⟩:∃mm,mm=Zek (ls.take t):=⟨_,rfl⟩;dsimp only;rw[cs,<- hm];have m120:mm<=1000:=by rw[hm];obtain⟨n,hn⟩:=Gv hW t;have:=Zbt hn;rw[wkS hn];rw[kL] at this;lia
   have s14:Zh G1 G4:=(s2.trans s3).trans s4;have bg4:=ZF s14 bg1';refine⟨_,rfl,_,rfl,_,_,rfl,b,_,rfl,bg4,(by split<;>lia),(by split<;>lia),fun kk G5 k0 k1 bg5 f5=>?_⟩;have hG5:=f5 _ _ (s14 _ _ hG1) nlb;have hL5:ZH G5 xs ls:=(hL1.same s14).frm f5 bg4;have fr5:Jf b H G5:=((fr.trans f1).trans s14.frm).trans f5;have nwb:wA≠b:=fun z=>by obtain⟨_,_,_,e⟩:=ZF sq bg1';rw[z,e] at hwA;cases hwA
   have ew5:=f5 _ _ (s4 _ _ (s3 _ _ ew)) nwb;have three:∀{X X1 X2 X3 X4:Hp}{u1 u2 u3 cA:Addr}{p q:Int},Zh X X1->X1 u1=some (.tup [.str "born", .int p])->Zh X1 X2->X2 u2=some (.tup [.str "cross", .int q])->Zh X2 X3->X3 u3=some (.tup [.str "end", .int p])->Zh X3 X4->X4 cA=some (.lst [.ref u1,.ref u2,.ref u3])->ZH X4 [.ref u1,.ref u2,.ref u3] (crl p q):=fun a1 b1 a2 b2 a3 b3 a4 b4=>
    .cons ⟨_,rfl,a4 _ _ (a3 _ _ (a2 _ _ b1))⟩ (.cons ⟨_,rfl,a4 _ _ (a3 _ _ b2)⟩ (.cons ⟨_,rfl,a4 _ _ b3⟩ .nil))
   refine⟨_,rfl,sz2,fun u1 hu1=>?_⟩;refine lay2 (o:=.tup [.str "born", .int kk]) hu1 fun X1 a1 b1=>?_;refine⟨_,rfl,_,_,rfl,rfl,sz2,fun u2 hu2=>?_⟩;refine lay2 (o:=.tup [.str "cross", .int (kk+1)]) hu2 fun X2 a2 b2=>?_;refine⟨_,rfl,sz2,fun u3 hu3=>?_⟩;refine lay2 (o:=.tup [.str "end", .int kk]) hu3 fun X3 a3 b3=>?_;refine⟨sz3,fun cA hcA=>?_⟩;refine lay2 (o:=.lst [.ref u1,.ref u2,.ref u3]) hcA fun X4 a4 b4=>?_;have L4:=three a1 b1 a2 b2 a3 b3 a4 b4;have s54:=((a1.trans a2).trans a3).trans a4;refine⟨fun σ G=>∃(cA:Addr)(ts:QH)(p q:Int),σ = [some (.ref b),some (.ref l0),some (.int m),some (.ref lA),some (.int (0+(i:Int))),some (.int (t:Nat)),some (.ref wA),some (.int mm),some (.int kk),some (.ref cA)]/\US G b/\Jf b H G/\G lA=some (.lst xs)/\ZH G xs ls/\G wA=some (.lst (ls.map fun p=>V.str p.1))/\G cA=some (.lst ts)/\ZH G ts (crl p q)/\0<=p/\p<=kk+1/\0<=q/\q<=kk+1,?_,?_⟩
   ·refine⟨_,rfl,b,2,rfl,ZF s54 bg5,by decide,by decide,fun sd Y sd0 sd1 bgY fY=>⟨rfl,_,rfl,?_⟩⟩;have ncb:cA≠b:=fun z=>by
     obtain⟨_,_,_,e⟩:=ZF ((a1.trans a2).trans a3) bg5;rw[z,e] at hcA;cases hcA
    have frY:Jf b H Y:=(fr5.trans s54.frm).trans fY;have hLY:ZH Y xs ls:=(hL5.same s54).frm fY (ZF s54 bg5);have hGY:=fY _ _ (s54 _ _ hG5) nlb;have ewY:=fY _ _ (s54 _ _ ew5) nwb;refine ZX (fun _=>?_) (fun _=>?_)
    ·refine⟨_,rfl,_,_,rfl,rfl,sz2,fun w1 hw1=>?_⟩;refine lay2 (o:=.tup [.str "born", .int (kk+1)]) hw1 fun Y1 c1' d1'=>?_;refine⟨_,rfl,sz2,fun w2 hw2=>?_⟩;refine lay2 (o:=.tup [.str "cross", .int kk]) hw2 fun Y2 c2' d2'=>?_;refine⟨_,rfl,_,_,rfl,rfl,sz2,fun w3 hw3=>?_⟩;refine lay2 (o:=.tup [.str "end", .int (kk+1)]) hw3 fun Y3 c3' d3'=>?_;refine⟨sz3,fun cB hcB=>?_⟩;refine lay2 (o:=.lst [.ref w1,.ref w2,.ref w3]) hcB fun Y4 c4' d4'=>?_;have sY:=((c1'.trans c2').trans c3').trans c4';exact⟨cB,_,_,_,rfl,ZF sY bgY,frY.trans sY.frm,sY _ _ hGY,hLY.same sY,sY _ _ ewY,d4',three c1' d1' c2' d2' c3' d3' c4' d4',by lia,by lia,by lia,by lia⟩
    ·exact⟨cA,_,_,_,rfl,bgY,frY,hGY,hLY,ewY,fY _ _ b4 ncb,L4.frm fY (ZF s54 bg5),by lia,by lia,by lia,by lia⟩
   ·rintro σ Y ⟨cA,ts,p,q,rfl,bgY,frY,hGY,hLY,ewY,ecY,lcY,p0,p1,q0,q1⟩;refine⟨_,rfl,_,_,rfl,rfl,_,rfl,ZX (fun h1=>?_) (fun h1=>?_)⟩
    rotate_left
    ·refine⟨_,rfl,YZ (YZ ?_)⟩;exact⟨lA,xs,ls,_,_,_,_,_,_,rfl,bgY,frY,flA,hGY,hLY,hW,by lia,hnx,ne⟩
    have m1:0<mm:=kG h1;refine⟨_,_,rfl,rfl,_,rfl,ZX (fun h2=>?_) (fun h2=>?_)⟩
    rotate_left
    ·refine YZ ?_;exact⟨lA,xs,ls,_,_,_,_,_,_,rfl,bgY,frY,flA,hGY,hLY,hW,by lia,hnx,ne⟩
    refine⟨_,rfl,.inl ⟨rfl,_,Zt.of ewY⟩,wA,_,_,rfl,rfl,Zt.of ewY,rfl,fs _,_,_,rfl,rfl,_,rfl,ZX (fun h3=>?_) (fun h3=>?_)⟩
    rotate_left
    ·refine YZ ?_;exact⟨lA,xs,ls,_,_,_,_,_,_,rfl,bgY,frY,flA,hGY,hLY,hW,by lia,hnx,ne⟩
    refine⟨_,rfl,.inl ⟨rfl,_,Zt.of ewY⟩,wA,_,_,rfl,rfl,Zt.of ewY,rfl,fs _,_,_,rfl,rfl,_,rfl,ZX (fun h4=>?_) (fun h4=>?_)⟩
    rotate_left
    ·exact⟨lA,xs,ls,_,_,_,_,_,_,rfl,bgY,frY,flA,hGY,hLY,hW,by lia,hnx,ne⟩
    have h4:(((ls.map fun p=>V.str p.1).countP fun z=>eqV z (.str "cross"):Nat):Int)<12:=kG h4;rw[Zkx] at h4;have k1':kk<mm:=by revert k1;split<;>lia
    refine⟨_,rfl,_,rfl,_,rfl,lA,_,rfl,Zt.of hGY,fun f1 hf1=>?_⟩;rw[ZlG (xs:=xs) (t:=t) (by lia)];refine lay2 (o:=.lst (xs.take t)) hf1 fun Z1 g1 j1=>?_;have lct:=lcY.len;refine⟨_,rfl,f1,cA,_,_,rfl,rfl,j1,g1 _ _ ecY,(by rw[kL,lct,k9];show min t xs.length+3<=_;lia),fun f2 hf2=>?_⟩;obtain⟨Z2,z,g2,j2⟩:=lay (o:=.lst (xs.take t++ts)) hf2;rw[z];clear z;have g12:=g1.trans g2;refine⟨_,rfl,_,rfl,_,rfl,lA,_,rfl,Zt.of (g12 _ _ hGY),fun f3 hf3=>?_⟩;rw[ZiO];refine lay2 (o:=.lst (xs.drop t)) hf3 fun Z3 g3 j3=>?_;refine⟨f2,f3,_,_,rfl,rfl,g3 _ _ j2,j3,(by rw[kh,kL,Ks,lct,k9];show min t xs.length+3+(xs.length-t)<=_;lia),fun f4 hf4=>?_⟩;obtain⟨Z4,z,g4,j4⟩:=lay (o:=.lst (xs.take t++ts++xs.drop t)) hf4;rw[z];clear z;have g14:=(g12.trans g3).trans g4;have bgZ:=ZF g14 bgY;refine⟨f4,_,ls.take t++crl p q++ls.drop t,_,_,_,_,_,_,rfl,bgZ,frY.trans g14.frm,?_,j4,?_,Zqp hW p0 (by rw[<- hm];lia) q0 (by rw[<- hm];lia),?_,?_,by rw[kh,kh];exact Kb (show 1<=(crl p q).length by show 1<=3;decide) (Kb (qA _ _) (qw _ _))⟩
    ·exact frY.free bgY ((g12.trans g3).free hf4)
    ·exact(((Zkp hLY t).append lcY).append (ZkR hLY t)).same g14
    ·rw[kh,kh,kL,Ks];show min t ls.length+3+_<=_;lia
    ·have e:nX (ls.take t)+nX (ls.drop t)=nX ls:=by rw[<- Gg,qz]
     have ec:nX (crl p q)=1:=rfl;rw[Gg,Gg,ec];lia
  ·rintro σ G ⟨lA,xs,ls,v4,v5,v6,v7,v8,v9,rfl,bg,fr,flA,hG,hL,hW,hlen,hnx,ne⟩;exact⟨_,rfl,k lA G ls flA bg fr ⟨xs,hG,hL,hW,by lia⟩ ⟨hnx,ne⟩⟩
theorem ZoU {ls:QB}(hW:Wk ls 0):∀d i,i+d<=ls.length->(rb (ls.take i)).2<=(rb (ls.take (i+d))).2
 | 0,i,_=>qO _
 | d+1,i,h=>by
  refine Lc (ZoU hW d i (by lia)) ?_;have hq:ls[i+d]? = some ls[i+d]:=by simp[show i+d<ls.length by lia]
  obtain⟨tk,c⟩:=Zfq hW hq;show _<=(rb (ls.take (i+d+1))).2;rw[tk,YK];generalize hp:ls[i+d]=p at c;obtain⟨px,pk⟩:=p;rcases c with⟨e,_⟩ | ⟨e,_⟩ | ⟨e,_⟩
  ·have e:px = "born" := e;subst e;rw[W7];show _<=(rb (ls.take (i+d))).2+2;lia
  ·have e:px = "cross" := e;subst e;rw[Wd];exact qO _
  ·have e:px = "end" := e;subst e;rw[Ub];exact qO _
theorem Zka {ls:QB}(hW:Wk ls 0){t:Nat}(ht:t<=ls.length){x:Int}(hx:x∈rowAt ls t):0<=x/\x<(Js ls:Int):=by
 obtain⟨h0,h1,h2⟩:=ZcA hW t ht;have a:=YV.mp (h2.mem_iff.mp (Xe _ hx));obtain⟨g0,g1,g2⟩:=ZcA hW ls.length (kj _);have e:rowAt ls ls.length = []:=by unfold rowAt;rw[kJ (kj _)];have:=Za5 hW;exact qq.mp (by lia)
 rw[e,Xq] at g2;have hl:=g2.length_eq;rw[Uy,UB] at hl;have le:=ZoU hW (ls.length-t) t (by lia);rw[show t+(ls.length-t)=ls.length by lia] at le;have hn:Js ls=(rb (ls.take ls.length)).2.toNat:=hl;rw[hn];lia
theorem Zim {ls:QB}(hW:Wk ls 0){t:Nat}{q:Str×Int}(hq:ls[t]? = some q)(hb:q.1 ≠ "born"):(0<=(YM ls t).1/\(YM ls t).1<(Js ls:Int))/\(0<=(YM ls t).2/\(YM ls t).2<(Js ls:Int)):=by
 obtain⟨k0,k1,pe⟩:=ZhE hW hq hb;have ht:t<ls.length:=(kz.mp hq).1;rw[pe];refine⟨Zka hW (Kz ht) ?_,Zka hW (Kz ht) ?_⟩
 ·show (rowAt ls t).getD q.2.toNat 0∈_;rw[show (rowAt ls t).getD q.2.toNat 0=(rowAt ls t)[q.2.toNat]'(by lia) by simp[show q.2.toNat<(rowAt ls t).length by lia]];exact Tr _
 ·show (rowAt ls t).getD (q.2.toNat+1) 0∈_;rw[show (rowAt ls t).getD (q.2.toNat+1) 0=(rowAt ls t)[q.2.toNat+1]'k1 by simp[k1]];exact Tr _
theorem Gw {ls:QB}{i:Nat}{q:Str×Int}(hq:ls[i]? = some q){pr:Str->Bool}:isK ls pr i=pr q.1:=by unfold isK;rw[hq];cases h:pr q.1<;>simp[h]
abbrev UR:Str->Bool:=fun x=>!decide (x = "born")
def HG (sc:Int)(ls:QB)(g:QX):Prop:=(sc=1/\g=fun _=>0)∨(sc≠1 /\ ∃T L,Ut (JA (Jk ls)) (Js ls) [T]/\ZaN (Yd (Jk ls)) T=0/\One (Jk ls) (Js ls) T L/\g=hgt (Yd (Jk ls)) T)
theorem thV.hg {sc:Int}{ls:QB}{zs:QH}(h:thV sc ls zs):∃g,HG sc ls g/\zs=(tab (Js ls) g).map V.int:=by
 rcases h with⟨a,e⟩ | ⟨a,T,L,b,c,d,e⟩
 ·exact⟨fun _=>0,.inl ⟨a,rfl⟩,by rw[e,Zcl]⟩
 ·exact⟨hgt (Yd (Jk ls)) T,.inr ⟨a,T,L,b,c,d,rfl⟩,by rw[e,Zcl]⟩
theorem HG.uniq {sc:Int}{ls:QB}{g g':QX}(a:HG sc ls g)(b:HG sc ls g'):g=g':=by
 rcases a with⟨e,rfl⟩ | ⟨ne,T,L,tr,_,_,rfl⟩
 ·rcases b with⟨_,rfl⟩ | ⟨ne,_⟩
  ·rfl
  ·exact absurd e ne
 ·rcases b with⟨e,_⟩ | ⟨_,T',L',tr',_,_,rfl⟩
  ·exact absurd e ne
  ·have:=tr.uniq tr';cases this;rfl
def dfs (g:QX)(ls:QB)(ns:QG):QG:=ns.map fun t=>g (YM ls t.toNat).1-g (YM ls t.toNat).2
def Zqw (C:Addr):Sp:=fun vs H Q E=>∃(l:Addr)(sc:Int)(xs:QH)(ls:QB),vs = [.ref l,.int sc]/\H l=some (.lst xs)/\ZH H xs ls/\ls.length<=60/\Wk ls 0 /\
 (∀(p:Addr)(H':Hp)(g:QX),H p=none->Zh H H'->HG sc ls g->H' p=some (.lst ((dfs g ls (Yg ls UR ls.length)).map V.int))->Q (.ref p) H') /\
 (∀(H':Hp)(ts:QA),Zh H H'->sc≠1->Ut (JA (Jk ls)) (Js ls) ts->ts.map (ZaN (Yd (Jk ls))) ≠ [0]->E (.ref C) none H')
abbrev Wq:Stmt:=top 24
theorem Zaw:Zy ["drawing", "scale", "heights"] ["drawing", "scale"] (Zj Wq):={}
theorem ZrR {f Yu:Addr}{fd:FuncData}(F:Yx K "name_heights" "name_heights" Wq f fd)(WK:Zkt P w K mg base 8 "thread_heights" ["drawing", "scale"] (Zq6 Yu))(Jr:Yq P w K mg base 2 "pairs_ahead" ["drawing", "numbers"] ZdO)
  (WD:Yq P w K mg base 1 "names_of" ["drawing"] (Zav UR)):Yi P w K mg base (CX1 P w) 9 f fd ["drawing", "scale"] (Zqw Yu):=by
 refine F.okX Zaw (fun vs H Q E h=>?_) (fun cdv A outer s H vs Q E hr h=>?_)
 ·obtain⟨l,sc,xs,ls,rfl,_⟩:=h;rfl
 ·obtain⟨l,sc,xs,ls,rfl,hl,hL,hlen,hW,k,kx⟩:=h;have n120:=WI hlen;refine⟨_,(Zd (Zp (i:=2) Zaw.nd rfl (Or.inr rfl) (ZjK WK (hr.mono (by decide)) ZrU (Za (pv 0) (Za (pv 1) Zb))))
   (Zg (Zw (WA (Ls:=["upper", "lower"]) (Fs:=["heights"]) (fi:=[2]) (ZV.of (show Yv ["drawing", "scale", "heights"] (Zj Wq) _ ["heights"] [2]=true by decide +kernel)) rfl (ZU (K:=K) rfl (Zq Jr hr (Za (pv 0) (Za (Zq WD hr (Za (pv 0) Zb)) Zb)))) (fun cl C s3 H3 ex=>⟨(Z0 (K:=K) (n:=2) rfl rfl (Zm (Zk (i:=0) (show ((["upper", "lower"]:QP)++(["heights"]:QP)).Nodup by decide +kernel) rfl (.inl rfl)) (Zm (Zk (i:=1) (show ((["upper", "lower"]:QP)++(["heights"]:QP)).Nodup by decide +kernel) rfl (.inl rfl)) ZO))),YE,(Zl Jd (Zx (Zn (K:=K) rfl) (pv 2) (pv 0) (fun _ _=>rfl)) (Zx (Zn (K:=K) rfl) (pv 2) (pv 1) (fun _ _=>rfl)))⟩))))),?_⟩
  refine⟨_,rfl,_,rfl,l,sc,xs,ls,rfl,hl,hL,hlen,hW,fun p H1 zs fp s1 ep tv=>?_,kx⟩;obtain⟨g,hg,rfl⟩:=tv.hg;refine⟨_,rfl,_,rfl,l,xs,ls,rfl,s1 l _ hl,hL.same s1,hlen,hW.kd,fun nA H2 fn s2 en=>?_⟩;have s12:=s1.trans s2;have mem:∀t∈Yg ls UR ls.length,0<=t /\ ∃q,ls[t.toNat]? = some q/\q.1 ≠ "born" := fun t ht=>by obtain⟨a,_,q,hq,z⟩:=ZhB ht;exact⟨a,q,hq,by simpa using z⟩
  refine⟨l,nA,xs,ls,Yg ls UR ls.length,rfl,s12 l _ hl,hL.same s12,hlen,hW,en,Kb (JV _ _ _) hlen,mem,fun pA H3 ys fp' s3 ep' pv=>?_⟩;have yl:=pv.len;have s13:=s12.trans s3;have ll:=JV ls UR ls.length;rw[ke] at yl;have ep3:=s3 _ _ (s2 _ _ ep);refine⟨pA,rfl,⟨_,Zt.of ep'⟩,Ja (K:=K) (a:=pA) (xs:=ys) (Kz (ZC (by lia))) (fun i zs G=>Zh H3 G/\zs=(dfs g ls ((Yg ls UR ls.length).take i)).map V.int) ⟨Zh.refl _,rfl⟩
   (fun i zs G q=>by rw[q.2,ke];unfold dfs;rw[ke,kL];lia) (fun i zs G q=>Zt.of (q.1 pA _ ep')) (fun i x zs G hx q=>?_) (fun zs G q D hD=>?_)⟩
  ·obtain⟨sG,rfl⟩:=q;obtain⟨⟨u,lw⟩,t,hp,rfl,ht⟩:=pv.get hx;rw[kF] at hp;obtain⟨tt,ht1,ht2⟩:=Ke.mp hp;obtain⟨t0,q,hq,hb⟩:=mem tt (kZ ht1);have dm:=Zim hW hq hb;rw[ht2] at dm;refine⟨t,_,rfl,Y9.of (sG _ _ ht),rfl,_,_,rfl,_,_,rfl,rfl,?_⟩;refine lcT ?_;refine⟨_,rfl,_,rfl,p,_,_,_,rfl,rfl,Zt.of (sG _ _ ep3),Zbe g dm.1.1 dm.1.2,_,rfl,_,rfl,p,_,_,_,rfl,rfl,Zt.of (sG _ _ ep3),Zbe g dm.2.1 dm.2.2,_,_,rfl,rfl,sG,?_⟩;unfold dfs;rw[Jp (ns:=Yg ls UR ls.length) _ ht1,kQ,ht2];rfl
  obtain⟨sG,rfl⟩:=q;rw[yl,kJ (kj _)];exact k D _ g ((s13.trans sG).free hD) ((s13.trans sG).step hD) hg Zc
def lnV (sc:Int)(ls:QB)(H H':Hp)(v:V):Prop:=(∃p g,HG sc ls g/\v = .ref p/\H p=none/\H' p=some (.lst ((dfs g ls (Yg ls UR ls.length)).map V.int)))∨(v = .non/\sc≠1 /\ ∃ts,Ut (JA (Jk ls)) (Js ls) ts/\ts.map (ZaN (Yd (Jk ls))) ≠ [0])
def Zje:Sp:=fun vs H Q _=>∃(l:Addr)(sc:Int)(xs:QH)(ls:QB),vs = [.ref l,.int sc]/\(sc=0∨sc=1)/\H l=some (.lst xs)/\ZH H xs ls/\ls.length<=60/\Wk ls 0 /\
 ∀(v:V)(H':Hp),Zh H H'->lnV sc ls H H' v->Q v H'
theorem Zmk {sc:Int}{ls:QB}{H H':Hp}{v:V}(h:lhV sc ls H H' v):(∃p g,HG sc ls g/\v = .ref p/\H p=none/\H' p=some (.lst ((tab (Js ls) g).map V.int)))∨(v = .non/\sc≠1 /\ ∃ts,Ut (JA (Jk ls)) (Js ls) ts/\ts.map (ZaN (Yd (Jk ls))) ≠ [0]):=by
 rcases h with⟨e,p,rfl,fp,ep⟩ | ⟨ne,ts,tr,⟨z,rfl⟩ | ⟨p,T,L,rfl,t0,o,rfl,fp,ep⟩⟩
 ·exact .inl ⟨p,fun _=>0,.inl ⟨e,rfl⟩,rfl,fp,by rw[ep,Zcl]⟩
 ·exact .inr ⟨rfl,ne,ts,tr,z⟩
 ·exact .inl ⟨p,hgt (Yd (Jk ls)) T,.inr ⟨ne,T,L,tr,t0,o,rfl⟩,rfl,fp,by rw[ep,Zcl]⟩
theorem HG.atEnd {sc:Int}{ls:QB}{g:QX}(h:HG sc ls g)(hsc:sc=0∨sc=1)(hW:Wk ls 0){i:Nat}{q:Str×Int}(hq:ls[i]? = some q)(he:q.1 = "end"):g (YM ls i).1-g (YM ls i).2=1-sc:=by
 rcases h with⟨e,rfl⟩ | ⟨ne,T,L,_,_,o,rfl⟩
 ·rw[e];rfl
 ·have s0:sc=0:=hsc.elim id fun z=>absurd z ne;have hi:i<ls.length:=(kz.mp hq).1;have mem:YM ls i∈Jk ls:=by
   unfold Jk Jz;refine KH.mpr ⟨(i:Int),?_,by simp⟩;unfold Yg;refine K0.mpr ⟨i,Kw.mpr hi,?_⟩;rw[Gw hq,km];rw[he];unfold UK;simp
  have dm:=Zim hW hq (fun z=>by rw[z] at he;exact absurd he (by decide +kernel));have:=o.ends (u:=(YM ls i).1) (l:=(YM ls i).2) mem dm.1;rw[s0,this];lia
theorem Zhq {g:QX}{ls:QB}{i:Nat}{q:Str×Int}(hq:ls[i]? = some q)(hb:q.1 ≠ "born"):(dfs g ls (Yg ls UR i)).map V.int ++ [V.int (g (YM ls i).1-g (YM ls i).2)]=(dfs g ls (Yg ls UR (i+1))).map V.int:=by have kk:=Gw hq (pr:=UR);rw[WG,kk,km (by simpa using hb)];unfold dfs;simp
theorem Zmo {g:QX}{ls:QB}{i:Nat}{q:Str×Int}(hq:ls[i]? = some q)(hb:q.1 = "born"):dfs g ls (Yg ls UR i)=dfs g ls (Yg ls UR (i+1)):=by have kk:=Gw hq (pr:=UR);rw[WG,kk,ki (by simp[hb]),qe]
abbrev JR:Stmt:=top 44
theorem ZT:Zy ["_law_drawing_here", "_law_scale", "_law_known", "_law_rows_here", "_law_found", "_law_t", "_law_letter", "_law_one", "_law_other"] ["_law_drawing_here", "_law_scale"] (Zj JR):={}
theorem Zqc {f:Addr}{fd:FuncData}(F:Yx K "_law_name_heights" "_law_name_heights" JR f fd)(GI:Yq P w K mg base 3 "_law_heights" ["_law_drawing_here", "_law_scale"] Zpt)(YY:Yq P w K mg base 1 "_law_rows" ["_law_drawing_here"] ZaC)
  (ZA:mg "enumerate" = none):Yi P w K mg base Wx 4 f fd ["_law_drawing_here", "_law_scale"] Zje:=by
 refine F.ok ZT (fun vs H Q E h=>?_) (fun cdv A outer s H vs Q E hr h=>?_)
 ·obtain⟨l,sc,xs,ls,rfl,_⟩:=h;rfl
 ·obtain⟨l,sc,xs,ls,rfl,hsc,hl,hL,hlen,hW,k⟩:=h;have n120:=WI hlen;have hxl:=hL.len;refine⟨_,(Zd (Zp (i:=2) ZT.nd rfl (.inl rfl) (Zq GI hr (Za (pv 0) (Za (pv 1) Zb))))
   (Zd (ZQ (Zu Zmh (pv 2) JP (Zs _)) (Zg (Zw JP)) ZG)
   (Zd (Zp (i:=3) ZT.nd rfl (.inl rfl) (Zq YY hr (Za (pv 0) Zb)))
   (Zd (Zp (i:=4) ZT.nd rfl (.inl rfl) (Zz Zb))
   (Zd (Yw Kg rfl (JU (K:=K) rfl (by rfl) ZA (Za (pv 0) Zb)) (Z0 (K:=K) (n:=2) rfl rfl (Zm (Zk (i:=5) ZT.nd rfl (.inl rfl)) (Zm (Zk (i:=6) ZT.nd rfl (.inl rfl)) ZO))) (Zg (ZQ (Zu Yo (Zx (Yp (K:=K) rfl) (pv 6) Ze (fun _ _=>rfl)) ZI (Zs _)) (Zd (YB (Z7 (Ym (K:=K) rfl) (Zx (Zn (K:=K) rfl) (pv 3) (pv 5) (fun _ _=>rfl)) (ZW (Zx (Yp (K:=K) rfl) (pv 6) Ze (fun _ _=>rfl))) (ZW (Zl ZD (Zx (Yp (K:=K) rfl) (pv 6) Ze (fun _ _=>rfl)) Ze))) (ZdI (K:=K) (n:=2) rfl rfl (Zm (Zk (i:=7) ZT.nd rfl (.inl rfl)) (Zm (Zk (i:=8) ZT.nd rfl (.inl rfl)) ZO))))
   (Zg (Z8 (Yf (K:=K) rfl (YC kK kW kX ZP (pv 4) (Za (Zl Jd (Zx (Zn (K:=K) rfl) (pv 2) (pv 7) (fun _ _=>rfl)) (Zx (Zn (K:=K) rfl) (pv 2) (pv 8) (fun _ _=>rfl))) Zb)))))) (Zg (ZQ (Zu Yo (Zx (Yp (K:=K) rfl) (pv 6) Ze (fun _ _=>rfl)) ZI (Zs _)) (Zg (Z8 (Yf (K:=K) rfl (YC kK kW kX ZP (pv 4) (Za (Zl Jd Ze (pv 1)) Zb))))) ZG)))))
   (Zg (Zw (pv 4)))))))),?_⟩
  refine⟨_,rfl,_,rfl,l,sc,xs,ls,rfl,hl,hL,hlen,hW,fun v H1 s1 lv=>?_⟩;rcases Zmk lv with⟨p,g,hg,rfl,fp,ep⟩ | ⟨rfl,ne,hts⟩
  rotate_left
  ·refine⟨_,rfl,rfl,_,rfl,J6 ?_⟩;exact k _ H1 s1 (.inr ⟨rfl,ne,hts⟩)
  refine⟨_,rfl,rfl,_,rfl,YZ ?_⟩;refine⟨_,rfl,l,xs,ls,rfl,s1 l _ hl,hL.same s1,hlen,hW,fun R H2 ys fR s2 eR rv ap ndr=>?_⟩;refine⟨sz0,fun fA hfA=>?_⟩;have s12:=s1.trans s2;have s3:Zh H2 (upd H2 fA (.lst [])):=Zh.laid hfA;have e3:(upd H2 fA (.lst [])) fA=some (.lst []):=Zc;have fH:H fA=none:=s12.free hfA;generalize upd H2 fA (.lst [])=H3 at *;have hl2:=s12 _ _ hl;have hL2:=hL.same s12;refine⟨_,rfl,l,rfl,⟨_,Zt.of (s3 _ _ hl2)⟩,UZ (K:=K) (a:=l) (xs:=xs) (fun i σ G=>∃(v5 v6 v7 v8:QI),σ = [some (.ref l),some (.int sc),some (.ref p),some (.ref R),some (.ref fA),v5,v6,v7,v8]/\Zh H2 G/\G fA=some (.lst ((dfs g ls (Yg ls UR i)).map V.int)))
   ⟨none,none,none,none,rfl,s3,e3⟩ (fun i σ G _ ⟨_,_,_,_,_,sm,_⟩=>Zt.of (sm l _ hl2)) ?_ ?_⟩
  ·rintro i x pa σ G hx ⟨v5,v6,v7,v8,rfl,sm,eF⟩ hp;obtain⟨⟨qx,qk⟩,ta,hq,rfl,hta⟩:=hL2.get hx;have hi:i<ls.length:=(kz.mp hq).1;have sp:Zh G (upd G pa (.tup [.int i,.ref ta])):=Zh.laid hp;have epa:(upd G pa (.tup [.int i,.ref ta])) pa=some (.tup [.int i,.ref ta]):=Zc;generalize upd G pa (.tup [.int i,.ref ta])=G0 at *;have sg0:=sm.trans sp;have eF0:=sp _ _ eF;have hta':=sg0 ta _ hta;have short:((dfs g ls (Yg ls UR i)).map V.int).length<sizeLine:=by
    rw[ke];unfold dfs;rw[ke];have:=JV ls UR i;exact ZC (by lia)
   refine⟨pa,_,rfl,Y9.of epa,rfl,_,_,rfl,_,_,rfl,rfl,?_⟩;refine⟨_,rfl,ta,_,_,_,rfl,rfl,Y9.of hta',Zo (j:=0) rfl,rfl,_,rfl,?_⟩;refine ZX (fun hc=>?_) (fun hc=>?_)
   ·have e:qx = "cross" := V.str.inj (kG hc);subst e;have nb:(("cross" : Str),qk).1 ≠ "born" := show ("cross" : Str) ≠ "born" by decide +kernel
    obtain⟨k0,k1,pe⟩:=ZhE hW hq nb;have dm:=Zim hW hq nb;have sn:=Zhq (g:=g) hq nb;obtain⟨kn,rfl⟩:=kI (show 0<=qk from k0);simp only[kM] at k1 pe;obtain⟨ra,hra,hrr⟩:=rv.at (Zbo ls (i:=i) (n:=ls.length+1) (by lia));obtain⟨u,hu⟩:∃u,u=(rowAt ls i).getD kn 0:=⟨_,rfl⟩;obtain⟨w',hw⟩:∃w',w'=(rowAt ls i).getD (kn+1) 0:=⟨_,rfl⟩;rw[<- hu,<- hw] at pe;rw[pe] at dm sn;refine⟨_,rfl,_,rfl,R,_,_,_,rfl,rfl,Zt.of (sg0 R _ eR),Zo hra,_,rfl,ta,_,_,_,rfl,rfl,Y9.of hta',Zo (j:=1) rfl,_,rfl,_,rfl,ta,_,_,_,rfl,rfl,Y9.of hta',Zo (j:=1) rfl,_,_,rfl,rfl,_,rfl,ra,_,rfl,Zt.of (sg0 ra _ hrr),fun cA hcA=>?_⟩;rw[Zf7 k1,<- hu,<- hw];have s4:Zh G0 (upd G0 cA (.lst [.int u,.int w'])):=Zh.laid hcA;have e4:(upd G0 cA (.lst [.int u,.int w'])) cA=some (.lst [.int u,.int w']):=Zc;generalize upd G0 cA (.lst [.int u,.int w'])=G1 at *;refine⟨cA,_,rfl,Zt.of e4,rfl,_,_,rfl,_,_,rfl,rfl,?_⟩;have ep1:=s4 _ _ (sg0 _ _ (s2 _ _ ep));have eF1:=s4 _ _ eF0;refine⟨_,rfl,.inl ⟨rfl,_,Zt.of eF1⟩,_,rfl,_,rfl,p,_,_,_,rfl,rfl,Zt.of ep1,Zbe g dm.1.1 dm.1.2,_,rfl,_,rfl,p,_,_,_,rfl,rfl,Zt.of ep1,Zbe g dm.2.1 dm.2.2,_,_,rfl,rfl,fA,_,_,rfl,rfl,eF1,short,?_⟩;refine⟨_,_,_,_,rfl,(sg0.trans s4).put hfA,?_⟩;rw[Zc,sn]
   ·have nc:¬qx = "cross" := fun z=>hc (kE (KC V.str z));refine⟨_,rfl,ta,_,_,_,rfl,rfl,Y9.of hta',Zo (j:=0) rfl,rfl,_,rfl,?_⟩;refine ZX (fun hc2=>?_) (fun hc2=>?_)
    ·have e:qx = "end" := V.str.inj (kG hc2);subst e;have nb:(("end" : Str),qk).1 ≠ "born" := show ("end" : Str) ≠ "born" by decide +kernel
     have sn:=Zhq (g:=g) hq nb;rw[hg.atEnd hsc hW hq rfl] at sn;refine⟨_,rfl,.inl ⟨rfl,_,Zt.of eF0⟩,_,rfl,_,_,rfl,rfl,fA,_,_,rfl,rfl,eF0,short,?_⟩;refine⟨_,_,_,_,rfl,sg0.put hfA,?_⟩;rw[Zc,sn]
    ·have ne2:¬qx = "end" := fun z=>hc2 (kE (KC V.str z));have b:qx = "born" := by
      rcases hW.kd _ (kZ hq) with z | z | z
      ·exact z
      ·exact absurd z nc
      ·exact absurd z ne2
     refine⟨_,_,_,_,rfl,sg0,?_⟩;rw[eF0,Zmo hq b]
  ·rintro σ G ⟨v5,v6,v7,v8,rfl,sm,eF⟩;rw[hxl] at eF;exact⟨_,rfl,k _ G (s12.trans sm) (.inl ⟨fA,g,hg,rfl,fH,eF⟩)⟩
def Zgv:Sp:=fun vs H Q _=>∃(b:Addr)(n:Int),vs = [.ref b,.int n]/\US H b/\2<=n/\n<=12 /\ ∀(l:Addr)(H':Hp)(ls:QB),H l=none->US H' b->Jf b H H'->Drw H' l ls->(nX ls<=13/\1<=ls.length)->Q (.ref l) H'
theorem ZhT {H:Hp}{t:Addr}{q:Str×Int}(h:H t=some (.tup [.str q.1,.int q.2])):∀n:Nat,ZH H (List.replicate n (V.ref t)) (List.replicate n q)
 | 0=>.nil
 | n+1=>.cons ⟨t,rfl,h⟩ (ZhT h n)
theorem ZqH (n:Nat)(k:Int):nX (List.replicate n ((("cross" : Str),k):Str×Int))=n:=by unfold nX;rw[List.countP_replicate,km (by show decide (("cross" : Str)=("cross" : Str))=true;decide)]
abbrev Zac:Stmt:=top 48
theorem J0:Zy ["_law_bag_here", "_law_most", "_law_way", "_law_letters", "_law_turn"] ["_law_bag_here", "_law_most"] (Zj Zac):={}
theorem ZmJ {f:Addr}{fd:FuncData}(F:Yx K "_law_front" "_law_front" Zac f fd)(Zr:Yq P w K mg base 1 "_law_take" ["_law_bag_here", "_law_many"] Uq)(ZbI:Yq P w K mg base 3 "_law_any" ["_law_bag_here", "_law_most"] Zel)(Wc:Yq P w K mg base 2 "_law_plat" ["_law_bag_here", "_law_most"] Zel)
  (Um:Yq P w K mg base 2 "_law_curled" ["_law_bag_here", "_law_letters", "_law_most"] Zgk) (ZZ:mg "range" = none) (Ye:mg "len" = none) (Ga:mg "max" = none) (ZbE:mg "min" = none):
  Yi P w K mg base Wx 4 f fd ["_law_bag_here", "_law_most"] Zgv:=by
 refine F.ok J0 (fun vs H Q E h=>?_) (fun cdv A outer s H vs Q E hr h=>?_)
 ·obtain⟨b,n,rfl,_⟩:=h;rfl
 ·obtain⟨b,n,rfl,hbag,n2,n12,k⟩:=h;refine⟨_,(Zd (Zp (i:=2) J0.nd rfl (.inl rfl) (Zq Zr hr (Za (pv 0) (Za Ze Zb))))
   (Zd (ZQ (Zu Yo (pv 2) Ze (Zs _)) (Zg (Zw (Zq ZbI hr (Za (pv 0) (Za (pv 1) Zb))))) ZG)
   (Zd (ZQ (Zu Yo (pv 2) Ze (Zs _)) (Zg (Zw (Zq Wc hr (Za (pv 0) (Za (pv 1) Zb))))) ZG)
   (Zd (Zp (i:=3) J0.nd rfl (.inl rfl) (Zl Y8 (Zz (Za (ZN (Za ZI (Za Ze Zb))) (Za (ZN (Za ZI (Za Ze Zb))) Zb))) (Zl ZbY (Zz (Za (ZN (Za ZI (Za Ze Zb))) Zb)) (Zl ZD Ze (Zq Zr hr (Za (pv 0) (Za (pv 1) Zb)))))))
   (Zd (ZQ (Zu Yo (pv 2) Ze (Zs _)) (Zd (Zp (i:=3) J0.nd rfl (.inl rfl) (Zz (Za (ZN (Za ZI (Za Ze Zb))) (Za (ZN (Za ZI (Za Ze Zb))) (Za (ZN (Za ZI (Za Ze Zb))) Zb)))))
   (Zd (Yw Kg rfl (YR (by rfl) ZZ (Za (Zl ZD Ze (Zq Zr hr (Za (pv 0) (Za (Zv (WE rfl) (by rfl) Ga NK (Za Ze (Za (Zl Jd (pv 1) Ze) Zb))) Zb)))) Zb)) (Zk (i:=4) J0.nd rfl (.inl rfl)) (Zg (Z8 (Yf (K:=K) rfl (YC kK kW kX ZP (pv 3) (Za (ZN (Za ZI (Za (Zx (Zn (K:=K) rfl) (Zz (Za Ze (Za Ze (Za Ze Zb)))) (Zl GJ (Zq Zr hr (Za (pv 0) (Za Ze Zb))) Ze) (fun _ _=>rfl)) Zb))) Zb))))))
   (Zg (Zw (Zl Y8 (pv 3) (Zz (Za (ZN (Za ZI (Za Ze Zb))) (Za (ZN (Za ZI (Za Ze Zb))) (Za (ZN (Za ZI (Za Ze Zb))) Zb))))))))) ZG)
   (Zg (Zw (Zq Um hr (Za (pv 0) (Za (Zl Y8 (pv 3) (Zz (Za (ZN (Za ZI (Za Ze Zb))) (Za (ZN (Za ZI (Za Ze Zb))) Zb)))) (Za (Zv (WE rfl) (by rfl) Ga NK (Za Ze (Za (Zv (Zbp rfl) (by rfl) ZbE boot_min (Za Ze (Za (Zl Jd Ze (Zv (Yb (K:=K) rfl) (by rfl) Ye KO (Za (pv 3) Zb))) Zb))) Zb))) Zb))))))))))),?_⟩
  have nb:∀{c:Addr},H c=none->c≠b:=fun {c} h z=>by obtain⟨_,_,_,e⟩:=hbag;rw[z,e] at h;cases h
  refine⟨_,rfl,b,5,rfl,hbag,by decide,by decide,fun wy H1 w0 w1 bg1 f1=>?_⟩;refine⟨_,rfl,rfl,_,rfl,ZX (fun _=>?_) (fun _=>?_)⟩
  ·exact⟨_,rfl,_,rfl,b,n,rfl,bg1,by lia,by lia,fun l H2 ls hl bg2 f2 dr nx=>k l H2 ls (f1.free bg1 hl) bg2 (f1.trans f2) dr ⟨by lia,nx.2⟩⟩
  refine⟨_,rfl,rfl,_,rfl,ZX (fun _=>?_) (fun _=>?_)⟩
  ·exact⟨_,rfl,_,rfl,b,n,rfl,bg1,by lia,by lia,fun l H2 ls hl bg2 f2 dr nx=>k l H2 ls (f1.free bg1 hl) bg2 (f1.trans f2) dr ⟨by lia,nx.2⟩⟩
  refine⟨sz2,fun t1 h1=>?_⟩;refine lay2 (o:=.tup [.str "born", .int 0]) h1 fun X1 a1 b1=>?_;refine⟨sz2,fun t2 h2=>?_⟩;refine lay2 (o:=.tup [.str "born", .int 2]) h2 fun X2 a2 b2=>?_;refine⟨sz2,fun c1 h3=>?_⟩;refine lay2 (o:=.lst [.ref t1,.ref t2]) h3 fun X3 a3 b3=>?_;refine⟨sz2,fun t3 h4=>?_⟩;refine lay2 (o:=.tup [.str "cross", .int 1]) h4 fun X4 a4 b4=>?_;refine⟨sz1,fun c2 h5=>?_⟩;refine lay2 (o:=.lst [.ref t3]) h5 fun X5 a5 b5=>?_;have s15:=(((a1.trans a2).trans a3).trans a4).trans a5;have bg5:=ZF s15 bg1;have nb5:∀{c:Addr}{G:Hp},US G b->G c=none->c≠b:=fun {c G} h e z=>by obtain⟨_,_,_,q⟩:=h;rw[z,q] at e;cases e
  have n1:c1≠b:=nb5 (ZF (a1.trans a2) bg1) h3;have n2':c2≠b:=nb5 (ZF (((a1.trans a2).trans a3).trans a4) bg1) h5;have L3:ZH X5 [.ref t1,.ref t2] [("born", 0),("born", 2)]:=.cons ⟨t1,rfl,a5 _ _ (a4 _ _ (a3 _ _ (a2 _ _ b1)))⟩ (.cons ⟨t2,rfl,a5 _ _ (a4 _ _ (a3 _ _ b2))⟩ .nil);have L4:∀m:Nat,ZH X5 (List.replicate m (V.ref t3)) (List.replicate m ((("cross" : Str),1):Str×Int)):=fun m=>ZhT (a5 _ _ b4) m;refine⟨_,rfl,_,rfl,b,n,rfl,bg5,by lia,by lia,fun d H2 d0 d1 bg2 f2=>⟨_,_,rfl,rfl,?_⟩⟩;obtain⟨mm,hmm⟩:∃mm:Nat,mm=(1+d).toNat:=⟨_,rfl⟩;refine⟨c2,_,_,rfl,rfl,f2 _ _ b5 n2',by lia,by lia,(by rw[<- hmm,k9];simp;lia),fun c3 h6=>?_⟩;rw[<- hmm,List.flatten_replicate_singleton];refine lay2 (o:=.lst (List.replicate mm (V.ref t3))) h6 fun X6 a6 b6=>?_;refine⟨c1,c3,_,_,rfl,rfl,a6 _ _ (f2 _ _ (a5 _ _ (a4 _ _ b3)) n1),b6,(by rw[KN,k9];show 2+mm<=_;lia),fun c4 h7=>?_⟩;obtain⟨X7,z,a7,b7⟩:=lay (o:=.lst ([.ref t1,.ref t2]++List.replicate mm (V.ref t3))) h7;rw[z];clear z;have s27:=a6.trans a7;have bg7:=ZF s27 bg2;have f17:Jf b H X7:=((f1.trans s15.frm).trans f2).trans s27.frm;have L7:ZH X7 ([.ref t1,.ref t2]++List.replicate mm (V.ref t3)) (([("born", 0),("born", 2)]:QB)++List.replicate mm ((("cross" : Str),1):Str×Int)):=((L3.frm f2 bg5).append ((L4 mm).frm f2 bg5)).same s27;refine⟨_,rfl,rfl,_,rfl,ZX (fun _=>?_) (fun _=>?_)⟩
  ·refine⟨sz2,fun u1 e1=>?_⟩;refine lay2 (o:=.tup [.str "born", .int 0]) e1 fun Y1 g1 j1=>?_;refine⟨sz2,fun u2 e2=>?_⟩;refine lay2 (o:=.tup [.str "born", .int 2]) e2 fun Y2 g2 j2=>?_;refine⟨sz2,fun u3 e3=>?_⟩;refine lay2 (o:=.tup [.str "born", .int 4]) e3 fun Y3 g3 j3=>?_;refine⟨sz3,fun l e4=>?_⟩;refine lay2 (o:=.lst [.ref u1,.ref u2,.ref u3]) e4 fun Y4 g4 j4=>?_;have sY:=((g1.trans g2).trans g3).trans g4;have bgY:=ZF sY bg7;have fl:H l=none:=f17.free bg7 (((g1.trans g2).trans g3).free e4);have hlb:=nb fl;have LY:ZH Y4 [.ref u1,.ref u2,.ref u3] [("born", 0),("born", 2),("born", 4)]:=.cons ⟨u1,rfl,g4 _ _ (g3 _ _ (g2 _ _ j1))⟩ (.cons ⟨u2,rfl,g4 _ _ (g3 _ _ j2)⟩ (.cons ⟨u3,rfl,g4 _ _ j3⟩ .nil));have WY:Wk [("born", 0),("born", 2),("born", 4)] 6:=Wk.born (k:=4) (Wk.born (k:=2) (Wk.born (k:=0) .nil (by decide) (by decide)) (by decide) (by decide)) (by decide) (by decide);refine⟨_,rfl,_,rfl,_,_,rfl,rfl,_,_,rfl,b,_,rfl,bgY,(by split<;>lia),(by split<;>lia),fun d2 H3 d20 d21 bg3 f3=>⟨_,_,rfl,rfl,?_⟩⟩;have d2n:d2<=11:=by revert d21;split<;>lia
   refine⟨_,rfl,by lia,by lia,JL (n:=(2+d2).toNat) (fun i σ G=>∃(xs:QH)(ls:QB)(v4:QI),σ = [some (.ref b),some (.int n),some (.int wy),some (.ref l),v4]/\US G b/\Jf b H G/\G l=some (.lst xs)/\ZH G xs ls/\Wk ls 6/\ls.length<=3+i/\nX ls<=i/\1<=ls.length)
    ⟨_,_,_,rfl,bg3,(f17.trans sY.frm).trans f3,f3 _ _ j4 hlb,LY.frm f3 bgY,WY,kj _,kj _,by decide⟩ ?_ ?_⟩
   ·rintro i σ G hi ⟨xs,ls,v4,rfl,bg,fr4,hG,hL,hW,hlen,hx,ne⟩;have hxl:=hL.len;refine⟨_,rfl,.inl ⟨rfl,_,Zt.of hG⟩,sz3,fun q1 hq1=>?_⟩;refine lay2 (o:=.lst [.int 1,.int 3,.int 2]) hq1 fun Z1 r1 o1=>?_;have bgZ:=ZF r1 bg;refine⟨_,rfl,b,7,rfl,bgZ,by decide,by decide,fun e Z2 e0 e1' bgZ2 fZ=>⟨_,_,rfl,rfl,(by show (0:Int)<3;decide),?_⟩⟩;have nq:q1≠b:=nb5 bg hq1;obtain⟨jj,hjj⟩:∃jj:Nat,e % 3=(jj:Int):=⟨(e % 3).toNat,by lia⟩;have jj3:jj<3:=by lia
    dsimp only;rw[hjj];obtain⟨kk,hkk,k0,k4⟩:∃kk:Int,([V.int 1,.int 3,.int 2]:QH)[jj]? = some (.int kk)/\0<=kk/\kk<=4:=by
     match jj,jj3 with
     | 0,_=>exact⟨_,rfl,by decide,by decide⟩
     | 1,_=>exact⟨_,rfl,by decide,by decide⟩
     | 2,_=>exact⟨_,rfl,by decide,by decide⟩
    refine⟨q1,_,_,_,rfl,rfl,Zt.of (fZ _ _ o1 nq),Zo hkk,sz2,fun t ht=>?_⟩;obtain⟨c1',c2',c3',c4',c5'⟩:=W2 "cross" kk (fr4.trans r1.frm) bgZ (r1 _ _ hG) (hL.same r1) hlb fl fZ bgZ2 ht;refine⟨l,_,_,rfl,rfl,c1',ZC (by lia),?_⟩;exact⟨xs ++ [.ref t],ls ++ [((("cross" : Str),kk):Str×Int)],_,rfl,c2',c3',c4',c5',Wk.cross hW k0 (by lia),by rw[kh,Kf];lia,by rw[ZaF];lia,by rw[kh];exact qA _ _⟩
   ·rintro σ G ⟨xs,ls,v4,rfl,bg,fr4,hG,hL,hW,hlen,hx,ne⟩;have hxl:=hL.len;refine⟨_,rfl,sz2,fun w1' e1'=>?_⟩;refine lay2 (o:=.tup [.str "end", .int 0]) e1' fun Z1 r1 o1=>?_;refine⟨sz2,fun w2' e2'=>?_⟩;refine lay2 (o:=.tup [.str "end", .int 0]) e2' fun Z2 r2 o2=>?_;refine⟨sz2,fun w3' e3'=>?_⟩;refine lay2 (o:=.tup [.str "end", .int 0]) e3' fun Z3 r3 o3=>?_;refine⟨sz3,fun w4' e4'=>?_⟩;refine lay2 (o:=.lst [.ref w1',.ref w2',.ref w3']) e4' fun Z4 r4 o4=>?_;have sZ:=((r1.trans r2).trans r3).trans r4;refine⟨l,w4',_,_,rfl,rfl,sZ _ _ hG,o4,(by rw[hxl,k9];show ls.length+3<=_;lia),fun w5 e5=>?_⟩;obtain⟨Z5,z,r5,o5⟩:=lay (o:=.lst (xs ++ [.ref w1',.ref w2',.ref w3'])) e5;rw[z];clear z;have sZ5:=sZ.trans r5;have LE:ZH Z5 [.ref w1',.ref w2',.ref w3'] (List.replicate 3 ((("end" : Str),0):Str×Int)):=.cons ⟨w1',rfl,r5 _ _ (r4 _ _ (r3 _ _ (r2 _ _ o1)))⟩ (.cons ⟨w2',rfl,r5 _ _ (r4 _ _ (r3 _ _ o2))⟩ (.cons ⟨w3',rfl,r5 _ _ (r4 _ _ o3)⟩ .nil));refine k w5 Z5 (ls++List.replicate 3 ((("end" : Str),0):Str×Int)) (fr4.free bg (sZ.free e5)) (ZF sZ5 bg) (fr4.trans sZ5.frm) ⟨_,o5,(hL.same sZ5).append LE,?_,?_⟩ ⟨?_,by rw[kh];lia⟩
    ·have:=ZdN 3 hW 3 (kj _);simpa using this
    ·rw[kh,KN];lia
    ·rw[Gg];have:nX (List.replicate 3 ((("end" : Str),0):Str×Int))=0:=rfl;lia
  ·refine⟨_,rfl,_,rfl,sz2,fun w1' e1'=>?_⟩;refine lay2 (o:=.tup [.str "end", .int 0]) e1' fun Z1 r1 o1=>?_;refine⟨sz2,fun w2' e2'=>?_⟩;refine lay2 (o:=.tup [.str "end", .int 0]) e2' fun Z2 r2 o2=>?_;refine⟨sz2,fun w4' e4'=>?_⟩;refine lay2 (o:=.lst [.ref w1',.ref w2']) e4' fun Z4 r4 o4=>?_;have sZ:=(r1.trans r2).trans r4;have l7:([V.ref t1,.ref t2]++List.replicate mm (V.ref t3)).length=2+mm:=by rw[kh,KN];rfl
   refine⟨c4,w4',_,_,rfl,rfl,sZ _ _ b7,o4,(by rw[l7,k9];show 2+mm+2<=_;lia),fun w5 e5=>?_⟩;obtain⟨Z5,z,r5,o5⟩:=lay (o:=.lst ([.ref t1,.ref t2]++List.replicate mm (V.ref t3) ++ [.ref w1',.ref w2'])) e5;rw[z];clear z;have sZ5:=sZ.trans r5;have LE:ZH Z5 [.ref w1',.ref w2'] (List.replicate 2 ((("end" : Str),0):Str×Int)):=.cons ⟨w1',rfl,r5 _ _ (r4 _ _ (r2 _ _ o1))⟩ (.cons ⟨w2',rfl,r5 _ _ (r4 _ _ o2)⟩ .nil);have bgZ:=ZF sZ5 bg7;have f0:H w5=none:=f17.free bg7 (sZ.free e5);have WX:∀m:Nat,Wk (([("born", 0),("born", 2)]:QB)++List.replicate m ((("cross" : Str),1):Str×Int)) 4:=fun m=>by
    induction m with
    | zero=>exact Wk.born (k:=2) (Wk.born (k:=0) .nil (by decide) (by decide)) (by decide) (by decide)
    | succ m ih=>rw[XF,<- Kt];exact Wk.cross ih (by decide) (by decide)
   refine⟨_,rfl,c4,_,rfl,.inl (Zt.of (sZ5 _ _ b7)),_,_,rfl,rfl,_,_,rfl,_,_,rfl,?_⟩;rw[l7];refine⟨b,w5,_,([("born", 0),("born", 2)]:QB)++List.replicate mm ((("cross" : Str),1):Str×Int)++List.replicate 2 ((("end" : Str),0):Str×Int),rfl,bgZ,⟨_,o5,(L7.same sZ5).append LE,?_,?_⟩,nb f0,?_,?_,?_,?_,fun l G ls hl bg fr dr nx=>k l G ls ((f17.trans sZ5.frm).free bgZ hl) bg ((f17.trans sZ5.frm).trans fr) dr nx⟩
   ·have:=ZdN 2 (WX mm) 2 (kj _);simpa using this
   ·rw[kh,kh,KN,KN];show 2+mm+2<=60;lia
   ·rw[kh,kh,KN,KN];show 2+mm+2<=40;lia
   ·refine⟨?_,by rw[kh,kh];exact Kb (by decide) (Kb (qw 2 _) (qw _ _))⟩;rw[Gg,Gg,ZqH];have e1:nX (List.replicate 2 ((("end" : Str),0):Str×Int))=0:=rfl;have e2:nX ([("born", 0),("born", 2)]:QB)=0:=rfl;lia
   ·split<;>(try split)<;>lia
   ·split<;>(try split)<;>lia
def ZeJ:Sp:=fun vs H Q _=>∃(l:Addr)(ls:QB),vs = [.ref l]/\Drw H l ls /\ ∀(p:Addr)(H':Hp)(scs:QG),Zh H H'->H p=none->H' p=some (.lst (scs.map V.int))->scs.length<=2->(∀sc∈scs,(sc=0∨sc=1) /\ ∃g,HG sc ls g)->Q (.ref p) H'
abbrev WR:Stmt:=top 49
theorem ZdX:Zy ["_law_drawing_here"] ["_law_drawing_here"] (Zj WR):={}
theorem Zky {f:Addr}{fd:FuncData}(F:Yx K "_law_scales" "_law_scales" WR f fd)(Yt:Yq P w K mg base 4 "_law_name_heights" ["_law_drawing_here", "_law_scale"] Zje):Yi P w K mg base Wx 5 f fd ["_law_drawing_here"] ZeJ:=by
 refine F.ok ZdX (fun vs H Q E h=>?_) (fun cdv A outer s H vs Q E hr h=>?_)
 ·obtain⟨l,ls,rfl,_⟩:=h;rfl
 ·obtain⟨l,ls,rfl,⟨xs,hl,hL,hW,hlen⟩,k⟩:=h;refine⟨_,(Zg (Zw (WA (Ls:=["_law_scale"]) (Fs:=["_law_drawing_here"]) (fi:=[0]) (ZV.of (show Yv ["_law_drawing_here"] (Zj WR) _ ["_law_drawing_here"] [0]=true by decide +kernel)) rfl (ZU (K:=K) rfl (Zz (Za Ze (Za Ze Zb)))) (fun cl C s3 H3 ex=>⟨(Zk (i:=0) (show ((["_law_scale"]:QP)++(["_law_drawing_here"]:QP)).Nodup by decide +kernel) rfl (.inl rfl)),(Zaj (Zu ZdD (Zq Yt hr (Za (pv 1) (Za (pv 0) Zb))) JP (Zs _))),(pv 0)⟩)))),?_⟩;refine⟨sz2,fun D hD=>?_⟩;refine lay2 (o:=.lst [.int 0,.int 1]) hD fun G0 s0 e0=>?_;refine⟨D,rfl,⟨_,Zt.of e0⟩,Ja (K:=K) (a:=D) (xs:=[.int 0,.int 1]) sz2 (fun i zs G=>Zh G0 G /\ ∃scs:QG,zs=scs.map V.int/\scs.length<=i /\ ∀sc∈scs,(sc=0∨sc=1) /\ ∃g,HG sc ls g) ⟨Zh.refl _,[],rfl,kj _,fun _ h=>(nomatch h)⟩
   (fun i zs G ⟨_,scs,e,l,_⟩=>by rw[e,ke];exact l) (fun i zs G x=>Zt.of (x.1 _ _ e0)) (fun i y zs G hy x=>?_) (fun zs G x p hp=>?_)⟩
  ·obtain⟨sG,scs,rfl,ln,al⟩:=x;obtain⟨sc,rfl,hsc⟩:∃sc:Int,y = .int sc/\(sc=0∨sc=1):=by
    match i,hy with
    | 0,h=>exact⟨0,(Ka h).symm,.inl rfl⟩
    | 1,h=>exact⟨1,(Ka h).symm,.inr rfl⟩
   have s2:=s0.trans sG;refine⟨_,rfl,_,rfl,l,sc,xs,ls,rfl,hsc,s2 _ _ hl,hL.same s2,hlen,hW,fun v G' s' lv=>⟨rfl,_,rfl,?_⟩⟩;rcases lv with⟨p,g,hg,rfl,_,_⟩ | ⟨rfl,_,_⟩
   ·refine J6 ⟨_,rfl,sG.trans s',scs ++ [sc],by simp,by rw[kh];show _+1<=_;lia,fun x hx=>?_⟩;rcases Kk.mp hx with h | h
    ·exact al x h
    ·rw[kT.mp h];exact⟨hsc,g,hg⟩
   ·exact YZ ⟨sG.trans s',scs,rfl,by lia,al⟩
  ·obtain⟨sG,scs,rfl,ln,al⟩:=x;exact k p _ scs (s0.trans (sG.step hp)) (s0.free (sG.free hp)) Zc ln al
theorem HG.told {sc:Int}{ls:QB}{g:QX}{H H':Hp}{v:V}(h:HG sc ls g)(lv:lnV sc ls H H' v):∃p,v = .ref p/\H p=none/\H' p=some (.lst ((dfs g ls (Yg ls UR ls.length)).map V.int)):=by
 rcases lv with⟨p,g',hg,rfl,fp,e⟩ | ⟨_,ne,ts,tr,z⟩
 ·have:=h.uniq hg;subst this;exact⟨p,rfl,fp,e⟩
 ·exfalso;rcases h with⟨e,_⟩ | ⟨_,T,L,tr',t0,_⟩
  ·exact ne e
  ·have:=tr.uniq tr';rw[this] at z;exact z (by rw[MX,t0])
def ZeQ (ls:QB)(i m:Nat):QG:=(List.range' i m).filterMap fun i=>if isK ls UR i=true then some (i:Int) else none
theorem ZfD (ls:QB)(i m:Nat):ZeQ ls i (m+1)=(if isK ls UR i=true then[(i:Int)] else[])++ZeQ ls (i+1) m:=by
 unfold ZeQ;rw[List.range'_succ,K7];split
 ·rename_i h
  split at h
  ·cases h
  ·rename_i q;rw[ki q];rfl
 ·rename_i h
  split at h
  ·rename_i q;cases h;rw[km q];rfl
  ·cases h
def hgA (g:QX)(ls:QB)(i:Nat):QW:=if isK ls UR i=true then some (g (YM ls i).1-g (YM ls i).2) else none
def oI:Option Int->V
 | some i=>.int i
 | none=>.non
def lhL (g:QX)(ls:QB)(n:Nat):QH:=(List.range n).map fun i=>oI (hgA g ls i)
def Zge:Sp:=fun vs H Q _=>∃(l:Addr)(sc:Int)(ls:QB)(g:QX),vs = [.ref l,.int sc]/\(sc=0∨sc=1)/\Drw H l ls/\HG sc ls g /\ ∀(p:Addr)(H':Hp),Zh H H'->H p=none->H' p=some (.lst (lhL g ls ls.length))->Q (.ref p) H'
abbrev Ju:Stmt:=top 50
theorem YD:Zy ["_law_drawing_here", "_law_scale", "_law_known", "_law_found", "_law_letter"] ["_law_drawing_here", "_law_scale"] (Zj Ju):={}
theorem ZoC {f:Addr}{fd:FuncData}(F:Yx K "_law_letter_heights" "_law_letter_heights" Ju f fd)(Yt:Yq P w K mg base 4 "_law_name_heights" ["_law_drawing_here", "_law_scale"] Zje)(Z6:mg "list" = none):Yi P w K mg base Wx 5 f fd ["_law_drawing_here", "_law_scale"] Zge:=by
 refine F.ok YD (fun vs H Q E h=>?_) (fun cdv A outer s H vs Q E hr h=>?_)
 ·obtain⟨l,sc,ls,g,rfl,_⟩:=h;rfl
 ·obtain⟨l,sc,ls,g,rfl,hsc,⟨xs,hl,hL,hW,hlen⟩,hg,k⟩:=h;refine⟨_,(Zd (Zp (i:=2) YD.nd rfl (.inl rfl) (Yc (J8 (K:=K) rfl) (by rfl) Z6 Xw (Za (Zq Yt hr (Za (pv 0) (Za (pv 1) Zb))) Zb)))
   (Zd (Zp (i:=3) YD.nd rfl (.inl rfl) (Zz Zb))
   (Zd (Yw Kg rfl (ZU (K:=K) rfl (pv 0)) (Zk (i:=4) YD.nd rfl (.inl rfl)) (Zg (ZQ (Zu Yo (Zx (Yp (K:=K) rfl) (pv 4) Ze (fun _ _=>rfl)) ZI (Zs _)) (Zg (Z8 (Yf (K:=K) rfl (YC kK kW kX ZP (pv 3) (Za JP Zb))))) (Zg (Z8 (Yf (K:=K) rfl (YC kK kW kX ZP (pv 3) (Za (Yf (K:=K) rfl (YC kK Tj To ZeB (pv 2) (Za Ze Zb))) Zb))))))))
   (Zg (Zw (pv 3)))))),?_⟩
  refine⟨_,rfl,_,rfl,l,sc,xs,ls,rfl,hsc,hl,hL,hlen,hW,fun v H1 s1 lv=>?_⟩;obtain⟨p,rfl,fp,ep⟩:=hg.told lv;refine⟨p,_,rfl,.inl (Zt.of ep),fun kn hkn=>?_⟩;refine lay2 (o:=.lst ((dfs g ls (Yg ls UR ls.length)).map V.int)) hkn fun H2 s2 e2=>?_;refine⟨sz0,fun q hq=>?_⟩;refine lay2 (o:=.lst []) hq fun H3 s3 e3=>?_;have s03:=(s1.trans s2).trans s3;have fk:H kn=none:=s1.free hkn;have fq:H q=none:=(s1.trans s2).free hq;have kq:kn≠q:=Zf e2 hq;have hxl:=hL.len;have e0:(dfs g ls (Yg ls UR ls.length))=dfs g ls (ZeQ ls 0 (ls.length-0)):=by unfold Yg ZeQ;rw[List.range_eq_range',Lk]
  rw[e0] at e2;refine⟨_,rfl,l,rfl,⟨_,Zt.of (s03 _ _ hl)⟩,JX (K:=K) (a:=l) (xs:=xs) (fun i σ G=>∃v4:QI,σ = [some (.ref l),some (.int sc),some (.ref kn),some (.ref q),v4]/\Zh H G/\G kn=some (.lst ((dfs g ls (ZeQ ls i (ls.length-i))).map V.int))/\G q=some (.lst (lhL g ls i))) ⟨_,rfl,s03,s3 _ _ e2,e3⟩ (fun i σ G _ ⟨_,_,s,_⟩=>Zt.of (s _ _ hl)) ?_ ?_⟩
  ·rintro i x σ G hx ⟨v4,rfl,sG,ek,eq⟩;obtain⟨pq,ta,hp,rfl,hta⟩:=(hL.same sG).get hx;have hi:i<ls.length:=(kz.mp hp).1;have kk:=Gw hp (pr:=UR);have lq:(lhL g ls i).length=i:=by simp[lhL]
   have em:ls.length-i=(ls.length-(i+1))+1:=by lia
   have putq:∀{G':Hp}{o:HO},Zh H G'->Zh H (upd G' q o):=fun s c o e=>by rw[Zi (Zf e fq)];exact s c o e
   have putk:∀{G':Hp}{o:HO},Zh H G'->Zh H (upd G' kn o):=fun s c o e=>by rw[Zi (Zf e fk)];exact s c o e
   refine⟨_,rfl,ta,_,_,_,rfl,rfl,Y9.of hta,Zo (j:=0) rfl,rfl,_,rfl,ZX (fun hb=>?_) (fun hb=>?_)⟩
   ·have eb:pq.1 = "born" := by
     have:=kG hb;injection this
    have kf:isK ls UR i=false:=by rw[kk,eb];decide
    refine⟨_,rfl,.inl ⟨rfl,_,Zt.of eq⟩,q,_,_,rfl,rfl,eq,(by rw[lq,k9];lia),?_⟩;refine⟨_,rfl,putq sG,?_,?_⟩
    ·rw[Zi kq,ek,em,ZfD,kf];rfl
    ·rw[Zc];unfold lhL;rw[KR,kQ];show some (HO.lst (_ ++ [V.non]))=some (HO.lst (_ ++ [oI (hgA g ls i)]));have:hgA g ls i=none:=by unfold hgA;rw[kf];rfl
     rw[this];rfl
   ·have kt:isK ls UR i=true:=by
     rw[kk];unfold UR;simp;intro z;rw[z] at hb;exact hb (kE rfl)
    have el:ZeQ ls i (ls.length-i)=(i:Int)::ZeQ ls (i+1) (ls.length-(i+1)):=by rw[em,ZfD,kt];rfl
    rw[el] at ek;have ek':G kn=some (.lst (V.int (g (YM ls i).1-g (YM ls i).2)::(dfs g ls (ZeQ ls (i+1) (ls.length-(i+1)))).map V.int)):=by rw[ek];unfold dfs;rw[Kq,Kq];simp
    refine⟨_,rfl,.inl ⟨rfl,_,Zt.of eq⟩,_,rfl,.inl ⟨rfl,_,Zt.of ek'⟩,kn,_,0,0,_,rfl,rfl,ek',by decide,by decide,Mi (by decide) (by simp),rfl,?_⟩;have eq2:(upd G kn (.lst (((V.int (g (YM ls i).1-g (YM ls i).2))::(dfs g ls (ZeQ ls (i+1) (ls.length-(i+1)))).map V.int).eraseIdx 0))) q=some (.lst (lhL g ls i)):=by rw[Zi (KG kq)];exact eq
    refine⟨q,_,_,rfl,rfl,eq2,(by rw[lq,k9];lia),?_⟩;refine⟨_,rfl,putq (putk sG),?_,?_⟩
    ·rw[Zi kq,Zc];rfl
    ·rw[Zc];unfold lhL;rw[KR,kQ];show some (HO.lst (_ ++ [V.int _]))=some (HO.lst (_ ++ [oI (hgA g ls i)]));have:hgA g ls i=some (g (YM ls i).1-g (YM ls i).2):=by unfold hgA;rw[kt];rfl
     rw[this];rfl
  ·rintro σ G ⟨v4,rfl,sG,ek,eq⟩;rw[hxl] at eq;exact⟨_,rfl,k q G sG fq eq⟩
def PtL (ps:QG):Prop:=∀(i:Nat)(x:Int),ps[i]? = some x -> ∃j:Nat,x=(j:Int)/\ps[j]? = some (i:Int)/\j≠i
def upB (k:Nat)(x:Int):Int:=if x>=(k:Int) then x+2 else x
def dnE (k:Nat)(x:Int):Int:=if x>(k:Int) then x-2 else x
def G8 (k:Nat)(x:Int):Int:=if x=(k:Int) then(k:Int)+1 else if x=(k:Int)+1 then(k:Int) else x
def Ua (ps:QG)(k:Nat):QG:=(ps.map (upB k)).take k ++ [(k:Int)+1,(k:Int)]++(ps.map (upB k)).drop k
def Zbw (ps:QG)(k:Nat):QG:=(ps.take k++ps.drop (k+2)).map (dnE k)
theorem Zey (ps:QG)(k:Nat):(Ua ps k).length=ps.length+2:=by unfold Ua;simp;lia
theorem Zgp {ps:QG}{k:Nat}(h:k+1<ps.length):(Zbw ps k).length+2=ps.length:=by unfold Zbw;simp;lia
theorem Zbg {ps:QG}{k:Nat}(hk:k<=ps.length)(i:Nat):(Ua ps k)[i]? = if i<k then ps[i]?.map (upB k) else if i=k then some ((k:Int)+1) else if i=k+1 then some (k:Int) else ps[i-2]?.map (upB k):=by
 unfold Ua;have l1:((ps.map (upB k)).take k).length=k:=by simp;lia
 by_cases h1:i<k
 ·rw[km h1,Kt,KJ (by lia),X0,km h1,kF]
 ·rw[ki h1,Kt,Ko (by lia),l1];by_cases h2:i=k
  ·rw[km h2,h2,TV];rfl
  ·rw[ki h2];by_cases h3:i=k+1
   ·rw[km h3,h3,show k+1-k=1 by lia];rfl
   ·rw[ki h3,Ko (by show 2<=_;lia),Xp,kF];congr 2;show k+(i-k-2)=i-2;lia
theorem PtL.born {ps:QG}{k:Nat}(h:PtL ps)(hk:k<=ps.length):PtL (Ua ps k):=by
 intro i x e;rw[Zbg hk] at e;have old:∀(i':Nat)(y:Int),ps[i']? = some y -> ∃j:Nat,upB k y=(j:Int)/\(Ua ps k)[j]? = some (upB k (i':Int))/\(j:Int)≠upB k (i':Int):=fun i' y e'=>by
  obtain⟨j,rfl,e2,ne⟩:=h i' y e';unfold upB;by_cases hj:k<=j
  ·refine⟨j+2,by rw[km (by lia)];rfl,?_,?_⟩
   ·rw[Zbg hk,ki (by lia),ki (by lia),ki (by lia),MY,e2];rfl
   ·split<;>lia
  ·refine⟨j,by rw[ki (by lia)],?_,?_⟩
   ·rw[Zbg hk,km (by lia),e2];rfl
   ·split<;>lia
 by_cases h1:i<k
 ·rw[km h1] at e;obtain⟨y,e',rfl⟩:=Ke.mp e;obtain⟨j,a,b,c⟩:=old i y e';have:upB k (i:Int)=(i:Int):=by unfold upB;rw[ki (by lia)]
  rw[this] at b c;exact⟨j,a,b,by lia⟩
 rw[ki h1] at e;by_cases h2:i=k
 ·rw[km h2] at e;injection e with e
  refine⟨k+1,by lia,?_,by lia⟩;rw[Zbg hk,ki (by lia),ki (by lia),km rfl,h2]
 rw[ki h2] at e;by_cases h3:i=k+1
 ·rw[km h3] at e;injection e with e
  refine⟨k,by lia,?_,by lia⟩;rw[Zbg hk,ki (by lia),km rfl,h3];rfl
 rw[ki h3] at e;obtain⟨y,e',rfl⟩:=Ke.mp e;obtain⟨j,a,b,c⟩:=old (i-2) y e';have:upB k ((i-2:Nat):Int)=(i:Int):=by unfold upB;rw[km (by lia)];lia
 rw[this] at b c;exact⟨j,a,b,by lia⟩
theorem Zf2 {ps:QG}{k:Nat}(hk:k+1<ps.length)(i:Nat):(Zbw ps k)[i]? = (if i<k then ps[i]? else ps[i+2]?).map (dnE k):=by
 unfold Zbw;rw[kF];congr 1;by_cases h1:i<k
 ·rw[km h1,KJ (by simp;lia),X0,km h1]
 ·rw[ki h1,Ko (by simp;lia),Xp];congr 1;simp;lia
theorem PtL.ended {ps:QG}{k:Nat}(h:PtL ps)(e0:ps[k]? = some ((k:Int)+1)):PtL (Zbw ps k):=by
 obtain⟨j0,j1,e1,_⟩:=h k _ e0;have:j0=k+1:=by lia
 subst this;have hk:k+1<ps.length:=(kz.mp e1).1;have old:∀(i':Nat)(y:Int),i'≠k->i'≠k+1->ps[i']? = some y -> ∃j:Nat,dnE k y=(j:Int)/\(Zbw ps k)[j]? = some (dnE k (i':Int))/\(j:Int)≠dnE k (i':Int):=fun i' y n1 n2 e'=>by
  obtain⟨j,rfl,e2,ne⟩:=h i' y e';have m1:j≠k:=fun z=>by subst z;rw[e0] at e2;injection e2;lia
  have m2:j≠k+1:=fun z=>by subst z;rw[e1] at e2;injection e2;lia
  unfold dnE;by_cases hj:k<j
  ·refine⟨j-2,by rw[km (by lia)];lia,?_,?_⟩
   ·rw[Zf2 hk,ki (by lia),show j-2+2=j by lia,e2];rfl
   ·split<;>lia
  ·refine⟨j,by rw[ki (by lia)],?_,?_⟩
   ·rw[Zf2 hk,km (by lia),e2];rfl
   ·split<;>lia
 intro i x e;rw[Zf2 hk] at e;obtain⟨y,e',rfl⟩:=Ke.mp e;by_cases h1:i<k
 ·rw[km h1] at e';obtain⟨j,a,b,c⟩:=old i y (by lia) (by lia) e';have:dnE k (i:Int)=(i:Int):=by unfold dnE;rw[ki (by lia)]
  rw[this] at b c;exact⟨j,a,b,by lia⟩
 ·rw[ki h1] at e';obtain⟨j,a,b,c⟩:=old (i+2) y (by lia) (by lia) e';have:dnE k ((i+2:Nat):Int)=(i:Int):=by unfold dnE;rw[km (by lia)];lia
  rw[this] at b c;exact⟨j,a,b,by lia⟩
def Zgg:Sp:=fun vs H Q _=>∃(v:V)(k:Nat)(ps:QG),vs = [v,.int k]/\Jx H v ps/\ps.length<=200 /\ ∀(v':V)(H':Hp),Zh H H'->Jx H' v' (Ua ps k)->Q v' H'
abbrev J4:Stmt:=top 27
theorem UN:Zy ["partners", "k", "moved"] ["partners", "k"] (Zj J4):={}
theorem Zne {f:Addr}{fd:FuncData}(F:Yx K "partners_born" "partners_born" J4 f fd)(J3:mg "tuple" = none):Yi P w K mg base Wx 1 f fd ["partners", "k"] Zgg:=by
 refine F.ok UN (fun vs H Q E h=>?_) (fun cdv A outer s H vs Q E hr h=>?_)
 ·obtain⟨v,k,ps,rfl,_⟩:=h;rfl
 ·obtain⟨v,k,ps,rfl,⟨a,rfl,ha⟩,hlen,q⟩:=h;refine⟨_,(Zd (Zp (i:=2) UN.nd rfl (.inl rfl) (Yc Uc (by rfl) J3 boot_tuple (Za (WA (Ls:=["one"]) (Fs:=["k"]) (fi:=[1]) (ZV.of (show Yv ["partners", "k", "moved"] (Zj J4) _ ["k"] [1]=true by decide +kernel)) rfl (Zj8 (K:=K) rfl (pv 0)) (fun cl C s3 H3 ex=>⟨(Zk (i:=0) (show ((["one"]:QP)++(["k"]:QP)).Nodup by decide +kernel) rfl (.inl rfl)),YE,(Zcr (Zu Zmi (pv 0) (pv 1) (Zs _)) (Zl ZD (pv 0) Ze) (pv 0))⟩)) Zb)))
   (Zg (Zw (Zl ZfU (Zl ZfU (Z7 (Zb3 (K:=K) rfl) (pv 2) Yy (ZW (pv 1))) (ZN (Za (Zl ZD (pv 1) Ze) (Za (pv 1) Zb)))) (Z7 (Zb3 (K:=K) rfl) (pv 2) (ZW (pv 1)) Yy))))),?_⟩
  refine⟨_,rfl,a,rfl,⟨_,Y9.of ha⟩,ZlU (K:=K) (a:=a) (xs:=ps.map V.int) (by rw[ke,k9];lia) (fun i zs G=>G=H/\zs=((ps.map (upB k)).take i).map V.int) ⟨rfl,rfl⟩ (fun i zs G x=>by rw[x.2,ke,kL];lia) (fun i zs G x=>by rw[x.1];exact Y9.of ha) (fun i y zs G hy x=>?_) (fun zs G x p hp=>?_)⟩
  ·obtain⟨rfl,rfl⟩:=x;obtain⟨n,hn,rfl⟩:∃n,ps[i]? = some n/\y=V.int n:=by
    rw[kF] at hy;obtain⟨n,h1,h2⟩:=Ke.mp hy;exact⟨n,h1,h2.symm⟩
   have hi:i<ps.length:=(kz.mp hn).1;have st:((ps.map (upB k)).take (i+1)).map V.int=((ps.map (upB k)).take i).map V.int ++ [V.int (upB k n)]:=by rw[Ki,kF,hn,kQ];rfl
   refine⟨_,rfl,_,rfl,_,_,rfl,rfl,_,rfl,ZX (fun c=>?_) (fun c=>?_)⟩
   ·refine⟨_,rfl,_,_,rfl,rfl,rfl,?_⟩;rw[st];unfold upB;rw[km (kG c)]
   ·refine⟨_,rfl,rfl,?_⟩;rw[st];unfold upB;rw[ki (fun z=>c (kE z))]
  ·obtain⟨rfl,rfl⟩:=x;rw[ke,kJ (by rw[ke];exact kj _)];refine lay2 (o:=.lst ((ps.map (upB k)).map V.int)) hp fun G1 s1 e1=>?_;refine⟨p,_,rfl,e1,fun m hm=>?_⟩;refine lay2 (o:=.tup ((ps.map (upB k)).map V.int)) hm fun G2 s2 e2=>?_;refine⟨_,rfl,_,rfl,_,rfl,ZlK ⟨m,rfl,e2⟩ fun v1 G3 s3 w1=>?_⟩;refine⟨_,rfl,_,_,rfl,rfl,_,rfl,sz2,fun t ht=>?_⟩;refine lay2 (o:=.tup [.int ((k:Int)+1),.int k]) ht fun G4 s4 e4=>?_;have wl:∀{G G':Hp}{v:V}{x:QG},Zh G G'->Jx G v x->Jx G' v x:=fun s ⟨b,e,h⟩=>⟨b,e,s _ _ h⟩;refine ZdR (b:=[(k:Int)+1,(k:Int)]) (wl s4 w1) ⟨t,rfl,e4⟩ (by rw[k9];simp;lia) fun v2 G5 s5 w2=>?_;refine⟨_,rfl,_,rfl,_,rfl,?_⟩;dsimp only[Zbj];refine Zlw rfl ⟨m,rfl,s5 _ _ (s4 _ _ (s3 _ _ e2))⟩ fun v3 G6 s6 w3=>?_;refine ZdR (wl s6 w2) w3 (by rw[k9];simp;lia) fun v4 G7 s7 w4=>?_;exact q v4 G7 ((((((s1.trans s2).trans s3).trans s4).trans s5).trans s6).trans s7) w4
def Zix:Sp:=fun vs H Q _=>∃(v:V)(k:Nat)(ps:QG),vs = [v,.int k]/\Jx H v ps/\ps.length<=200 /\ ∀(v':V)(H':Hp),Zh H H'->Jx H' v' (Zbw ps k)->Q v' H'
abbrev JG:Stmt:=top 28
theorem Ud:Zy ["partners", "k", "left"] ["partners", "k"] (Zj JG):={}
theorem ZoQ {f:Addr}{fd:FuncData}(F:Yx K "partners_ended" "partners_ended" JG f fd)(J3:mg "tuple" = none):Yi P w K mg base Wx 1 f fd ["partners", "k"] Zix:=by
 refine F.ok Ud (fun vs H Q E h=>?_) (fun cdv A outer s H vs Q E hr h=>?_)
 ·obtain⟨v,k,ps,rfl,_⟩:=h;rfl
 ·obtain⟨v,k,ps,rfl,wv,hlen,q⟩:=h;refine⟨_,(Zd (Zp (i:=2) Ud.nd rfl (.inl rfl) (Zl ZfU (Z7 (Zb3 (K:=K) rfl) (pv 0) Yy (ZW (pv 1))) (Z7 (Zb3 (K:=K) rfl) (pv 0) (ZW (Zl ZD (pv 1) Ze)) Yy)))
   (Zg (Zw (Yc Uc (by rfl) J3 boot_tuple (Za (WA (Ls:=["one"]) (Fs:=["k"]) (fi:=[1]) (ZV.of (show Yv ["partners", "k", "left"] (Zj JG) _ ["k"] [1]=true by decide +kernel)) rfl (Zj8 (K:=K) rfl (pv 2)) (fun cl C s3 H3 ex=>⟨(Zk (i:=0) (show ((["one"]:QP)++(["k"]:QP)).Nodup by decide +kernel) rfl (.inl rfl)),YE,(Zcr (Zu Zcu (pv 0) (pv 1) (Zs _)) (Zl Jd (pv 0) Ze) (pv 0))⟩)) Zb))))),?_⟩
  have wl:∀{G G':Hp}{v:V}{x:QG},Zh G G'->Jx G v x->Jx G' v x:=fun s ⟨b,e,h⟩=>⟨b,e,s _ _ h⟩;refine⟨_,rfl,_,rfl,_,rfl,?_⟩;dsimp only[Zbj];refine ZlK wv fun v1 G1 s1 w1=>?_;refine⟨_,rfl,_,rfl,_,_,rfl,rfl,_,rfl,?_⟩;dsimp only[Zbj];refine Zlw (k:=k+2) (by push_cast;rfl) (wl s1 wv) fun v2 G2 s2 w2=>?_;refine ZdR (wl s2 w1) w2 (by rw[k9];simp;lia) fun v3 G3 s3 ⟨a,ev3,ha⟩=>?_;subst ev3;obtain⟨L,eL⟩:∃L,ps.take k++ps.drop (k+2)=L:=⟨_,rfl⟩;have lL:L.length<=200:=by rw[<- eL];simp;lia
  rw[eL] at ha;refine⟨_,rfl,a,rfl,⟨_,Y9.of ha⟩,ZlU (K:=K) (a:=a) (xs:=L.map V.int) (by rw[ke,k9];lia) (fun i zs G=>G=G3/\zs=((L.map (dnE k)).take i).map V.int) ⟨rfl,rfl⟩ (fun i zs G x=>by rw[x.2,ke,kL];lia) (fun i zs G x=>by rw[x.1];exact Y9.of ha) (fun i y zs G hy x=>?_) (fun zs G x p hp=>?_)⟩
  ·obtain⟨rfl,rfl⟩:=x;obtain⟨n,hn,rfl⟩:∃n,L[i]? = some n/\y=V.int n:=by
    rw[kF] at hy;obtain⟨n,h1,h2⟩:=Ke.mp hy;exact⟨n,h1,h2.symm⟩
   have st:((L.map (dnE k)).take (i+1)).map V.int=((L.map (dnE k)).take i).map V.int ++ [V.int (dnE k n)]:=by rw[Ki,kF,hn,kQ];rfl
   refine⟨_,rfl,_,rfl,_,_,rfl,rfl,_,rfl,ZX (fun c=>?_) (fun c=>?_)⟩
   ·refine⟨_,rfl,_,_,rfl,rfl,rfl,?_⟩;rw[st];unfold dnE;rw[km (kG c)]
   ·refine⟨_,rfl,rfl,?_⟩;rw[st];unfold dnE;rw[ki (fun z=>c (kE z))]
  ·obtain⟨rfl,rfl⟩:=x;rw[ke,kJ (by rw[ke];exact kj _)];refine lay2 (o:=.lst ((L.map (dnE k)).map V.int)) hp fun G4 s4 e4=>?_;refine⟨p,_,rfl,e4,fun m hm=>?_⟩;refine lay2 (o:=.tup ((L.map (dnE k)).map V.int)) hm fun G5 s5 e5=>?_;refine q (.ref m) G5 ((((s1.trans s2).trans s3).trans s4).trans s5) ⟨m,rfl,?_⟩;rw[e5];unfold Zbw;rw[eL]
def JW (ps:QG)(k:Nat):QG:=((ps.map (G8 k)).set k ((ps.map (G8 k)).getD (k+1) 0)).set (k+1) ((ps.map (G8 k)).getD k 0)
structure ZcY (ps:QG)(k a b:Nat):Prop where
 pt:PtL ps
 ea:ps[k]? = some (a:Int)
 eb:ps[k+1]? = some (b:Int)
 ne:a≠k+1
theorem ZcY.facts {ps:QG}{k a b:Nat}(h:ZcY ps k a b):ps[a]? = some (k:Int)/\ps[b]? = some ((k:Int)+1)/\a≠k/\b≠k+1/\b≠k/\a≠b/\a<ps.length/\b<ps.length/\k+1<ps.length:=by
 obtain⟨j,e1,e2,n1⟩:=h.pt k _ h.ea;obtain⟨j',e3,e4,n2⟩:=h.pt (k+1) _ h.eb;have:j=a:=by lia
 subst this;have:j'=b:=by lia
 subst this;have nb:j'≠k:=fun z=>by
  subst z;rw[e2.symm.trans (by rfl)] at e2;have:=h.ea.symm.trans e4;injection this with this
  exact h.ne (by lia)
 have nab:j≠j':=fun z=>by
  subst z;have:=e2.symm.trans e4;injection this with this
  lia
 exact⟨e2,by rw[e4];rfl,n1,n2,nb,nab,(kz.mp e2).1,(kz.mp e4).1,(kz.mp h.eb).1⟩
theorem ZhI (ps:QG)(k:Nat):(JW ps k).length=ps.length:=by unfold JW;simp
theorem Ui {ps:QG}{k a b:Nat}(h:ZcY ps k a b)(i:Nat):(JW ps k)[i]? = if i=k+1 then some (a:Int) else if i=k then some (b:Int) else ps[i]?.map (G8 k):=by
 obtain⟨fa,fb,n1,n2,n3,n4,l1,l2,l3⟩:=h.facts;have ma:(ps.map (G8 k)).getD k 0=(a:Int):=by rw[Kh,kF,h.ea];show G8 k a=_;unfold G8;have:=h.ne;rw[ki (by lia),ki (by lia)]
 have mb:(ps.map (G8 k)).getD (k+1) 0=(b:Int):=by rw[Kh,kF,h.eb];show G8 k b=_;unfold G8;rw[ki (by lia),ki (by lia)]
 unfold JW;rw[ma,mb,qh,KY,ke,qh,ke,kF];by_cases h1:i=k+1
 ·rw[km h1,km h1.symm,km (by lia)]
 ·rw[ki h1,ki (KG h1)];by_cases h2:i=k
  ·rw[km h2,km h2.symm,km (by lia)]
  ·rw[ki h2,ki (KG h2)]
theorem ZcY.kept {ps:QG}{k a b:Nat}(h:ZcY ps k a b):PtL (JW ps k):=by
 obtain⟨fa,fb,n1,n2,n3,n4,l1,l2,l3⟩:=h.facts;have nn:=h.ne;intro i x e;rw[Ui h] at e;by_cases h1:i=k+1
 ·rw[km h1] at e;injection e with e
  refine⟨a,e.symm,?_,by lia⟩;rw[Ui h,ki (by lia),ki (by lia),fa,h1];show some (G8 k k)=_;unfold G8;rw[km rfl];rfl
 rw[ki h1] at e;by_cases h2:i=k
 ·rw[km h2] at e;injection e with e
  refine⟨b,e.symm,?_,by lia⟩;rw[Ui h,ki (by lia),ki (by lia),fb,h2];show some (G8 k ((k:Int)+1))=_;unfold G8;rw[ki (by lia),km rfl]
 rw[ki h2] at e;obtain⟨y,e',rfl⟩:=Ke.mp e;obtain⟨j,rfl,e2,n⟩:=h.pt i y e';unfold G8;by_cases c1:j=k
 ·subst c1;rw[km rfl];refine⟨j+1,by rfl,?_,by lia⟩;rw[Ui h,km rfl,<- h.ea,e2]
 by_cases c2:j=k+1
 ·subst c2;rw[ki (by lia),km (by rfl)];refine⟨k,by rfl,?_,by lia⟩;rw[Ui h,ki (by lia),km rfl,<- h.eb,e2]
 rw[ki (by lia),ki (by lia)];refine⟨j,rfl,?_,n⟩;rw[Ui h,ki c2,ki c1,e2];show some (G8 k i)=_;unfold G8;rw[ki (by lia),ki (by lia)]
theorem ZnE {ps:QG}{k a b:Nat}(h:ZcY ps k a b):(((ps.set k (b:Int)).set (k+1) (a:Int)).set b (k:Int)).set a ((k:Int)+1)=JW ps k:=by
 obtain⟨fa,fb,n1,n2,n3,n4,l1,l2,l3⟩:=h.facts;have nn:=h.ne;refine Nk fun i=>?_;rw[Ui h,qh,KY,KY,KY,qh,KY,KY,qh,KY,qh];by_cases c1:a=i
 ·subst c1;rw[km rfl,km l1,ki (by lia),ki (by lia),fa];show _=some (G8 k k);unfold G8;rw[km rfl]
 rw[ki c1];by_cases c2:b=i
 ·subst c2;rw[km rfl,km l2,ki (by lia),ki (by lia),fb];show _=some (G8 k ((k:Int)+1));unfold G8;rw[ki (by lia),km rfl]
 rw[ki c2];by_cases c3:i=k+1
 ·rw[km c3,km c3.symm,km l3]
 rw[ki c3,ki (KG c3)];by_cases c4:i=k
 ·rw[km c4,km c4.symm,km (by lia)]
 rw[ki c4,ki (KG c4)];cases e:ps[i]? with
 | none=>rfl
 | some y=>
  show _=some (G8 k y);obtain⟨j,rfl,e2,n⟩:=h.pt i y e;unfold G8;rw[ki (fun z=>?_),ki (fun z=>?_)]
  ·have:j=k+1:=by lia
   subst this;have:=e2.symm.trans h.eb;injection this with this
   lia
  ·have:j=k:=by lia
   subst this;have:=e2.symm.trans h.ea;injection this with this
   lia
abbrev Gk:Stmt:=top 29
theorem UC:Zy ["partners", "k", "row"] ["partners", "k"] (Zj Gk):={}
def ZgT:Sp:=fun vs H Q _=>∃(v:V)(k a b:Nat)(ps:QG),vs = [v,.int k]/\Jx H v ps/\ps.length<=200/\ZcY ps k a b /\ ∀(v':V)(H':Hp),Zh H H'->Jx H' v' (JW ps k)->Q v' H'
theorem Zlt {f:Addr}{fd:FuncData}(F:Yx K "partners_kept" "partners_kept" Gk f fd)(J3:mg "tuple" = none)(Z6:mg "list" = none):Yi P w K mg base Wx 1 f fd ["partners", "k"] ZgT:=by
 refine F.ok UC (fun vs H Q E h=>?_) (fun cdv A outer s H vs Q E hr h=>?_)
 ·obtain⟨v,k,a,b,ps,rfl,_⟩:=h;rfl
 ·obtain⟨v,k,a,b,ps,rfl,⟨pa,rfl,hpa⟩,hlen,tb,q⟩:=h;refine⟨_,(Zd (Zp (i:=2) UC.nd rfl (.inl rfl) (Yc (J8 (K:=K) rfl) (by rfl) Z6 Xw (Za (pv 0) Zb)))
   (Zd (YB (ZN (Za (Zx (Zn (K:=K) rfl) (pv 2) (Zl ZD (pv 1) Ze) (fun _ _=>rfl)) (Za (Zx (Zn (K:=K) rfl) (pv 2) (pv 1) (fun _ _=>rfl)) Zb))) (Z0 (K:=K) (n:=2) rfl rfl (Zm (YJ (pv 2) (pv 1) set_list) (Zm (YJ (pv 2) (Zl ZD (pv 1) Ze) set_list) ZO))))
   (Zd (YB (pv 1) (YJ (pv 2) (Zx (Zn (K:=K) rfl) (pv 2) (pv 1) (fun _ _=>rfl)) set_list))
   (Zd (YB (Zl ZD (pv 1) Ze) (YJ (pv 2) (Zx (Zn (K:=K) rfl) (pv 2) (Zl ZD (pv 1) Ze) (fun _ _=>rfl)) set_list))
   (Zg (Zw (Yc Uc (by rfl) J3 boot_tuple (Za (pv 2) Zb)))))))),?_⟩
  obtain⟨fa,fb,n1,n2,n3,n4,l1,l2,l3⟩:=tb.facts;have nn:=tb.ne;refine⟨_,rfl,pa,_,rfl,.inr (Y9.of hpa),fun l hl=>?_⟩;refine lay2 (o:=.lst (ps.map V.int)) hl fun G1 s1 e1=>?_;have g1:(ps.map V.int)[k+1]? = some (V.int b):=by rw[kF,tb.eb];rfl
  have g0:(ps.map V.int)[k]? = some (V.int a):=by rw[kF,tb.ea];rfl
  have kc:(k:Int)+1=((k+1:Nat):Int):=by push_cast;rfl
  refine⟨_,rfl,_,rfl,_,_,rfl,rfl,l,_,_,_,rfl,rfl,Zt.of e1,(by rw[kc];exact Zo g1),_,rfl,_,rfl,l,_,_,_,rfl,rfl,Zt.of e1,Zo g0,sz2,fun t ht=>?_⟩;refine lay2 (o:=.tup [.int b,.int a]) ht fun G2 s2 e2=>?_;have ntl:t≠l:=Zf e1 ht |>.symm;have sl2:=s2 _ _ e1;have put:∀{G:Hp}{o:HO},Zh H G->Zh H (upd G l o):=fun s c o e=>by rw[Zi (Zf e hl)];exact s c o e
  have sH2:=s1.trans s2;generalize eX1:(ps.map V.int).set k (V.int b)=X1;generalize eX2:X1.set (k+1) (V.int a)=X2;generalize eX3:X2.set b (V.int k)=X3;generalize eX4:X3.set a (V.int ((k:Int)+1))=X4;have m0:(ps.map V.int).length=ps.length:=ke ..;have m1:X1.length=ps.length:=by rw[<- eX1,KY,m0]
  have m2:X2.length=ps.length:=by rw[<- eX2,KY,m1]
  have m3:X3.length=ps.length:=by rw[<- eX3,KY,m2]
  have i2:X2[k]? = some (V.int b):=by rw[<- eX2,qh,ki (by lia),<- eX1,qh,km rfl,km (by lia)]
  have i3:X3[k+1]? = some (V.int a):=by rw[<- eX3,qh,ki (by lia),<- eX2,qh,km rfl,km (by lia)]
  have x4:X4=(JW ps k).map V.int:=by rw[<- ZnE tb,<- eX4,<- eX3,<- eX2,<- eX1,qW,qW,qW,qW]
  refine⟨t,_,rfl,Y9.of e2,rfl,_,_,rfl,_,rfl,_,rfl,l,_,_,k,rfl,rfl,sl2,Jg (by lia),?_⟩;rw[eX1];refine⟨_,_,rfl,_,rfl,_,rfl,_,_,rfl,rfl,l,_,_,k+1,rfl,rfl,Zc,(by rw[kc];exact Jg (by lia)),?_⟩;rw[eX2,JM];refine⟨rfl,_,rfl,_,rfl,_,rfl,_,rfl,l,_,_,_,rfl,rfl,Zt.of Zc,Zo i2,l,_,_,b,rfl,rfl,Zc,Jg (by lia),?_⟩;rw[eX3,JM];refine⟨_,rfl,_,_,rfl,rfl,_,rfl,_,rfl,_,rfl,_,_,rfl,rfl,l,_,_,_,rfl,rfl,Zt.of Zc,(by rw[kc];exact Zo i3),l,_,_,a,rfl,rfl,Zc,Jg (by lia),?_⟩;rw[eX4,JM];refine⟨_,rfl,l,_,rfl,Zc,fun m hm=>?_⟩;exact q (.ref m) _ ((put sH2).trans (Zh.laid hm)) ⟨m,rfl,by rw[Zc,x4]⟩
theorem Zpf {x y:Nat}{l:QG}(p:l.Perm [(x:Int),(y:Int)])(s:l.Pairwise (· <= ·)):l = [((min x y:Nat):Int),((max x y:Nat):Int)]:=by
 refine ZbU (p.trans ?_) s (by simp;lia);rcases Nat.le_total x y with h | h
 ·rw[qf h,qo h]
 ·rw[K9 h,qv h];exact List.Perm.swap ..
theorem ZjX {α:Type}{a b x y:α}(h:[a,b].Perm [x,y]):(a=x/\b=y)∨(a=y/\b=x):=by
 have h1:a ∈ [x,y]:=h.mem_iff.mp kS;rcases kO.mp h1 with e | e
 ·subst e;have:=M0 h;exact .inl ⟨rfl,TJ.mp this⟩
 ·have e:=kT.mp e;subst e;have:=M0 (h.trans (List.Perm.swap ..));exact .inr ⟨rfl,TJ.mp this⟩
def Gy (k a b:Nat):Bool:=(decide (min k a<min (k+1) b)&&decide (min (k+1) b<max k a)&&decide (max k a<max (k+1) b))||(decide (min (k+1) b<min k a)&&decide (min k a<max (k+1) b)&&decide (max (k+1) b<max k a))
def Zij:Sp:=fun vs H Q _=>∃(v:V)(k a b:Nat)(ps:QG),vs = [v,.int k]/\Jx H v ps/\ps.length<=200/\ZcY ps k a b /\ ∀(H':Hp),Zh H H'->Q (.bl (Gy k a b)) H'
abbrev Zad:Stmt:=top 30
theorem Uo:Zy ["partners", "k", "first", "second"] ["partners", "k"] (Zj Zad):={}
theorem Zor {f:Addr}{fd:FuncData}(F:Yx K "is_tangled" "is_tangled" Zad f fd)(YX:mg "sorted" = none):Yi P w K mg base Wx 1 f fd ["partners", "k"] Zij:=by
 refine F.ok Uo (fun vs H Q E h=>?_) (fun cdv A outer s H vs Q E hr h=>?_)
 ·obtain⟨v,k,a,b,ps,rfl,_⟩:=h;rfl
 ·obtain⟨v,k,a,b,ps,rfl,⟨pa,rfl,hpa⟩,hlen,tb,q⟩:=h;refine⟨_,(Zd (YB (Zv (ZaP (K:=K) rfl hr.units) (by rfl) YX TH (Za (Zz (Za (Zv (Zb9 (K:=K) rfl) (by rfl) YX TH (Za (Zz (Za (pv 1) (Za (Zx (Yp (K:=K) rfl) (pv 0) (pv 1) (fun _ _=>rfl)) Zb))) Zb)) (Za (Zv (Zb9 (K:=K) rfl) (by rfl) YX TH (Za (Zz (Za (Zl ZD (pv 1) Ze) (Za (Zx (Yp (K:=K) rfl) (pv 0) (Zl ZD (pv 1) Ze) (fun _ _=>rfl)) Zb))) Zb)) Zb))) Zb)) (ZdI (K:=K) (n:=2) rfl rfl (Zm (Zk (i:=2) Uo.nd rfl (.inl rfl)) (Zm (Zk (i:=3) Uo.nd rfl (.inl rfl)) ZO))))
   (Zg (Zw (Zhc Ws Ws (Zx (Zn (K:=K) rfl) (pv 3) Ze (fun _ _=>rfl)) (Zx (Zn (K:=K) rfl) (pv 2) Ze (fun _ _=>rfl)) (Zx (Zn (K:=K) rfl) (pv 3) Ze (fun _ _=>rfl)))))),?_⟩
  obtain⟨fa,fb,n1,n2,n3,n4,l1,l2,l3⟩:=tb.facts;have nn:=tb.ne;have g1:(ps.map V.int)[k+1]? = some (V.int b):=by rw[kF,tb.eb];rfl
  have g0:(ps.map V.int)[k]? = some (V.int a):=by rw[kF,tb.ea];rfl
  have kc:(k:Int)+1=((k+1:Nat):Int):=by push_cast;rfl
  refine⟨_,rfl,_,rfl,_,rfl,pa,_,_,_,rfl,rfl,Y9.of hpa,Zo g0,sz2,fun d1 hd1=>?_⟩;refine lay2 (o:=.lst [.int k,.int a]) hd1 fun G1 s1 e1=>?_;refine⟨d1,[(k:Int),(a:Int)],rfl,Zt.of e1,(by show 2<64;decide),fun r1 ns1 hr1 p1 o1=>?_⟩;have:=Zpf p1 o1;subst this;refine lay2 (o:=.lst ([((min k a:Nat):Int),((max k a:Nat):Int)].map V.int)) hr1 fun G2 s2 e2=>?_;refine⟨_,rfl,_,_,rfl,rfl,_,rfl,_,rfl,_,_,rfl,rfl,pa,_,_,_,rfl,rfl,Y9.of (s2 _ _ (s1 _ _ hpa)),(by rw[kc];exact Zo g1),sz2,fun d2 hd2=>?_⟩;refine lay2 (o:=.lst [.int ((k:Int)+1),.int b]) hd2 fun G3 s3 e3=>?_;refine⟨d2,[((k+1:Nat):Int),(b:Int)],rfl,Zt.of (by rw[e3,kc];rfl),(by show 2<64;decide),fun r2 ns2 hr2 p2 o2=>?_⟩;have:=Zpf p2 o2;subst this;refine lay2 (o:=.lst ([((min (k+1) b:Nat):Int),((max (k+1) b:Nat):Int)].map V.int)) hr2 fun G4 s4 e4=>?_;refine⟨sz2,fun d3 hd3=>?_⟩;refine lay2 (o:=.lst [.ref r1,.ref r2]) hd3 fun G5 s5 e5=>?_;refine⟨d3,_,[_,_],rfl,Zt.of e5,.cons ⟨r1,rfl,s5 _ _ (s4 _ _ (s3 _ _ e2))⟩ (.cons ⟨r2,rfl,s5 _ _ e4⟩ .nil),(by show 2<64;decide),fun l zs vs fl pz pv lr rise=>?_⟩;have lz:=pz.length_eq;have lv:=pv.length_eq
  match zs,vs,lz,lv,pv,lr,rise with
  | [z1,z2],[v1,v2],_,_,pv,.cons ⟨c1,ez1,hc1⟩ (.cons ⟨c2,ez2,hc2⟩ .nil),rise=>
  subst ez1 ez2;refine lay2 (o:=.lst [.ref c1,.ref c2]) fl fun G6 s6 e6=>?_;have hc1:=s6 _ _ hc1;have hc2:=s6 _ _ hc2;have sH:=((((s1.trans s2).trans s3).trans s4).trans s5).trans s6;have lx:lexLt v2 v1=false:=by have:=qB.mp rise;exact this.1 _ kS
  refine⟨l,_,rfl,Zt.of e6,rfl,_,_,rfl,_,_,rfl,rfl,?_⟩;rcases ZjX pv with⟨e,e'⟩ | ⟨e,e'⟩<;>subst e e'
  ·have dn:(min k a)≠(min (k+1) b):=by lia
   have lo:min k a<min (k+1) b:=by rw[L2.lexLt,ki (by lia)] at lx;have:=M3 lx;lia
   refine⟨_,rfl,c2,_,_,_,rfl,rfl,Zt.of hc2,Zo (j:=0) rfl,_,rfl,c1,_,_,_,rfl,rfl,Zt.of hc1,Zo (j:=1) rfl,_,_,rfl,rfl,_,rfl,ZX (fun c=>?_) (fun c=>?_)⟩
   ·refine⟨_,rfl,c2,_,_,_,rfl,rfl,Zt.of hc2,Zo (j:=1) rfl,_,_,rfl,rfl,?_⟩;have e:Gy k a b=decide (((max k a:Nat):Int)<((max (k+1) b:Nat):Int)):=by
     have c:=kG c;rw[qT,Ku];unfold Gy;simp only[Xr,Kj,Ku];lia
    have q':=q _ sH;rw[e] at q';exact q'
   ·have e:Gy k a b=false:=by
     have c:¬_:=fun z=>c (kE z);rw[Bool.eq_false_iff];unfold Gy;simp only[Xr,Kj,Ku,ne_eq];lia
    rw[e] at q;exact q _ sH
  ·have dn:(min k a)≠(min (k+1) b):=by lia
   have lo:min (k+1) b<min k a:=by rw[L2.lexLt,ki (by lia)] at lx;have:=M3 lx;lia
   refine⟨_,rfl,c2,_,_,_,rfl,rfl,Zt.of hc2,Zo (j:=0) rfl,_,rfl,c1,_,_,_,rfl,rfl,Zt.of hc1,Zo (j:=1) rfl,_,_,rfl,rfl,_,rfl,ZX (fun c=>?_) (fun c=>?_)⟩
   ·refine⟨_,rfl,c2,_,_,_,rfl,rfl,Zt.of hc2,Zo (j:=1) rfl,_,_,rfl,rfl,?_⟩;have e:Gy k a b=decide (((max (k+1) b:Nat):Int)<((max k a:Nat):Int)):=by
     have c:=kG c;rw[qT,Ku];unfold Gy;simp only[Xr,Kj,Ku];lia
    have q':=q _ sH;rw[e] at q';exact q'
   ·have e:Gy k a b=false:=by
     have c:¬_:=fun z=>c (kE z);rw[Bool.eq_false_iff];unfold Gy;simp only[Xr,Kj,Ku,ne_eq];lia
    rw[e] at q;exact q _ sH
def ZsN (H:Hp)(v:V)(r:QG×Bool):Prop:=∃(t:Addr)(x:V),v = .ref t/\H t=some (.tup [x,.bl r.2])/\Jx H x r.1
def UL (ps:QG)(q:Str×Int)(h:QW):List (QG×Bool):=
 if q.1 = "born" then[(Ua ps q.2.toNat,false)]
 else if decide (ps.getD q.2.toNat 0=q.2+1) != decide (q.1 = "end") then[]
 else if q.1 = "end" then[(Zbw ps q.2.toNat,false)]
 else(JW ps q.2.toNat,false)::(if h=some 0/\Gy q.2.toNat (ps.getD q.2.toNat 0).toNat (ps.getD (q.2.toNat+1) 0).toNat=false then[(ps,true)] else[])
def Ziw:Sp:=fun vs H Q _=>∃(v:V)(t:Addr)(q:Str×Int)(h:QW)(ps:QG),vs = [v,.ref t,oI h]/\Jx H v ps/\H t=some (.tup [.str q.1,.int q.2])/\ps.length<=200/\PtL ps/\0<=q.2 /\
 (q.1 ≠ "born" -> q.2+1<ps.length)/\((q.1 = "cross")->h≠none)/\(q.1 = "born" ∨ q.1 = "end" ∨ q.1 = "cross") /\ ∀(p:Addr)(xs:QH)(H':Hp),Zh H H'->H' p=some (.lst xs)->Paired (ZsN H') xs (UL ps q h)->Q (.ref p) H'
abbrev ZcX:Stmt:=top 31
theorem Zag:Zy ["partners", "letter", "height", "kind", "k", "found"] ["partners", "letter", "height"] (Zj ZcX):={}
theorem ZnS {f:Addr}{fd:FuncData}(F:Yx K "ways_on" "ways_on" ZcX f fd)(Gh:Yq P w K mg base 1 "partners_born" ["partners", "k"] Zgg)(WC:Yq P w K mg base 1 "partners_ended" ["partners", "k"] Zix)(Gp:Yq P w K mg base 1 "partners_kept" ["partners", "k"] ZgT)(Zah:Yq P w K mg base 1 "is_tangled" ["partners", "k"] Zij):Yi P w K mg base Wx 2 f fd ["partners", "letter", "height"] Ziw:=by
 refine F.ok Zag (fun vs H Q E h=>?_) (fun cdv A outer s H vs Q E hr h=>?_)
 ·obtain⟨v,t,q,h,ps,rfl,_⟩:=h;rfl
 ·obtain⟨v,t,q,h,ps,rfl,wv,ht,hlen,pt,k0,hk,hh,hq,k⟩:=h;refine⟨_,(Zd (YB (pv 1) (Z0 (K:=K) (n:=2) rfl rfl (Zm (Zk (i:=3) Zag.nd rfl (.inl rfl)) (Zm (Zk (i:=4) Zag.nd rfl (.inl rfl)) ZO))))
   (Zd (ZQ (Zu Yo (pv 3) ZI (Zs _)) (Zg (Zw (Zz (Za (ZN (Za (Zq Gh hr (Za (pv 0) (Za (pv 4) Zb))) (Za Gs Zb))) Zb)))) ZG)
   (Zd (ZQ (Zu Zck (Yl Yo (Zx (Yp (K:=K) rfl) (pv 0) (pv 4) (fun _ _=>rfl)) (Zl ZD (pv 4) Ze) (Zs _)) (Yl Yo (pv 3) ZI (Zs _)) (Zs _)) (Zg (Zw (Zz Zb))) ZG)
   (Zd (ZQ (Zu Yo (pv 3) ZI (Zs _)) (Zg (Zw (Zz (Za (ZN (Za (Zq WC hr (Za (pv 0) (Za (pv 4) Zb))) (Za Gs Zb))) Zb)))) ZG)
   (Zd (Zp (i:=5) Zag.nd rfl (.inl rfl) (Zz (Za (ZN (Za (Zq Gp hr (Za (pv 0) (Za (pv 4) Zb))) (Za Gs Zb))) Zb)))
   (Zd (ZQ (PW.pt (Ur (Zu Yo (pv 2) Ze (Zs _)) (UT (Gj (Ww (Zq Zah hr (Za (pv 0) (Za (pv 4) Zb)))))))) (Zg (Z8 (Yf (K:=K) rfl (YC kK kW kX ZP (pv 5) (Za (ZN (Za (pv 0) (Za Gs Zb))) Zb))))) ZG)
   (Zg (Zw (pv 5))))))))),?_⟩
  obtain⟨kd,kk⟩:=q;obtain⟨pa,rfl,hpa⟩:=wv;dsimp only at ht k0 hk hh hq k;obtain⟨n,rfl⟩:=kI k0;have wv:Jx H (.ref pa) ps:=⟨pa,rfl,hpa⟩;refine⟨_,rfl,t,_,rfl,Y9.of ht,rfl,_,_,rfl,_,_,rfl,rfl,?_⟩;refine⟨_,rfl,rfl,_,rfl,ZX (fun hb=>?_) (fun hb=>?_)⟩
  ·have eb:kd = "born" := by
    have:=kG hb;injection this
   refine⟨_,rfl,_,rfl,_,n,ps,rfl,wv,hlen,fun v1 H1 s1 w1=>⟨sz2,fun t1 f1=>?_⟩⟩;refine lay2 (o:=.tup [v1,.bl false]) f1 fun H2 s2 e2=>?_;refine⟨sz1,fun p fp=>?_⟩;refine lay2 (o:=.lst [.ref t1]) fp fun H3 s3 e3=>?_;refine k p _ H3 ((s1.trans s2).trans s3) e3 ?_;obtain⟨c,rfl,hc⟩:=w1;unfold UL;rw[km eb];exact .cons ⟨t1,_,rfl,s3 _ _ e2,c,rfl,s3 _ _ (s2 _ _ hc)⟩ .nil
  have nb:kd ≠ "born" := fun z=>hb (by rw[z];exact kE rfl);have hk:=hk nb;obtain⟨x,hx⟩:∃x,ps[n]? = some x:=⟨_,ko (by lia)⟩;obtain⟨a,rfl,ea,na⟩:=pt n x hx;obtain⟨y,hy⟩:∃y,ps[n+1]? = some y:=⟨_,ko (by lia)⟩;obtain⟨b,rfl,eb,nb'⟩:=pt (n+1) y hy;have g0:(ps.map V.int)[n]? = some (V.int a):=by rw[kF,hx];rfl
  have gd:ps.getD n 0=(a:Int):=by rw[Kh,hx];rfl
  have gd1:ps.getD (n+1) 0=(b:Int):=by rw[Kh,hy];rfl
  have hq:kd = "end" ∨ kd = "cross" := hq.resolve_left nb;have key:((!decide (V.bl (decide (V.int a=V.int ((n:Int)+1)))=V.bl (decide (V.str kd=V.str "end"))))=true) ↔ ((decide ((a:Int)=(n:Int)+1) != decide (kd = "end"))=true):=by simp only[V.int.injEq,V.str.injEq,V.bl.injEq];by_cases A:(a:Int)=(n:Int)+1<;>by_cases B:kd = "end" <;> simp[A,B]
  refine⟨_,rfl,_,rfl,pa,_,_,_,rfl,rfl,Y9.of hpa,Zo g0,_,rfl,_,_,rfl,rfl,rfl,_,rfl,rfl,rfl,_,rfl,ZX (fun c=>?_) (fun c=>?_)⟩
  ·refine⟨sz0,fun p fp=>?_⟩;refine k p _ _ (Zh.laid fp) Zc ?_;have:UL ps (kd,(n:Int)) h = []:=by
    unfold UL;dsimp only;rw[ki nb,kM,gd,km (key.mp c)]
   rw[this];exact .nil
  have c:¬((decide ((a:Int)=(n:Int)+1) != decide (kd = "end"))=true):=fun z=>c (key.mpr z);have c':(a=n+1 ↔ kd = "end"):=by by_cases A:(a:Int)=(n:Int)+1<;>by_cases B:kd = "end" <;> simp[A,B] at c ⊢<;>lia
  refine⟨_,rfl,rfl,_,rfl,ZX (fun he=>?_) (fun he=>?_)⟩
  ·have ee:kd = "end" := by
    have:=kG he;injection this
   refine⟨_,rfl,_,rfl,_,n,ps,rfl,wv,hlen,fun v1 H1 s1 w1=>⟨sz2,fun t1 f1=>?_⟩⟩;refine lay2 (o:=.tup [v1,.bl false]) f1 fun H2 s2 e2=>?_;refine⟨sz1,fun p fp=>?_⟩;refine lay2 (o:=.lst [.ref t1]) fp fun H3 s3 e3=>?_;refine k p _ H3 ((s1.trans s2).trans s3) e3 ?_;obtain⟨c1,rfl,hc⟩:=w1;have:UL ps (kd,(n:Int)) h = [(Zbw ps n,false)]:=by unfold UL;dsimp only;rw[ki nb,kM,gd,ki c,km ee]
   rw[this];exact .cons ⟨t1,_,rfl,s3 _ _ e2,c1,rfl,s3 _ _ (s2 _ _ hc)⟩ .nil
  have ne:kd ≠ "end" := fun z=>he (by rw[z];exact kE rfl);have ec:kd = "cross" := hq.resolve_left ne;have tb:ZcY ps n a b:=⟨pt,hx,hy,fun z=>ne (c'.mp z)⟩;obtain⟨hh0,rfl⟩:∃i,h=some i:=by
   cases h with
   | none=>exact absurd rfl (hh ec)
   | some i=>exact⟨i,rfl⟩
  have wy:UL ps (kd,(n:Int)) (some hh0)=(JW ps n,false)::(if hh0=0/\Gy n a b=false then[(ps,true)] else[]):=by unfold UL;dsimp only;rw[ki nb,kM,gd,gd1,kM,kM,ki c,ki ne];simp
  rw[wy] at k;refine⟨_,rfl,_,rfl,_,n,a,b,ps,rfl,wv,hlen,tb,fun v1 H1 s1 ⟨c1,ev1,hc⟩=>⟨sz2,fun t1 f1=>?_⟩⟩;subst ev1;refine lay2 (o:=.tup [.ref c1,.bl false]) f1 fun H2 s2 e2=>?_;refine⟨sz1,fun p fp=>?_⟩;refine lay2 (o:=.lst [.ref t1]) fp fun H3 s3 e3=>?_;have s03:=(s1.trans s2).trans s3;have fpH:H p=none:=(s1.trans s2).free fp;have hc3:=s3 _ _ (s2 _ _ hc);have e23:=s3 _ _ e2;have one:∀{G:Hp},Zh H3 G->(¬(hh0=0/\Gy n a b=false))->Q (.ref p) G:=fun sG no=>by refine k p _ _ (s03.trans sG) (sG _ _ e3) ?_;rw[ki no];exact .cons ⟨t1,_,rfl,sG _ _ e23,c1,rfl,sG _ _ hc3⟩ .nil
  refine⟨_,rfl,rfl,_,rfl,ZX (fun h0=>?_) (fun h0=>?_)⟩
  ·have h0:hh0=0:=by
    have:=kG h0;injection this
   refine⟨_,rfl,_,rfl,_,n,a,b,ps,rfl,⟨pa,rfl,s03 _ _ hpa⟩,hlen,tb,fun H4 s4=>⟨_,rfl,ZX (fun tt=>?_) (fun tt=>?_)⟩⟩
   ·have tf:Gy n a b=false:=by simpa using tt
    have e34:=s4 _ _ e3;refine⟨_,rfl,.inl ⟨rfl,_,Zt.of e34⟩,_,rfl,sz2,fun t2 f2=>?_⟩;refine lay2 (o:=.tup [.ref pa,.bl true]) f2 fun H5 s5 e5=>?_;refine⟨p,_,_,rfl,rfl,s5 _ _ e34,(by show 1<sizeLine;decide),?_⟩;have sH5:Zh H H5:=(s03.trans s4).trans s5;have put:Zh H (upd H5 p (.lst ([.ref t1] ++ [.ref t2]))):=fun c o e=>by rw[Zi (Zf e fpH)];exact sH5 c o e
    have n1:t1≠p:=fun z=>by rw[z] at e2;rw[e2] at fp;cases fp
    have n2:t2≠p:=fun z=>by rw[z,e34] at f2;cases f2
    have n3:c1≠p:=fun z=>by rw[z] at hc;rw[s2 _ _ hc] at fp;cases fp
    have n4:pa≠p:=fun z=>by rw[z,fpH] at hpa;cases hpa
    refine⟨_,rfl,k p _ _ put Zc ?_⟩;rw[km ⟨h0,tf⟩];refine .cons ⟨t1,_,rfl,?_,c1,rfl,?_⟩ (.cons ⟨t2,_,rfl,?_,pa,rfl,?_⟩ .nil)
    ·rw[Zi n1];exact s5 _ _ (s4 _ _ e23)
    ·rw[Zi n3];exact s5 _ _ (s4 _ _ hc3)
    ·rw[Zi n2];exact e5
    ·rw[Zi n4];exact sH5 _ _ hpa
   ·exact⟨_,rfl,one s4 fun z=>tt (by rw[z.2];rfl)⟩
  ·exact YZ ⟨_,rfl,one (Zh.refl _) fun z=>h0 (by rw[z.1];rfl)⟩
def Wg (ps:QG)(q:Str×Int):Option QG:=
 if q.1 = "born" then some (Ua ps q.2.toNat)
 else if decide (ps.getD q.2.toNat 0=q.2+1) != decide (q.1 = "end") then none
 else if q.1 = "end" then some (Zbw ps q.2.toNat)
 else some (JW ps q.2.toNat)
def ZdK:Sp:=fun vs H Q _=>∃(l:Addr)(k a b:Nat)(ps:QG),vs = [.ref l,.int k]/\H l=some (.lst (ps.map V.int))/\ps.length<=200/\ZcY ps k a b/\Q (.bl (!Gy k a b)) H
abbrev Gr:Stmt:=top 51
theorem WB:Zy ["_law_partners", "_law_k", "_law_low", "_law_high", "_law_there", "_law_far"] ["_law_partners", "_law_k"] (Zj Gr):={}
theorem Zli {f:Addr}{fd:FuncData}(F:Yx K "_law_is_apart" "_law_is_apart" Gr f fd)(ZbE:mg "min" = none)(Ga:mg "max" = none):Yi P w K mg base Wx 1 f fd ["_law_partners", "_law_k"] ZdK:=by
 refine F.ok WB (fun vs H Q E h=>?_) (fun cdv A outer s H vs Q E hr h=>?_)
 ·obtain⟨l,k,a,b,ps,rfl,_⟩:=h;rfl
 ·obtain⟨l,k,a,b,ps,rfl,hl,hlen,tb,q⟩:=h;refine⟨_,(Zd (Zm3 (i:=2) (j:=3) rfl WB.nd rfl rfl (by decide) (by rfl) (by rfl) (Za (Zv (Zbp rfl) (by rfl) ZbE boot_min (Za (pv 1) (Za (Zx (Zn (K:=K) rfl) (pv 0) (pv 1) (fun _ _=>rfl)) Zb))) (Za (Zv (WE rfl) (by rfl) Ga NK (Za (pv 1) (Za (Zx (Zn (K:=K) rfl) (pv 0) (pv 1) (fun _ _=>rfl)) Zb))) Zb)) (by rfl))
   (Zd (Zm3 (i:=4) (j:=5) rfl WB.nd rfl rfl (by decide) (by rfl) (by rfl) (Za (Zv (Zbp rfl) (by rfl) ZbE boot_min (Za (Zl ZD (pv 1) Ze) (Za (Zx (Zn (K:=K) rfl) (pv 0) (Zl ZD (pv 1) Ze) (fun _ _=>rfl)) Zb))) (Za (Zv (WE rfl) (by rfl) Ga NK (Za (Zl ZD (pv 1) Ze) (Za (Zx (Zn (K:=K) rfl) (pv 0) (Zl ZD (pv 1) Ze) (fun _ _=>rfl)) Zb))) Zb)) (by rfl))
   (Zg (Zw (Zji (Yl Ws (pv 3) (pv 4) (Zs _)) (Zji (Yl Ws (pv 5) (pv 2) (Zs _)) (Zji (ZcS (Yl Ws (pv 2) (pv 4) (Zs _)) (ZaK (Yl Ws (pv 5) (pv 3) (Zs _)))) (ZaK (ZcS (Yl Ws (pv 4) (pv 2) (Zs _)) (ZaK (Yl Ws (pv 3) (pv 5) (Zs _)))))))))))),?_⟩
  obtain⟨fa,fb,n1,n2,n3,n4,l1,l2,l3⟩:=tb.facts;have nn:=tb.ne;have g1:(ps.map V.int)[k+1]? = some (V.int b):=by rw[kF,tb.eb];rfl
  have g0:(ps.map V.int)[k]? = some (V.int a):=by rw[kF,tb.ea];rfl
  have kc:(k:Int)+1=((k+1:Nat):Int):=by push_cast;rfl
  refine⟨_,rfl,_,rfl,_,rfl,l,_,_,_,rfl,rfl,Zt.of hl,Zo g0,_,_,rfl,_,rfl,_,rfl,_,rfl,l,_,_,_,rfl,rfl,Zt.of hl,Zo g0,_,_,rfl,_,_,rfl,?_⟩;refine⟨_,rfl,_,_,rfl,rfl,_,rfl,_,rfl,_,_,rfl,rfl,l,_,_,_,rfl,rfl,Zt.of hl,(by rw[kc];exact Zo g1),_,_,rfl,_,rfl,_,_,rfl,rfl,_,rfl,_,rfl,_,_,rfl,rfl,l,_,_,_,rfl,rfl,Zt.of hl,(by rw[kc];exact Zo g1),_,_,rfl,_,_,rfl,?_⟩;obtain⟨lo,elo⟩:∃lo:Int,(if (a:Int)<(k:Int) then(a:Int) else k)=lo:=⟨_,rfl⟩;obtain⟨hi,ehi⟩:∃hi:Int,(if (a:Int)>(k:Int) then(a:Int) else k)=hi:=⟨_,rfl⟩;obtain⟨th,eth⟩:∃th:Int,(if (b:Int)<(k:Int)+1 then(b:Int) else(k:Int)+1)=th:=⟨_,rfl⟩;obtain⟨fr,efr⟩:∃fr:Int,(if (b:Int)>(k:Int)+1 then(b:Int) else(k:Int)+1)=fr:=⟨_,rfl⟩;rw[elo,ehi,eth,efr];have f1:lo=((min k a:Nat):Int):=by rw[<- elo];split<;>lia
  have f2:hi=((max k a:Nat):Int):=by rw[<- ehi];split<;>lia
  have f3:th=((min (k+1) b:Nat):Int):=by rw[<- eth];split<;>lia
  have f4:fr=((max (k+1) b:Nat):Int):=by rw[<- efr];split<;>lia
  have res:∀x:Bool,(x=true ↔ ¬Gy k a b=true)->Q (.bl x) H:=fun x hx=>by
   have:x = !Gy k a b:=by cases x<;>cases h:Gy k a b<;>simp[h] at hx ⊢
   rw[this];exact q
  have tg:Gy k a b=true ↔ (lo<th/\th<hi/\hi<fr)∨(th<lo/\lo<fr/\fr<hi):=by unfold Gy;simp only[Xr,Kj,Ku];lia
  refine⟨_,rfl,_,rfl,_,_,rfl,rfl,_,rfl,ZX (fun c1=>?_) (fun c1=>?_)⟩
  ·have c1:=kG c1;exact res true (by rw[tg];simp;lia)
  have c1:¬hi<th:=fun z=>c1 (kE z);refine⟨_,rfl,_,rfl,_,_,rfl,rfl,_,rfl,ZX (fun c2=>?_) (fun c2=>?_)⟩
  ·have c2:=kG c2;exact res true (by rw[tg];simp;lia)
  have c2:¬fr<lo:=fun z=>c2 (kE z);refine⟨_,rfl,_,rfl,_,_,rfl,rfl,_,rfl,ZX (fun c3=>?_) (fun c3=>?_)⟩
  ·have c3:=kG c3;refine⟨_,rfl,_,rfl,_,_,rfl,rfl,_,rfl,ZX (fun c4=>?_) (fun c4=>?_)⟩
   ·have c4:=kG c4;exact res true (by rw[tg];simp;lia)
   have c4:¬fr<hi:=fun z=>c4 (kE z);refine⟨_,rfl,_,rfl,_,_,rfl,rfl,_,rfl,ZX (fun c5=>?_) (fun c5=>?_)⟩
   ·have c5:=kG c5;lia
   ·exact res false (by rw[tg];simp;lia)
  have c3:¬lo<th:=fun z=>c3 (kE z);refine⟨_,rfl,YZ ?_⟩;refine⟨_,rfl,_,rfl,_,_,rfl,rfl,_,rfl,ZX (fun c5=>?_) (fun c5=>?_)⟩
  ·have c5:=kG c5;refine⟨_,rfl,_,rfl,_,_,rfl,rfl,?_⟩;refine res _ (by rw[tg,Ku];lia)
  ·exact res false (by rw[tg];have c5:¬th<lo:=fun z=>c5 (kE z);simp;lia)
def ZdL:Sp:=fun vs H Q _=>∃(l t:Addr)(q:Str×Int)(ps:QG),vs = [.ref l,.ref t]/\H l=some (.lst (ps.map V.int))/\H t=some (.tup [.str q.1,.int q.2])/\ps.length<=200/\PtL ps/\0<=q.2 /\
 (q.1 ≠ "born" -> q.2+1<ps.length)/\(q.1 = "born" ∨ q.1 = "end" ∨ q.1 = "cross")/\(Wg ps q=none -> ∀H',Zh H H'->Q .non H') /\ ∀(r:QG)(p:Addr)(H':Hp),Wg ps q=some r->Zh H H'->H p=none->H' p=some (.lst (r.map V.int))->Q (.ref p) H'
abbrev YO:Stmt:=top 52
theorem YH:Zy ["_law_partners", "_law_letter", "_law_word", "_law_k", "_law_found"] ["_law_partners", "_law_letter"] (Zj YO):={}
theorem Znj {f:Addr}{fd:FuncData}(F:Yx K "_law_moved_on" "_law_moved_on" YO f fd)(GU:mg "int" = none):Yi P w K mg base Wx 1 f fd ["_law_partners", "_law_letter"] ZdL:=by
 refine F.ok YH (fun vs H Q E h=>?_) (fun cdv A outer s H vs Q E hr h=>?_)
 ·obtain⟨l,t,q,ps,rfl,_⟩:=h;rfl
 ·obtain⟨l,t,q,ps,rfl,hl,ht,hlen,pt,k0,hk,hq,kN,k⟩:=h;refine⟨_,(Zd (YB (pv 1) (Z0 (K:=K) (n:=2) rfl rfl (Zm (Zk (i:=2) YH.nd rfl (.inl rfl)) (Zm (Zk (i:=3) YH.nd rfl (Or.inr rfl)) ZO))))
   (Zd (ZQ (Zu Yo (pv 2) ZI (Zs _)) (Zd (Zc7 (i:=4) YH.nd rfl (.inl rfl) (Ls:=["_law_one"]) (Fs:=["_law_k"]) (fi:=[3]) (ZV.of (show Yv ["_law_partners", "_law_letter", "_law_word", "_law_k", "_law_found"] (Zj YO) _ ["_law_k"] [3]=true by decide +kernel)) rfl (ZU (K:=K) rfl (pv 0)) (fun cl C s3 H3 ex=>⟨(Zk (i:=0) (show ((["_law_one"]:QP)++(["_law_k"]:QP)).Nodup by decide +kernel) rfl (.inl rfl)),YE,(Zl ZD (pv 0) (Zl Wu Ze (Yc Ux (by rfl) GU NL (Za (Yl Zmi (pv 0) (pv 1) (Zs _)) Zb))))⟩))
   (Zg (Zw (Zl Y8 (Zl Y8 (Z7 (Ym (K:=K) rfl) (pv 4) Yy (ZW (pv 3))) (Zz (Za (Zl ZD (pv 3) Ze) (Za (pv 3) Zb)))) (Z7 (Ym (K:=K) rfl) (pv 4) (ZW (pv 3)) Yy))))) ZG)
   (Zd (ZQ (Zu Zck (Yl Yo (Zx (Zn (K:=K) rfl) (pv 0) (pv 3) (fun _ _=>rfl)) (Zl ZD (pv 3) Ze) (Zs _)) (Yl Yo (pv 2) ZI (Zs _)) (Zs _)) (Zg (Zw JP)) ZG)
   (Zd (ZQ (Zu Yo (pv 2) ZI (Zs _)) (Zd (Zc7 (i:=4) YH.nd rfl (.inl rfl) (Ls:=["_law_one"]) (Fs:=["_law_k"]) (fi:=[3]) (ZV.of (show Yv ["_law_partners", "_law_letter", "_law_word", "_law_k", "_law_found"] (Zj YO) _ ["_law_k"] [3]=true by decide +kernel)) rfl (ZU (K:=K) rfl (pv 0)) (fun cl C s3 H3 ex=>⟨(Zk (i:=0) (show ((["_law_one"]:QP)++(["_law_k"]:QP)).Nodup by decide +kernel) rfl (.inl rfl)),YE,(Zl Jd (pv 0) (Zl Wu Ze (Yc Ux (by rfl) GU NL (Za (Yl Zcu (pv 0) (pv 1) (Zs _)) Zb))))⟩))
   (Zg (Zw (Zl Y8 (Z7 (Ym (K:=K) rfl) (pv 4) Yy (ZW (pv 3))) (Z7 (Ym (K:=K) rfl) (pv 4) (ZW (Zl ZD (pv 3) Ze)) Yy))))) ZG)
   (Zd (Zc7 (i:=4) YH.nd rfl (.inl rfl) (Ls:=["_law_one"]) (Fs:=["_law_k"]) (fi:=[3]) (ZV.of (show Yv ["_law_partners", "_law_letter", "_law_word", "_law_k", "_law_found"] (Zj YO) _ ["_law_k"] [3]=true by decide +kernel)) rfl (ZU (K:=K) rfl (pv 0)) (fun cl C s3 H3 ex=>⟨(Zk (i:=0) (show ((["_law_one"]:QP)++(["_law_k"]:QP)).Nodup by decide +kernel) rfl (.inl rfl)),YE,(Zl Jd (Zl ZD (pv 0) (Yc Ux (by rfl) GU NL (Za (Yl Yo (pv 0) (pv 1) (Zs _)) Zb))) (Yc Ux (by rfl) GU NL (Za (Yl Yo (pv 0) (Zl ZD (pv 1) Ze) (Zs _)) Zb)))⟩))
   (Zd (YB (ZN (Za (Zx (Zn (K:=K) rfl) (pv 4) (Zl ZD (pv 3) Ze) (fun _ _=>rfl)) (Za (Zx (Zn (K:=K) rfl) (pv 4) (pv 3) (fun _ _=>rfl)) Zb))) (Z0 (K:=K) (n:=2) rfl rfl (Zm (YJ (pv 4) (pv 3) set_list) (Zm (YJ (pv 4) (Zl ZD (pv 3) Ze) set_list) ZO))))
   (Zg (Zw (pv 4))))))))),?_⟩
  obtain⟨kd,kk⟩:=q;dsimp only at ht k0 hk hq;obtain⟨n,rfl⟩:=kI k0;refine⟨_,rfl,t,_,rfl,Y9.of ht,rfl,_,_,rfl,_,_,rfl,rfl,?_⟩;refine⟨_,rfl,rfl,_,rfl,ZX (fun hb=>?_) (fun hb=>?_)⟩
  ·have eb:kd = "born" := by
    have:=kG hb;injection this
   have mv:Wg ps (kd,(n:Int))=some (Ua ps n):=by unfold Wg;rw[km eb];rfl
   refine⟨_,rfl,l,rfl,⟨_,Zt.of hl⟩,Ja (K:=K) (a:=l) (xs:=ps.map V.int) (by rw[ke,k9];lia) (fun i zs G=>G=H/\zs=((ps.map (upB n)).take i).map V.int) ⟨rfl,rfl⟩ (fun i zs G x=>by rw[x.2,ke,kL];lia) (fun i zs G x=>by rw[x.1];exact Zt.of hl) (fun i y zs G hy x=>?_) (fun zs G x p hp=>?_)⟩
   ·obtain⟨rfl,rfl⟩:=x;obtain⟨m,hm,rfl⟩:∃m,ps[i]? = some m/\y=V.int m:=by
     rw[kF] at hy;obtain⟨m,h1,h2⟩:=Ke.mp hy;exact⟨m,h1,h2.symm⟩
    have st:((ps.map (upB n)).take (i+1)).map V.int=((ps.map (upB n)).take i).map V.int ++ [V.int (upB n m)]:=by rw[Ki,kF,hm,kQ];rfl
    refine⟨_,rfl,_,rfl,_,rfl,_,_,rfl,rfl,.inr ⟨_,rfl,_,_,rfl,rfl,.inl ⟨by decide,by decide⟩,_,_,rfl,rfl,rfl,?_⟩⟩;have val:m+2*(if decide ((n:Int)<=m)=true then 1 else 0)=upB n m:=by
     unfold upB;by_cases c:(n:Int)<=m
     ·rw[kE c,km rfl,km c];rfl
     ·rw[Km c,ki (by decide),ki (by lia)];lia
    rw[st,<- val]
   ·obtain⟨rfl,rfl⟩:=x;rw[ke,kJ (by rw[ke];exact kj _)];refine lay2 (o:=.lst ((ps.map (upB n)).map V.int)) hp fun G1 s1 e1=>?_;refine⟨_,rfl,_,rfl,_,rfl,p,_,rfl,Zt.of e1,fun d1 h1=>?_⟩;rw[ZdC];refine lay2 (o:=.lst (((ps.map (upB n)).map V.int).take n)) h1 fun G2 s2 e2=>?_;refine⟨_,rfl,_,_,rfl,rfl,_,rfl,sz2,fun d2 h2=>?_⟩;refine lay2 (o:=.lst [.int ((n:Int)+1),.int n]) h2 fun G3 s3 e3=>?_;refine⟨d1,d2,_,_,rfl,rfl,s3 _ _ e2,e3,(by rw[k9];simp;lia),fun d3 h3=>?_⟩;obtain⟨G4,z,s4,e4⟩:=lay (o:=.lst (((ps.map (upB n)).map V.int).take n ++ [.int ((n:Int)+1),.int n])) h3;rw[z];clear z;refine⟨_,rfl,_,rfl,_,rfl,?_⟩;dsimp only[Zbj];refine⟨p,_,rfl,Zt.of (s4 _ _ (s3 _ _ (s2 _ _ e1))),fun d4 h4=>?_⟩;rw[ZdB];refine lay2 (o:=.lst (((ps.map (upB n)).map V.int).drop n)) h4 fun G5 s5 e5=>?_;refine⟨d3,d4,_,_,rfl,rfl,s5 _ _ e4,e5,(by rw[k9];simp;lia),fun d5 h5=>?_⟩;have sA:=(((s1.trans s2).trans s3).trans s4).trans s5;refine k _ d5 _ mv (sA.trans (Zh.laid h5)) (sA.free h5) ?_;rw[Zc];unfold Ua;simp
  have nb:kd ≠ "born" := fun z=>hb (by rw[z];exact kE rfl);have hk:=hk nb;obtain⟨x,hx⟩:∃x,ps[n]? = some x:=⟨_,ko (by lia)⟩;obtain⟨a,rfl,ea,na⟩:=pt n x hx;have g0:(ps.map V.int)[n]? = some (V.int a):=by rw[kF,hx];rfl
  have gd:ps.getD n 0=(a:Int):=by rw[Kh,hx];rfl
  have hq:kd = "end" ∨ kd = "cross" := hq.resolve_left nb;have key:((!decide (V.bl (decide (V.int a=V.int ((n:Int)+1)))=V.bl (decide (V.str kd=V.str "end"))))=true) ↔ ((decide ((a:Int)=(n:Int)+1) != decide (kd = "end"))=true):=by simp only[V.int.injEq,V.str.injEq,V.bl.injEq];by_cases A:(a:Int)=(n:Int)+1<;>by_cases B:kd = "end" <;> simp[A,B]
  refine⟨_,rfl,_,rfl,l,_,_,_,rfl,rfl,Zt.of hl,Zo g0,_,rfl,_,_,rfl,rfl,rfl,_,rfl,rfl,rfl,_,rfl,ZX (fun c=>?_) (fun c=>?_)⟩
  ·refine kN ?_ H (Zh.refl _);unfold Wg;dsimp only;rw[ki nb,kM,gd,km (key.mp c)]
  have c:¬((decide ((a:Int)=(n:Int)+1) != decide (kd = "end"))=true):=fun z=>c (key.mpr z);refine⟨_,rfl,rfl,_,rfl,ZX (fun he=>?_) (fun he=>?_)⟩
  ·have ee:kd = "end" := by
    have:=kG he;injection this
   have mv:Wg ps (kd,(n:Int))=some (Zbw ps n):=by unfold Wg;dsimp only;rw[ki nb,kM,gd,ki c,km ee]
   refine⟨_,rfl,l,rfl,⟨_,Zt.of hl⟩,Ja (K:=K) (a:=l) (xs:=ps.map V.int) (by rw[ke,k9];lia) (fun i zs G=>G=H/\zs=((ps.map (dnE n)).take i).map V.int) ⟨rfl,rfl⟩ (fun i zs G x=>by rw[x.2,ke,kL];lia) (fun i zs G x=>by rw[x.1];exact Zt.of hl) (fun i y zs G hy x=>?_) (fun zs G x p hp=>?_)⟩
   ·obtain⟨rfl,rfl⟩:=x;obtain⟨m,hm,rfl⟩:∃m,ps[i]? = some m/\y=V.int m:=by
     rw[kF] at hy;obtain⟨m,h1,h2⟩:=Ke.mp hy;exact⟨m,h1,h2.symm⟩
    have st:((ps.map (dnE n)).take (i+1)).map V.int=((ps.map (dnE n)).take i).map V.int ++ [V.int (dnE n m)]:=by rw[Ki,kF,hm,kQ];rfl
    refine⟨_,rfl,_,rfl,_,rfl,_,_,rfl,rfl,.inr ⟨_,rfl,_,_,rfl,rfl,.inl ⟨by decide,by decide⟩,_,_,rfl,rfl,rfl,?_⟩⟩;have val:m-2*(if decide ((n:Int)<m)=true then 1 else 0)=dnE n m:=by
     unfold dnE;by_cases c:(n:Int)<m
     ·rw[kE c,km rfl,km c];rfl
     ·rw[Km c,ki (by decide),ki (by lia)];lia
    rw[st,<- val]
   ·obtain⟨rfl,rfl⟩:=x;rw[ke,kJ (by rw[ke];exact kj _)];refine lay2 (o:=.lst ((ps.map (dnE n)).map V.int)) hp fun G1 s1 e1=>?_;refine⟨_,rfl,_,rfl,_,rfl,p,_,rfl,Zt.of e1,fun d1 h1=>?_⟩;rw[ZdC];refine lay2 (o:=.lst (((ps.map (dnE n)).map V.int).take n)) h1 fun G2 s2 e2=>?_;refine⟨_,rfl,_,rfl,_,_,rfl,rfl,_,rfl,?_⟩;dsimp only[Zbj];refine⟨p,_,rfl,Zt.of (s2 _ _ e1),fun d4 h4=>?_⟩;rw[show (n:Int)+2=((n+2:Nat):Int) by push_cast;rfl,ZdB];refine lay2 (o:=.lst (((ps.map (dnE n)).map V.int).drop (n+2))) h4 fun G5 s5 e5=>?_;refine⟨d1,d4,_,_,rfl,rfl,s5 _ _ e2,e5,(by rw[k9];simp;lia),fun d5 h5=>?_⟩;have sA:=(s1.trans s2).trans s5;refine k _ d5 _ mv (sA.trans (Zh.laid h5)) (sA.free h5) ?_;rw[Zc];unfold Zbw;simp
  have ne:kd ≠ "end" := fun z=>he (by rw[z];exact kE rfl);have mv:Wg ps (kd,(n:Int))=some (JW ps n):=by unfold Wg;dsimp only;rw[ki nb,kM,gd,ki c,ki ne]
  refine⟨_,rfl,l,rfl,⟨_,Zt.of hl⟩,Ja (K:=K) (a:=l) (xs:=ps.map V.int) (by rw[ke,k9];lia) (fun i zs G=>G=H/\zs=((ps.map (G8 n)).take i).map V.int) ⟨rfl,rfl⟩ (fun i zs G x=>by rw[x.2,ke,kL];lia) (fun i zs G x=>by rw[x.1];exact Zt.of hl) (fun i y zs G hy x=>?_) (fun zs G x p hp=>?_)⟩
  ·obtain⟨rfl,rfl⟩:=x;obtain⟨m,hm,rfl⟩:∃m,ps[i]? = some m/\y=V.int m:=by
    rw[kF] at hy;obtain⟨m,h1,h2⟩:=Ke.mp hy;exact⟨m,h1,h2.symm⟩
   have st:((ps.map (G8 n)).take (i+1)).map V.int=((ps.map (G8 n)).take i).map V.int ++ [V.int (G8 n m)]:=by rw[Ki,kF,hm,kQ];rfl
   refine⟨_,rfl,_,rfl,_,rfl,rfl,.inr ⟨_,rfl,_,_,rfl,rfl,_,rfl,_,rfl,_,_,rfl,rfl,rfl,.inr ⟨_,rfl,_,_,rfl,rfl,rfl,?_⟩⟩⟩;have val:m+(if decide (V.int m=V.int n)=true then 1 else 0)-(if decide (V.int m=V.int ((n:Int)+1))=true then 1 else 0)=G8 n m:=by
    unfold G8;simp only[V.int.injEq,Ku];by_cases c1:m=(n:Int)
    ·rw[km c1,km c1,ki (by lia)];lia
    ·rw[ki c1,ki c1];by_cases c2:m=(n:Int)+1
     ·rw[km c2,km c2];lia
     ·rw[ki c2,ki c2];lia
   rw[st,<- val]
  ·obtain⟨rfl,rfl⟩:=x;rw[ke,kJ (by rw[ke];exact kj _)];refine lay2 (o:=.lst ((ps.map (G8 n)).map V.int)) hp fun G1 s1 e1=>?_;generalize eM:ps.map (G8 n)=M at *;have lM:M.length=ps.length:=by rw[<- eM,ke]
   have kc:(n:Int)+1=((n+1:Nat):Int):=by push_cast;rfl
   have g1:(M.map V.int)[n+1]? = some (V.int (M.getD (n+1) 0)):=by rw[kF,Kh,ko (by lia)];rfl
   have g0:(M.map V.int)[n]? = some (V.int (M.getD n 0)):=by rw[kF,Kh,ko (by lia)];rfl
   refine⟨_,rfl,_,rfl,_,_,rfl,rfl,p,_,_,_,rfl,rfl,Zt.of e1,(by rw[kc];exact Zo g1),_,rfl,_,rfl,p,_,_,_,rfl,rfl,Zt.of e1,Zo g0,sz2,fun t2 h2=>?_⟩;refine lay2 (o:=.tup [.int (M.getD (n+1) 0),.int (M.getD n 0)]) h2 fun G2 s2 e2=>?_;have put:∀{G':Hp}{o:HO},Zh G G'->Zh G (upd G' p o):=fun s c o e=>by rw[Zi (Zf e hp)];exact s c o e
   refine⟨t2,_,rfl,Y9.of e2,rfl,_,_,rfl,_,rfl,_,rfl,p,_,_,n,rfl,rfl,s2 _ _ e1,Jg (by rw[ke];lia),?_⟩;refine⟨_,_,rfl,_,rfl,_,rfl,_,_,rfl,rfl,p,_,_,n+1,rfl,rfl,Zc,(by rw[kc];exact Jg (by rw[KY,ke];lia)),?_⟩;rw[JM];refine⟨rfl,_,rfl,k _ p _ mv (put (s1.trans s2)) hp ?_⟩;rw[Zc];unfold JW;rw[eM,qW,qW]
def U0 (ps:QG)(k:Nat):Bool:=Gy k (ps.getD k 0).toNat (ps.getD (k+1) 0).toNat
def JO (q:Str×Int)(z:Bool)(t:Nat)(r:QG×QG):List (QG×QG):=
 match Wg r.2 q with
 | none=>[]
 | some ps=>(r.1,ps)::(if q.1 = "cross" /\ z=true/\U0 r.2 q.2.toNat=false then[(r.1 ++ [(t:Int)],r.2)] else[])
def Yr (ls:QB)(z:Nat->Bool):Nat->List (QG×QG)
 | 0=>[([],[])]
 | i+1=>match ls[i]? with
  | none=>Yr ls z i
  | some q=>(Yr ls z i).flatMap (JO q (z i) i)
def ZiK (q:Str×Int)(n m:Int):Prop:=0<=q.2/\((q.1 = "born" /\ q.2<=n/\m=n+2)∨(q.1 = "cross" /\ q.2+1<n/\m=n)∨(q.1 = "end" /\ q.2+1<n/\m=n-2))
theorem ZdF {l:QB}{p:Str×Int}{m:Int}(h:Wk (l ++ [p]) m):∃n,Wk l n/\ZiK p n m:=by
 generalize hq:l ++ [p]=q at h;cases h with
 | nil=>exact absurd hq (by simp)
 | born h h0 h1=>obtain⟨rfl,rfl⟩:=Uw hq;exact⟨_,h,h0,.inl ⟨rfl,h1,rfl⟩⟩
 | cross h h0 h1=>obtain⟨rfl,rfl⟩:=Uw hq;exact⟨_,h,h0,.inr (.inl ⟨rfl,h1,rfl⟩)⟩
 | fin h h0 h1=>obtain⟨rfl,rfl⟩:=Uw hq;exact⟨_,h,h0,.inr (.inr ⟨rfl,h1,rfl⟩)⟩
theorem ZeA {l:QB}{n m:Int}(a:Wk l n)(b:Wk l m):n=m:=(Za5 a).symm.trans (Za5 b)
theorem ZfS {ps:QG}{n:Nat}(pt:PtL ps)(hn:n+1<ps.length)(ne:ps.getD n 0≠(n:Int)+1):ZcY ps n (ps.getD n 0).toNat (ps.getD (n+1) 0).toNat:=by
 obtain⟨x,hx⟩:∃x,ps[n]? = some x:=⟨_,ko (by lia)⟩;obtain⟨a,rfl,ea,na⟩:=pt n x hx;obtain⟨y,hy⟩:∃y,ps[n+1]? = some y:=⟨_,ko (by lia)⟩;obtain⟨b,rfl,eb,nb⟩:=pt (n+1) y hy;have gd:ps.getD n 0=(a:Int):=by rw[Kh,hx];rfl
 have gd1:ps.getD (n+1) 0=(b:Int):=by rw[Kh,hy];rfl
 rw[gd] at ne;rw[gd,gd1,kM,kM];exact⟨pt,hx,hy,fun z=>ne (by lia)⟩
theorem Zm7 {ps r:QG}{q:Str×Int}{n m:Int}(pt:PtL ps)(hl:(ps.length:Int)=n)(ft:ZiK q n m)(h:Wg ps q=some r):PtL r/\(r.length:Int)=m:=by
 obtain⟨kd,k⟩:=q;obtain⟨k0,ft⟩:=ft;dsimp only at k0 ft;obtain⟨k,rfl⟩:=kI k0;unfold Wg at h;dsimp only at h;rw[kM] at h;rcases ft with⟨rfl,f1,rfl⟩ | ⟨rfl,f1,rfl⟩ | ⟨rfl,f1,rfl⟩
 ·rw[km rfl] at h;injection h with h
  subst h;exact⟨pt.born (by lia),by rw[Zey];lia⟩
 ·rw[ki (by decide)] at h;split at h
  ·cases h
  ·rename_i c
   rw[ki (by decide)] at h;injection h with h
   subst h;have ne:ps.getD k 0≠(k:Int)+1:=fun z=>c (by rw[kE z];rfl);exact⟨(ZfS pt (by lia) ne).kept,by rw[ZhI];lia⟩
 ·rw[ki (by decide)] at h;split at h
  ·cases h
  ·rename_i c
   rw[km rfl] at h;injection h with h
   subst h;have e:ps.getD k 0=(k:Int)+1:=by
    by_cases z:ps.getD k 0=(k:Int)+1
    ·exact z
    ·exact absurd (by rw[Km z];rfl) c
   have hx:ps[k]? = some ((k:Int)+1):=by rw[<- e,Kh,ko (by lia)];rfl
   have:=Zgp (ps:=ps) (k:=k) (by lia);exact⟨pt.ended hx,by lia⟩
theorem Zg6 {ls:QB}{z:Nat->Bool}{n0:Int}(hW:Wk ls n0):∀i,i<=ls.length -> ∃n,Wk (ls.take i) n /\ ∀r∈Yr ls z i,PtL r.2/\(r.2.length:Int)=n
 | 0,_=>⟨0,by simpa using Wk.nil,fun r hr=>by
   rw[kT.mp hr];exact⟨fun i x e=>by simp at e,rfl⟩⟩
 | i+1,h=>by
  obtain⟨n,wn,al⟩:=Zg6 hW i (by lia);obtain⟨q,hq⟩:∃q,ls[i]? = some q:=⟨_,ko (by lia)⟩;obtain⟨m,wm⟩:=Gv hW (i+1);refine⟨m,wm,fun r hr=>?_⟩;rw[Ki,hq] at wm;obtain⟨n',wn',ft⟩:=ZdF (show Wk (ls.take i ++ [q]) m from wm);have:=ZeA wn wn';subst this;rw[Yr,hq] at hr;obtain⟨r0,h0,hr⟩:=KS.mp hr;obtain⟨p0,l0⟩:=al r0 h0;unfold JO at hr;cases hm:Wg r0.2 q with
  | none=>rw[hm] at hr;cases hr
  | some ps=>
   rw[hm] at hr;rcases kO.mp hr with rfl | hr
   ·exact Zm7 p0 l0 ft hm
   ·split at hr
    ·rename_i c
     rw[kT.mp hr];refine⟨p0,?_⟩;rcases ft.2 with⟨e,_⟩ | ⟨_,_,e⟩ | ⟨e,_⟩
     ·exact absurd (e.symm.trans c.1) (by decide)
     ·rw[e];exact l0
     ·exact absurd (e.symm.trans c.1) (by decide)
    ·cases hr
theorem ZdE {α β:Type}(f:α -> List β)(c:Nat):∀l:List α,(∀x∈l,(f x).length<=c)->(l.flatMap f).length<=l.length*c
 | [],_=>by simp
 | x::l,h=>by rw[List.flatMap_cons,kh,Kv,Nat.succ_mul];have h1:=h x kS;have h2:=ZdE f c l fun y hy=>h y (kU _ hy);lia
theorem Zfc {ls:QB}{z:Nat->Bool}:∀i,i<=ls.length->(Yr ls z i).length<=2 ^ nX (ls.take i)
 | 0,_=>by simp[Yr,nX]
 | i+1,h=>by
  have ih:=Zfc (ls:=ls) (z:=z) i (by lia);obtain⟨q,hq⟩:∃q,ls[i]? = some q:=⟨_,ko (by lia)⟩;rw[Yr,hq,Ki,hq];have e:nX (ls.take i ++ [q])=nX (ls.take i)+(if q.1=("cross" : Str) then 1 else 0):=by unfold nX;rw[MV,Tp];by_cases c:q.1=("cross" : Str)<;>simp[c]
  show _<=2 ^ nX (ls.take i ++ [q]);rw[e];by_cases c:q.1=("cross" : Str)
  ·rw[km c,Nat.pow_succ];refine Kb (ZdE _ 2 _ fun r _=>?_) (Nat.mul_le_mul_right 2 ih);unfold JO;split
   ·simp
   ·split<;>simp
  ·rw[ki c,XM];refine Kb (ZdE _ 1 _ fun r _=>?_) (by lia);unfold JO;split
   ·simp
   ·rw[ki (fun z=>c z.1)];simp
theorem Zoi (ls:QB)(i:Nat):nX (ls.take i)<=nX ls:=by unfold nX;exact List.Sublist.countP_le (Ng i ls)
theorem Zex {ls:QB}{z:Nat->Bool}:∀i,∀r∈Yr ls z i,r.1.length<=i
 | 0,r,hr=>by rw[kT.mp hr];exact kj _
 | i+1,r,hr=>by
  rw[Yr] at hr;split at hr
  ·have:=Zex i r hr;lia
  ·obtain⟨r0,h0,hr⟩:=KS.mp hr;have ih:=Zex i r0 h0;unfold JO at hr;split at hr
   ·cases hr
   ·rcases kO.mp hr with rfl | hr
    ·exact Kb ih (XC _)
    ·split at hr
     ·rw[kT.mp hr];rw[kh,Kf];lia
     ·cases hr
theorem ZmS (q:Str×Int)(z:Bool)(t:Nat)(r:QG×QG):(JO q z t r).length<=2:=by
 unfold JO;split
 ·simp
 ·split<;>simp
theorem ZjP (ps:QG)(q:Str×Int)(h:QW)(hq:q.1 = "born" ∨ q.1 = "end" ∨ q.1 = "cross"):UL ps q h=match Wg ps q with
  | none=>[]
  | some r=>(r,false)::(if q.1 = "cross" /\ h=some 0/\U0 ps q.2.toNat=false then[(ps,true)] else[]):=by
 unfold UL Wg;by_cases c1:q.1 = "born"
 ·rw[km c1,km c1];dsimp only;rw[ki (fun z=>absurd (c1.symm.trans z.1) (by decide))]
 ·rw[ki c1,ki c1];by_cases c2:(decide (ps.getD q.2.toNat 0=q.2+1) != decide (q.1 = "end"))=true
  ·rw[km c2,km c2]
  ·rw[ki c2,ki c2];by_cases c3:q.1 = "end"
   ·rw[km c3,km c3];dsimp only;rw[ki (fun z=>absurd (c3.symm.trans z.1) (by decide))]
   ·rw[ki c3,ki c3];have c4:q.1 = "cross" := (hq.resolve_left c1).resolve_left c3;dsimp only;unfold U0;congr 1;by_cases c5:h=some 0/\Gy q.2.toNat (ps.getD q.2.toNat 0).toNat (ps.getD (q.2.toNat+1) 0).toNat=false
    ·rw[km c5,km ⟨c4,c5⟩]
    ·rw[ki c5,ki (fun z=>c5 z.2)]
def nxt (ps:QG)(q:Str×Int)(z c:Bool):Option QG:=
 match Wg ps q with
 | none=>none
 | some r=>if c=true then(if q.1 = "cross" /\ z=true/\U0 ps q.2.toNat=false then some ps else none) else some r
def W9 (ls:QB)(z ch:Nat->Bool):Nat->Option QG
 | 0=>some []
 | t+1=>match W9 ls z ch t with
  | none=>none
  | some ps=>match ls[t]? with
   | none=>none
   | some q=>nxt ps q (z t) (ch t)
theorem ZdH {ls:QB}{z ch:Nat->Bool}{t:Nat}{ps:QG}{q:Str×Int}(h:W9 ls z ch t=some ps)(hq:ls[t]? = some q):W9 ls z ch (t+1)=nxt ps q (z t) (ch t):=by rw[W9,h,hq]
theorem Zbi {ls:QB}{z ch:Nat->Bool}{t:Nat}(h:W9 ls z ch t=none):∀d,W9 ls z ch (t+d)=none
 | 0=>h
 | d+1=>by rw[show t+(d+1)=(t+d)+1 from rfl,W9,Zbi h d]
theorem ZjO {ls:QB}{z ch:Nat->Bool}{s t:Nat}(h:s<=t)(e:W9 ls z ch t≠none):∃ps,W9 ls z ch s=some ps:=by
 cases q:W9 ls z ch s with
 | some ps=>exact⟨ps,rfl⟩
 | none=>
  obtain⟨d,rfl⟩:=qR h;exact absurd (Zbi q d) e
theorem kinds {q:Str×Int}{n m:Int}(ft:ZiK q n m):q.1 = "born" ∨ q.1 = "end" ∨ q.1 = "cross" := by
 rcases ft.2 with⟨e,_⟩ | ⟨e,_⟩ | ⟨e,_⟩
 ·exact .inl e
 ·exact .inr (.inr e)
 ·exact .inr (.inl e)
theorem Zqj {ps r:QG}{q:Str×Int}{z c:Bool}{n m:Int}(pt:PtL ps)(hl:(ps.length:Int)=n)(ft:ZiK q n m)(h:nxt ps q z c=some r):PtL r/\(r.length:Int)=m:=by
 unfold nxt at h;cases hm:Wg ps q with
 | none=>rw[hm] at h;cases h
 | some r'=>
  rw[hm] at h;dsimp only at h;split at h
  ·split at h
   ·rename_i e
    cases h;refine⟨pt,?_⟩;rcases ft.2 with⟨e',_⟩ | ⟨_,_,e'⟩ | ⟨e',_⟩
    ·exact absurd (e'.symm.trans e.1) (by decide)
    ·rw[e'];exact hl
    ·exact absurd (e'.symm.trans e.1) (by decide)
   ·cases h
  ·cases h;exact Zm7 pt hl ft hm
theorem Ziv {ls:QB}{n0:Int}(hW:Wk ls n0){t:Nat}{n:Int}{q:Str×Int}(wn:Wk (ls.take t) n)(hq:ls[t]? = some q):∃m,Wk (ls.take (t+1)) m/\ZiK q n m:=by obtain⟨m,wm⟩:=Gv hW (t+1);refine⟨m,wm,?_⟩;rw[Ki,hq] at wm;obtain⟨n',wn',ft⟩:=ZdF (show Wk (ls.take t ++ [q]) m from wm);rw[ZeA wn wn'];exact ft
theorem ZgL {ls:QB}{z ch:Nat->Bool}{n0:Int}(hW:Wk ls n0):∀t,t<=ls.length -> ∃n,Wk (ls.take t) n /\ ∀ps,W9 ls z ch t=some ps->PtL ps/\(ps.length:Int)=n
 | 0,_=>⟨0,by simpa using Wk.nil,fun ps e=>by
   cases e;exact⟨fun i x e=>by simp at e,rfl⟩⟩
 | t+1,h=>by
  obtain⟨n,wn,al⟩:=ZgL (z:=z) (ch:=ch) hW t (by lia);obtain⟨q,hq⟩:∃q,ls[t]? = some q:=⟨_,ko (by lia)⟩;obtain⟨m,wm,ft⟩:=Ziv hW wn hq;refine⟨m,wm,fun r hr=>?_⟩;cases hp:W9 ls z ch t with
  | none=>rw[W9,hp] at hr;cases hr
  | some ps=>
   rw[ZdH hp hq] at hr;exact Zqj (al ps hp).1 (al ps hp).2 ft hr
theorem ZoE (ps:QG)(q:Str×Int)(h:QW)(hq:q.1 = "born" ∨ q.1 = "end" ∨ q.1 = "cross")(c:Bool):(UL ps q h).filter (fun w=>w.2==c)=match nxt ps q (decide (h=some 0)) c with
  | none=>[]
  | some r=>[(r,c)]:=by
 rw[ZjP ps q h hq];unfold nxt;cases Wg ps q with
 | none=>rfl
 | some r=>
  dsimp only;by_cases e:q.1 = "cross" /\ h=some 0/\U0 ps q.2.toNat=false
  ·rw[km e];have e':q.1 = "cross" /\ decide (h=some 0)=true/\U0 ps q.2.toNat=false:=⟨e.1,kE e.2.1,e.2.2⟩;rw[km e'];cases c<;>rfl
  ·rw[ki e];have e':¬(q.1 = "cross" /\ decide (h=some 0)=true/\U0 ps q.2.toNat=false):=fun z=>e ⟨z.1,kG z.2.1,z.2.2⟩;rw[ki e'];cases c<;>rfl
def UY:Lit->Bool
 | .int _=>true
 | _=>false
def okL:Nat->Lit->Bool
 | 0,.lst _=>false
 | d+1,.lst l=>decide (l.length<=60)&&l.all (okL d)
 | _,_=>true
theorem Zg7:∀{d e:Nat}{l:Lit},d<=e->okL d l=true->okL e l=true
 | 0,e,.lst l,_,h=>by cases h
 | d+1,0,.lst l,h,_=>by lia
 | d+1,e+1,.lst l,h,q=>by
  simp only[okL,Kj,KA] at q ⊢;exact⟨q.1,fun x hx=>Zg7 (Nat.le_of_succ_le_succ h) (q.2 x hx)⟩
 | _,0,.non,_,_=>rfl
 | _,0,.bl _,_,_=>rfl
 | _,0,.int _,_,_=>rfl
 | _,0,.str _,_,_=>rfl
 | _,0,.tup _,_,_=>rfl
 | _,_+1,.non,_,_=>rfl
 | _,_+1,.bl _,_,_=>rfl
 | _,_+1,.int _,_,_=>rfl
 | _,_+1,.str _,_,_=>rfl
 | _,_+1,.tup _,_,_=>rfl
theorem Zca {d:Nat}{l:List Lit}(h:okL (d+1) (.lst l)=true):l.length<=60 /\ ∀x∈l,okL d x=true:=by simp only[okL,Kj,KA,Ku] at h;exact h
theorem Zbr {H:Hp}{v:V}{l:Lit}(h:J9 H v l):(∃(a:Addr)(xs:QH)(ls:List Lit),v = .ref a/\l = .lst ls/\H a=some (.lst xs)/\Jv H xs ls)∨(∃t,Zb8 K H v t/\PySem.W.kitOne K t (.type "list")=some false/\(∀ls,l ≠ .lst ls)):=by
 cases h with
 | non=>exact .inr ⟨_,.non,by rfl,fun _ z=>nomatch z⟩
 | bl b=>exact .inr ⟨_,.bl b,by rfl,fun _ z=>nomatch z⟩
 | int i=>exact .inr ⟨_,.int i,by rfl,fun _ z=>nomatch z⟩
 | str x=>exact .inr ⟨_,.str x,by rfl,fun _ z=>nomatch z⟩
 | tup e r=>exact .inr ⟨_,.tup e,by rfl,fun _ z=>nomatch z⟩
 | lst e r=>exact .inl ⟨_,_,_,rfl,rfl,e,r⟩
def UG:Sp:=fun vs H Q _=>∃(v:V)(l:Lit),vs = [v]/\J9 H v l/\Q (.bl (UY l)) H
abbrev ZbO:Stmt:=top 1
theorem Zhw:Zy ["thing"] ["thing"] (Zj ZbO):={}
theorem Ziy {f:Addr}{fd:FuncData}(F:Yx K "is_whole" "is_whole" ZbO f fd)(ZE:mg "isinstance" = none)(GU:mg "int" = none)(Zal:mg "bool" = none):Yi P w K mg base Wx 1 f fd ["thing"] UG:=by
 refine F.ok Zhw (fun vs H Q E h=>?_) (fun cdv A outer s H vs Q E hr h=>?_)
 ·obtain⟨v,l,rfl,_⟩:=h;rfl
 ·obtain⟨v,l,rfl,r,k⟩:=h;refine⟨_,(Zg (Zw (ZcS (Zv (YU (K:=K) rfl) (by rfl) ZE qU (Za (pv 0) (Za (Ue (v:=.ty "int") (by rfl) GU NL rfl) Zb))) (ZaK (Zmv (Zv (YU (K:=K) rfl) (by rfl) ZE qU (Za (pv 0) (Za (Ue (v:=.ty "bool") (by rfl) Zal boot_bool rfl) Zb)))))))),?_⟩;cases r with
  | non=>exact⟨_,rfl,_, "int", _,false,rfl,.non,by rfl,false,rfl,YZ k⟩
  | str x=>exact⟨_,rfl,_, "int", _,false,rfl,.str x,by rfl,false,rfl,YZ k⟩
  | tup e r=>exact⟨_,rfl,_, "int", _,false,rfl,.tup e,by rfl,false,rfl,YZ k⟩
  | lst e r=>exact⟨_,rfl,_, "int", _,false,rfl,.lst e,by rfl,false,rfl,YZ k⟩
  | bl b=>exact⟨_,rfl,_, "int", _,true,rfl,.bl b,by rfl,true,rfl,J6 ⟨_,rfl,_, "bool", _,true,rfl,.bl b,by rfl,true,rfl,k⟩⟩
  | int i=>exact⟨_,rfl,_, "int", _,true,rfl,.int i,by rfl,true,rfl,J6 ⟨_,rfl,_, "bool", _,false,rfl,.int i,by rfl,false,rfl,k⟩⟩
theorem Zhd {α:Type}(f:α -> Bool)(ls:List α)(i:Nat){x:α}(h:ls[i]? = some x):((ls.take (i+1)).map fun l=>V.bl (f l))=((ls.take i).map fun l=>V.bl (f l)) ++ [V.bl (f x)]:=by rw[Ki,h,kQ];rfl
abbrev U7:Stmt:=top 45
theorem Ze5:Zy ["_law_thing"] ["_law_thing"] (Zj U7):={}
theorem Zk6 {f:Addr}{fd:FuncData}(F:Yx K "_law_whole" "_law_whole" U7 f fd)(ZE:mg "isinstance" = none)(GU:mg "int" = none)(Zal:mg "bool" = none):Yi P w K mg base Wx 1 f fd ["_law_thing"] UG:=by
 refine F.ok Ze5 (fun vs H Q E h=>?_) (fun cdv A outer s H vs Q E hr h=>?_)
 ·obtain⟨v,l,rfl,_⟩:=h;rfl
 ·obtain⟨v,l,rfl,r,k⟩:=h;refine⟨_,(Zg (Zw (ZcS (Zv (YU (K:=K) rfl) (by rfl) ZE qU (Za (pv 0) (Za (Ue (v:=.ty "int") (by rfl) GU NL rfl) Zb))) (ZaK (Zmv (Zv (YU (K:=K) rfl) (by rfl) ZE qU (Za (pv 0) (Za (Ue (v:=.ty "bool") (by rfl) Zal boot_bool rfl) Zb)))))))),?_⟩;cases r with
  | non=>exact⟨_,rfl,_, "int", _,false,rfl,.non,by rfl,false,rfl,YZ k⟩
  | str x=>exact⟨_,rfl,_, "int", _,false,rfl,.str x,by rfl,false,rfl,YZ k⟩
  | tup e r=>exact⟨_,rfl,_, "int", _,false,rfl,.tup e,by rfl,false,rfl,YZ k⟩
  | lst e r=>exact⟨_,rfl,_, "int", _,false,rfl,.lst e,by rfl,false,rfl,YZ k⟩
  | bl b=>exact⟨_,rfl,_, "int", _,true,rfl,.bl b,by rfl,true,rfl,J6 ⟨_,rfl,_, "bool", _,true,rfl,.bl b,by rfl,true,rfl,k⟩⟩
  | int i=>exact⟨_,rfl,_, "int", _,true,rfl,.int i,by rfl,true,rfl,J6 ⟨_,rfl,_, "bool", _,false,rfl,.int i,by rfl,false,rfl,k⟩⟩
def Zfj:Lit->Bool
 | .lst l=>l.all UY
 | _=>false
def Zgw:Sp:=fun vs H Q _=>∃(v:V)(l:Lit),vs = [v]/\J9 H v l/\okL 3 l=true /\ ∀H',Zh H H'->Q (.bl (Zfj l)) H'
abbrev Wt:Stmt:=top 46
theorem Zdw:Zy ["_law_thing"] ["_law_thing"] (Zj Wt):={}
theorem ZlF {f:Addr}{fd:FuncData}(F:Yx K "_law_numbers" "_law_numbers" Wt f fd)(Zaa:Yq P w K mg base 1 "_law_whole" ["_law_thing"] UG)(ZE:mg "isinstance" = none)(Z6:mg "list" = none)(ZaH:mg "all" = none):Yi P w K mg base Wx 2 f fd ["_law_thing"] Zgw:=by
 refine F.ok Zdw (fun vs H Q E h=>?_) (fun cdv A outer s H vs Q E hr h=>?_)
 ·obtain⟨v,l,rfl,_⟩:=h;rfl
 ·obtain⟨v,l,rfl,r,ok,k⟩:=h;refine⟨_,(Zg (Zw (ZcS (Zv (YU (K:=K) rfl) (by rfl) ZE qU (Za (pv 0) (Za (Ue (v:=.ty "list") (by rfl) Z6 Xw rfl) Zb))) (ZaK (Zv (UO (K:=K) rfl rfl) (by rfl) ZaH boot_all (Za (WA (Ls:=["_law_one"]) (Fs:=[]) (fi:=[]) (ZV.of (show Yv ["_law_thing"] (Zj Wt) _ [] []=true by decide +kernel)) rfl (ZU (K:=K) rfl (pv 0)) (fun cl C s3 H3 ex=>⟨(Zk (i:=0) (show ((["_law_one"]:QP)++([]:QP)).Nodup by decide +kernel) rfl (.inl rfl)),YE,(Zq Zaa hr (Za (pv 0) Zb))⟩)) Zb)))))),?_⟩;rcases Zbr (K:=K) r with⟨a,xs,ls,rfl,rfl,ea,rs⟩ | ⟨t,ty,kt,nl⟩
  ·obtain⟨l20,_⟩:=Zca ok;have lx:=rs.len;refine⟨_,rfl,_, "list", _,true,rfl,.lst ea,by rfl,true,rfl,J6 ?_⟩;refine⟨_,rfl,a,rfl,⟨_,Zt.of ea⟩,Ja (K:=K) (xs:=xs) (by rw[lx,k9];lia) (fun i zs G=>Zh H G/\zs=(ls.take i).map fun l=>V.bl (UY l)) ⟨Zh.refl _,rfl⟩
    (fun i zs G ⟨_,z⟩=>by rw[z,ke,kL];lia) (fun i zs G ⟨s',_⟩=>Zt.of (s' a _ ea)) ?_ ?_⟩
   ·rintro i x zs G hx ⟨s',rfl⟩;obtain⟨l',hl,rl⟩:=rs.get hx;rw[Zhd UY ls i hl];exact lcG ⟨_,rfl,x,l',rfl,rl.same s',s',rfl⟩
   ·rintro zs G ⟨s',rfl⟩ D hD;refine⟨D,ls.map UY,rfl,Zt.of ?_,?_⟩
    ·rw[Zc,TY,kJ (by lia)];rfl
    ·have:(ls.map UY).all id=Zfj (.lst ls):=by simp[Zfj]
     rw[this];exact k _ (s'.step hD)
  ·refine⟨_,rfl,_, "list", _,false,rfl,ty,kt,false,rfl,YZ ?_⟩;have:Zfj l=false:=by
    cases l with
    | lst ls=>exact absurd rfl (nl ls)
    | _=>rfl
   have q:=k H (Zh.refl _)
   rwa [this] at q
abbrev GO:Stmt:=top 3
theorem Zdr:Zy ["drawing"] ["drawing"] (Zj GO):={}
theorem Zf9 {f:Addr}{fd:FuncData}(F:Yx K "crossings_of" "crossings_of" GO f fd)(JI:Yq P w K mg base 1 "letters_of" ["drawing", "kind"] Zbs):Yi P w K mg base Wx 2 f fd ["drawing"] (Zav fun x=>decide (x = "cross")):=by
 refine F.ok Zdr (fun vs H Q E h=>?_) (fun cdv A outer s H vs Q E hr h=>?_)
 ·obtain⟨l,xs,ls,rfl,_⟩:=h;rfl
 ·obtain⟨l,xs,ls,rfl,hl,hL,hlen,_,k⟩:=h;refine⟨_,(Zg (Zw (Zq JI hr (Za (pv 0) (Za ZI Zb))))),?_⟩;exact⟨_,rfl,l,_,xs,ls,rfl,hl,hL,hlen,k⟩
def ZeD:Lit->Int
 | .int i=>i
 | _=>0
def csL:Lit->List Int
 | .lst ls=>ls.map ZeD
 | _=>[]
def okI (al:QG):Lit->Bool
 | .int i=>decide (i∈al)
 | _=>false
def Zhp (cs:QG):Bool:=((cs.zip (cs.drop 1)).map fun p=>decide (p.1<p.2)).all id
def Zdb (al:QG):Lit->Bool
 | .lst ls=>ls.all (okI al)&&Zhp (ls.map ZeD)
 | _=>false
theorem ZbP {al:QG}:∀{ls:List Lit},ls.all (okI al)=true->ls=(ls.map ZeD).map Lit.int
 | [],_=>rfl
 | x::ls,h=>by
  rw[Tw,Kj] at h;rw[Kq,Kq,<- ZbP h.2];cases x with
  | int i=>rfl
  | _=>cases h.1
theorem Zbh {H:Hp}:∀{cs:QG}{xs:QH},Jv H xs (cs.map Lit.int)->xs=cs.map V.int
 | [],_,.nil=>rfl
 | c::cs,_,.cons a r=>by cases a;rw[Kq,<- Zbh r]
theorem ZgR {α:Type}(f:α -> Bool){l:List α}{i:Nat}{x:α}(h:l[i]? = some x):((l.map f).take i).map V.bl ++ [V.bl (f x)]=((l.map f).take (i+1)).map V.bl:=by rw[Ki,kF,h,kQ];rfl
def Zep:Sp:=fun vs H Q _=>∃(v:V)(lit:Lit)(l:Addr)(al:QG),vs = [v,.ref l]/\J9 H v lit/\okL 3 lit=true/\H l=some (.lst (al.map V.int))/\al.length<=60 /\ ∀H',Zh H H'->Q (.bl (Zdb al lit)) H'
abbrev W0:Stmt:=top 32
theorem ZgS:Zy ["thing", "allowed"] ["thing", "allowed"] (Zj W0):={}
theorem Zlc {f:Addr}{fd:FuncData}(F:Yx K "is_rising" "is_rising" W0 f fd)(ZbV:Yq P w K mg base 1 "is_whole" ["thing"] UG)(ZE:mg "isinstance" = none)(Z6:mg "list" = none)(ZaH:mg "all" = none)(Zay:mg "zip" = none):Yi P w K mg base Wx 2 f fd ["thing", "allowed"] Zep:=by
 refine F.ok ZgS (fun vs H Q E h=>?_) (fun cdv A outer s H vs Q E hr h=>?_)
 ·obtain⟨v,lit,l,al,rfl,_⟩:=h;rfl
 ·obtain⟨v,lit,l,al,rfl,r,ok,hl,nal,k⟩:=h;refine⟨_,(Zd (ZQ (PW.pt (Zc3 (Gj (Ww (Zv (YU (K:=K) rfl) (by rfl) ZE qU (Za (pv 0) (Za (Ue (v:=.ty "list") (by rfl) Z6 Xw rfl) Zb))))) (ZbM (Gj (Ww (Zv (UO (K:=K) rfl rfl) (by rfl) ZaH boot_all (Za (WA (Ls:=["one"]) (Fs:=["allowed"]) (fi:=[1]) (ZV.of (show Yv ["thing", "allowed"] (Zj W0) _ ["allowed"] [1]=true by decide +kernel)) rfl (ZU (K:=K) rfl (pv 0)) (fun cl C s3 H3 ex=>⟨(Zk (i:=0) (show ((["one"]:QP)++(["allowed"]:QP)).Nodup by decide +kernel) rfl (.inl rfl)),YE,(ZcS (Zq ZbV hr (Za (pv 0) Zb)) (ZaK (Yl (ZbL (K:=K) rfl) (pv 0) (pv 1) rfl)))⟩)) Zb))))))) (Zg (Zw Gs)) ZG)
   (Zg (Zw (Zv (UO (K:=K) rfl rfl) (by rfl) ZaH boot_all (Za (WA (Ls:=["one", "onward"]) (Fs:=[]) (fi:=[]) (ZV.of (show Yv ["thing", "allowed"] (Zj W0) _ [] []=true by decide +kernel)) rfl (Zf0 (K:=K) rfl (by rfl) Zay (Za (pv 0) (Za (Z7 (Ym (K:=K) rfl) (pv 0) (ZW Ze) Yy) Zb))) (fun cl C s3 H3 ex=>⟨(Z0 (K:=K) (n:=2) rfl rfl (Zm (Zk (i:=0) (show ((["one", "onward"]:QP)++([]:QP)).Nodup by decide +kernel) rfl (.inl rfl)) (Zm (Zk (i:=1) (show ((["one", "onward"]:QP)++([]:QP)).Nodup by decide +kernel) rfl (.inl rfl)) ZO))),YE,(Yl Ws (pv 0) (pv 1) (Zs _))⟩)) Zb))))),?_⟩
  rcases Zbr (K:=K) r with⟨p,xs,ls,rfl,rfl,hp,rs⟩ | ⟨t,ty,kt,nl⟩
  ·obtain⟨l60,_⟩:=Zca ok;have lx:=rs.len;refine⟨_,rfl,_, "list", _,true,rfl,.lst hp,by rfl,true,rfl,YZ ?_⟩;refine⟨_,rfl,p,rfl,⟨_,Zt.of hp⟩,Ja (K:=K) (xs:=xs) (by rw[lx,k9];lia) (fun i zs G=>Zh H G/\zs=(ls.take i).map fun l=>V.bl (okI al l)) ⟨Zh.refl _,rfl⟩
    (fun i zs G ⟨_,z⟩=>by rw[z,ke,kL];lia) (fun i zs G ⟨s',_⟩=>Zt.of (s' _ _ hp)) (fun i x zs G hx q=>?_) (fun zs G q D hD=>?_)⟩
   ·obtain⟨s',rfl⟩:=q;obtain⟨l',hl',rl⟩:=rs.get hx;have rl:=rl.same s';rw[Zhd (okI al) ls i hl'];refine lcG ⟨_,rfl,x,l',rfl,rl,_,rfl,?_⟩;cases rl with
    | int c=>
     refine J6 ⟨_,rfl,_,rfl,l,_,rfl,.inl (Zt.of (s' _ _ hl)),rfl,?_,s',?_⟩
     ·rw[KA];intro v hv;obtain⟨z,_,rfl⟩:=KH.mp hv;rfl
     ·rw[ki kP,ZaW];rfl
    | non=>exact YZ ⟨s',rfl⟩
    | bl b=>exact YZ ⟨s',rfl⟩
    | str y=>exact YZ ⟨s',rfl⟩
    | tup e r=>exact YZ ⟨s',rfl⟩
    | lst e r=>exact YZ ⟨s',rfl⟩
   obtain⟨s1,rfl⟩:=q;rw[lx,Xl];refine lay2 hD fun G1 t1 e1=>?_;have e1:G1 D=some (.lst ((ls.map (okI al)).map V.bl)):=by rw[e1,TY];rfl
   refine⟨D,_,rfl,Zt.of e1,_,rfl,?_⟩;have ea:(ls.map (okI al)).all id=ls.all (okI al):=by rw[Lr];rfl
   rw[ea];cases ha:ls.all (okI al) with
   | false=>
    have:=k G1 (s1.trans t1);rw[show Zdb al (.lst ls)=false by show (ls.all (okI al)&&_)=false;rw[ha,Mg]] at this;exact J6 this
   | true=>
    obtain⟨cs,ecs⟩:∃cs,cs=ls.map ZeD:=⟨_,rfl⟩;have el:=ZbP ha;rw[<- ecs] at el;rw[el] at rs;have ex:=Zbh rs;subst ex;have lc:cs.length<=60:=by rw[ecs,ke];exact l60
    have k:∀H',Zh H H'->Q (.bl (Zhp cs)) H':=fun H' s'=>by
     have:=k H' s'
     rwa [show Zdb al (.lst ls)=Zhp cs by show (ls.all (okI al)&&_)=_;rw[ha,Bool.true_and,ecs]] at this
    refine YZ ?_;have hp1:=(s1.trans t1) _ _ hp;refine⟨_,rfl,_,rfl,_,rfl,p,_,rfl,Zt.of hp1,fun c hc=>?_⟩;have ec:W3 (cs.map V.int) (some 1) none=(cs.drop 1).map V.int:=by have:=ZiO (cs.map V.int) 1;rw[<- qD] at this;exact this
    rw[ec];refine lay2 (o:=.lst ((cs.drop 1).map V.int)) hc fun G2 t2 e2=>?_;refine⟨p,c,rfl,⟨_,Zt.of (t2 _ _ hp1)⟩,⟨_,Zt.of e2⟩,ZjB (K:=K) (a:=p) (b:=c) (xs:=cs.map V.int) (ys:=(cs.drop 1).map V.int) (by rw[ke,Ks,k9];lia) (by rw[ke,ke,Ks];lia) (fun i zs G=>Zh G2 G/\zs=(((cs.zip (cs.drop 1)).map fun p=>decide (p.1<p.2)).take i).map V.bl) ⟨Zh.refl _,rfl⟩
     (fun i zs G ⟨_,z⟩=>by rw[z,ke,kL];lia) (fun i zs G ⟨s',_⟩=>⟨Zt.of (s' _ _ (t2 _ _ hp1)),Zt.of (s' _ _ e2)⟩) (fun i x y q zs G hx hy w fq=>?_) (fun zs G w D' hD'=>?_)⟩
    ·obtain⟨s',rfl⟩:=w;rw[kF] at hx hy;obtain⟨c1,hc1,rfl⟩:=Ke.mp hx;obtain⟨c2,hc2,rfl⟩:=Ke.mp hy;have hz:(cs.zip (cs.drop 1))[i]? = some (c1,c2):=by rw[XN];exact⟨hc1,hc2⟩
     refine⟨q,_,rfl,Y9.of Zc,rfl,_,_,rfl,_,_,rfl,rfl,?_⟩;dsimp only[ZfF];rw[km rfl];exact⟨_,rfl,_,rfl,_,_,rfl,rfl,s'.step fq,ZgR (fun p:Int×Int=>decide (p.1<p.2)) hz⟩
    ·obtain⟨s',rfl⟩:=w;rw[kJ (by rw[ke,XT,ke,Ks];lia)];exact⟨D',_,rfl,Zt.of Zc,k _ (((s1.trans t1).trans t2).trans (s'.step hD'))⟩
  ·refine⟨_,rfl,_, "list", _,false,rfl,ty,kt,false,rfl,J6 (J6 ?_)⟩;have:Zdb al lit=false:=by
    cases lit with
    | lst ls=>exact absurd rfl (nl ls)
    | _=>rfl
   have q:=k H (Zh.refl _)
   rwa [this] at q
def ZpE:Sp:=fun vs H Q _=>∃(l:Addr)(sc:Int)(ls:QB)(g:QX),vs = [.ref l,.int sc]/\(sc=0∨sc=1)/\Drw H l ls/\HG sc ls g /\ ∀(p:Addr)(H':Hp)(kvs:QD),Zh H H'->H p=none->H' p=some (.dK kvs)->(∀t:Nat,t<ls.length->JS kvs (Sum.inl (t:Int))=(hgA g ls t).map V.int)->Q (.ref p) H'
theorem ZrY {X:L2.Cx}:Passes (CX1 P w) X (fun _ _ _=>False):=fun _ _ _ _ _ _ _ c=>by obtain⟨_,_,_,_,_,_,_,_,_,_,_,_,_,_,h⟩:=c;exact h.elim
theorem Zl7 (F:Int->V)(t:Int):∀(ns:QG)(acc:QD),JS (Za9 acc (ns.zip (ns.map F))) (Sum.inl t)=if t∈ns then some (F t) else JS acc (Sum.inl t)
 | [],acc=>by simp[Za9]
 | n::ns,acc=>by
  show JS (Za9 (putK acc (Sum.inl n) (F n)) (ns.zip (ns.map F))) (Sum.inl t)=_;rw[Zl7 F t ns,Zec];by_cases h1:t∈ns
  ·rw[km h1,km (kU _ h1)]
  ·rw[ki h1];by_cases h2:t=n
   ·subst h2;rw[km rfl,km kS]
   ·rw[ki (fun z=>h2 (by injection z)),ki (fun z=>by rcases kO.mp z with z | z;exact h2 z;exact h1 z)]
abbrev Wn:Stmt:=top 26
theorem ZbR:Zy ["drawing", "scale"] ["drawing", "scale"] (Zj Wn):={}
theorem Zrt {f C:Addr}{fd:FuncData}(F:Yx K "heights_by_name" "heights_by_name" Wn f fd)(WD:Yq P w K mg base 1 "names_of" ["drawing"] (Zav UR))(GL:Zkt P w K mg base 9 "name_heights" ["drawing", "scale"] (Zqw C))(ZiA:mg "dict" = none)(Zay:mg "zip" = none):Yi P w K mg base Wx 10 f fd ["drawing", "scale"] ZpE:=by
 refine F.ok ZbR (fun vs H Q E h=>?_) (fun cdv A outer s H vs Q E hr h=>?_)
 ·obtain⟨l,sc,ls,g,rfl,_⟩:=h;rfl
 ·obtain⟨l,sc,ls,g,rfl,hsc,⟨xs,hl,hL,hW,hlen⟩,hg,k⟩:=h;refine⟨_,(Zg (Zw (ZiM (K:=K) rfl rfl (by rfl) ZiA (by rfl) Zay (Za (Zq WD hr (Za (pv 0) Zb)) (Za (ZjK GL (hr.mono (by decide)) ZrY (Za (pv 0) (Za (pv 1) Zb))) Zb))))),?_⟩;refine⟨_,rfl,l,xs,ls,rfl,hl,hL,hlen,hW.kd,fun pn H1 fn s1 en=>?_⟩;refine⟨_,rfl,_,rfl,l,sc,xs,ls,rfl,s1 _ _ hl,hL.same s1,hlen,hW,fun ph H2 g' fh s2 hg' eh=>?_,fun H2 ts s2 n1 tr z=>?_⟩
  ·have:=hg.uniq hg';subst this;have ll:(Yg ls UR ls.length).length<=60:=by
    unfold Yg;refine Kb (Nq _ _) ?_;rw[KP];exact hlen
   have ed:(dfs g ls (Yg ls UR ls.length)).map V.int=(Yg ls UR ls.length).map fun t=>V.int (g (YM ls t.toNat).1-g (YM ls t.toNat).2):=by unfold dfs;rw[TY];rfl
   rw[ed] at eh;refine⟨pn,ph,_,_,rfl,Zt.of (s2 _ _ en),Zt.of eh,by rw[ke],by lia,fun D hD=>?_⟩;refine k D _ _ ((s1.trans s2).trans (Zh.laid hD)) ((s1.trans s2).free hD) Zc fun t ht=>?_;rw[Zl7];have mm:((t:Int)∈Yg ls UR ls.length) ↔ isK ls UR t=true:=by
    unfold Yg;rw[K0];constructor
    ·rintro⟨a,_,h⟩;split at h
     ·rename_i c
      have:a=t:=by injection h with h;lia
      rw[<- this];exact c
     ·cases h
    ·exact fun c=>⟨t,Kw.mpr ht,by rw[km c]⟩
   unfold hgA;by_cases c:isK ls UR t=true
   ·rw[km (mm.mpr c),km c,kM];rfl
   ·rw[ki (fun z=>c (mm.mp z)),ki c];rfl
  ·rcases hg with⟨e,_⟩ | ⟨_,T,L,tr',t0,_⟩
   ·exact n1 e
   ·have:=tr.uniq tr';rw[this] at z;exact z (by rw[MX,t0])
theorem Zk9 {α β:Type}{F:α -> β -> Prop}:∀{l:List α}{m:List β}{i:Nat}{x:α},Paired F l m->l[i]? = some x -> ∃y,m[i]? = some y/\F x y
 | _,_,_,_,.nil,e=>by simp at e
 | _,_,0,_,.cons r _,e=>by simp at e;subst e;exact⟨_,rfl,r⟩
 | _,_,i+1,_,.cons _ t,e=>by obtain⟨y,h1,h2⟩:=Zk9 (i:=i) t (by simpa using e);exact⟨y,by simpa using h1,h2⟩
theorem Zgh {α β:Type}{F:α -> β -> Prop}:∀{l:List α}{m:List β},Paired F l m->l.length=m.length
 | _,_,.nil=>rfl
 | _,_,.cons _ t=>KC (· + 1) (Zgh t)
abbrev crI (ls:QB):QG:=Yg ls (fun x=>decide (x = "cross")) ls.length
abbrev zfA (g:QX)(ls:QB):Nat->Bool:=fun i=>decide (hgA g ls i=some 0)
abbrev chA (cs:QG):Nat->Bool:=fun t=>decide ((t:Int)∈cs)
def W5 (ls:QB)(g:QX)(lit:Lit):Bool:=Zdb (crI ls) lit&&(W9 ls (zfA g ls) (chA (csL lit)) ls.length).isSome
def ZiG:Sp:=fun vs H Q _=>∃(l:Addr)(v:V)(lit:Lit)(sc:Int)(ls:QB)(g:QX),vs = [.ref l,.int sc,v]/\(sc=0∨sc=1)/\Drw H l ls/\HG sc ls g/\J9 H v lit/\okL 3 lit=true /\
 (W5 ls g lit=false -> ∀H',Zh H H'->Q .non H') /\
 (W5 ls g lit=true -> ∀(r:Addr)(H':Hp),Zh H H'->H r=none->Q (.ref r) H')
theorem ZkD {H:Hp}{v:V}{lit:Lit}{al:QG}(r:J9 H v lit)(h:Zdb al lit=true)(ok:okL 3 lit=true):∃p,v = .ref p/\H p=some (.lst ((csL lit).map V.int))/\(csL lit).length<=60:=by
 cases r with
 | lst e rs=>
  obtain⟨l60,_⟩:=Zca ok;have ha:_/\_:=Mw.mp h;have el:=ZbP ha.1;rw[el] at rs;have ex:=Zbh rs;refine⟨_,rfl,?_,?_⟩
  ·rw[e,ex];rfl
  ·show (List.map ZeD _).length<=60;rw[ke];exact l60
 | _=>cases h
theorem Zks {G:Hp}{r:Addr}{us:QH}{o:HO}(h:G r=some (.lst us)){ws:QH}{L:QA}(x:Words G ws L):Words (upd G r o) ws L:=Words.mono (fun t p e=>by rw[Zi (Zee e h (fun z=>nomatch z))];exact e) x
theorem Zfv {α:Type}(f:α -> Bool){l:List α}{j:Nat}{x:α}(h:l[j]? = some x):(l.take (j+1)).filter f=(l.take j).filter f++if f x=true then[x] else[]:=by
 rw[Ki,h,MW];show (l.take j).filter f ++ [x].filter f=_;congr 1;by_cases e:f x=true
 ·rw[km e,List.filter_cons_of_pos e];rfl
 ·rw[ki e,List.filter_cons_of_neg e];rfl
abbrev Jl:Stmt:=top 33
theorem Ys:Zy ["drawing", "scale", "thing", "heights", "rows", "t", "letter", "found"] ["drawing", "scale", "thing"] (Zj Jl):={}
theorem Zoq {f:Addr}{fd:FuncData}(F:Yx K "partners_through" "partners_through" Jl f fd)(Wi:Yq P w K mg base 10 "heights_by_name" ["drawing", "scale"] ZpE)(ZaY:Yq P w K mg base 2 "is_rising" ["thing", "allowed"] Zep)(GW:Yq P w K mg base 2 "crossings_of" ["drawing"] (Zav fun x=>decide (x = "cross")))(ZcI:Yq P w K mg base 2 "ways_on" ["partners", "letter", "height"] Ziw)(ZA:mg "enumerate" = none):
  Yi P w K mg base Wx 11 f fd ["drawing", "scale", "thing"] ZiG:=by
 refine F.ok Ys (fun vs H Q E h=>?_) (fun cdv A outer s H vs Q E hr h=>?_)
 ·obtain⟨l,v,lit,sc,ls,g,rfl,_⟩:=h;rfl
 ·obtain⟨l,v,lit,sc,ls,g,rfl,hsc,dr,hg,rl,ok,kn,ky⟩:=h;refine⟨_,(Zd (Zp (i:=3) Ys.nd rfl (.inl rfl) (Zq Wi hr (Za (pv 0) (Za (pv 1) Zb))))
   (Zd (ZQ (Gj (Ww (Zq ZaY hr (Za (pv 2) (Za (Zq GW hr (Za (pv 0) Zb)) Zb))))) (Zg (Zw JP)) ZG)
   (Zd (Zp (i:=4) Ys.nd rfl (.inl rfl) (Zz (Za (ZN Zb) Zb)))
   (Zd (Yw Kg rfl (JU (K:=K) rfl (by rfl) ZA (Za (pv 0) Zb)) (Z0 (K:=K) (n:=2) rfl rfl (Zm (Zk (i:=5) Ys.nd rfl (Or.inr rfl)) (Zm (Zk (i:=6) Ys.nd rfl (.inl rfl)) ZO))) (Zd (Zc7 (i:=7) Ys.nd rfl (.inl rfl) (Ls:=["then", "changed"]) (Fs:=["t", "thing"]) (fi:=[5,2]) (ZV.of (show Yv ["drawing", "scale", "thing", "heights", "rows", "t", "letter", "found"] (Zj Jl) _ ["t", "thing"] [5,2]=true by decide +kernel)) rfl (ZU (K:=K) rfl (Zq ZcI hr (Za (Zx (Zn (K:=K) rfl) (pv 4) (Ug Wm Ze) (fun _ _=>rfl)) (Za (pv 6) (Za (ZmZ (WW hr) (pv 3) (pv 5) ⟨rfl,rfl,rfl,rfl⟩) Zb))))) (fun cl C s3 H3 ex=>⟨(Z0 (K:=K) (n:=2) rfl rfl (Zm (Zk (i:=0) (show ((["then", "changed"]:QP)++(["t", "thing"]:QP)).Nodup by decide +kernel) rfl (.inl rfl)) (Zm (Zk (i:=1) (show ((["then", "changed"]:QP)++(["t", "thing"]:QP)).Nodup by decide +kernel) rfl (.inl rfl)) ZO))),(Zaj (Zu Yo (pv 1) (Yl (ZbL (K:=K) rfl) (pv 2) (pv 3) rfl) (Zs _))),(pv 0)⟩))
   (Zd (ZQ (Gj (ZkJ (K:=K) rfl (Zg8 (pv 7) (fun _=>rfl)))) (Zg (Zw JP)) ZG)
   (Zg (Z8 (Yf (K:=K) rfl (YC kK kW kX ZP (pv 4) (Za (Zx (Zn (K:=K) rfl) (pv 7) Ze (fun _ _=>rfl)) Zb))))))))
   (Zg (Zw (pv 4))))))),?_⟩
  obtain⟨xs,hl,hL,hW,hlen⟩:=id dr;refine⟨_,rfl,_,rfl,l,sc,ls,g,rfl,hsc,dr,hg,fun hp H1 kvh s1 fh eh vh=>?_⟩;refine⟨_,rfl,_,rfl,l,xs,ls,rfl,s1 _ _ hl,hL.same s1,hlen,hW.kd,fun cp H2 fcp s2 ecp=>?_⟩;have s02:=s1.trans s2;have ncr:(crI ls).length<=60:=Kb (JV ls _ _) hlen;refine⟨v,lit,cp,crI ls,rfl,rl.same s02,ok,ecp,ncr,fun H3 s3=>⟨_,rfl,?_⟩⟩;have s03:=s02.trans s3;cases hrb:Zdb (crI ls) lit with
  | false=>exact J6 (kn (by unfold W5;rw[hrb,Mg]) H3 s03)
  | true=>
  refine YZ ?_;obtain⟨p,rfl,ep,nc⟩:=ZkD rl hrb ok;obtain⟨cs,ecs⟩:∃cs,cs=csL lit:=⟨_,rfl⟩;rw[<- ecs] at ep nc;have k0:W9 ls (zfA g ls) (chA cs) ls.length=none -> ∀H',Zh H H'->Q .non H':=fun z=>kn (by unfold W5;rw[<- ecs,z,hrb];rfl);have k1:∀(r:Addr)(ws:QH)(rows:QA)(H':Hp),Zh H H'->H r=none->H' r=some (.lst ws)->Words H' ws rows->rows.length=ls.length+1->(∀t,t<=ls.length->W9 ls (zfA g ls) (chA cs) t=rows[t]?)->Q (.ref r) H':=fun r ws rows H' s f _ _ lr hr=>ky (by unfold W5;rw[<- ecs,hr _ (kj _),ko (by lia),hrb];rfl) r H' s f
  refine⟨sz0,fun e0 fe0=>?_⟩;refine lay2 (o:=.tup []) fe0 fun H4 t4 g4=>?_;refine⟨sz1,fun r fr=>?_⟩;refine lay2 (o:=.lst [.ref e0]) fr fun H5 t5 g5=>?_;have s05:=(s03.trans t4).trans t5;have fr0:H r=none:=(s03.trans t4).free fr;have hxl:=hL.len;refine⟨_,rfl,l,rfl,⟨_,Zt.of (s05 _ _ hl)⟩,UZ (K:=K) (a:=l) (xs:=xs) (fun i σ G=>∃(ws:QH)(rows:QA)(v5 v6 v7:QI),σ = [some (.ref l),some (.int sc),some (.ref p),some (.ref hp),some (.ref r),v5,v6,v7]/\Zh H G/\G hp=some (.dK kvh)/\G r=some (.lst ws)/\Words G ws rows/\rows.length=i+1 /\ ∀t,t<=i->W9 ls (zfA g ls) (chA cs) t=rows[t]?)
   ⟨[.ref e0],[[]],none,none,none,rfl,s05,((s2.trans s3).trans (t4.trans t5)) _ _ eh,g5,.cons ⟨e0,rfl,t5 _ _ g4⟩ .nil,rfl,fun t ht=>by rw[Nat.le_zero.mp ht];rfl⟩ (fun i σ G _ ⟨_,_,_,_,_,_,sG,_⟩=>Zt.of (sG _ _ hl)) ?_ ?_⟩
  ·rintro i x pe σ G hx ⟨ws,rows,v5,v6,v7,rfl,sG,ehG,er,hws,lr,hrow⟩ fpe;obtain⟨q,ta,hq,rfl,hta⟩:=hL.get hx;have hi:i<ls.length:=(kz.mp hq).1;refine⟨pe,_,rfl,Y9.of Zc,rfl,_,_,rfl,_,_,rfl,rfl,?_⟩;refine lay2 (o:=.tup [.int (i:Int),.ref ta]) fpe fun G1 sg1 eg1=>?_;have sG1:=sG.trans sg1;have er1:=sg1 _ _ er;have hws1:=hws.same sg1;have eh1:=sg1 _ _ ehG;obtain⟨ps,hps⟩:∃ps,rows[i]? = some ps:=⟨_,ko (by lia)⟩;have hrw:W9 ls (zfA g ls) (chA cs) i=some ps:=(hrow i (kj _)).trans hps;obtain⟨n,wn,al⟩:=ZgL (z:=zfA g ls) (ch:=chA cs) hW i (by lia);obtain⟨ptr,lps⟩:=al ps hrw;obtain⟨m,wm,ft⟩:=Ziv hW wn hq;have kq:=kinds ft;have n2:=Zbt wn;have tl:(ls.take i).length=i:=by rw[kL];lia
   have lw:ws.length=i+1:=hws.len.trans lr;obtain⟨u0,x0,rfl⟩:∃u0 x0,ws=u0 ++ [x0]:=⟨ws.dropLast,_,(TQ (fun z=>by rw[z] at lw;cases lw)).symm⟩;have lu0:u0.length=i:=by rw[kh,Kf] at lw;lia
   have wx:Jx G1 x0 ps:=by obtain⟨w',hw',e'⟩:=hws1.get (i:=i) (x:=x0) (by rw[Ko (by lia),lu0];simp);rw[hps] at hw';cases hw';exact e'
   refine⟨_,rfl,1,rfl,r,_,-1,x0,rfl,rfl,Zt.of er1,Uz _ _,_,rfl,_,rfl,hp,rfl,.inl ⟨_,.inl eh1⟩,_,rfl,_,.inl ⟨kvh,.inl (i:Int),.inl eh1,rfl,rfl⟩,?_⟩;rw[vh i hi];refine⟨x0,ta,q,hgA g ls i,ps,(by cases hgA g ls i<;>rfl),wx,sG1 _ _ hta,by lia,ptr,ft.1,?_,?_,kq,fun w ys G2 sg2 ew pw=>?_⟩
   ·intro nb;rcases ft.2 with⟨e,_⟩ | ⟨_,e,_⟩ | ⟨_,e,_⟩
    ·exact absurd e nb
    ·lia
    ·lia
   ·intro ec z;have kt:isK ls UR i=true:=by rw[Gw hq (pr:=UR),ec];decide
    unfold hgA at z;rw[kt] at z;cases z
   have sG2:=sG1.trans sg2;have ep2:=sG2 _ _ ep;have wl:=Zgh pw;have w2:(UL ps q (hgA g ls i)).length<=2:=by
    rw[ZjP ps q _ kq];cases Wg ps q with
    | none=>simp
    | some r'=>dsimp only;split<;>simp
   refine⟨w,rfl,⟨_,Zt.of ew⟩,Ja (K:=K) (a:=w) (xs:=ys) (by rw[wl,k9];lia) (fun j zs G'=>Zh G2 G'/\Words G' zs ((((UL ps q (hgA g ls i)).take j).filter fun v=>v.2==chA cs i).map (·.1))) ⟨Zh.refl _,.nil⟩
    (fun j zs G' ⟨_,z⟩=>by rw[z.len,ke];exact Kb (Xz _ _) (by rw[kL];lia)) (fun j zs G' ⟨s',_⟩=>Zt.of (s' _ _ ew)) (fun j y zs G' hy z=>?_) (fun zs G' z D hD=>?_)⟩
   ·obtain⟨s',hz⟩:=z;obtain⟨⟨th,c⟩,hw',t',x',rfl,ht',hx'⟩:=Zk9 pw hy;dsimp only at ht' hx';refine⟨t',_,rfl,Y9.of (s' _ _ ht'),rfl,_,_,rfl,_,_,rfl,rfl,?_⟩;refine⟨_,rfl,_,rfl,_,rfl,p,_,rfl,.inl (Zt.of (s' _ _ ep2)),rfl,?_,rfl,_,rfl,?_⟩
    ·rw[KA];intro v hv;obtain⟨z,_,rfl⟩:=KH.mp hv;rfl
    ·have ed:decide (V.bl c=V.bl (decide ((i:Int)∈cs)))=(c==chA cs i):=by
      show _=(c==decide ((i:Int)∈cs));cases c<;>cases decide ((i:Int)∈cs)<;>rfl
     rw[ki kP,ZaW,ed];cases e:(c==chA cs i) with
     | true=>
      refine J6 ⟨_,rfl,s',?_⟩;rw[Zfv (fun v:QG×Bool=>v.2==chA cs i) hw',km e,kQ];exact hz.snoc (hx'.same s')
     | false=>
      refine YZ ⟨s',?_⟩;rw[Zfv (fun v:QG×Bool=>v.2==chA cs i) hw',ki (by rw[e];exact kP),qe];exact hz
   ·obtain⟨s',hz⟩:=z;rw[kJ (by rw[wl];exact kj _),ZoE ps q _ kq] at hz;have rw1:=ZdH (z:=zfA g ls) (ch:=chA cs) hrw hq;refine lay2 (o:=.lst zs) hD fun G3 t3 e3=>?_;have sg3:=(sg2.trans s').trans t3;have s3':Zh H G3:=sG1.trans sg3;refine⟨_,rfl,!zs.isEmpty,.inl ⟨zs,Zt.of e3,rfl⟩,?_⟩;cases hn:nxt ps q (zfA g ls i) (chA cs i) with
    | none=>
     rw[hn] at rw1;have hn':nxt ps q (decide (hgA g ls i=some 0)) (chA cs i)=none:=hn;rw[hn'] at hz;cases hz;refine J6 (k0 ?_ G3 s3');have:=Zbi rw1 (ls.length-(i+1));rw[show i+1+(ls.length-(i+1))=ls.length by lia] at this;exact this
    | some r'=>
     rw[hn] at rw1;have hn':nxt ps q (decide (hgA g ls i=some 0)) (chA cs i)=some r':=hn;rw[hn'] at hz;obtain⟨x1,rfl,hx1⟩:∃x1,zs = [x1]/\Jx G' x1 r':=by
      cases hz with
      | cons a b=>cases b;exact⟨_,rfl,a⟩
     refine YZ ?_;have er3:=sg3 _ _ er1;refine⟨_,rfl,.inl ⟨rfl,_,Zt.of er3⟩,_,rfl,D,[x1],0,x1,rfl,rfl,Zt.of e3,rfl,r,_,_,rfl,rfl,er3,(by rw[lw,k9];lia),?_⟩;have hw3:Words G3 (u0 ++ [x0] ++ [x1]) (rows ++ [r']):=(hws1.same sg3).snoc (hx1.same t3);refine⟨_,rows ++ [r'],_,_,_,rfl,fun c o e=>by rw[Zi (Zf e fr0)];exact s3' c o e,?_,Zc,Zks er3 hw3,by rw[kh,lr];rfl,fun t ht=>?_⟩
     ·rw[Zi (Zee (sg3 _ _ eh1) er3 (fun z=>nomatch z))];exact sg3 _ _ eh1
     ·by_cases e:t=i+1
      ·subst e;rw[rw1,Ko (by lia),lr];simp
      ·rw[hrow t (by lia),KJ (by lia)]
  ·rintro σ G ⟨ws,rows,v5,v6,v7,rfl,sG,ehG,er,hws,lr,hrow⟩;rw[hxl] at lr hrow;exact⟨_,rfl,k1 r ws rows G sG fr0 er hws lr hrow⟩
def ZmV:Sp:=fun vs H Q _=>∃(l:Addr)(v:V)(lit:Lit)(sc:Int)(ls:QB)(g:QX),vs = [.ref l,.int sc,v]/\(sc=0∨sc=1)/\Drw H l ls/\HG sc ls g/\J9 H v lit/\okL 3 lit=true /\ ∀H',Zh H H'->Q (.bl (W5 ls g lit)) H'
abbrev UW:Stmt:=top 34
theorem ZeY:Zy ["drawing", "scale", "thing"] ["drawing", "scale", "thing"] (Zj UW):={}
theorem ZpW {f:Addr}{fd:FuncData}(F:Yx K "is_banding" "is_banding" UW f fd)(J7:Yq P w K mg base 11 "partners_through" ["drawing", "scale", "thing"] ZiG):Yi P w K mg base Wx 12 f fd ["drawing", "scale", "thing"] ZmV:=by
 refine F.ok ZeY (fun vs H Q E h=>?_) (fun cdv A outer s H vs Q E hr h=>?_)
 ·obtain⟨l,v,lit,sc,ls,g,rfl,_⟩:=h;rfl
 ·obtain⟨l,v,lit,sc,ls,g,rfl,hsc,dr,hg,rl,ok,k⟩:=h;refine⟨_,(Zg (Zw (Yl ZdD (Zq J7 hr (Za (pv 0) (Za (pv 1) (Za (pv 2) Zb)))) JP (Zs _)))),?_⟩;refine⟨_,rfl,_,rfl,_,rfl,l,v,lit,sc,ls,g,rfl,hsc,dr,hg,rl,ok,fun e H' s'=>?_,fun e r H' s' _=>?_⟩
  ·have:=k H' s';rw[e] at this;exact⟨rfl,this⟩
  ·have:=k H' s';rw[e] at this;exact⟨rfl,this⟩
theorem Zo4 {α β:Type}{F:α -> β -> Prop}{x:α}{y:β}(h:F x y):∀{l:List α}{m:List β},Paired F l m->Paired F (l ++ [x]) (m ++ [y])
 | _,_,.nil=>.cons h .nil
 | _,_,.cons r t=>.cons r (Zo4 h t)
def ZiB:Sp:=fun vs H Q _=>∃(l p:Addr)(sc:Int)(ls:QB)(g:QX)(cs:QG),vs = [.ref l,.int sc,.ref p]/\(sc=0∨sc=1)/\Drw H l ls/\HG sc ls g/\H p=some (.lst (cs.map V.int))/\cs.length<=100 /\
 (W9 ls (zfA g ls) (chA cs) ls.length=none -> ∀H',Zh H H'->Q .non H') /\
 ∀(r:Addr)(ws:QH)(rows:QA)(H':Hp),Zh H H'->H r=none->H' r=some (.lst ws)->Za0 H' ws rows->(∀v∈ws,∃a,v = .ref a/\H a=none)->rows.length=ls.length+1->(∀t,t<=ls.length->W9 ls (zfA g ls) (chA cs) t=rows[t]?)->Q (.ref r) H'
abbrev Za8:Stmt:=top 53
theorem Jm:Zy ["_law_drawing_here", "_law_scale", "_law_changed", "_law_found", "_law_t", "_law_height", "_law_here", "_law_there"] ["_law_drawing_here", "_law_scale", "_law_changed"] (Zj Za8):={}
theorem ZnB {f:Addr}{fd:FuncData}(F:Yx K "_law_walk" "_law_walk" Za8 f fd)(Yj:Yq P w K mg base 5 "_law_letter_heights" ["_law_drawing_here", "_law_scale"] Zge)(YQ:Yq P w K mg base 1 "_law_moved_on" ["_law_partners", "_law_letter"] ZdL)(YS:Yq P w K mg base 1 "_law_is_apart" ["_law_partners", "_law_k"] ZdK)(ZA:mg "enumerate" = none)(Z6:mg "list" = none):
  Yi P w K mg base Wx 6 f fd ["_law_drawing_here", "_law_scale", "_law_changed"] ZiB:=by
 refine F.ok Jm (fun vs H Q E h=>?_) (fun cdv A outer s H vs Q E hr h=>?_)
 ·obtain⟨l,p,sc,ls,g,cs,rfl,_⟩:=h;rfl
 ·obtain⟨l,p,sc,ls,g,cs,rfl,hsc,dr,hg,ep,nc,k0,k1⟩:=h;refine⟨_,(Zd (Zp (i:=3) Jm.nd rfl (.inl rfl) (Zz (Za (Zz Zb) Zb)))
   (Zd (Yw Kg rfl (JU (K:=K) rfl (by rfl) ZA (Za (Zq Yj hr (Za (pv 0) (Za (pv 1) Zb))) Zb)) (Z0 (K:=K) (n:=2) rfl rfl (Zm (Zk (i:=4) Jm.nd rfl (.inl rfl)) (Zm (Zk (i:=5) Jm.nd rfl (.inl rfl)) ZO))) (Zd (Zp (i:=6) Jm.nd rfl (.inl rfl) (Zx (Zn (K:=K) rfl) (pv 3) (Ug Wm Ze) (fun _ _=>rfl)))
   (Zd (Zp (i:=7) Jm.nd rfl (.inl rfl) (Zq YQ hr (Za (pv 6) (Za (Zx (Zn (K:=K) rfl) (pv 0) (pv 4) (fun _ _=>rfl)) Zb))))
   (Zd (ZQ (Zu Zmh (pv 7) JP (Zs _)) (Zg (Zw JP)) ZG)
   (Zd (ZQ (Zu (ZbL (K:=K) rfl) (pv 4) (pv 2) rfl) (Zd (ZQ (PW.pt (Zc3 (Zu Zck (Zx (Yp (K:=K) rfl) (Zx (Zn (K:=K) rfl) (pv 0) (pv 4) (fun _ _=>rfl)) Ze (fun _ _=>rfl)) ZI (Zs _)) (Zc3 (Zu Zck (pv 5) Ze (Zs _)) (ZbM (Gj (Ww (Zq YS hr (Za (pv 6) (Za (Zx (Yp (K:=K) rfl) (Zx (Zn (K:=K) rfl) (pv 0) (pv 4) (fun _ _=>rfl)) Ze (fun _ _=>rfl)) Zb))))))))) (Zg (Zw JP)) ZG)
   (Zg (Zp (i:=7) Jm.nd rfl (.inl rfl) (Yc (J8 (K:=K) rfl) (by rfl) Z6 Xw (Za (pv 6) Zb))))) ZG)
   (Zg (Z8 (Yf (K:=K) rfl (YC kK kW kX ZP (pv 3) (Za (pv 7) Zb))))))))))
   (Zg (Zw (pv 3))))),?_⟩
  obtain⟨xs,hl,hL,hW,hlen⟩:=id dr;refine⟨sz0,fun e0 fe0=>?_⟩;refine lay2 (o:=.lst []) fe0 fun H4 t4 g4=>?_;refine⟨sz1,fun r fr=>?_⟩;refine lay2 (o:=.lst [.ref e0]) fr fun H5 t5 g5=>?_;have s05:=t4.trans t5;have fr0:H r=none:=t4.free fr;have e0r:e0≠r:=Zf g4 fr;refine⟨_,rfl,_,rfl,l,sc,ls,g,rfl,hsc,⟨xs,s05 _ _ hl,hL.same s05,hW,hlen⟩,hg,fun hp H6 s6 fhp ehp=>?_⟩;have s06:=s05.trans s6;have lh:(lhL g ls ls.length).length=ls.length:=by simp[lhL]
  have rhp:r≠hp:=Zf g5 fhp;have hxl:=hL.len;refine⟨hp,rfl,⟨_,Zt.of ehp⟩,UZ (K:=K) (a:=hp) (xs:=lhL g ls ls.length) (fun i σ G=>∃(ws:QH)(rows:QA)(v4 v5 v6 v7:QI),σ = [some (.ref l),some (.int sc),some (.ref p),some (.ref r),v4,v5,v6,v7]/\Zh H G/\G hp=some (.lst (lhL g ls ls.length))/\G r=some (.lst ws)/\Za0 G ws rows/\(∀v∈ws,v ≠ .ref r)/\(∀v∈ws,∃a,v = .ref a/\H a=none)/\rows.length=i+1 /\ ∀t,t<=i->W9 ls (zfA g ls) (chA cs) t=rows[t]?)
   ⟨[.ref e0],[[]],none,none,none,none,rfl,s06,ehp,s6 _ _ g5,.cons ⟨e0,rfl,s6 _ _ (t5 _ _ g4)⟩ .nil,fun v hv=>?_,fun v hv=>⟨e0,kT.mp hv,fe0⟩,rfl,fun t ht=>by rw[Nat.le_zero.mp ht];rfl⟩ (fun i σ G _ ⟨_,_,_,_,_,_,_,sG,e,_⟩=>Zt.of e) ?_ ?_⟩
  ·rw[kT.mp hv];exact fun z=>e0r (by injection z)
  ·rintro i x pe σ G hx ⟨ws,rows,v4,v5,v6,v7,rfl,sG,ehG,er,hws,hwr,hwn,lr,hrow⟩ fpe;have hi:i<ls.length:=by
    have:=(kz.mp hx).1;lia
   obtain⟨q,hq⟩:∃q,ls[i]? = some q:=⟨_,ko hi⟩;obtain rfl:x=oI (hgA g ls i):=by unfold lhL at hx;rw[kF,MD hi] at hx;exact(Ka hx).symm
   refine⟨pe,_,rfl,Y9.of Zc,rfl,_,_,rfl,_,_,rfl,rfl,?_⟩;refine lay2 (o:=.tup [.int (i:Int),oI (hgA g ls i)]) fpe fun G1 sg1 eg1=>?_;have sG1:=sG.trans sg1;have er1:=sg1 _ _ er;have hws1:Za0 G1 ws rows:=L2.Paired.imp' (fun _ _ ⟨a,h1,h2⟩=>⟨a,h1,sg1 _ _ h2⟩) hws;have eh1:=sg1 _ _ ehG;obtain⟨ps,hps⟩:∃ps,rows[i]? = some ps:=⟨_,ko (by lia)⟩;have hrw:W9 ls (zfA g ls) (chA cs) i=some ps:=(hrow i (kj _)).trans hps;obtain⟨n,wn,al⟩:=ZgL (z:=zfA g ls) (ch:=chA cs) hW i (by lia);obtain⟨ptr,lps⟩:=al ps hrw;obtain⟨m,wm,ft⟩:=Ziv hW wn hq;have kq:=kinds ft;have n2:=Zbt wn;have tl:(ls.take i).length=i:=by rw[kL];lia
   have lw:ws.length=i+1:=(Zgh hws).trans lr;obtain⟨u0,x0,rfl⟩:∃u0 x0,ws=u0 ++ [x0]:=⟨ws.dropLast,_,(TQ (fun z=>by rw[z] at lw;cases lw)).symm⟩;have lu0:u0.length=i:=by rw[kh,Kf] at lw;lia
   obtain⟨a0,rfl,ea0⟩:Zqk G1 x0 ps:=by obtain⟨w',hw',e'⟩:=Zk9 hws1 (i:=i) (x:=x0) (by rw[Ko (by lia),lu0];simp);rw[hps] at hw';cases hw';exact e'
   obtain⟨xv,hxt⟩:∃xv,xs[i]? = some xv:=⟨_,ko (by lia)⟩;obtain⟨q',ta,hq',rfl,hta⟩:=hL.get hxt;obtain rfl:q=q':=Ka (hq.symm.trans hq');have qb:q.1 ≠ "born" -> q.2+1<ps.length:=fun nb=>by
    rcases ft.2 with⟨e,_⟩ | ⟨_,e,_⟩ | ⟨_,e,_⟩
    ·exact absurd e nb
    ·lia
    ·lia
   have rw1:=ZdH (z:=zfA g ls) (ch:=chA cs) hrw hq;have none':nxt ps q (zfA g ls i) (chA cs i)=none -> ∀G',Zh G1 G'->Q .non G':=fun e G' s'=>by rw[e] at rw1;have:=Zbi rw1 (ls.length-(i+1));rw[show i+1+(ls.length-(i+1))=ls.length by lia] at this;exact k0 this G' (sG1.trans s')
   have put:∀(G':Hp)(pp:Addr)(r':QG),Zh G1 G'->nxt ps q (zfA g ls i) (chA cs i)=some r'->G1 pp=none->G' pp=some (.lst (r'.map V.int)) -> ∀v4 v5 v6 v7:QI,
     ∃(ws':QH)(rows:QA)(w4 w5 w6 w7:QI),[some (.ref l),some (.int sc),some (.ref p),some (.ref r),v4,v5,v6,v7] = [some (.ref l),some (.int sc),some (.ref p),some (.ref r),w4,w5,w6,w7]/\Zh H (upd G' r (.lst (u0 ++ [.ref a0] ++ [.ref pp])))/\(upd G' r (.lst (u0 ++ [.ref a0] ++ [.ref pp]))) hp=some (.lst (lhL g ls ls.length)) /\
      (upd G' r (.lst (u0 ++ [.ref a0] ++ [.ref pp]))) r=some (.lst ws')/\Za0 (upd G' r (.lst (u0 ++ [.ref a0] ++ [.ref pp]))) ws' rows/\(∀v∈ws',v ≠ .ref r)/\(∀v∈ws',∃a,v = .ref a/\H a=none)/\rows.length=i+1+1 /\ ∀t,t<=i+1->W9 ls (zfA g ls) (chA cs) t=rows[t]?:=fun G' pp r' s' en fpp epp v4 v5 v6 v7=>by
    have ppr:pp≠r:=fun z=>by rw[z,er1] at fpp;cases fpp
    rw[en] at rw1;have hw':∀v∈u0 ++ [.ref a0] ++ [.ref pp],v ≠ .ref r:=fun v hv=>by
     rcases Kk.mp hv with z | z
     ·exact hwr v z
     ·rw[kT.mp z];exact fun z=>ppr (by injection z)
    refine⟨_,rows ++ [r'],_,_,_,_,rfl,fun c o e=>by rw[Zi (Zf e fr0)];exact s' c o (sG1 c o e),by rw[Zi (KG rhp)];exact s' _ _ eh1,Zc,?_,hw',fun v hv=>?_,by rw[kh,lr];rfl,fun t ht=>?_⟩
    ·have all:Za0 G' (u0 ++ [.ref a0] ++ [.ref pp]) (rows ++ [r']):=Zo4 ⟨pp,rfl,epp⟩ (L2.Paired.imp' (fun _ _ ⟨a,h1,h2⟩=>⟨a,h1,s' _ _ h2⟩) hws1);have:∀{vs:QH}{L:QA},Za0 G' vs L->(∀v∈vs,v ≠ .ref r)->Za0 (upd G' r (.lst (u0 ++ [.ref a0] ++ [.ref pp]))) vs L:=fun x=>by
      induction x with
      | nil=>exact fun _=>.nil
      | cons h _ ih=>
       intro hv;obtain⟨a,rfl,e⟩:=h;exact .cons ⟨a,rfl,by rw[Zi fun z=>hv _ (.head _) (by rw[z])];exact e⟩ (ih fun v hv'=>hv v (.tail _ hv'))
     exact this all hw'
    ·rcases Kk.mp hv with z | z
     ·exact hwn v z
     ·exact⟨pp,kT.mp z,sG1.free fpp⟩
    ·by_cases e:t=i+1
     ·subst e;rw[rw1,Ko (by lia),lr];simp
     ·rw[hrow t (by lia),KJ (by lia)]
   refine⟨_,rfl,1,rfl,r,_,-1,.ref a0,rfl,rfl,Zt.of er1,Uz _ _,?_⟩;refine⟨_,rfl,_,rfl,_,rfl,l,_,_,_,rfl,rfl,Zt.of (sG1 _ _ hl),Zo hxt,a0,ta,q,ps,rfl,ea0,sG1 _ _ hta,by lia,ptr,ft.1,qb,kq,fun en G2 s2=>?_,fun r' pp G2 er' s2 fpp epp=>?_⟩
   ·exact⟨_,rfl,rfl,_,rfl,J6 (none' (by unfold nxt;rw[en]) G2 s2)⟩
   refine⟨_,rfl,rfl,_,rfl,YZ ?_⟩;have er2:=s2 _ _ er1;have sG2:=sG1.trans s2;have fl:∀v∈cs.map V.int,W8 v=true:=fun v hv=>by obtain⟨z,_,rfl⟩:=KH.mp hv;rfl
   refine⟨_,rfl,_,rfl,p,_,rfl,.inl (Zt.of (sG2 _ _ ep)),rfl,KA.mpr fl,_,rfl,?_⟩;rw[ki kP,ZaW];refine ZX (fun cc=>?_) (fun cc=>?_)
   case refine_2=>
    have c0:chA cs i=false:=by simpa using cc
    have en:nxt ps q (zfA g ls i) (chA cs i)=some r':=by unfold nxt;rw[er',c0];rfl
    refine⟨_,rfl,.inl ⟨rfl,_,Zt.of er2⟩,_,rfl,r,_,_,rfl,rfl,er2,(by rw[lw,k9];lia),?_⟩;exact put G2 pp r' s2 en fpp epp _ _ _ _
   have c1:chA cs i=true:=by simpa using cc
   have en:nxt ps q (zfA g ls i) (chA cs i)=if q.1 = "cross" /\ zfA g ls i=true/\U0 ps q.2.toNat=false then some ps else none:=by unfold nxt;rw[er',c1];rfl
   have hl2:=sG2 _ _ hl;have hta2:=sG2 _ _ hta;refine⟨_,rfl,_,rfl,l,_,_,_,rfl,rfl,Zt.of hl2,Zo hxt,ta,_,_,_,rfl,rfl,Y9.of hta2,Zo (j:=0) rfl,rfl,_,rfl,ZX (fun c2=>?_) (fun c2=>?_)⟩
   ·refine J6 (none' ?_ G2 s2);rw[en,ki];rintro⟨e,_⟩;rw[e] at c2;exact absurd c2 (by decide)
   have ec:q.1 = "cross" := Nb fun z=>c2 (by rw[Km (fun e=>z (by injection e))];rfl)
   have kt:isK ls UR i=true:=by rw[Gw hq (pr:=UR),ec];decide
   have hgs:hgA g ls i=some (g (YM ls i).1-g (YM ls i).2):=by unfold hgA;rw[kt];rfl
   obtain⟨hh,ehh⟩:∃hh,g (YM ls i).1-g (YM ls i).2=hh:=⟨_,rfl⟩;rw[ehh] at hgs;have zi:zfA g ls i=decide (hh=0):=by show decide (hgA g ls i=some 0)=_;simp[hgs]
   rw[hgs];refine⟨_,rfl,rfl,_,rfl,ZX (fun c3=>?_) (fun c3=>?_)⟩
   ·refine J6 (none' ?_ G2 s2);rw[en,ki];rintro⟨_,e,_⟩;rw[zi] at e;rw[kG e] at c3;exact absurd c3 (by decide)
   have h0:hh=0:=Nb fun z=>c3 (by rw[Km (fun e=>z (by injection e))];rfl)
   have k0':=ft.1;obtain⟨kn,ekn⟩:=kI k0';have knl:kn+1<ps.length:=by have:=qb (by rw[ec];decide);lia
   have ne:ps.getD kn 0≠(kn:Int)+1:=fun z=>by unfold Wg at er';rw[ekn,kM,z,ec,ki (by decide),km (by rw[kE rfl];rfl)] at er';cases er'
   have tb:=ZfS ptr knl ne;have ea2:=s2 _ _ ea0;have hta3:G2 ta=some (.tup [.str q.1,.int (kn:Int)]):=by rw[<- ekn];exact hta2
   refine⟨_,rfl,_,rfl,_,rfl,l,_,_,_,rfl,rfl,Zt.of hl2,Zo hxt,ta,_,_,_,rfl,rfl,Y9.of hta3,Zo (j:=1) rfl,a0,kn,_,_,ps,rfl,ea2,by lia,tb,_,rfl,ZX (fun c4=>?_) (fun c4=>?_)⟩
   ·refine none' ?_ G2 s2;rw[en,ki];rintro⟨_,_,e⟩;rw[ekn,kM] at e;unfold U0 at e;rw[e] at c4;exact absurd c4 (by decide)
   have tq:U0 ps q.2.toNat=false:=by
    rw[ekn,kM];unfold U0;cases z:Gy kn (ps.getD kn 0).toNat (ps.getD (kn+1) 0).toNat with
    | false=>rfl
    | true=>rw[z] at c4;exact absurd rfl c4
   rw[km ⟨ec,by rw[zi,h0];rfl,tq⟩] at en;refine⟨_,rfl,a0,_,rfl,.inl (Zt.of ea2),fun c fc=>?_⟩;refine lay2 (o:=.lst (ps.map V.int)) fc fun G3 s3 e3=>?_;have er3:=s3 _ _ er2;refine⟨_,rfl,.inl ⟨rfl,_,Zt.of er3⟩,_,rfl,r,_,_,rfl,rfl,er3,(by rw[lw,k9];lia),?_⟩;exact put G3 c ps (s2.trans s3) en (s2.free fc) e3 _ _ _ _
  ·rintro σ G ⟨ws,rows,v4,v5,v6,v7,rfl,sG,ehG,er,hws,hwr,hwn,lr,hrow⟩;rw[lh] at lr hrow;exact⟨_,rfl,k1 r ws rows G sG fr0 er hws hwn lr hrow⟩
theorem Zko {ls:QB}{z ch:Nat->Bool}(h:W9 ls z ch ls.length≠none){t:Nat}(ht:t<ls.length)(hc:ch t=true):∃q,ls[t]? = some q/\q.1 = "cross" := by
 obtain⟨q,hq⟩:∃q,ls[t]? = some q:=⟨_,ko ht⟩;refine⟨q,hq,?_⟩;obtain⟨ps,hp⟩:=ZjO (s:=t) (Kz ht) h;obtain⟨r,hr⟩:=ZjO (s:=t+1) ht h;rw[ZdH hp hq,hc] at hr;unfold nxt at hr;cases hm:Wg ps q with
 | none=>rw[hm] at hr;cases hr
 | some r'=>
  rw[hm] at hr;dsimp only at hr;rw[km rfl] at hr;split at hr
  ·rename_i e;exact e.1
  ·cases hr
theorem Zov {ls:QB}{t:Nat}{q:Str×Int}(hq:ls[t]? = some q)(hc:q.1 = "cross"):(t:Int)∈crI ls:=by show (t:Int)∈Yg ls _ ls.length;unfold Yg;exact K0.mpr ⟨t,Kw.mpr (kz.mp hq).1,by rw[km (by rw[Gw hq,hc];rfl)]⟩
theorem ZqY {ls:QB}{c:Int}(h:c∈crI ls):0<=c/\c<(ls.length:Int):=by
 replace h:c∈Yg ls _ ls.length:=h;unfold Yg at h;obtain⟨t,ht,e⟩:=K0.mp h;have:=Kw.mp ht;split at e
 ·cases e;lia
 ·cases e
theorem Zoj {al cs:QG}:(cs.map Lit.int).all (okI al)=true ↔ ∀c∈cs,c∈al:=by
 rw[KA];constructor
 ·intro h c hc;exact kG (h _ (KH.mpr ⟨c,hc,rfl⟩))
 ·intro h x hx;obtain⟨c,hc,rfl⟩:=KH.mp hx;exact kE (h c hc)
theorem ints_map (cs:QG):(cs.map Lit.int).map ZeD=cs:=by rw[TY];exact(MC fun _ _=>rfl).trans (List.map_id _)
theorem Zbk {ls:QB}{g:QX}{cs:QG}:W5 ls g (.lst (cs.map Lit.int))=true ↔ (∀c∈cs,c∈crI ls)/\Zhp cs=true/\W9 ls (zfA g ls) (chA cs) ls.length≠none:=by unfold W5;rw[show Zdb (crI ls) (.lst (cs.map Lit.int))=((cs.map Lit.int).all (okI (crI ls))&&Zhp ((cs.map Lit.int).map ZeD)) from rfl,show csL (.lst (cs.map Lit.int))=(cs.map Lit.int).map ZeD from rfl,ints_map,Kj,Kj,Zoj,Option.isSome_iff_ne_none,and_assoc]
theorem ZmG {ls:QB}{g:QX}{cs:QG}(hb:∀c∈cs,0<=c/\c<(ls.length:Int))(hu:Zhp cs=true)(hr:W9 ls (zfA g ls) (chA cs) ls.length≠none):W5 ls g (.lst (cs.map Lit.int))=true:=by refine Zbk.mpr ⟨fun c hc=>?_,hu,hr⟩;obtain⟨t,rfl⟩:=kI (hb c hc).1;obtain⟨q,hq,e⟩:=Zko hr (t:=t) (by have:=(hb _ hc).2;lia) (kE hc);exact Zov hq e
theorem Zen:∀{ls:List Lit},ls.all UY=true->ls=(ls.map ZeD).map Lit.int
 | [],_=>rfl
 | x::ls,h=>by
  rw[Tw,Kj] at h;rw[Kq,Kq,<- Zen h.2];cases x with
  | int i=>rfl
  | _=>cases h.1
theorem ZmL {al:QG}{l:Lit}(h:okI al l=true):UY l=true:=by
 cases l with
 | int i=>rfl
 | _=>cases h
theorem ZkO {ls:QB}{g:QX}{lit:Lit}(h:W5 ls g lit=true):Zfj lit=true:=by
 unfold W5 at h;rw[Kj] at h;cases lit with
 | lst l=>
  have:=(Mw.mp (show (l.all (okI (crI ls))&&Zhp (l.map ZeD))=true from h.1)).1;rw[KA] at this;exact KA.mpr fun x hx=>ZmL (this x hx)
 | _=>cases h.1
def Zly:Sp:=fun vs H Q _=>∃(l:Addr)(v:V)(lit:Lit)(sc:Int)(ls:QB)(g:QX),vs = [.ref l,.int sc,v]/\(sc=0∨sc=1)/\Drw H l ls/\HG sc ls g/\J9 H v lit/\okL 3 lit=true /\ ∀H',Zh H H'->Q (.bl (W5 ls g lit)) H'
abbrev GS:Stmt:=top 57
theorem Zhi:Zy ["_law_drawing_here", "_law_scale", "_law_thing"] ["_law_drawing_here", "_law_scale", "_law_thing"] (Zj GS):={}
theorem ZpG {f:Addr}{fd:FuncData}(F:Yx K "_law_due" "_law_due" GS f fd)(GP:Yq P w K mg base 2 "_law_numbers" ["_law_thing"] Zgw)(ZaM:Yq P w K mg base 6 "_law_walk" ["_law_drawing_here", "_law_scale", "_law_changed"] ZiB)(ZaH:mg "all" = none)(Ye:mg "len" = none)(Zay:mg "zip" = none):Yi P w K mg base Wx 7 f fd ["_law_drawing_here", "_law_scale", "_law_thing"] Zly:=by
 refine F.ok Zhi (fun vs H Q E h=>?_) (fun cdv A outer s H vs Q E hr h=>?_)
 ·obtain⟨l,v,lit,sc,ls,g,rfl,_⟩:=h;rfl
 ·obtain⟨l,v,lit,sc,ls,g,rfl,hsc,dr,hg,rl,ok,k⟩:=h;refine⟨_,(Zd (ZQ (PW.pt (Zc3 (Gj (Ww (Zq GP hr (Za (pv 2) Zb)))) (ZbM (Gj (Ww (Zv (UO (K:=K) rfl rfl) (by rfl) ZaH boot_all (Za (WA (Ls:=["_law_one"]) (Fs:=["_law_drawing_here"]) (fi:=[0]) (ZV.of (show Yv ["_law_drawing_here", "_law_scale", "_law_thing"] (Zj GS) _ ["_law_drawing_here"] [0]=true by decide +kernel)) rfl (ZU (K:=K) rfl (pv 2)) (fun cl C s3 H3 ex=>⟨(Zk (i:=0) (show ((["_law_one"]:QP)++(["_law_drawing_here"]:QP)).Nodup by decide +kernel) rfl (.inl rfl)),YE,(Zhc Zrv Ws Ze (pv 0) (Zv (Yb (K:=K) rfl) (by rfl) Ye KO (Za (pv 1) Zb)))⟩)) Zb))))))) (Zg (Zw Gs)) ZG)
   (Zd (ZQ (Gj (Ww (Zv (UO (K:=K) rfl rfl) (by rfl) ZaH boot_all (Za (WA (Ls:=["_law_one", "_law_other"]) (Fs:=[]) (fi:=[]) (ZV.of (show Yv ["_law_drawing_here", "_law_scale", "_law_thing"] (Zj GS) _ [] []=true by decide +kernel)) rfl (Zf0 (K:=K) rfl (by rfl) Zay (Za (pv 2) (Za (Z7 (Ym (K:=K) rfl) (pv 2) (ZW Ze) Yy) Zb))) (fun cl C s3 H3 ex=>⟨(Z0 (K:=K) (n:=2) rfl rfl (Zm (Zk (i:=0) (show ((["_law_one", "_law_other"]:QP)++([]:QP)).Nodup by decide +kernel) rfl (.inl rfl)) (Zm (Zk (i:=1) (show ((["_law_one", "_law_other"]:QP)++([]:QP)).Nodup by decide +kernel) rfl (.inl rfl)) ZO))),YE,(Yl Ws (pv 0) (pv 1) (Zs _))⟩)) Zb)))) (Zg (Zw Gs)) ZG)
   (Zg (Zw (Yl ZdD (Zq ZaM hr (Za (pv 0) (Za (pv 1) (Za (pv 2) Zb)))) JP (Zs _)))))),?_⟩
  obtain⟨xs,hl,hL,hW,hlen⟩:=id dr;have hxl:=hL.len;refine⟨_,rfl,v,lit,rfl,rl,ok,fun H1 s1=>⟨_,rfl,?_⟩⟩;have bad:W5 ls g lit=false -> ∀H',Zh H H'->Q (.bl false) H':=fun z H' s'=>by
   have:=k H' s'
   rwa [z] at this
  cases hn:Zfj lit with
  | false=>
   refine J6 (J6 (bad ?_ H1 s1));cases hb:W5 ls g lit with
   | false=>rfl
   | true=>rw[ZkO hb] at hn;cases hn
  | true=>
  refine YZ ?_;rcases Zbr (K:=K) rl with⟨p,us,ll,rfl,rfl,hp,rs⟩ | ⟨_,_,_,nl⟩
  rotate_left
  ·cases lit with
   | lst ll=>exact absurd rfl (nl ll)
   | _=>cases hn
  obtain⟨l60,_⟩:=Zca ok;obtain⟨cs,ecs⟩:∃cs,cs=ll.map ZeD:=⟨_,rfl⟩;have el:=Zen (show ll.all UY=true from hn);rw[<- ecs] at el;subst el;have ex:=Zbh rs;subst ex;have lc:cs.length<=60:=by rw[ke] at l60;exact l60
  have hp1:=s1 _ _ hp;have hl1:=s1 _ _ hl;refine⟨_,rfl,p,rfl,⟨_,Zt.of hp1⟩,Ja (K:=K) (xs:=cs.map V.int) (by rw[ke,k9];lia) (fun i zs G=>Zh H1 G/\zs=((cs.map fun c=>decide (0<=c/\c<(ls.length:Int))).take i).map V.bl) ⟨Zh.refl _,rfl⟩
   (fun i zs G ⟨_,z⟩=>by rw[z,ke,kL];lia) (fun i zs G ⟨s',_⟩=>Zt.of (s' _ _ hp1)) (fun i x zs G hx q=>?_) (fun zs G q D hD=>?_)⟩
  ·obtain⟨s',rfl⟩:=q;rw[kF] at hx;obtain⟨c,hc,rfl⟩:=Ke.mp hx;refine lcG ⟨_,rfl,_,_,rfl,rfl,_,rfl,?_⟩;have tk:=ZgR (fun c:Int=>decide (0<=c/\c<(ls.length:Int))) hc;refine ZX (fun h0=>?_) (fun h0=>?_)
   ·refine⟨_,rfl,l,_,rfl,.inl (Zt.of (s' _ _ hl1)),_,_,rfl,rfl,s',?_⟩;rw[<- tk,hxl];have:decide (c<(ls.length:Int))=decide (0<=c/\c<(ls.length:Int)):=qX.mpr ⟨fun z=>⟨kG h0,z⟩,fun z=>z.2⟩;rw[<- this]
   ·refine⟨s',?_⟩;rw[<- tk];have:decide (0<=c/\c<(ls.length:Int))=false:=Km fun z=>h0 (kE z.1);rw[this]
  obtain⟨s',rfl⟩:=q;rw[kJ (by rw[ke,ke];exact kj _)];refine lay2 (o:=.lst ((cs.map fun c=>decide (0<=c/\c<(ls.length:Int))).map V.bl)) hD fun G1 t1 e1=>?_;have sG1:=s'.trans t1;have s01:=s1.trans sG1;refine⟨D,_,rfl,Zt.of e1,_,rfl,?_⟩;cases hb:(cs.map fun c=>decide (0<=c/\c<(ls.length:Int))).all id with
  | false=>
   refine J6 (bad ?_ G1 s01);cases hbl:W5 ls g (.lst (cs.map Lit.int)) with
   | false=>rfl
   | true=>
    have z:=(Zbk.mp hbl).1;rw[Lr,List.all_eq_false] at hb;obtain⟨c,hc,hz⟩:=hb;exact absurd (show (id ∘ fun c:Int=>decide (0<=c/\c<(ls.length:Int))) c=true from kE (ZqY (z c hc))) hz
  | true=>
  rw[Lr,KA] at hb;have hb':∀c∈cs,0<=c/\c<(ls.length:Int):=fun c hc=>kG (hb c hc);refine YZ ?_;have hp2:=s01 _ _ hp;refine⟨_,rfl,_,rfl,_,rfl,p,_,rfl,Zt.of hp2,fun c hc=>?_⟩;have ec:W3 (cs.map V.int) (some 1) none=(cs.drop 1).map V.int:=by have:=ZiO (cs.map V.int) 1;rw[<- qD] at this;exact this
  rw[ec];refine lay2 (o:=.lst ((cs.drop 1).map V.int)) hc fun G2 t2 e2=>?_;refine⟨p,c,rfl,⟨_,Zt.of (t2 _ _ hp2)⟩,⟨_,Zt.of e2⟩,ZjB (K:=K) (a:=p) (b:=c) (xs:=cs.map V.int) (ys:=(cs.drop 1).map V.int) (by rw[ke,Ks,k9];lia) (by rw[ke,ke,Ks];lia) (fun i zs G=>Zh G2 G/\zs=(((cs.zip (cs.drop 1)).map fun p=>decide (p.1<p.2)).take i).map V.bl) ⟨Zh.refl _,rfl⟩
   (fun i zs G ⟨_,z⟩=>by rw[z,ke,kL];lia) (fun i zs G ⟨s',_⟩=>⟨Zt.of (s' _ _ (t2 _ _ hp2)),Zt.of (s' _ _ e2)⟩) (fun i x y q zs G hx hy w' fq=>?_) (fun zs G w' D' hD'=>?_)⟩
  ·obtain⟨s'',rfl⟩:=w';rw[kF] at hx hy;obtain⟨c1,hc1,rfl⟩:=Ke.mp hx;obtain⟨c2,hc2,rfl⟩:=Ke.mp hy;have hz:(cs.zip (cs.drop 1))[i]? = some (c1,c2):=by rw[XN];exact⟨hc1,hc2⟩
   refine⟨q,_,rfl,Y9.of Zc,rfl,_,_,rfl,_,_,rfl,rfl,?_⟩;dsimp only[ZfF];rw[km rfl];exact⟨_,rfl,_,rfl,_,_,rfl,rfl,s''.step fq,ZgR (fun p:Int×Int=>decide (p.1<p.2)) hz⟩
  ·obtain⟨s'',rfl⟩:=w';rw[kJ (by rw[ke,XT,ke,Ks];lia)];have t3:Zh G (upd G D' (.lst (((cs.zip (cs.drop 1)).map fun p=>decide (p.1<p.2)).map V.bl))):=Zh.laid hD';have e3:(upd G D' (.lst (((cs.zip (cs.drop 1)).map fun p=>decide (p.1<p.2)).map V.bl))) D'=some (.lst (((cs.zip (cs.drop 1)).map fun p=>decide (p.1<p.2)).map V.bl)):=Zc;generalize upd G D' (.lst (((cs.zip (cs.drop 1)).map fun p=>decide (p.1<p.2)).map V.bl))=G3 at *;have s03:=((s01.trans t2).trans s'').trans t3;refine⟨D',_,rfl,Zt.of e3,_,rfl,?_⟩;cases ha:Zhp cs with
   | false=>
    rw[show (((cs.zip (cs.drop 1)).map fun p=>decide (p.1<p.2)).all id)=false from ha];refine J6 (bad ?_ G3 s03);cases hbl:W5 ls g (.lst (cs.map Lit.int)) with
    | false=>rfl
    | true=>rw[(Zbk.mp hbl).2.1] at ha;cases ha
   | true=>
    rw[show (((cs.zip (cs.drop 1)).map fun p=>decide (p.1<p.2)).all id)=true from ha];refine YZ ?_;refine⟨_,rfl,_,rfl,_,rfl,l,p,sc,ls,g,cs,rfl,hsc,⟨xs,s03 _ _ hl,hL.same s03,hW,hlen⟩,hg,s03 _ _ hp,by lia,fun zn H' s'=>⟨rfl,?_⟩,fun r ws rows H' s' _ _ _ _ lr hr=>⟨rfl,?_⟩⟩
    ·refine bad ?_ H' (s03.trans s');cases hbl:W5 ls g (.lst (cs.map Lit.int)) with
     | false=>rfl
     | true=>exact absurd zn (Zbk.mp hbl).2.2
    ·have:=k H' (s03.trans s')
     rwa [ZmG hb' ha (by rw[hr _ (kj _),ko (by lia)];exact fun z=>nomatch z)] at this
def sm:Nat->(Nat->Nat)->Nat
 | 0,_=>0
 | n+1,f=>sm n f+f n
theorem JB:∀(n:Nat){f g:Nat->Nat},(∀i,i<n->f i=g i)->sm n f=sm n g
 | 0,_,_,_=>rfl
 | n+1,f,g,h=>by rw[sm,sm,JB n fun i hi=>h i (by lia),h n (by lia)]
theorem ZcD:∀(n:Nat){f g:Nat->Nat},(∀i,i<n->f i<=g i)->sm n f<=sm n g
 | 0,_,_,_=>kj _
 | n+1,f,g,h=>Nat.add_le_add (ZcD n fun i hi=>h i (by lia)) (h n (by lia))
theorem ZdQ:∀(n:Nat)(f g:Nat->Nat),sm n (fun i=>f i+g i)=sm n f+sm n g
 | 0,_,_=>rfl
 | n+1,f,g=>by rw[sm,sm,sm,ZdQ n f g];lia
theorem Zdy:∀(n:Nat),sm n (fun _=>0)=0
 | 0=>rfl
 | n+1=>by rw[sm,Zdy n]
def uq (k i:Nat):Nat:=if i<k then i else i+2
theorem ZjA {k i:Nat}(h:i<k):uq k i=i:=km h
theorem Zjm {k i:Nat}(h:k<=i):uq k i=i+2:=ki (by lia)
theorem Zoa {k i j:Nat}:uq k i<uq k j ↔ i<j:=by unfold uq;split<;>split<;>lia
theorem ZdT (k:Nat)(g:Nat->Nat):∀m,sm (k+m+2) g=sm (k+m) (fun i=>g (uq k i))+(g k+g (k+1))
 | 0=>by
  show sm k g+g k+g (k+1)=sm k (fun i=>g (uq k i))+(g k+g (k+1));rw[JB k (f:=fun i=>g (uq k i)) (g:=g) fun i hi=>by rw[ZjA hi]];lia
 | m+1=>by have e:=ZdT k g m;show sm (k+m+2) g+g (k+m+2)=sm (k+m) _+g (uq k (k+m))+_;rw[e,Zjm (by lia)];lia
def sg (k i:Nat):Nat:=if i=k then k+1 else if i=k+1 then k else i
theorem Zgo (k:Nat)(g:Nat->Nat):∀m,sm (k+2+m) (fun i=>g (sg k i))=sm (k+2+m) g
 | 0=>by
  show sm k _+g (sg k k)+g (sg k (k+1))=sm k g+g k+g (k+1);rw[JB k (f:=fun i=>g (sg k i)) (g:=g) fun i hi=>by rw[sg,ki (by lia),ki (by lia)],sg,km rfl,sg,ki (by lia),km rfl];lia
 | m+1=>by have e:=Zgo k g m;show sm (k+2+m) (fun i=>g (sg k i))+g (sg k (k+2+m))=sm (k+2+m) g+g (k+2+m);rw[e,sg,ki (by lia),ki (by lia)]
theorem ZiJ {x:Nat}(c:Nat):∀n,x<n->sm n (fun i=>if i=x then c else 0)=c
 | 0,h=>by lia
 | n+1,h=>by
  rw[sm];by_cases e:n=x
  ·rw[km e,JB n (g:=fun _=>0) fun i hi=>ki (by lia),Zdy];lia
  ·rw[ki e,ZiJ c n (by lia),XM]
def Tg (x y px py:Nat):Prop:=x<y/\y<px/\px<py
instance (x y px py:Nat):Decidable (Tg x y px py):=inferInstanceAs (Decidable (_/\_))
def tg (x y px py:Nat):Nat:=if Tg x y px py then 1 else 0
def iX (n:Nat)(p:Nat->Nat):Nat:=sm n fun x=>sm n fun y=>tg x y (p x) (p y)
def dl (x0 y0 x y:Nat):Nat:=if x=x0 then(if y=y0 then 1 else 0) else 0
theorem Zna {x0 y0 n:Nat}(hx:x0<n)(hy:y0<n):sm n (fun x=>sm n fun y=>dl x0 y0 x y)=1:=by
 rw[JB n (g:=fun x=>if x=x0 then 1 else 0) fun x _=>?_,ZiJ 1 n hx];by_cases e:x=x0
 ·rw[km e,JB n (g:=fun y=>if y=y0 then 1 else 0) fun y _=>by rw[dl,km e],ZiJ 1 n hy]
 ·rw[ki e,JB n (g:=fun _=>0) fun y _=>by rw[dl,ki e],Zdy]
theorem Zpi {k a b x y:Nat}:tg (uq k x) (uq k y) (uq k a) (uq k b)=tg x y a b:=by
 unfold tg;have e:Tg (uq k x) (uq k y) (uq k a) (uq k b) ↔ Tg x y a b:=by unfold Tg;simp only[Zoa]
 by_cases h:Tg x y a b
 ·rw[km h,km (e.mpr h)]
 ·rw[ki h,ki fun z=>h (e.mp z)]
theorem Zr6 {k n:Nat}{p q:Nat->Nat}(hk:k<=n)(h:∀i,i<n->q (uq k i)=uq k (p i)):iX n p<=iX (n+2) q:=by obtain⟨m,rfl⟩:=qR hk;unfold iX;rw[ZdT];refine Kb (ZcD _ fun x hx=>?_) (qw _ _);rw[ZdT];refine Kb (ZcD _ fun y hy=>?_) (qw _ _);rw[h x hx,h y hy,Zpi];exact kj _
theorem Zsb {k n:Nat}{p q:Nat->Nat}(hk:k<=n)(h:∀i,i<n->q (uq k i)=uq k (p i))(h0:q k=k+1)(h1:q (k+1)=k):iX (n+2) q<=iX n p:=by have z1:∀y,tg k y (q k) (q y)=0:=fun y=>ki (by unfold Tg;lia);have z2:∀y,tg (k+1) y (q (k+1)) (q y)=0:=fun y=>ki (by unfold Tg;lia);have z3:∀x,tg x k (q x) (q k)=0:=fun x=>ki (by unfold Tg;lia);have z4:∀x,tg x (k+1) (q x) (q (k+1))=0:=fun x=>ki (by unfold Tg;lia);obtain⟨m,rfl⟩:=qR hk;unfold iX;rw[ZdT,JB _ (g:=fun _=>0) fun y _=>z1 y,JB _ (g:=fun _=>0) fun y _=>z2 y,Zdy];refine ZcD _ fun x hx=>?_;rw[ZdT,z3,z4];refine ZcD _ fun y hy=>?_;rw[h x hx,h y hy,Zpi];exact kj _
theorem ZnC (k:Nat):sg k k=k+1:=km rfl
theorem Zkj (k:Nat):sg k (k+1)=k:=by rw[sg,ki (Nat.succ_ne_self k),km rfl]
theorem Zdd {k x:Nat}(h1:x≠k)(h2:x≠k+1):sg k x=x:=by rw[sg,ki h1,ki h2]
theorem Zms {k u v:Nat}(h:u<v)(n:¬(u=k/\v=k+1)):sg k u<sg k v:=by
 by_cases c1:u=k
 ·subst c1;rw[ZnC,Zdd (by lia) (by lia)];lia
 ·by_cases c2:u=k+1
  ·subst c2;rw[Zkj,Zdd (by lia) (by lia)];lia
  ·rw[Zdd c1 c2];by_cases c3:v=k
   ·subst c3;rw[ZnC];lia
   ·by_cases c4:v=k+1
    ·subst c4;rw[Zkj];lia
    ·rw[Zdd c3 c4];exact h
theorem Zkf {k n:Nat}{p q:Nat->Nat}(hk:k+1<n)(h:∀i,i<n->q (sg k i)=sg k (p i)):iX n q=sm n fun x=>sm n fun y=>tg (sg k x) (sg k y) (sg k (p x)) (sg k (p y)):=by obtain⟨m,rfl⟩:∃m,n=k+2+m:=⟨n-(k+2),by lia⟩;unfold iX;rw[<- Zgo k];refine JB _ fun x hx=>?_;rw[<- Zgo k];refine JB _ fun y hy=>?_;rw[h x hx,h y hy]
structure Two (n k a b:Nat)(p:Nat->Nat):Prop where
 hk:k+1<n
 ha:a<n
 hb:b<n
 a1:a≠k
 a2:a≠k+1
 b1:b≠k
 b2:b≠k+1
 ab:a≠b
 inv:∀i,i<n->p (p i)=i
 pk:p k=a
 pk1:p (k+1)=b
theorem Two.pa {n k a b:Nat}{p:Nat->Nat}(T:Two n k a b p):p a=k:=by rw[<- T.pk];exact T.inv k (Nat.lt_of_succ_lt T.hk)
theorem Two.pb {n k a b:Nat}{p:Nat->Nat}(T:Two n k a b p):p b=k+1:=by rw[<- T.pk1];exact T.inv (k+1) T.hk
theorem Two.near {n k a b:Nat}{p:Nat->Nat}(T:Two n k a b p){x y:Nat}(hx:x<n)(hy:y<n)(h:Tg x y (p x) (p y))(h':¬Tg (sg k x) (sg k y) (sg k (p x)) (sg k (p y))):
  (x=k/\y=k+1/\k+1<a/\a<b)∨(x=b/\y=k/\b<k/\k+1<a)∨(x=a/\y=b/\a<b/\b<k):=by
 obtain⟨h1,h2,h3⟩:=h;by_cases c1:x=k/\y=k+1
 ·obtain⟨rfl,rfl⟩:=c1;rw[T.pk] at h2 h3;rw[T.pk1] at h3;exact .inl ⟨rfl,rfl,h2,h3⟩
 by_cases c2:y=k/\p x=k+1
 ·obtain⟨rfl,e⟩:=c2;have ex:x=b:=by rw[<- T.inv x hx,e,T.pk1]
  subst ex;rw[e,T.pk] at h3;exact .inr (.inl ⟨rfl,rfl,h1,h3⟩)
 by_cases c3:p x=k/\p y=k+1
 ·obtain⟨e,e'⟩:=c3;have ex:x=a:=by rw[<- T.inv x hx,e,T.pk]
  have ey:y=b:=by rw[<- T.inv y hy,e',T.pk1]
  subst ex ey;rw[e] at h2;exact .inr (.inr ⟨rfl,rfl,h1,h2⟩)
 exact absurd ⟨Zms h1 c1,Zms h2 c2,Zms h3 c3⟩ h'
theorem Two.lowA {n k a b:Nat}{p:Nat->Nat}(T:Two n k a b p):p (min k a)=max k a/\sg k (min k a)=min (k+1) a/\sg k (max k a)=max (k+1) a:=by
 have h1:=T.a1;have h2:=T.a2;by_cases c:a<k
 ·rw[K9 (by lia),qv (by lia),K9 (by lia),qv (by lia),ZnC,Zdd h1 h2];exact⟨T.pa,rfl,rfl⟩
 ·rw[qf (by lia),qo (by lia),qf (by lia),qo (by lia),ZnC,Zdd h1 h2];exact⟨T.pk,rfl,rfl⟩
theorem Two.lowB {n k a b:Nat}{p:Nat->Nat}(T:Two n k a b p):p (min (k+1) b)=max (k+1) b/\sg k (min (k+1) b)=min k b/\sg k (max (k+1) b)=max k b:=by
 have h1:=T.b1;have h2:=T.b2;by_cases c:b<k
 ·rw[K9 (by lia),qv (by lia),K9 (by lia),qv (by lia),Zkj,Zdd h1 h2];exact⟨T.pb,rfl,rfl⟩
 ·rw[qf (by lia),qo (by lia),qf (by lia),qo (by lia),Zkj,Zdd h1 h2];exact⟨T.pk1,rfl,rfl⟩
theorem ZmF {k a b:Nat}(a1:a≠k)(a2:a≠k+1)(b1:b≠k)(b2:b≠k+1)(ab:a≠b)
  (t1:¬(min k a<min (k+1) b/\min (k+1) b<max k a/\max k a<max (k+1) b)) (t2:¬(min (k+1) b<min k a/\min k a<max (k+1) b/\max (k+1) b<max k a)):
  (min (k+1) a<min k b->Tg (min (k+1) a) (min k b) (max (k+1) a) (max k b))/\(min k b<min (k+1) a->Tg (min k b) (min (k+1) a) (max k b) (max (k+1) a)):=by
 unfold Tg;have ha:a<k∨k+1<a:=by lia
 have hb:b<k∨k+1<b:=by lia
 rcases ha with ha | ha<;>rcases hb with hb | hb
 ·rw[K9 (by lia),K9 (by lia),qv (by lia),qv (by lia)] at t1 t2;rw[K9 (by lia),K9 (by lia),qv (by lia),qv (by lia)];lia
 ·rw[K9 (by lia),qf (by lia),qv (by lia),qo (by lia)];lia
 ·rw[qf (by lia),K9 (by lia),qo (by lia),qv (by lia)];lia
 ·rw[qf (by lia),qf (by lia),qo (by lia),qo (by lia)] at t1 t2;rw[qf (by lia),qf (by lia),qo (by lia),qo (by lia)];lia
theorem Two.tng {n k a b:Nat}{p q:Nat->Nat}(T:Two n k a b p)(h:∀i,i<n->q (sg k i)=sg k (p i)):iX n p<=iX n q+1:=by
 obtain⟨x0,y0,hx0,hy0,h0⟩:∃x0 y0,x0<n/\y0<n/\((min k a<min (k+1) b/\x0=min k a/\y0=min (k+1) b)∨(min (k+1) b<min k a/\x0=min (k+1) b/\y0=min k a)):=by
  have:=T.hk;have:=T.ha;have:=T.hb;have:=T.a1;have:=T.a2;have:=T.b1;have:=T.b2;have:=T.ab;by_cases c:min k a<min (k+1) b
  ·exact⟨_,_,by lia,by lia,.inl ⟨c,rfl,rfl⟩⟩
  ·exact⟨_,_,by lia,by lia,.inr ⟨by lia,rfl,rfl⟩⟩
 rw[Zkf T.hk h,<- Zna hx0 hy0,<- ZdQ];refine ZcD _ fun x hx=>?_;rw[<- ZdQ];refine ZcD _ fun y hy=>?_;have key:Tg x y (p x) (p y)->Tg (sg k x) (sg k y) (sg k (p x)) (sg k (p y))∨(x=x0/\y=y0):=fun h=>by
  by_cases h':Tg (sg k x) (sg k y) (sg k (p x)) (sg k (p y))
  ·exact .inl h'
  ·refine .inr ?_;rcases T.near hx hy h h' with z | z | z<;>clear h h'<;>lia
 unfold tg dl;by_cases c:Tg x y (p x) (p y)
 ·rw[km c];rcases key c with z | ⟨z1,z2⟩
  ·rw[km z];exact qw _ _
  ·rw[km z1,km z2];exact qA _ _
 ·rw[ki c];exact Kr _
theorem Two.apart {n k a b:Nat}{p q:Nat->Nat}(T:Two n k a b p)(h:∀i,i<n->q (sg k i)=sg k (p i))(t:Gy k a b=false):iX n p+1<=iX n q:=by
 have t':¬(min k a<min (k+1) b/\min (k+1) b<max k a/\max k a<max (k+1) b) /\ ¬(min (k+1) b<min k a/\min k a<max (k+1) b/\max (k+1) b<max k a):=by
  unfold Gy at t;rw[Bool.or_eq_false_iff] at t;refine⟨fun z=>?_,fun z=>?_⟩
  ·rw[kE z.1,kE z.2.1,kE z.2.2] at t;exact absurd t.1 (by decide)
  ·rw[kE z.1,kE z.2.1,kE z.2.2] at t;exact absurd t.2 (by decide)
 obtain⟨x0,y0,hx0,hy0,h0⟩:∃x0 y0,x0<n/\y0<n/\((min (k+1) a<min k b/\x0=min k a/\y0=min (k+1) b)∨(min k b<min (k+1) a/\x0=min (k+1) b/\y0=min k a)):=by
  have:=T.hk;have:=T.ha;have:=T.hb;have:=T.a1;have:=T.a2;have:=T.b1;have:=T.b2;have:=T.ab;by_cases c:min (k+1) a<min k b
  ·exact⟨_,_,by lia,by lia,.inl ⟨c,rfl,rfl⟩⟩
  ·exact⟨_,_,by lia,by lia,.inr ⟨by lia,rfl,rfl⟩⟩
 rw[Zkf T.hk h,<- Zna hx0 hy0];unfold iX;rw[<- ZdQ];refine ZcD _ fun x hx=>?_;rw[<- ZdQ];refine ZcD _ fun y hy=>?_;have key1:Tg x y (p x) (p y)->Tg (sg k x) (sg k y) (sg k (p x)) (sg k (p y)):=fun h=>by
  by_cases h':Tg (sg k x) (sg k y) (sg k (p x)) (sg k (p y))
  ·exact h'
  ·exfalso;obtain⟨t1,t2⟩:=t';rcases T.near hx hy h h' with z | z | z<;>clear h h' h0 t<;>lia
 have key2:x=x0/\y=y0->Tg (sg k x) (sg k y) (sg k (p x)) (sg k (p y)) /\ ¬Tg x y (p x) (p y):=fun⟨e1,e2⟩=>by
  obtain⟨A1,A2,A3⟩:=T.lowA;obtain⟨B1,B2,B3⟩:=T.lowB;obtain⟨s1,s2⟩:=ZmF T.a1 T.a2 T.b1 T.b2 T.ab t'.1 t'.2;subst e1 e2;rcases h0 with⟨h0,rfl,rfl⟩ | ⟨h0,rfl,rfl⟩
  ·rw[A1,B1,A2,A3,B2,B3];exact⟨s1 h0,t'.1⟩
  ·rw[A1,B1,A2,A3,B2,B3];exact⟨s2 h0,t'.2⟩
 unfold tg dl;by_cases d:x=x0/\y=y0
 ·rw[ki (key2 d).2,km d.1,km d.2,km (key2 d).1];exact kj _
 ·have e:(if x=x0 then if y=y0 then 1 else 0 else 0)=0:=by
   by_cases c:x=x0
   ·rw[km c,ki fun z=>d ⟨c,z⟩]
   ·rw[ki c]
  rw[e,XM];by_cases c:Tg x y (p x) (p y)
  ·rw[km c,km (key1 c)];exact kj _
  ·rw[ki c];exact Kr _
def fb:Nat->Nat
 | 0=>0
 | 1=>1
 | n+2=>fb (n+1)+fb n
theorem Zrq:∀n,fb n<=fb (n+1)
 | 0=>Kr _
 | n+1=>qw _ _
theorem Zg0 {m n:Nat}(h:m<=n):fb m<=fb n:=by
 obtain⟨d,rfl⟩:=qR h;clear h
 induction d with
 | zero=>exact kj _
 | succ d ih=>exact Kb ih (Zrq _)
def pV (ps:QG)(i:Nat):Nat:=(ps.getD i 0).toNat
def iQ (ps:QG):Nat:=iX ps.length (pV ps)
theorem G9 {ps:QG}{i j:Nat}(h:ps[i]? = some ((j:Nat):Int)):pV ps i=j:=by unfold pV;rw[Kh,h];rfl
theorem Zjd {ps:QG}(pt:PtL ps){i:Nat}(hi:i<ps.length):∃j:Nat,ps[i]? = some (j:Int)/\ps[j]? = some (i:Int)/\j≠i:=by obtain⟨j,e,h1,h2⟩:=pt i _ (ko hi);exact⟨j,by rw[ko hi,e],h1,h2⟩
theorem Zr1 (k j:Nat):upB k (j:Int)=((uq k j:Nat):Int):=by
 unfold upB uq;by_cases c:j<k
 ·rw[ki (by lia),km c]
 ·rw[km (by lia),ki c];lia
theorem ZnI {ps:QG}{k:Nat}(pt:PtL ps)(hk:k<=ps.length):iQ ps<=iQ (Ua ps k):=by
 unfold iQ;rw[Zey];refine Zr6 hk fun i hi=>?_;obtain⟨j,e,_,_⟩:=Zjd pt hi;rw[G9 e];refine G9 ?_;rw[Zbg hk,<- Zr1];by_cases c:i<k
 ·rw[ZjA c,km c,e];rfl
 ·rw[Zjm (by lia),ki (by lia),ki (by lia),ki (by lia),MY,e];rfl
theorem ZqU {ps:QG}{k:Nat}(pt:PtL ps)(hk:k+1<ps.length)(e0:ps[k]? = some ((k:Int)+1)):iQ ps<=iQ (Zbw ps k):=by
 have e0':ps[k]? = some (((k+1:Nat):Nat):Int):=e0;have e1:ps[k+1]? = some ((k:Nat):Int):=by
  obtain⟨j,x1,x2,_⟩:=pt k _ e0;have:j=k+1:=by lia
  subst this;exact x2
 have ln:=Zgp hk;unfold iQ;rw[<- ln];refine Zsb (by lia) (fun i hi=>?_) (G9 e0') (G9 e1);have hu:uq k i<ps.length:=by unfold uq;split<;>lia
 obtain⟨j,e,e2,_⟩:=Zjd pt hu;have nk:j≠k:=fun z=>by
  subst z;rw[e0'] at e2;injection e2 with e2
  have:uq j i=j+1:=by lia
  unfold uq at this;split at this<;>lia
 have nk1:j≠k+1:=fun z=>by
  subst z;rw[e1] at e2;injection e2 with e2
  have:uq k i=k:=by lia
  unfold uq at this;split at this<;>lia
 obtain⟨j',e3⟩:∃j',j=uq k j':=by
  by_cases c:j<k
  ·exact⟨j,(ZjA c).symm⟩
  ·exact⟨j-2,by rw[Zjm (by lia)];lia⟩
 rw[G9 e,e3];congr 1;refine(G9 ?_).symm;rw[Zf2 hk];have:(if i<k then ps[i]? else ps[i+2]?)=ps[uq k i]?:=by unfold uq;split<;>rfl
 rw[this,e,qS];congr 1;unfold dnE;by_cases c:j'<k
 ·rw[ZjA c] at e3;rw[ki (by lia)];lia
 ·rw[Zjm (by lia)] at e3;rw[km (by lia)];lia
theorem ZnL {ps:QG}{k a b:Nat}(h:ZcY ps k a b):Two ps.length k a b (pV ps):=by
 obtain⟨f1,f2,f3,f4,f5,f6,f7,f8,f9⟩:=h.facts;exact⟨f9,f7,f8,f3,h.ne,f5,f4,f6,fun i hi=>by obtain⟨j,e,e2,_⟩:=Zjd h.pt hi;rw[G9 e,G9 e2],G9 h.ea,G9 h.eb⟩
theorem Zp0 (k j:Nat):G8 k (j:Int)=((sg k j:Nat):Int):=by
 unfold G8 sg;by_cases c:j=k
 ·rw[km (by lia),km c];rfl
 ·rw[ki (by lia),ki c];by_cases d:j=k+1
  ·rw[km (by lia),km d]
  ·rw[ki (by lia),ki d]
theorem ZjE {ps:QG}{k a b:Nat}(h:ZcY ps k a b):∀i,i<ps.length->pV (JW ps k) (sg k i)=sg k (pV ps i):=fun i hi=>by
 obtain⟨f1,f2,f3,f4,f5,f6,f7,f8,f9⟩:=h.facts;refine G9 ?_;rw[Ui h];by_cases c:i=k
 ·subst c;rw[G9 h.ea,sg,km rfl,km rfl,sg,ki f3,ki h.ne]
 by_cases d:i=k+1
 ·subst d;have z:sg k (k+1)=k:=by rw[sg,ki (by lia),km rfl]
  rw[z,ki (by lia),km rfl,G9 h.eb,sg,ki f5,ki f4]
 obtain⟨j,e,_,_⟩:=Zjd h.pt hi;have z:sg k i=i:=by rw[sg,ki c,ki d]
 rw[z,ki d,ki c,e,G9 e,qS,Zp0]
theorem Znd (ps:QG)(k:Nat):Wg ps (("born" : Str),(k:Int))=some (Ua ps k):=by unfold Wg;rw[km rfl];rfl
theorem Zkw (ps:QG)(k:Nat):Wg ps (("cross" : Str),(k:Int))=if ps.getD k 0=(k:Int)+1 then none else some (JW ps k):=by
 unfold Wg;dsimp only;rw[ki (by decide),kM];by_cases c:ps.getD k 0=(k:Int)+1
 ·rw[km c,km (by rw[kE c];rfl)]
 ·rw[ki c,ki (by rw[Km c];exact fun z=>kP z),ki (by decide)]
theorem ZoJ (ps:QG)(k:Nat):Wg ps (("end" : Str),(k:Int))=if ps.getD k 0=(k:Int)+1 then some (Zbw ps k) else none:=by
 unfold Wg;dsimp only;rw[ki (by decide),kM];by_cases c:ps.getD k 0=(k:Int)+1
 ·rw[km c,ki (by rw[kE c];exact fun z=>kP z),km rfl]
 ·rw[ki c,km (by rw[Km c];rfl)]
abbrev LZ:=List ((Str×Int)×Bool)
def cW:LZ->List Int->Nat
 | [],_=>1
 | e::L,ps=>match Wg ps e.1 with
  | none=>0
  | some r=>cW L r+(if e.1.1 = "cross" /\ e.2=true/\U0 ps e.1.2.toNat=false then cW L ps else 0)
def Fwd:Int->List (Str×Int)->Prop
 | n,[]=>n=0
 | n,q::L=>∃m,ZiK q n m/\Fwd m L
theorem cw_born (ps : QG)(k : Nat)(z : Bool)(L : LZ) : cW ((((("born" : Str), (k : Int)) : Str × Int), z) :: L) ps = cW L (Ua ps k) := by rw[cW, Znd];dsimp only;rw[ki (fun z => absurd z.1 (by decide)), XM]
theorem cw_cross (ps : QG)(k : Nat)(z : Bool)(L : LZ) : cW ((((("cross" : Str), (k : Int)) : Str × Int), z) :: L) ps = if ps.getD k 0 = (k : Int) + 1 then 0 else cW L (JW ps k) + (if z = true /\ U0 ps k = false then cW L ps else 0) := by
 rw[cW, Zkw];by_cases c : ps.getD k 0 = (k : Int) + 1
 ·rw[km c, km c]
 ·rw[ki c, ki c];dsimp only;congr 1;by_cases d : z = true /\ U0 ps k = false
  ·rw[km d, km ⟨rfl, d⟩]
  ·rw[ki d, ki fun x => d x.2]
theorem cw_end (ps : QG)(k : Nat)(z : Bool)(L : LZ) : cW ((((("end" : Str), (k : Int)) : Str × Int), z) :: L) ps = if ps.getD k 0 = (k : Int) + 1 then cW L (Zbw ps k) else 0 := by
 rw[cW, ZoJ];by_cases c : ps.getD k 0 = (k : Int) + 1
 ·rw[km c, km c];dsimp only;rw[ki (fun z => absurd z.1 (by decide)), XM]
 ·rw[ki c, ki c]
theorem Zn3 {ps:QG}{i:Nat}{x:Int}(hi:i<ps.length)(h:ps.getD i 0=x):ps[i]? = some x:=by rw[Kh,ko hi] at h;rw[ko hi];exact KC some h
theorem cw_fb : ∀ (L : LZ){ps : QG}{n : Int}, PtL ps -> (ps.length : Int) = n -> Fwd n (L.map (·.1)) -> cW L ps <= fb (nX (L.map (·.1)) + 1 - iQ ps)
 | [], ps, n, pt, hl, fw => by
  have e : n = 0 := fw;have : ps = [] := qq.mp (by lia);subst this;exact kj _
 | ((kd, k), z) :: L, ps, n, pt, hl, fw => by
  obtain⟨m, ⟨k0, ft⟩, fw⟩ := fw;dsimp only at k0 ft;obtain⟨k, rfl⟩ := kI k0;have nx : nX ((((kd, (k : Int)), z) :: L).map (·.1)) = nX (L.map (·.1)) + if kd = ("cross" : Str) then 1 else 0 := by unfold nX;rw[Kq, XG];by_cases c : kd = ("cross" : Str) <;> simp[c]
  rw[nx];rcases ft with⟨rfl, f1, rfl⟩ | ⟨rfl, f1, rfl⟩ | ⟨rfl, f1, rfl⟩
  ·rw[cw_born, ki (by decide)];have hk : k <= ps.length := by lia
   have h1 := cw_fb L (pt.born hk) (by rw[Zey]; lia) fw;have := ZnI pt hk;exact Kb h1 (Zg0 (by lia))
  ·rw[cw_cross, km (show ("cross" : Str) = "cross" from rfl)];split
   ·exact Kr _
   ·rename_i ne
    have tb := ZfS pt (by lia) ne;have T := ZnL tb;have kl : (JW ps k).length = ps.length := ZhI _ _;have h1 : iQ ps <= iQ (JW ps k) + 1 := by unfold iQ; rw[kl]; exact T.tng (ZjE tb)
    have c1 := cw_fb L tb.kept (by rw[kl]; exact hl) fw;split
    ·rename_i d
     have h2 : iQ ps + 1 <= iQ (JW ps k) := by unfold iQ; rw[kl]; exact T.apart (ZjE tb) d.2
     have c2 := cw_fb L pt hl fw;by_cases d : iQ ps <= nX (L.map (·.1))
     ·obtain⟨e, he⟩ := qR d;have e1 : nX (L.map (·.1)) + 1 + 1 - iQ ps = e + 2 := by lia
      have e2 : nX (L.map (·.1)) + 1 - iQ ps = e + 1 := by lia
      have e3 : fb (nX (L.map (·.1)) + 1 - iQ (JW ps k)) <= fb e := Zg0 (by lia);rw[e1, fb];rw[e2] at c2;lia
     ·have e1 : nX (L.map (·.1)) + 1 - iQ (JW ps k) = 0 := by lia
      have e2 : nX (L.map (·.1)) + 1 - iQ ps = 0 := by lia
      rw[e1] at c1;rw[e2] at c2;have : fb 0 = 0 := rfl;lia
    ·exact Kb c1 (Zg0 (by lia))
  ·rw[cw_end, ki (show ¬ ("end" : Str) = "cross" by decide)];split
   ·rename_i e
    have hx := Zn3 (by lia) e;have hk : k + 1 < ps.length := by lia
    have h1 := cw_fb L (pt.ended hx) (by have := Zgp hk; lia) fw;have := ZqU pt hk hx;exact Kb h1 (Zg0 (by lia))
   ·exact Kr _
theorem Zl4:∀(b:QB){a:QB}{n:Int},Wk (a++b) 0->Wk a n->Fwd n b
 | [],a,n,h,g=>by rw[qe] at h;exact ZeA g h
 | q::b,a,n,h,g=>by
  have e:a++q::b=a ++ [q]++b:=by simp
  rw[e] at h;obtain⟨m,wm⟩:=Gv h (a.length+1);rw[show (a ++ [q]++b).take (a.length+1)=a ++ [q] by rw[qN (by simp)];exact kJ (by simp)] at wm;obtain⟨n',wn',ft⟩:=ZdF wm;have:=ZeA g wn';subst this;exact⟨m,ft,Zl4 b h wm⟩
theorem ZjN:∀(ls:QB)(zs:List Bool),zs.length=ls.length->(ls.zip zs).map (·.1)=ls:=fun ls zs h=>List.map_fst_zip (by lia)
theorem cw_step (q : Str × Int)(z : Bool)(t : Nat)(L : LZ)(r : QG × QG) : ((JO q z t r).map fun x => cW L x.2).sum = cW ((q, z) :: L) r.2 := by
 rw[cW];unfold JO;dsimp only;cases Wg r.2 q with
 | none => rfl
 | some ps =>
  dsimp only;split <;> simp
theorem Zhy {α β:Type}(f:α -> List β)(g:β -> Nat)(k:α -> Nat)(h:∀x,((f x).map g).sum=k x):∀l:List α,((l.flatMap f).map g).sum=(l.map k).sum
 | []=>rfl
 | x::l=>by rw[List.flatMap_cons,kQ,TN,h,Zhy f g k h l,Kq,Nv]
theorem Zfz {ls:QB}{z:Nat->Bool}:∀i,i<=ls.length->((Yr ls z i).map fun r=>cW ((ls.zip ((List.range ls.length).map z)).drop i) r.2).sum=cW (ls.zip ((List.range ls.length).map z)) []
 | 0,_=>by rw[Yr,Mp];simp
 | i+1,h=>by
  have hq:ls[i]? = some ls[i]:=ko (by lia);rw[<- Zfz i (by lia),Yr,hq];have hi:i<(ls.zip ((List.range ls.length).map z)).length:=by rw[XT,ke,KP];lia
  rw[K8 hi];have:(ls.zip ((List.range ls.length).map z))[i]=(ls[i],z i):=by simp
  rw[this];exact Zhy _ _ _ (fun r=>cw_step _ _ _ _ r) _
theorem ones:∀l:List (QG×QG),(l.map fun r=>cW [] r.2).sum=l.length
 | []=>rfl
 | r::l=>by rw[Kq,Nv,ones l,Kv,cW];lia
theorem Zpr {ls:QB}{z:Nat->Bool}(h:nX ls<=8)(hW:Wk ls 0):(Yr ls z ls.length).length<64:=by have e:=Zfz (ls:=ls) (z:=z) ls.length (kj _);have f:=cw_fb (ls.zip ((List.range ls.length).map z)) (ps:=[]) (n:=0) (fun i x e=>by simp at e) rfl (by rw[ZjN _ _ (by rw[ke,KP])];exact Zl4 _ (a:=[]) hW .nil);rw[ZjN _ _ (by rw[ke,KP])] at f;rw[qi (by rw[XT,ke,KP];lia),ones] at e;rw[e];exact T4 (Kb f (Zg0 (by lia))) (show fb 9<64 by decide)
def Zd5 (B H:Hp)(v:V)(r:QG×QG):Prop:=∃(t c p:Addr),v = .ref t/\H t=some (.tup [.ref c,.ref p])/\H c=some (.lst (r.1.map V.int))/\H p=some (.lst (r.2.map V.int))/\B c=none
def GR (B:Hp)(z:Addr)(H:Hp)(v:V)(r:QG×QG):Prop:=∃(t c p:Addr),v = .ref t/\H t=some (.tup [.ref c,.ref p])/\H c=some (.lst (r.1.map V.int))/\H p=some (.lst (r.2.map V.int))/\t≠z/\c≠z/\p≠z/\B c=none
theorem GR.same {B:Hp}{z:Addr}{H H':Hp}(s:Zh H H'){v:V}{r:QG×QG}:GR B z H v r->GR B z H' v r
 | ⟨t,c,p,e,h1,h2,h3,n⟩=>⟨t,c,p,e,s _ _ h1,s _ _ h2,s _ _ h3,n⟩
theorem GR.upd {B:Hp}{z:Addr}{H:Hp}{o:HO}{v:V}{r:QG×QG}:GR B z H v r->GR B z (L2.upd H z o) v r
 | ⟨t,c,p,e,h1,h2,h3,n1,n2,n3,n4⟩=>⟨t,c,p,e,by rw[Zi n1];exact h1,by rw[Zi n2];exact h2,by rw[Zi n3];exact h3,n1,n2,n3,n4⟩
theorem GR.out {B:Hp}{z:Addr}{H:Hp}{v:V}{r:QG×QG}:GR B z H v r->Zd5 B H v r
 | ⟨t,c,p,e,h1,h2,h3,_,_,_,n⟩=>⟨t,c,p,e,h1,h2,h3,n⟩
theorem Zd5.same {B H H':Hp}(s:Zh H H'){v:V}{r:QG×QG}:Zd5 B H v r->Zd5 B H' v r
 | ⟨t,c,p,e,h1,h2,h3,n⟩=>⟨t,c,p,e,s _ _ h1,s _ _ h2,s _ _ h3,n⟩
theorem Paired.snoc' {α β:Type}{F:α -> β -> Prop}{x:α}{y:β}(hxy:F x y):∀{l:List α}{m:List β},Paired F l m->Paired F (l ++ [x]) (m ++ [y])
 | _,_,.nil=>.cons hxy .nil
 | _,_,.cons r t=>.cons r (Paired.snoc' hxy t)
def Zgz:Sp:=fun vs H Q _=>∃(l:Addr)(sc:Int)(ls:QB)(g:QX),vs = [.ref l,.int sc]/\(sc=0∨sc=1)/\Drw H l ls/\HG sc ls g/\nX ls<=8 /\ ∀(p:Addr)(H':Hp)(zs:QH)(vs:QA),Zh H H'->H p=none->H' p=some (.lst zs)->Za0 H' zs vs->(∀v∈zs,∃a,v = .ref a/\H a=none)->vs.Perm ((Yr ls (fun i=>decide (hgA g ls i=some 0)) ls.length).map (·.1))->ZoG vs->Q (.ref p) H'
abbrev J1:Stmt:=top 54
theorem Ya:Zy ["_law_drawing_here", "_law_scale", "_law_parts", "_law_t", "_law_height", "_law_later", "_law_changed", "_law_partners", "_law_there"] ["_law_drawing_here", "_law_scale"] (Zj J1):={}
theorem ZlT {f:Addr}{fd:FuncData}(F:Yx K "_law_bandings" "_law_bandings" J1 f fd)(Yj:Yq P w K mg base 5 "_law_letter_heights" ["_law_drawing_here", "_law_scale"] Zge)(YQ:Yq P w K mg base 1 "_law_moved_on" ["_law_partners", "_law_letter"] ZdL)(YS:Yq P w K mg base 1 "_law_is_apart" ["_law_partners", "_law_k"] ZdK)(ZA:mg "enumerate" = none)(YX:mg "sorted" = none):Yi P w K mg base Wx 6 f fd ["_law_drawing_here", "_law_scale"] Zgz:=by
 refine F.ok Ya (fun vs H Q E h=>?_) (fun cdv A outer s H vs Q E hr h=>?_)
 ·obtain⟨l,sc,ls,g,rfl,_⟩:=h;rfl
 ·obtain⟨l,sc,ls,g,rfl,hsc,dr,hg,n13,k⟩:=h;refine⟨_,(Zd (Zp (i:=2) Ya.nd rfl (.inl rfl) (Zz (Za (ZN (Za (Zz Zb) (Za (Zz Zb) Zb))) Zb)))
   (Zd (Yw Kg rfl (JU (K:=K) rfl (by rfl) ZA (Za (Zq Yj hr (Za (pv 0) (Za (pv 1) Zb))) Zb)) (Z0 (K:=K) (n:=2) rfl rfl (Zm (Zk (i:=3) Ya.nd rfl (.inl rfl)) (Zm (Zk (i:=4) Ya.nd rfl (.inl rfl)) ZO))) (Zd (Zp (i:=5) Ya.nd rfl (.inl rfl) (Zz Zb))
   (Zd (Yw Kg rfl (ZU (K:=K) rfl (pv 2)) (Z0 (K:=K) (n:=2) rfl rfl (Zm (Zk (i:=6) Ya.nd rfl (.inl rfl)) (Zm (Zk (i:=7) Ya.nd rfl (.inl rfl)) ZO))) (Zd (Zp (i:=8) Ya.nd rfl (.inl rfl) (Zq YQ hr (Za (pv 7) (Za (Zx (Zn (K:=K) rfl) (pv 0) (pv 3) (fun _ _=>rfl)) Zb))))
   (Zg (ZQ (Zu ZdD (pv 8) JP (Zs _)) (Zd (Z8 (Yf (K:=K) rfl (YC kK kW kX ZP (pv 5) (Za (ZN (Za (pv 6) (Za (pv 8) Zb))) Zb))))
   (Zg (ZQ (PW.pt (Ur (Zu Yo (Zx (Yp (K:=K) rfl) (Zx (Zn (K:=K) rfl) (pv 0) (pv 3) (fun _ _=>rfl)) Ze (fun _ _=>rfl)) ZI (Zs _)) (Ur (Zu Yo (pv 4) Ze (Zs _)) (UT (Ww (Zq YS hr (Za (pv 7) (Za (Zx (Yp (K:=K) rfl) (Zx (Zn (K:=K) rfl) (pv 0) (pv 3) (fun _ _=>rfl)) Ze (fun _ _=>rfl)) Zb)))))))) (Zg (Z8 (Yf (K:=K) rfl (YC kK kW kX ZP (pv 5) (Za (ZN (Za (Zl Y8 (pv 6) (Zz (Za (pv 3) Zb))) (Za (pv 7) Zb))) Zb))))) ZG))) ZG))))
   (Zg (Zp (i:=2) Ya.nd rfl (.inl rfl) (pv 5))))))
   (Zg (Zw (Zv (ZaP (K:=K) rfl hr.units) (by rfl) YX TH (Za (WA (Ls:=["_law_changed", "_law_partners"]) (Fs:=[]) (fi:=[]) (ZV.of (show Yv ["_law_drawing_here", "_law_scale", "_law_parts", "_law_t", "_law_height", "_law_later", "_law_changed", "_law_partners", "_law_there"] (Zj J1) _ [] []=true by decide +kernel)) rfl (ZU (K:=K) rfl (pv 2)) (fun cl C s3 H3 ex=>⟨(Z0 (K:=K) (n:=2) rfl rfl (Zm (Zk (i:=0) (show ((["_law_changed", "_law_partners"]:QP)++([]:QP)).Nodup by decide +kernel) rfl (.inl rfl)) (Zm (Zk (i:=1) (show ((["_law_changed", "_law_partners"]:QP)++([]:QP)).Nodup by decide +kernel) rfl (.inl rfl)) ZO))),YE,(pv 0)⟩)) Zb)))))),?_⟩
  obtain⟨xs,hl,hL,hW,hlen⟩:=id dr;have hxl:=hL.len;refine⟨sz0,fun c0 f0=>?_⟩;refine lay2 (o:=.lst []) f0 fun H1 s1 e1=>?_;refine⟨sz0,fun p0 f1=>?_⟩;refine lay2 (o:=.lst []) f1 fun H2 s2 e2=>?_;refine⟨sz2,fun t0 f2=>?_⟩;refine lay2 (o:=.tup [.ref c0,.ref p0]) f2 fun H3 s3 e3=>?_;refine⟨sz1,fun pr0 f3=>?_⟩;refine lay2 (o:=.lst [.ref t0]) f3 fun H4 s4 e4=>?_;have s04:=((s1.trans s2).trans s3).trans s4;refine⟨_,rfl,_,rfl,l,sc,ls,g,rfl,hsc,⟨xs,s04 _ _ hl,hL.same s04,hW,hlen⟩,hg,fun hp H5 s5 fh eh=>?_⟩;have s05:=s04.trans s5;obtain⟨zf,ezf⟩:∃zf:Nat->Bool,zf=fun i=>decide (hgA g ls i=some 0):=⟨_,rfl⟩;rw[<- ezf] at k;have few:∀i,i<=ls.length->(Yr ls zf i).length<=8192:=fun i hi=>by refine Kb (Zfc i hi) (Kb (Mq (by decide) (Kb (Zoi ls i) (Kb n13 (show 8<=13 by decide)))) (by decide))
  have ll:(lhL g ls ls.length).length=ls.length:=by simp[lhL]
  refine⟨hp,rfl,⟨_,Zt.of eh⟩,UZ (K:=K) (a:=hp) (xs:=lhL g ls ls.length) (fun i σ G=>∃(pr:Addr)(ys:QH)(v3 v4 v5 v6 v7 v8:QI),σ = [some (.ref l),some (.int sc),some (.ref pr),v3,v4,v5,v6,v7,v8]/\Zh H5 G/\G pr=some (.lst ys)/\Paired (Zd5 H G) ys (Yr ls zf i))
   ⟨pr0,_,_,_,_,_,_,_,rfl,Zh.refl _,s5 _ _ e4,.cons ⟨t0,c0,p0,rfl,s5 _ _ (s4 _ _ e3),s5 _ _ (s4 _ _ (s3 _ _ (s2 _ _ e1))),s5 _ _ (s4 _ _ (s3 _ _ e2)),f0⟩ .nil⟩ (fun i σ G _ ⟨_,_,_,_,_,_,_,_,_,s',_⟩=>Zt.of (s' _ _ eh)) ?_ ?_⟩
  ·rintro i x pe σ G hx ⟨pr,ys,v3,v4,v5,v6,v7,v8,rfl,sG,epr,hy⟩ fpe;have hi:i<ls.length:=by have:=(kz.mp hx).1;lia
   have ex:x=oI (hgA g ls i):=by unfold lhL at hx;rw[kF,MD hi] at hx;exact(Ka hx).symm
   subst ex;obtain⟨xt,hxt⟩:∃xt,xs[i]? = some xt:=⟨_,ko (by lia)⟩;obtain⟨q,ta,hq,rfl,hta⟩:=hL.get hxt;obtain⟨n,wn,al⟩:=Zg6 (z:=zf) hW i (by lia);have fit:∃m,ZiK q n m:=by obtain⟨m,wm⟩:=Gv hW (i+1);rw[Ki,hq] at wm;obtain⟨n',wn',ft⟩:=ZdF (show Wk (ls.take i ++ [q]) m from wm);rw[ZeA wn wn'];exact⟨m,ft⟩
   obtain⟨m,ft⟩:=fit;have n2:=Zbt wn;have tl:(ls.take i).length=i:=by rw[kL];lia
   have psz:Yr ls zf (i+1)=(Yr ls zf i).flatMap (JO q (zf i) i):=by rw[Yr,hq]
   refine⟨pe,_,rfl,Y9.of Zc,rfl,_,_,rfl,_,_,rfl,rfl,?_⟩;refine lay2 (o:=.tup [.int (i:Int),oI (hgA g ls i)]) fpe fun G1 sg1 eg1=>?_;refine⟨sz0,fun lt flt=>?_⟩;refine lay2 (o:=.lst []) flt fun G2 sg2 eg2=>?_;have yl:=Zgh hy;have epr1:=sg1 _ _ epr;have sH1:Zh H G1:=(s05.trans sG).trans sg1;refine⟨_,rfl,pr,rfl,⟨_,Zt.of (sg2 _ _ epr1)⟩,JX (K:=K) (a:=pr) (xs:=ys) (fun j σ G'=>∃(zs:QH)(v6 v7 v8:QI),σ = [some (.ref l),some (.int sc),some (.ref pr),some (.int (i:Int)),some (oI (hgA g ls i)),some (.ref lt),v6,v7,v8]/\Zh G1 G'/\G' lt=some (.lst zs)/\Paired (GR H lt G') zs (((Yr ls zf i).take j).flatMap (JO q (zf i) i)))
    ⟨_,_,_,_,rfl,sg2,eg2,.nil⟩ (fun j σ G' _ ⟨_,_,_,_,_,s',_⟩=>Zt.of (s' _ _ epr1)) ?_ ?_⟩
   ·rintro j y σ G' hyj ⟨zs,v6,v7,v8,rfl,sG',elt,hz⟩;obtain⟨r,hr',hy'⟩:=Zk9 hy hyj;obtain⟨t,c,p,rfl,hpt,hpc,hpp,fc0⟩:=Zd5.same (sg1.trans sG') hy';have rm:r∈Yr ls zf i:=kZ hr';obtain⟨ptr,lr⟩:=al r rm;have chl:=Zex i r rm;have stj:((Yr ls zf i).take (j+1)).flatMap (JO q (zf i) i)=((Yr ls zf i).take j).flatMap (JO q (zf i) i)++JO q (zf i) i r:=by
     rw[Ki,hr',List.flatMap_append];simp
    have zl:=Zgh hz;have zb:zs.length<=16384:=by rw[zl];refine Kb (ZdE _ 2 _ fun r _=>ZmS _ _ _ r) ?_;have:=few i (by lia);rw[kL];lia
    have nel:∀{a:Addr}{o:HO},G1 a=some o->a≠lt:=fun e z=>by rw[z,flt] at e;cases e
    have sHG:=sH1.trans sG';have hl':=sHG _ _ hl;have hta':=sHG _ _ hta;obtain⟨t1',c1',p1',e1',k1,k2,k3,_⟩:=Zd5.same sg1 hy';cases e1';have kk:=sG' _ _ k1;rw[hpt] at kk;injection kk with kk
    injection kk with kk
    injection kk with kk kk2
    injection kk with kk
    injection kk2 with kk2
    injection kk2 with kk2
    subst kk kk2;have nt:=nel k1;have nc:=nel k2;have np:=nel k3;refine⟨t,_,rfl,Y9.of hpt,rfl,_,_,rfl,_,_,rfl,rfl,?_⟩;refine⟨_,rfl,_,rfl,_,rfl,l,_,_,_,rfl,rfl,Zt.of hl',Zo hxt,p,ta,q,r.2,rfl,hpp,hta',by lia,ptr,ft.1,?_,?_,fun en H' s'=>?_,fun r' pp H' er s' fpp epp=>?_⟩
    ·intro nb;rcases ft.2 with⟨e,_⟩ | ⟨_,e,_⟩ | ⟨_,e,_⟩
     ·exact absurd e nb
     ·lia
     ·lia
    ·rcases ft.2 with⟨e,_⟩ | ⟨e,_⟩ | ⟨e,_⟩
     ·exact .inl e
     ·exact .inr (.inr e)
     ·exact .inr (.inl e)
    ·refine⟨_,rfl,rfl,_,rfl,YZ ?_⟩;refine⟨zs,_,_,_,rfl,sG'.trans s',s' _ _ elt,?_⟩;have:JO q (zf i) i r = []:=by unfold JO;rw[en]
     rw[stj,this,qe];exact L2.Paired.imp' (fun _ _ h=>h.same s') hz
    ·refine⟨_,rfl,rfl,_,rfl,J6 ?_⟩;have elt':=s' _ _ elt;refine⟨_,rfl,.inl ⟨rfl,_,Zt.of elt'⟩,_,rfl,_,rfl,sz2,fun t1 ft1=>?_⟩;refine lay2 (o:=.tup [.ref c,.ref pp]) ft1 fun K1 sk1 ek1=>?_;have ek2:=sk1 _ _ elt';refine⟨lt,_,_,rfl,rfl,ek2,(by rw[k9];lia),?_⟩;have fl1:G1 lt=none:=flt;have sK1:Zh G1 K1:=(sG'.trans s').trans sk1;have put:∀{G:Hp}{o:HO},Zh G1 G->Zh G1 (upd G lt o):=fun s c o e=>by rw[Zi (Zf e fl1)];exact s c o e
     have n1:t1≠lt:=fun z=>by rw[z,elt'] at ft1;cases ft1
     have n2':pp≠lt:=fun z=>by rw[z,elt] at fpp;cases fpp
     have pv1:GR H lt K1 (.ref t1) (r.1,r'):=⟨t1,c,pp,rfl,ek1,sk1 _ _ (s' _ _ hpc),sk1 _ _ epp,n1,nc,n2',fc0⟩;have hz1:Paired (GR H lt K1) (zs ++ [.ref t1]) (((Yr ls zf i).take j).flatMap (JO q (zf i) i) ++ [(r.1,r')]):=Paired.snoc' pv1 (L2.Paired.imp' (fun _ _ h=>h.same (s'.trans sk1)) hz);obtain⟨K2,eK2⟩:∃K2,upd K1 lt (.lst (zs ++ [.ref t1]))=K2:=⟨_,rfl⟩;rw[eK2];have sK2:Zh G1 K2:=by rw[<- eK2];exact put sK1
     have elt2:K2 lt=some (.lst (zs ++ [.ref t1])):=by rw[<- eK2];exact Zc
     have hz2:Paired (GR H lt K2) (zs ++ [.ref t1]) (((Yr ls zf i).take j).flatMap (JO q (zf i) i) ++ [(r.1,r')]):=by rw[<- eK2];exact L2.Paired.imp' (fun _ _ h=>h.upd) hz1
     have sHK:=sH1.trans sK2;have hlK:=sHK _ _ hl;have htK:=sHK _ _ hta;have stE:JO q (zf i) i r=(r.1,r')::(if q.1 = "cross" /\ zf i=true/\U0 r.2 q.2.toNat=false then[(r.1 ++ [(i:Int)],r.2)] else[]):=by unfold JO;rw[er]
     have one:∀{G3:Hp},Zh K2 G3->(¬(q.1 = "cross" /\ zf i=true/\U0 r.2 q.2.toNat=false))->Paired (GR H lt G3) (zs ++ [.ref t1]) (((Yr ls zf i).take (j+1)).flatMap (JO q (zf i) i)):=fun s3 no=>by rw[stj,stE,ki no];exact L2.Paired.imp' (fun _ _ h=>h.same s3) hz2
     refine⟨_,rfl,_,rfl,l,_,_,_,rfl,rfl,Zt.of hlK,Zo hxt,ta,_,_,_,rfl,rfl,Y9.of htK,Zo (j:=0) rfl,rfl,_,rfl,ZX (fun cc=>?_) (fun cc=>?_)⟩
     case refine_2=>
      refine YZ ⟨_,_,_,_,rfl,sK2,elt2,one (Zh.refl _) fun z=>cc ?_⟩;rw[z.1];exact kE rfl
     have ec:q.1 = "cross" := by have:=kG cc;injection this
     have kt:isK ls UR i=true:=by rw[Gw hq (pr:=UR),ec];decide
     have hgs:hgA g ls i=some (g (YM ls i).1-g (YM ls i).2):=by unfold hgA;rw[kt];rfl
     obtain⟨hh,ehh⟩:∃hh,g (YM ls i).1-g (YM ls i).2=hh:=⟨_,rfl⟩;rw[ehh] at hgs;have zi:zf i=decide (hh=0):=by rw[ezf];simp[hgs]
     rw[hgs];refine⟨_,rfl,rfl,_,rfl,ZX (fun c2=>?_) (fun c2=>?_)⟩
     case refine_2=>
      refine YZ ⟨_,_,_,_,rfl,sK2,elt2,one (Zh.refl _) fun z=>c2 ?_⟩;have:=z.2.1;rw[zi] at this;rw[kG this];exact kE rfl
     have h0:hh=0:=by have:=kG c2;injection this
     obtain⟨kd,kk'⟩:=q;dsimp only at ec ft hta htK er stE one stj psz;obtain⟨k0',ft2⟩:=ft;dsimp only at k0' ft2;obtain⟨kn,rfl⟩:=kI k0';have knl:kn+1<r.2.length:=by
      rcases ft2 with⟨e,_⟩ | ⟨_,e,_⟩ | ⟨e,_⟩
      ·exact absurd (e.symm.trans ec) (by decide)
      ·lia
      ·exact absurd (e.symm.trans ec) (by decide)
     have ne:r.2.getD kn 0≠(kn:Int)+1:=fun z=>by unfold Wg at er;dsimp only at er;rw[kM,z,ec,ki (by decide),km (by rw[kE rfl];rfl)] at er;cases er
     have tb:=ZfS ptr knl ne;have hpK:=(sG'.trans (s'.trans sk1));have hppK:K2 p=some (.lst (r.2.map V.int)):=sK2 _ _ k3;have hpcK:K2 c=some (.lst (r.1.map V.int)):=sK2 _ _ k2;refine⟨_,rfl,_,rfl,_,rfl,l,_,_,_,rfl,rfl,Zt.of hlK,Zo hxt,ta,_,_,_,rfl,rfl,Y9.of htK,Zo (j:=1) rfl,p,kn,_,_,r.2,rfl,hppK,by lia,tb,_,rfl,ZX (fun c3=>?_) (fun c3=>?_)⟩
     case refine_2=>
      refine⟨_,_,_,_,rfl,sK2,elt2,one (Zh.refl _) fun z=>c3 ?_⟩;have z2:=z.2.2;rw[kM] at z2;unfold U0 at z2;rw[z2];rfl
     have tq:U0 r.2 kn=false:=by unfold U0;simpa using c3
     refine⟨_,rfl,.inl ⟨rfl,_,Zt.of elt2⟩,_,rfl,_,rfl,sz1,fun d1 fd1=>?_⟩;refine lay2 (o:=.lst [.int (i:Int)]) fd1 fun K3 sk3 ek3=>?_;refine⟨c,d1,_,_,rfl,rfl,sk3 _ _ hpcK,ek3,(by rw[k9,ke];show r.1.length+1<=_;lia),fun d2 fd2=>?_⟩;obtain⟨K4,z,sk4,ek4⟩:=lay (o:=.lst (r.1.map V.int ++ [.int (i:Int)])) fd2;rw[z];clear z;refine⟨_,rfl,sz2,fun t2 ft2'=>?_⟩;refine lay2 (o:=.tup [.ref d2,.ref p]) ft2' fun K5 sk5 ek5=>?_;have s25:=(sk3.trans sk4).trans sk5;have elt5:=s25 _ _ elt2;have m1:t2≠lt:=fun z=>by rw[z,(sk3.trans sk4) _ _ elt2] at ft2';cases ft2'
     have m2:d2≠lt:=fun z=>by rw[z,sk3 _ _ elt2] at fd2;cases fd2
     refine⟨lt,_,_,rfl,rfl,elt5,(by rw[k9,kh];show zs.length+1<_;lia),?_⟩;refine⟨_,_,_,_,rfl,put (sK2.trans s25),Zc,?_⟩;rw[stj,stE,km ⟨ec,by rw[zi,h0];rfl,by rw[kM];exact tq⟩];have pv2:GR H lt K5 (.ref t2) (r.1 ++ [(i:Int)],r.2):=⟨t2,d2,p,rfl,ek5,by rw[sk5 _ _ ek4,kQ];rfl,s25 _ _ hppK,m1,m2,np,(sHK.trans sk3).free fd2⟩;have h5:=Paired.snoc' pv2 (L2.Paired.imp' (fun _ _ h=>h.same s25) hz2);rw[Kt _ [(r.1,r')]] at h5;exact L2.Paired.imp' (fun _ _ h=>GR.upd h) h5
   ·rintro σ G' ⟨zs,v6,v7,v8,rfl,sG',elt,hz⟩;refine⟨_,rfl,lt,zs,_,_,_,_,_,_,rfl,(sG.trans sg1).trans sG',elt,?_⟩;rw[psz,yl,Xl] at *;exact L2.Paired.imp' (fun _ _ h=>h.out) hz
  ·rintro σ G ⟨pr,ys,v3,v4,v5,v6,v7,v8,rfl,sG,epr,hy⟩;rw[ll] at hy;have yl:=Zgh hy;have fw:=few ls.length (kj _);have vl6:(Yr ls zf ls.length).length<64:=Zpr n13 hW;refine⟨_,rfl,pr,rfl,⟨_,Zt.of epr⟩,Ja (K:=K) (a:=pr) (xs:=ys) (by rw[k9];lia) (fun j zs G'=>G'=G/\Za0 G zs (((Yr ls zf ls.length).take j).map (·.1)) /\ ∀v∈zs,∃a,v = .ref a/\H a=none) ⟨rfl,.nil,fun v h=>nomatch h⟩ (fun j zs G' x=>by rw[Zgh x.2.1,ke,kL];lia) (fun j zs G' x=>by rw[x.1];exact Zt.of epr) (fun j y zs G' hyj x=>?_) (fun zs G' x p hp=>?_)⟩
   ·obtain⟨rfl,hz,hfr⟩:=x;obtain⟨r,hr',t,c,p,rfl,hpt,hpc,hpp,fc⟩:=Zk9 hy hyj;refine⟨t,_,rfl,Y9.of hpt,rfl,_,_,rfl,_,_,rfl,rfl,?_⟩;refine⟨_,rfl,rfl,?_,fun v hv=>(Kk.mp hv).elim (hfr v) fun z=>⟨c,kT.mp z,fc⟩⟩;rw[Ki,hr',kQ];exact Paired.snoc' ⟨c,rfl,hpc⟩ hz
   ·obtain⟨rfl,hz,hfr⟩:=x;rw[yl,Xl] at hz;have sp:Zh G' (upd G' p (.lst zs)):=Zh.laid hp;refine⟨p,_,_,rfl,Zt.of Zc,L2.Paired.imp' (fun _ _ ⟨a,e,h⟩=>⟨a,e,sp _ _ h⟩) hz,(by rw[Zgh hz,ke];exact vl6),fun d zs' vs' fd pz pv lr rise=>?_⟩;have s0:Zh H (upd G' p (.lst zs)):=(s05.trans sG).trans sp;refine k d _ zs' vs' (s0.trans (Zh.laid fd)) (s0.free fd) Zc (L2.Paired.imp' (fun _ _ ⟨a,e,h⟩=>⟨a,e,Zh.laid fd _ _ h⟩) lr) (fun v hv=>hfr v (pz.mem_iff.mp hv)) pv rise
theorem ZhC {ls:QB}{z:Nat->Bool}:∀i,i<=ls.length -> ∀r∈Yr ls z i,r.1.length<=nX (ls.take i)
 | 0,_,r,hr=>by rw[kT.mp hr];exact Kr _
 | i+1,h,r,hr=>by
  have hq:ls[i]? = some ls[i]:=ko (by lia);rw[Yr,hq] at hr;obtain⟨r0,h0,hr⟩:=KS.mp hr;have ih:=ZhC i (by lia) r0 h0;rw[Ki,hq,Gg];unfold JO at hr;split at hr
  ·cases hr
  ·rcases kO.mp hr with rfl | hr
   ·exact Kb ih (qw _ _)
   ·split at hr
    ·rename_i c
     rw[kT.mp hr,kh];have:nX [ls[i]]=1:=by unfold nX;rw[Tp,km (kE c.1)]
     show r0.1.length+1<=nX (ls.take i)+nX [ls[i]];lia
    ·cases hr
def OkV (d:Nat)(G:Hp)(v:V):Prop:=∃l,J9 G v l/\okL d l=true
theorem OkV.same {d:Nat}{G G':Hp}{v:V}(s:Zh G G')(h:OkV d G v):OkV d G' v:=let ⟨l,h1,h2⟩:=h;⟨l,h1.same s,h2⟩
theorem OkV.mono {d e:Nat}{G:Hp}{v:V}(h:OkV d G v)(z:d<=e):OkV e G v:=let ⟨l,h1,h2⟩:=h;⟨l,h1,Zg7 z h2⟩
theorem ZdA {d:Nat}{G:Hp}(i:Int):OkV d G (.int i):=⟨.int i,.int i,by cases d<;>rfl⟩
theorem Zb5 {d:Nat}{G:Hp}{a:Addr}{vs:QH}(e:G a=some (.lst vs))(n:vs.length<=60)(h:∀v∈vs,OkV d G v):OkV (d+1) G (.ref a):=by obtain⟨ls,r,l,f⟩:=Zeo (fun _ l=>okL d l=true) h;refine⟨.lst ls,.lst e r,?_⟩;simp only[okL,Kj,KA,Ku];exact⟨by lia,fun x hx=>let ⟨_,_,q⟩:=f x hx;q⟩
theorem ZnH {d e':Nat}{G:Hp}{a:Addr}{vs:QH}(e:G a=some (.tup vs))(h:∀v∈vs,OkV d G v):OkV e' G (.ref a):=by obtain⟨ls,r,l,f⟩:=Zeo (fun _ l=>okL d l=true) h;exact⟨.tup ls,.tup e r,by cases e'<;>rfl⟩
theorem Jo {d:Nat}{G:Hp}{a:Addr}{ns:QG}(e:G a=some (.lst (ns.map V.int)))(h:ns.length<=60):OkV (d+1) G (.ref a):=Zb5 e (by rw[ke];exact h) fun x hx=>by obtain⟨z,_,rfl⟩:=KH.mp hx;exact ZdA z
def off (b:Addr)(H:Hp):Hp:=fun c=>if c=b then none else H c
theorem off_ne {b c:Addr}{H:Hp}(h:c≠b):off b H c=H c:=ki h
theorem Zl0 (b:Addr)(H:Hp):Zh (off b H) H:=fun c o e=>by
 unfold off at e;split at e
 ·cases e
 ·exact e
theorem WT {b:Addr}{H H':Hp}(f:Jf b H H'):Zh (off b H) (off b H'):=fun c o e=>by
 unfold off at e ⊢;split at e
 ·cases e
 ·rename_i h
  rw[ki h];exact f c o e h
theorem Wj {b c:Addr}{H:Hp}{o:HO}(e:H c=some o)(h:c≠b):off b H c=some o:=(off_ne h).trans e
theorem ZnZ {d:Nat}{b:Addr}{H:Hp}{v:V}(h:OkV d (off b H) v):OkV d H v:=h.same (Zl0 b H)
theorem YW {b:Addr}{H:Hp}(bg:US H b){c:Addr}(h:H c=none):c≠b:=fun z=>by obtain⟨_,_,_,e⟩:=bg;rw[z,e] at h;cases h
def nbL:Nat->Lit->Bool
 | 0,.lst _=>false
 | 0,.tup _=>false
 | d+1,.lst l=>(l.length != 2)&&l.all (nbL d)
 | d+1,.tup l=>l.all (nbL d)
 | _,_=>true
theorem ZcG {H H':Hp}:∀{vs:QH}{ls:List Lit},(∀v l,l∈ls->J9 H v l->J9 H' v l)->Jv H vs ls->Jv H' vs ls
 | _,_,_,.nil=>.nil
 | _,_,h,.cons a r=>.cons (h _ _ kS a) (ZcG (fun v l hl=>h v l (kU _ hl)) r)
theorem ZnJ {b:Addr}{H:Hp}(bg:US H b):∀(d:Nat)(v:V)(l:Lit),nbL d l=true->J9 H v l->J9 (off b H) v l:=by
 obtain⟨g,r0,_,eb⟩:=bg;intro d
 induction d with
 | zero=>
  intro v l h r;cases r with
  | non=>exact .non
  | bl b=>exact .bl b
  | int i=>exact .int i
  | str x=>exact .str x
  | tup e r=>cases h
  | lst e r=>cases h
 | succ d ih=>
  intro v l h r;cases r with
  | non=>exact .non
  | bl b=>exact .bl b
  | int i=>exact .int i
  | str x=>exact .str x
  | tup e r=>
   simp only[nbL,KA] at h;refine .tup (Wj e fun z=>?_) (ZcG (fun v l hl q=>ih v l (h l hl) q) r);rw[z,eb] at e;cases e
  | lst e r=>
   simp only[nbL,Kj,KA,Ts] at h;refine .lst (Wj e fun z=>?_) (ZcG (fun v l hl q=>ih v l (h.2 l hl) q) r);rw[z,eb] at e;cases e;exact h.1 r.len.symm
theorem Zju {α:Type}(f:α -> V)(xs:List α)(lo hi:QW):∃ys:List α,W3 (xs.map f) lo hi=ys.map f/\ys.length<=xs.length:=by
 refine⟨(xs.drop (HT.Jy xs.length 0 lo)).take (HT.Jy xs.length xs.length hi-HT.Jy xs.length 0 lo),?_,?_⟩
 ·unfold W3;rw[ke,qM,qD]
 ·rw[kL,Ks];lia
def Zl2:Sp:=fun vs H Q _=>∃(b a:Addr)(ns:QG),vs = [.ref b,.ref a]/\US H b/\H a=some (.lst (ns.map V.int))/\ns.length<=29/\a≠b /\ ∀(H':Hp)(v:V),US H' b->Jf b H H'->OkV 3 (off b H') v->Q v H'
theorem ZrC:ZpB 10 59:=⟨by decide,by decide,by decide⟩
abbrev Gm:Stmt:=top 55
theorem JJ:Zy ["_law_bag_here", "_law_some", "_law_way", "_law_odd", "_law_at"] ["_law_bag_here", "_law_some"] (Zj Gm):={}
theorem Zq7 {f:Addr}{fd:FuncData}(F:Yx K "_law_odd_list" "_law_odd_list" Gm f fd)(Zr:Yq P w K mg base 1 "_law_take" ["_law_bag_here", "_law_many"] Uq)(Ye:mg "len" = none)(Ga:mg "max" = none)(J3:mg "tuple" = none):Yi P w K mg base Wx 2 f fd ["_law_bag_here", "_law_some"] Zl2:=by
 refine F.ok JJ (fun vs H Q E h=>?_) (fun cdv A outer s H vs Q E hr h=>?_)
 ·obtain⟨b,a,ns,rfl,_⟩:=h;rfl
 ·obtain⟨b,a,ns,rfl,bg,ea,nn,ab,k⟩:=h;refine⟨_,(Zd (Zp (i:=2) JJ.nd rfl (.inl rfl) (Zq Zr hr (Za (pv 0) (Za Ze Zb))))
   (Zd (Zp (i:=3) JJ.nd rfl (.inl rfl) (Zx (Zn (K:=K) rfl) (PL.out (G:=fun _ _=>True) (Zlh (Jn Gf Zo9 (Jn Gf Zo9 (Jn Gf Zq4 (Jn Gf Zpx (Jn Gf Zgj (Jn Gf ZpK (Jn Gf (Zlh (Jn Gf Zgj Zgq Yn)) (Jn Gf (Zqy (Jn Gf Zgj (Jn Gf Zgj Zgq Yn) Yn)) (Jn Gf (ZqN ZrC) Zgq Zng) Zhm) Zbf) Zd2) Yn) Yn) Yn) Yn) Yn))) (Zq Zr hr (Za (pv 0) (Za Ze Zb))) (fun _ _=>rfl)))
   (Zd (Zp (i:=4) JJ.nd rfl (.inl rfl) (Zq Zr hr (Za (pv 0) (Za (Zv (WE rfl) (by rfl) Ga NK (Za Ze (Za (Zv (Yb (K:=K) rfl) (by rfl) Ye KO (Za (pv 1) Zb)) Zb))) Zb))))
   (Zd (ZQ (PW.pt (Zc3 (Zu Yo (pv 2) Ze (Zs _)) (ZbM (Zu (ZkA (K:=K) rfl hr.units) (pv 1) (Zz Zb) (Zs _))))) (Zg (Zw (Zx (Zn (K:=K) rfl) (Zz (Za (Yc Uc (by rfl) J3 boot_tuple (Za (pv 1) Zb)) (Za (Zl Y8 (pv 1) (Zz (Za Ze Zb))) (Za (Zz (Za (pv 1) Zb)) (Za (pv 3) (Za (Zz (Za (pv 3) Zb)) Zb)))))) (Zq Zr hr (Za (pv 0) (Za Ze Zb))) (fun _ _=>rfl)))) ZG)
   (Zd (ZQ (Zu Yo (pv 2) Ze (Zs _)) (Zg (Zw (Zl Y8 (Z7 (Ym (K:=K) rfl) (pv 1) Yy (ZW (pv 4))) (Z7 (Ym (K:=K) rfl) (pv 1) (ZW (Zl ZD (pv 4) Ze)) Yy)))) ZG)
   (Zd (ZQ (Zu Yo (pv 2) Ze (Zs _)) (Zg (Zw (Zl Y8 (Zl Y8 (Z7 (Ym (K:=K) rfl) (pv 1) Yy (ZW (pv 4))) (Zz (Za (Zx (Zn (K:=K) rfl) (pv 1) (pv 4) (fun _ _=>rfl)) Zb))) (Z7 (Ym (K:=K) rfl) (pv 1) (ZW (pv 4)) Yy)))) ZG)
   (Zg (Zw (Zl Y8 (Zl Y8 (Z7 (Ym (K:=K) rfl) (pv 1) Yy (ZW (pv 4))) (Zz (Za (pv 3) Zb))) (Z7 (Ym (K:=K) rfl) (pv 1) (ZW (Zl ZD (pv 4) Ze)) Yy)))))))))),?_⟩
  refine⟨_,rfl,b,6,rfl,bg,by decide,by decide,fun wy H1 w0 w1 bg1 f1=>?_⟩;refine⟨trivial,fun cv Hc sc rc=>?_⟩;have bgc:=ZF sc bg1;refine⟨_,rfl,b,9,rfl,bgc,by decide,by decide,fun d2 H2 d20 d21 bg2 f2=>?_⟩;have ro:J9 (off b H2) cv _:=(ZnJ bgc 3 _ _ (by decide) rc).same (WT f2);obtain⟨dn,rfl⟩:=kI d20;cases ro with
  | @lst c1 us _ ec ru=>
  have lu:us.length=9:=ru.len;have hu:us[dn]? = some (us[dn]'(by lia)):=ko (by lia);generalize us[dn]'(by lia)=ov at hu;obtain⟨lo,hlo,ro⟩:=ru.get hu;have oko:okL 1 lo=true:=KA.mp (show ([Lit.bl true,Lit.bl false,Lit.non,Lit.str "1", Lit.int 2,Lit.int (-1),Lit.lst [Lit.int 1],Lit.tup [Lit.int 0,Lit.int 1],Lit.int (10 ^ Int.toNat 59)].all (okL 1))=true by rfl) lo (kZ hlo);have oo:OkV 1 (off b H2) ov:=⟨lo,ro,oko⟩;clear ro oko hlo;refine⟨c1,_,_,_,rfl,rfl,Zt.of (Zl0 b _ _ _ ec),Zo hu,?_⟩;have f02:Jf b H H2:=(f1.trans sc.frm).trans f2;have ea2:=f02 _ _ ea ab;refine⟨_,rfl,_,rfl,a,_,rfl,.inl (Zt.of ea2),_,_,rfl,b,_,rfl,bg2,(by rw[ke];split<;>lia),(by rw[ke];split<;>lia),fun i' H3 i0 i1 bg3 f3=>?_⟩;obtain⟨i,rfl⟩:=kI i0;rw[ke] at i1;have ea3:=f3 _ _ ea2 ab;have f03:=f02.trans f3;replace oo:=oo.same (WT f3);have fin:∀{X:Hp}{v:V},US X b->Jf b H3 X->OkV 3 (off b X) v->Q v X:=fun bX fX o=>k _ _ bX (f03.trans fX) o;have five:∀X:Hp,Zh H3 X->(ZrD (tOp (Znt K) (ZkF (Uv (tCB Zmg (Uv (ZcJ 1) ZhD)) (Uv (tOp ZpZ (ZcJ 1) (ZkF (Uv (tC (V.int 0)) ZhD))) (Uv (ZkF (Uv (ZcJ 1) ZhD)) (Uv (ZcJ 3) (Uv (ZkF (Uv (ZcJ 3) ZhD)) ZhD)))))) (ZjV Uq [] E0 (Uv (ZcJ 0) (Uv (tC (V.int 5)) ZhD)))) { nx:=fun x H'=>Q V.non H',rt:=Q }) [some (.ref b),some (.ref a),some (.int wy),some ov,some (.int i)] X:=fun X sX=>by
   have bgX:=ZF sX bg3;have eaX:=sX _ _ ea3;refine⟨_,rfl,a,_,rfl,eaX,fun p1 hp1=>?_⟩;refine lay2 (o:=.tup (ns.map V.int)) hp1 fun X1 t1 e1=>?_;refine⟨_,rfl,sz1,fun q4 hq4=>?_⟩;refine lay2 (o:=.lst [.int 0]) hq4 fun X2 t2 e2=>?_;refine⟨a,q4,_,_,rfl,rfl,t2 _ _ (t1 _ _ eaX),e2,(by rw[ke,k9];show ns.length+1<=_;lia),fun q5 hq5=>?_⟩;obtain⟨ms,em,lm⟩:∃ms:QG,ns.map V.int ++ [V.int 0]=ms.map V.int/\ms.length<=60:=⟨ns ++ [0],by rw[kQ];rfl,by rw[kh];show ns.length+1<=60;lia⟩;rw[em];refine lay2 (o:=.lst (ms.map V.int)) hq5 fun X3 t3 e3=>?_;refine⟨_,rfl,sz1,fun q6 hq6=>?_⟩;refine lay2 (o:=.lst [.ref a]) hq6 fun X4 t4 e4=>?_;refine⟨_,rfl,_,rfl,sz1,fun q8 hq8=>?_⟩;refine lay2 (o:=.lst [ov]) hq8 fun X5 t5 e5=>?_;refine⟨(by show 5<=sizeLine;decide),fun q7 hq7=>?_⟩;refine lay2 (o:=.lst [.ref p1,.ref q5,.ref q6,ov,.ref q8]) hq7 fun X6 t6 e6=>?_;have s26:=((t3.trans t4).trans t5).trans t6;have s6:=(t1.trans t2).trans s26;refine⟨_,rfl,b,5,rfl,ZF s6 bgX,by decide,by decide,fun d5 Y d50 d51 bgY fY=>?_⟩;obtain⟨kk,rfl⟩:=kI d50;have n1:=YW bgX hp1;have n5:=YW (ZF (t1.trans t2) bgX) hq5;have n6:=YW (ZF ((t1.trans t2).trans t3) bgX) hq6;have n8:=YW (ZF (((t1.trans t2).trans t3).trans t4) bgX) hq8;have n7:=YW (ZF ((((t1.trans t2).trans t3).trans t4).trans t5) bgX) hq7;have y1:=Wj (fY _ _ (s26 _ _ (t2 _ _ e1)) n1) n1;have y5:=Wj (fY _ _ (((t4.trans t5).trans t6) _ _ e3) n5) n5;have y6:=Wj (fY _ _ ((t5.trans t6) _ _ e4) n6) n6;have y8:=Wj (fY _ _ (t6 _ _ e5) n8) n8;have y7:=fY _ _ e6 n7;have ya:=Wj (fY _ _ (s6 _ _ eaX) ab) ab;have f3Y:Jf b H3 Y:=(sX.trans s6).frm.trans fY;have oY:OkV 1 (off b Y) ov:=oo.same (WT f3Y)
   match kk,d51 with
   | 0,_=>exact⟨q7,_,_,_,rfl,rfl,Zt.of y7,rfl,fin bgY f3Y (ZnH (d:=1) y1 fun v hv=>by
     obtain⟨z,_,rfl⟩:=KH.mp hv;exact ZdA z)⟩
   | 1,_=>exact⟨q7,_,_,_,rfl,rfl,Zt.of y7,rfl,fin bgY f3Y (Jo y5 lm)⟩
   | 2,_=>
    refine⟨q7,_,_,_,rfl,rfl,Zt.of y7,rfl,fin bgY f3Y (Zb5 (d:=2) y6 (by show 1<=60;decide) fun v hv=>?_)⟩;rw[kT.mp hv];exact Jo ya (by lia)
   | 3,_=>exact⟨q7,_,_,_,rfl,rfl,Zt.of y7,rfl,fin bgY f3Y (oY.mono (by decide))⟩
   | 4,_=>
    refine⟨q7,_,_,_,rfl,rfl,Zt.of y7,rfl,fin bgY f3Y (Zb5 (d:=2) y8 (by show 1<=60;decide) fun v hv=>?_)⟩;rw[kT.mp hv];exact oY.mono (by decide)
   | kk+5,z=>exact absurd z (by lia)
  refine⟨_,rfl,rfl,_,rfl,ZX (fun hw=>five _ (Zh.refl _)) (fun hw=>?_)⟩;refine⟨_,rfl,sz0,fun e he=>?_⟩;refine lay2 (o:=.lst []) he fun X sX eX=>?_;have eaX:=sX _ _ ea3;have bgX:=ZF sX bg3;refine⟨a,e,_,rfl,rfl,Zt.of eaX,Zt.of eX,_,rfl,ZX (fun hn=>five _ sX) (fun hn=>?_)⟩;have hi:i<ns.length:=by have:ns ≠ []:=fun z=>hn (by rw[z];rfl);have:=List.length_pos_iff.mpr this;revert i1;split<;>lia
  clear five;replace oo:OkV 1 (off b X) ov:=oo.same (WT sX.frm);replace fin:∀{X':Hp}{v:V},Zh X X'->OkV 3 (off b X') v->Q v X':=fun s o=>fin (ZF s bgX) (sX.trans s).frm o;clear f1 f2 f3 f02 f03 ea ea2 ea3 bg bg1 bg2 bg3 bgc;have cs:∀(lo hi:QW),∃ys:QG,W3 (ns.map V.int) lo hi=ys.map V.int/\ys.length<=29:=fun lo hi=>let ⟨ys,e,l⟩:=Zju V.int ns lo hi;⟨ys,e,Kb l nn⟩
  refine⟨_,rfl,rfl,_,rfl,ZX (fun h1=>?_) (fun h1=>?_)⟩
  ·refine⟨_,rfl,_,rfl,_,rfl,a,_,rfl,Zt.of eaX,fun c1 hc1=>?_⟩;obtain⟨y1,ey1,l1⟩:=cs none (some (i:Int));rw[ey1];refine lay2 (o:=.lst (y1.map V.int)) hc1 fun X1 t1 e1=>?_;refine⟨_,rfl,_,rfl,_,_,rfl,rfl,_,rfl,a,_,rfl,Zt.of (t1 _ _ eaX),fun c2 hc2=>?_⟩;obtain⟨y2,ey2,l2⟩:=cs (some ((i:Int)+1)) none;rw[ey2];refine lay2 (o:=.lst (y2.map V.int)) hc2 fun X2 t2 e2=>?_;refine⟨c1,c2,_,_,rfl,rfl,t2 _ _ e1,e2,(by rw[ke,ke,k9];lia),fun c3 hc3=>?_⟩;rw[<- kQ];have n3:=YW (ZF (t1.trans t2) bgX) hc3;exact fin ((t1.trans t2).trans (Zh.laid hc3)) (Jo (Wj Zc n3) (by rw[kh];lia))
  refine⟨_,rfl,rfl,_,rfl,ZX (fun h2=>?_) (fun h2=>?_)⟩
  ·refine⟨_,rfl,_,rfl,_,rfl,a,_,rfl,Zt.of eaX,fun c1 hc1=>?_⟩;obtain⟨y1,ey1,l1⟩:=cs none (some (i:Int));rw[ey1];refine lay2 (o:=.lst (y1.map V.int)) hc1 fun X1 t1 e1=>?_;obtain⟨z,hz⟩:∃z,ns[i]? = some z:=⟨_,ko hi⟩;refine⟨_,rfl,_,rfl,a,_,_,_,rfl,rfl,Zt.of (t1 _ _ eaX),Zo (by rw[kF,hz];rfl),sz1,fun c2 hc2=>?_⟩;refine lay2 (o:=.lst [.int z]) hc2 fun X2 t2 e2=>?_;refine⟨c1,c2,_,_,rfl,rfl,t2 _ _ e1,e2,(by rw[ke,k9];show y1.length+1<=_;lia),fun c3 hc3=>?_⟩;obtain⟨ms,em,lm⟩:∃ms:QG,y1.map V.int ++ [V.int z]=ms.map V.int/\ms.length<=31:=⟨y1 ++ [z],by rw[kQ];rfl,by rw[kh];show y1.length+1<=31;lia⟩;rw[em];refine lay2 (o:=.lst (ms.map V.int)) hc3 fun X3 t3 e3=>?_;have t13:=(t1.trans t2).trans t3;refine⟨_,rfl,_,rfl,_,rfl,a,_,rfl,Zt.of (t13 _ _ eaX),fun c4 hc4=>?_⟩;obtain⟨y2,ey2,l2⟩:=cs (some (i:Int)) none;rw[ey2];refine lay2 (o:=.lst (y2.map V.int)) hc4 fun X4 t4 e4=>?_;refine⟨c3,c4,_,_,rfl,rfl,t4 _ _ e3,e4,(by rw[ke,ke,k9];lia),fun c5 hc5=>?_⟩;rw[<- kQ];have n5:=YW (ZF (t13.trans t4) bgX) hc5;exact fin ((t13.trans t4).trans (Zh.laid hc5)) (Jo (Wj Zc n5) (by rw[kh];lia))
  ·refine⟨_,rfl,_,rfl,_,rfl,a,_,rfl,Zt.of eaX,fun c1 hc1=>?_⟩;obtain⟨y1,ey1,l1⟩:=cs none (some (i:Int));rw[ey1];refine lay2 (o:=.lst (y1.map V.int)) hc1 fun X1 t1 e1=>?_;refine⟨_,rfl,sz1,fun c2 hc2=>?_⟩;refine lay2 (o:=.lst [ov]) hc2 fun X2 t2 e2=>?_;refine⟨c1,c2,_,_,rfl,rfl,t2 _ _ e1,e2,(by rw[ke,k9];show y1.length+1<=_;lia),fun c3 hc3=>?_⟩;obtain⟨ms,em⟩:∃ms:QH,y1.map V.int ++ [ov]=ms:=⟨_,rfl⟩;rw[em];refine lay2 (o:=.lst ms) hc3 fun X3 t3 e3=>?_;have t13:=(t1.trans t2).trans t3;refine⟨_,rfl,_,rfl,_,_,rfl,rfl,_,rfl,a,_,rfl,Zt.of (t13 _ _ eaX),fun c4 hc4=>?_⟩;obtain⟨y2,ey2,l2⟩:=cs (some ((i:Int)+1)) none;rw[ey2];refine lay2 (o:=.lst (y2.map V.int)) hc4 fun X4 t4 e4=>?_;have lm:ms.length<=31:=by rw[<- em,kh,ke];show y1.length+1<=31;lia
   refine⟨c3,c4,_,_,rfl,rfl,t4 _ _ e3,e4,(by rw[ke,k9];lia),fun c5 hc5=>?_⟩;have n5:=YW (ZF (t13.trans t4) bgX) hc5;have s5:=(t13.trans t4).trans (Zh.laid (o:=.lst (ms++y2.map V.int)) hc5);refine fin s5 (Zb5 (d:=2) (Wj Zc n5) (by rw[kh,ke];lia) fun v hv=>?_);rcases Kk.mp hv with z | z
   ·rw[<- em] at z;rcases Kk.mp z with z | z
    ·obtain⟨q,_,rfl⟩:=KH.mp z;exact ZdA q
    ·rw[kT.mp z];exact(oo.same (WT s5.frm)).mono (by decide)
   ·obtain⟨q,_,rfl⟩:=KH.mp z;exact ZdA q
theorem Zry {H H':Hp}{a:Addr}{xs:QH}(e:Zh H H')(h:Y9 K H a xs):Y9 K H' a xs:=by
 rcases h with(h | ⟨o,h⟩) | h
 ·exact .inl (.inl (e _ _ h))
 ·exact .inl (.inr ⟨o,e _ _ h⟩)
 ·exact .inr h
theorem Zer {H H':Hp}(s:Zh H H'):∀{n:Nat}{x y:V},Eqv K H n x y->Eqv K H' n x y:=by
 intro n x y h
 induction h with
 | flat f=>exact .flat f
 | same=>exact .same
 | lst a b l _ ih=>exact .lst (s.seq a) (s.seq b) l ih
 | tup a b l _ ih=>exact .tup (Zry s a) (Zry s b) l ih
theorem ZmA {H:Hp}:∀{n:Nat}{x y:V},Eqv K H n x y -> ∀{m:Nat},n<=m->Eqv K H m x y:=by
 intro n x y h
 induction h with
 | flat f=>intro m _;exact .flat f
 | same=>intro m _;exact .same
 | lst a b l _ ih=>
  intro m hm;obtain⟨k,rfl⟩:∃k,m=k+1:=⟨m-1,by lia⟩;exact .lst a b l fun i x y h1 h2=>ih i x y h1 h2 (by lia)
 | tup a b l _ ih=>
  intro m hm;obtain⟨k,rfl⟩:∃k,m=k+1:=⟨m-1,by lia⟩;exact .tup a b l fun i x y h1 h2=>ih i x y h1 h2 (by lia)
theorem Zmb {H:Hp}{v:V}{l:Lit}{n:Nat}(h:J9 H v l):Eqv K H n v v:=by
 cases h with
 | non=>exact .flat rfl
 | bl b=>exact .flat rfl
 | int i=>exact .flat rfl
 | str x=>exact .flat rfl
 | tup e r=>exact .same
 | lst e r=>exact .same
def Cp (K:QF)(d:Nat)(H:Hp)(v v':V)(l:Lit):Prop:=
 (∃(e:Nat)(a a':Addr)(xs ys:QH)(ls:List Lit),d=e+1/\v = .ref a/\v' = .ref a'/\l = .lst ls/\H a=some (.lst xs)/\H a'=some (.lst ys)/\ys.length=xs.length /\ ∀(i:Nat)(x y:V),ys[i]? = some x->xs[i]? = some y->Eqv K H e x y)∨(v'=v /\ ∀ls,l ≠ .lst ls)
theorem Cp.eqv {d:Nat}{H:Hp}{v v':V}{l:Lit}(r:J9 H v l)(c:Cp K d H v v' l):Eqv K H d v' v:=by
 rcases c with⟨e,a,a',xs,ys,ls,rfl,rfl,rfl,rfl,h1,h2,h3,h4⟩ | ⟨rfl,_⟩
 ·exact .lst (Zt.of h2) (Zt.of h1) h3 h4
 ·exact Zmb r
def Uu (K:QF)(d:Nat):Sp:=fun vs H Q _=>∃(v:V)(l:Lit),vs = [v]/\J9 H v l/\okL d l=true /\ ∀(v':V)(H':Hp),Zh H H'->J9 H' v' l->Cp K d H' v v' l->Q v' H'
abbrev JY:Stmt:=top 56
theorem Zef:Zy ["_law_thing"] ["_law_thing"] (Zj JY):={}
theorem Zdj {f:Addr}{fd:FuncData}(F:Yx K "_law_copied" "_law_copied" JY f fd)(d:Nat)(sp0:Sp)(JT:Yq P w K mg base d "_law_copied" ["_law_thing"] sp0)(hs:∀e,d=e+1->sp0=Uu K e)(ZE:mg "isinstance" = none)(Z6:mg "list" = none):Yi P w K mg base Wx (d+1) f fd ["_law_thing"] (Uu K d):=by
 refine F.ok Zef (fun vs H Q E h=>?_) (fun cdv A outer s H vs Q E hr h=>?_)
 ·obtain⟨v,l,rfl,_⟩:=h;rfl
 ·obtain⟨v,l,rfl,r,ok,k⟩:=h;refine⟨_,(Zd (ZQ (Ww (Zv (YU (K:=K) rfl) (by rfl) ZE qU (Za (pv 0) (Za (Ue (v:=.ty "list") (by rfl) Z6 Xw rfl) Zb)))) (Zg (Zw (WA (Ls:=["_law_one"]) (Fs:=[]) (fi:=[]) (ZV.of (show Yv ["_law_thing"] (Zj JY) _ [] []=true by decide +kernel)) rfl (ZU (K:=K) rfl (pv 0)) (fun cl C s3 H3 ex=>⟨(Zk (i:=0) (show ((["_law_one"]:QP)++([]:QP)).Nodup by decide +kernel) rfl (.inl rfl)),YE,(Zq (hj:=kj _) JT (hr.mono (kj _)) (Za (pv 0) Zb))⟩)))) ZG)
   (Zg (Zw (pv 0)))),?_⟩
  rcases Zbr (K:=K) r with⟨a,xs,ls,rfl,rfl,ea,rs⟩ | ⟨t,ty,kt,nl⟩
  ·cases d with
   | zero=>cases ok
   | succ e=>
    rw[hs e rfl];obtain⟨l20,okr⟩:=Zca ok;have lx:=rs.len;refine⟨_,rfl,_, "list", _,true,rfl,.lst ea,by rfl,true,rfl,J6 ?_⟩;refine⟨_,rfl,a,rfl,⟨_,Zt.of ea⟩,Ja (K:=K) (a:=a) (xs:=xs) (by rw[lx,k9];lia) (fun i zs G=>Zh H G/\zs.length=i/\Jv G zs (ls.take i) /\ ∀(j:Nat)(x y:V),zs[j]? = some x->xs[j]? = some y->Eqv K G e x y) ⟨Zh.refl _,rfl,.nil,fun j x y h=>by simp at h⟩
     (fun i zs G x=>Ld x.2.1) (fun i zs G x=>Zt.of (x.1 _ _ ea)) ?_ ?_⟩
    ·rintro i x zs G hx ⟨sG,lz,rz,ez⟩;obtain⟨l',hl,rl⟩:=rs.get hx;refine lcG ⟨_,rfl,x,l',rfl,rl.same sG,okr _ (kZ hl),fun v' G' s' r' c'=>⟨sG.trans s',by rw[kh,lz];rfl,?_,fun j y z hy hz=>?_⟩⟩
     ·rw[Ki,hl];exact(rz.same s').app (.cons r' .nil)
     ·by_cases hj:j<zs.length
      ·rw[KJ hj] at hy;exact Zer s' (ez j y z hy hz)
      ·have hj':j=i:=by
        have:=(kz.mp hy).1;rw[kh,Kf] at this;lia
       subst hj';rw[Ko (by lia),lz,TV] at hy;rw[hx] at hz;cases hy;cases hz;exact c'.eqv (rl.same (sG.trans s'))
    ·rintro zs G ⟨sG,lz,rz,ez⟩ D hD;rw[lx,kJ (kj _)] at rz;have sD:=Zh.laid (o:=.lst zs) hD;exact k _ _ (sG.trans sD) (.lst Zc (rz.same sD)) (.inl ⟨e,a,D,xs,zs,ls,rfl,rfl,rfl,rfl,sD _ _ (sG _ _ ea),Zc,lz,fun i x y h1 h2=>Zer sD (ez i x y h1 h2)⟩)
  ·refine⟨_,rfl,_, "list", _,false,rfl,ty,kt,false,rfl,YZ ?_⟩;exact⟨_,rfl,k v H (Zh.refl _) r (.inr ⟨rfl,nl⟩)⟩
theorem ZfO {f:Addr}{fd:FuncData}(F:Yx K "_law_copied" "_law_copied" JY f fd)(m:mg "_law_copied" = some (.ref f))(kp:PySem.W.keepIn K (.ref f)=true)(bb:Binds K fd ["_law_thing"] [])(ZE:mg "isinstance" = none)(Z6:mg "list" = none):∀d,Yi P w K mg base Wx (d+1) f fd ["_law_thing"] (Uu K d)
 | 0=>Zdj F 0 (fun _ _ _ _=>False) ⟨f,fd,⟨fun _ _ _ _ h=>h.elim,fun _ _ _ _ _ _ _ _ _ _ _ _ _ h=>h.elim⟩,m,kp,bb⟩ (fun e h=>(nomatch h)) ZE Z6
 | d+1=>Zdj F (d+1) (Uu K d) ⟨f,fd,ZfO F m kp bb ZE Z6 d,m,kp,bb⟩ (fun e h=>by cases h;rfl) ZE Z6
theorem ZlO {ls:QB}:∀n,n<=ls.length->(Yg ls (fun x=>decide (x=("cross" : Str))) n).length=nX (ls.take n)
 | 0,_=>by rw[List.take_zero];rfl
 | n+1,h=>by
  have hq:ls[n]? = some ls[n]:=ko (by lia);rw[WG,kh,ZlO n (by lia),Ki,hq,Gg,Gw hq (pr:=fun x=>decide (x=("cross" : Str)))];show _=nX (ls.take n)+nX [ls[n]];unfold nX;rw[Tp];by_cases c:ls[n].1 = "cross"
  ·rw[km (kE c),km (kE c)];rfl
  ·rw[ki (fun z=>c (kG z)),ki (fun z=>c (kG z))];rfl
def del (b x:Addr)(H:Hp):Hp:=fun c=>if c=x∨c=b then none else H c
theorem Zlm {b x c:Addr}{H:Hp}{o:HO}(e:H c=some o)(h:c≠x)(h':c≠b):del b x H c=some o:=(ki fun z=>z.elim h h').trans e
theorem ZoS (b x:Addr)(H:Hp):Zh (del b x H) (off b H):=fun c o e=>by
 unfold del at e;split at e
 ·cases e
 ·rename_i h
  exact Wj e fun z=>h (.inr z)
theorem ZjR {b x:Addr}{H H':Hp}(f:Jf b H H'):Zh (del b x H) (del b x H'):=fun c o e=>by
 unfold del at e ⊢;split at e
 ·cases e
 ·rename_i h
  rw[ki h];exact f c o e fun z=>h (.inr z)
theorem ZnV {b x:Addr}{H:Hp}{o:HO}:del b x (upd H x o)=del b x H:=by
 funext p;unfold del;split
 ·rfl
 ·rename_i h
  rw[Zi (fun z=>h (.inl z))]
theorem Zoo {b f:Addr}{H:Hp}{o:HO}(h:US H b)(n:f≠b):US (upd H f o) b:=let ⟨g,r,h0,e⟩:=h;⟨g,r,h0,by rw[Zi (KG n)];exact e⟩
def ZgN:Sp:=fun vs H Q _=>∃(l b:Addr)(sc:Int)(ls:QB)(g:QX),vs = [.ref l,.int sc,.ref b]/\(sc=0∨sc=1)/\Drw H l ls/\1<=ls.length/\nX ls<=13/\HG sc ls g/\US H b/\l≠b /\ ∀(H':Hp)(p:Addr)(us:QH),US H' b->Jf b H H'->H p=none->H' p=some (.lst us)->us.length<=40->(∀v∈us,OkV 3 (off b H') v)->Q (.ref p) H'
abbrev Wr:Stmt:=top 58
theorem Yz:Zy ["_law_drawing_here", "_law_scale", "_law_bag_here", "_law_crossings", "_law_found", "_law_turn", "_law_known", "_law_one", "_law_more"] ["_law_drawing_here", "_law_scale", "_law_bag_here"] (Zj Wr):={}
theorem Zmm {f:Addr}{fd:FuncData}(F:Yx K "_law_lists" "_law_lists" Wr f fd)(Zr:Yq P w K mg base 1 "_law_take" ["_law_bag_here", "_law_many"] Uq)(Ge:Yq P w K mg base 6 "_law_bandings" ["_law_drawing_here", "_law_scale"] Zgz)(J2:Yq P w K mg base 2 "_law_odd_list" ["_law_bag_here", "_law_some"] Zl2)(ZA:mg "enumerate" = none)(Z6:mg "list" = none)(ZZ:mg "range" = none)(Ye:mg "len" = none)(GU:mg "int" = none)(YX:mg "sorted" = none)(ZlH:mg "set" = none):Yi P w K mg base Wx 7 f fd ["_law_drawing_here", "_law_scale", "_law_bag_here"] ZgN:=by
 refine F.ok Yz (fun vs H Q E h=>?_) (fun cdv A outer s H vs Q E hr h=>?_)
 ·obtain⟨l,b,sc,ls,g,rfl,_⟩:=h;rfl
 ·obtain⟨l,b,sc,ls,g,rfl,hsc,dr,n1,n13,hg,bg,lb,k⟩:=h;refine⟨_,(Zd (Zc7 (i:=3) Yz.nd rfl (.inl rfl) (Ls:=["_law_t", "_law_letter"]) (Fs:=[]) (fi:=[]) (ZV.of (show Yv ["_law_drawing_here", "_law_scale", "_law_bag_here", "_law_crossings", "_law_found", "_law_turn", "_law_known", "_law_one", "_law_more"] (Zj Wr) _ [] []=true by decide +kernel)) rfl (JU (K:=K) rfl (by rfl) ZA (Za (pv 0) Zb)) (fun cl C s3 H3 ex=>⟨(Z0 (K:=K) (n:=2) rfl rfl (Zm (Zk (i:=0) (show ((["_law_t", "_law_letter"]:QP)++([]:QP)).Nodup by decide +kernel) rfl (.inl rfl)) (Zm (Zk (i:=1) (show ((["_law_t", "_law_letter"]:QP)++([]:QP)).Nodup by decide +kernel) rfl (.inl rfl)) ZO))),(Zaj (Zu Yo (Zx (Yp (K:=K) rfl) (pv 1) Ze (fun _ _=>rfl)) ZI (Zs _))),(pv 0)⟩))
   (Zd (Zp (i:=4) Yz.nd rfl (.inl rfl) (Zz (Za (Zz Zb) (Za (pv 3) (Za (Zjo (K:=K) rfl (pv 3)) (Za (Zl Y8 (pv 3) (Z7 (Ym (K:=K) rfl) (pv 3) (ZW (Ug Wm Ze)) Yy)) (Za (Yc (ZiW rfl) (by rfl) Z6 Xw (Za (Yc Zh2 (by rfl) ZZ boot_range (Za (Zv (Yb (K:=K) rfl) (by rfl) Ye KO (Za (pv 0) Zb)) Zb)) Zb)) Zb)))))))
   (Zd (Yw Kg rfl (YR (by rfl) ZZ (Za Ze Zb)) (Zk (i:=5) Yz.nd rfl (.inl rfl)) (Zg (Z8 (Yf (K:=K) rfl (YC kK kW kX ZP (pv 4) (Za (WA (Ls:=["_law_t"]) (Fs:=["_law_bag_here"]) (fi:=[2]) (ZV.of (show Yv ["_law_drawing_here", "_law_scale", "_law_bag_here", "_law_crossings", "_law_found", "_law_turn", "_law_known", "_law_one", "_law_more"] (Zj Wr) _ ["_law_bag_here"] [2]=true by decide +kernel)) rfl (ZU (K:=K) rfl (pv 3)) (fun cl C s3 H3 ex=>⟨(Zk (i:=0) (show ((["_law_t"]:QP)++(["_law_bag_here"]:QP)).Nodup by decide +kernel) rfl (.inl rfl)),(Zaj (Zu Yo (Zq Zr hr (Za (pv 1) (Za Ze Zb))) Ze (Zs _))),(pv 0)⟩)) Zb))))))
   (Zjz (ZQ (Zu Ws (Zv (Yb (K:=K) rfl) (by rfl) Ye KO (Za (pv 3) Zb)) Ze (Zs _)) (Zd (Zp (i:=6) Yz.nd rfl (.inl rfl) (Zq Ge hr (Za (pv 0) (Za (pv 1) Zb))))
   (Zg (Yw Kg rfl (YR (by rfl) ZZ (Za (Zl Wu Ze (Yc Ux (by rfl) GU NL (Za (Yl (ZfA (K:=K) rfl hr.units) (pv 6) (Zz Zb) (Zs _)) Zb))) Zb)) (Zk (i:=5) Yz.nd rfl (.inl rfl)) (Zd (Zp (i:=7) Yz.nd rfl (.inl rfl) (Zx (Zn (K:=K) rfl) (pv 6) (Zq Zr hr (Za (pv 2) (Za (Zv (Yb (K:=K) rfl) (by rfl) Ye KO (Za (pv 6) Zb)) Zb))) (fun _ _=>rfl)))
   (Zd (Zp (i:=8) Yz.nd rfl (.inl rfl) (Zv (Zeg (P:=P) (w:=w) rfl rfl rfl) (by rfl) YX TH (Za (Yc (Zir (P:=P) (w:=w) rfl rfl rfl) (by rfl) ZlH PyProof.Rows.boot_set (Za (Zl Y8 (pv 7) (Zz (Za (Zq Zr hr (Za (pv 2) (Za (Zv (Yb (K:=K) rfl) (by rfl) Ye KO (Za (pv 0) Zb)) Zb))) Zb))) Zb)) Zb)))
   (Zg (Zp (i:=4) Yz.nd rfl (.inl rfl) (Zl Y8 (pv 4) (Zz (Za (pv 7) (Za (pv 8) (Za (Zjo (K:=K) rfl (pv 7)) (Za (Zq J2 hr (Za (pv 2) (Za (pv 7) Zb))) (Za (Zq J2 hr (Za (pv 2) (Za (pv 7) Zb))) Zb)))))))))))))) ZG)
   (Zg (Zw (pv 4))))))),?_⟩
  obtain⟨xs,hl,hL,hW,hlen⟩:=id dr;have hxl:=hL.len;have w30:∀n:Nat,n<=1000->n<=sizeLine:=fun n h=>by rw[k9];lia
  refine⟨_,rfl,l,rfl,⟨_,Zt.of hl⟩,ZiQ (xs:=xs) (w30 _ (by lia)) (fun i ys G=>Zh H G/\ys=(Yg ls (fun x=>decide (x=("cross" : Str))) i).map V.int) ⟨Zh.refl _,rfl⟩
   (fun i ys H' p=>by rw[p.2,ke];exact JV _ _ _) (fun i ys H' p=>Zt.of (p.1 l _ hl)) (fun i x p ys H' hx pv hp=>?_) (fun ys H' pv cA hcA=>?_)⟩
  ·obtain⟨sm,rfl⟩:=pv;obtain⟨q,t,hq,rfl,ht⟩:=hL.get hx;have ht':(upd H' p (.tup [.int i,.ref t])) t=some (.tup [.str q.1,.int q.2]):=by rw[Zi (Zf (sm t _ ht) hp)];exact sm t _ ht
   refine⟨p,_,rfl,Y9.of Zc,rfl,_,_,rfl,_,_,rfl,rfl,?_⟩;refine⟨_,rfl,t,_,_,_,rfl,rfl,Y9.of ht',Zo (j:=0) rfl,rfl,_,rfl,?_⟩;refine ZX (fun hc=>?_) (fun hc=>?_)
   ·exact⟨_,rfl,sm.step hp,ZdY hq (by have:=kG hc;exact kE (V.str.inj this))⟩
   ·exact⟨sm.step hp,ZgQ hq (Km fun z=>hc (kE (KC V.str z)))⟩
  obtain⟨sm,rfl⟩:=pv;obtain⟨cs,ecs⟩:∃cs,cs=Yg ls (fun x=>decide (x=("cross" : Str))) ls.length:=⟨_,rfl⟩;rw[hxl,<- ecs];have ncs:cs.length=nX ls:=by rw[ecs,ZlO _ (kj _),Xl]
  have fcA:H cA=none:=sm.free hcA;refine lay2 (o:=.lst (cs.map V.int)) hcA fun H1 t1 e1=>?_;have s1:=sm.trans t1;refine⟨sz0,fun e0 he0=>?_⟩;refine lay2 (o:=.lst []) he0 fun H2 t2 e2=>?_;refine⟨_,rfl,_,rfl,cA,_,rfl,Zt.of (t2 _ _ e1),fun r1 hr1=>?_⟩;rw[<- List.map_reverse];obtain⟨rs,ers⟩:∃rs,rs=cs.reverse:=⟨_,rfl⟩;have lrs:rs.length=cs.length:=by rw[ers,TU]
  rw[<- ers];refine lay2 (o:=.lst (rs.map V.int)) hr1 fun H3 t3 e3=>?_;have t23:=t2.trans t3;refine⟨_,rfl,_,rfl,_,rfl,_,rfl,cA,_,rfl,Zt.of (t23 _ _ e1),fun c1 hc1=>?_⟩;obtain⟨y1,ey1,l1⟩:=Zju V.int cs (some (-1)) none;rw[ey1];refine lay2 (o:=.lst (y1.map V.int)) hc1 fun H4 t4 e4=>?_;have t24:=t23.trans t4;refine⟨cA,c1,_,_,rfl,rfl,t24 _ _ e1,e4,(by rw[ke,ke];exact w30 _ (by lia)),fun c2 hc2=>?_⟩;obtain⟨ys,eys,lys⟩:∃ys:QG,cs.map V.int++y1.map V.int=ys.map V.int/\ys.length<=26:=⟨cs++y1,by rw[kQ],by rw[kh];lia⟩;rw[eys];refine lay2 (o:=.lst (ys.map V.int)) hc2 fun H5 t5 e5=>?_;have t25:=t24.trans t5;refine⟨_,rfl,l,_,rfl,.inl (Zt.of (t25 _ _ (s1 _ _ hl))),_,rfl,fun rp hrp=>?_⟩;refine lay2 (o:=.rng 0 (xs.length:Int)) hrp fun H6 t6 e6=>?_;refine⟨rp,xs.length,rfl,e6,by lia,fun c3 hc3=>?_⟩;obtain⟨us,eus,lus⟩:∃us:QG,upI xs.length=us/\us.length<=60:=⟨_,rfl,by unfold upI;rw[ke,KP];lia⟩;rw[eus];refine lay2 (o:=.lst (us.map V.int)) hc3 fun H7 t7 e7=>?_;have t57:=t6.trans t7;have t27:=t25.trans t57;refine⟨(by show 5<=sizeLine;decide),fun L hL0=>?_⟩;have bg7:=ZF (s1.trans t27) bg;have nb:∀{c:Addr}{G:Hp},Zh H G->G c=none->c≠b:=fun s h=>YW (ZF s bg) h;have ncA:=nb sm hcA;have nL:=nb (s1.trans t27) hL0;have fL:H L=none:=(s1.trans t27).free hL0;have d7:∀{c:Addr}{o:HO},H7 c=some o->c≠b->del b L H7 c=some o:=fun e n=>Zlm e (Zf e hL0) n;have a7:∀v ∈ [V.ref e0,.ref cA,.ref r1,.ref c2,.ref c3],OkV 3 (del b L H7) v:=fun v hv=>by
   simp only[kO,NM,TC] at hv;rcases hv with rfl | rfl | rfl | rfl | rfl
   ·exact Zb5 (d:=2) (d7 ((t3.trans (t4.trans (t5.trans t57))) _ _ e2) (nb s1 he0)) (Kr _) fun v h=>nomatch h
   ·exact Jo (d7 (t27 _ _ e1) ncA) (by lia)
   ·exact Jo (d7 ((t4.trans (t5.trans t57)) _ _ e3) (nb (s1.trans t2) hr1)) (by lia)
   ·exact Jo (d7 (t57 _ _ e5) (nb (s1.trans t24) hc2)) (by lia)
   ·exact Jo (d7 e7 (nb (s1.trans (t25.trans t6)) hc3)) lus
  have e17:=t27 _ _ e1;have neL:cA≠L:=Zf e17 hL0;refine lay2 (o:=.lst [.ref e0,.ref cA,.ref r1,.ref c2,.ref c3]) hL0 fun H8 t8 e8=>?_;have a8:∀v ∈ [V.ref e0,.ref cA,.ref r1,.ref c2,.ref c3],OkV 3 (del b L H8) v:=fun v hv=>(a7 v hv).same (ZjR t8.frm);have s8:=(s1.trans t27).trans t8;have l8:[V.ref e0,.ref cA,.ref r1,.ref c2,.ref c3].length=5:=rfl;generalize [V.ref e0,.ref cA,.ref r1,.ref c2,.ref c3]=u0 at *;refine⟨4,rfl,by decide,by decide,JL (n:=4) (fun i σ G=>∃(v5:QI)(us:QH),σ = [some (.ref l),some (.int sc),some (.ref b),some (.ref cA),some (.ref L),v5,none,none,none]/\US G b/\Jf b H G/\G cA=some (.lst (cs.map V.int))/\G L=some (.lst us)/\us.length=5+i /\ ∀v∈us,OkV 3 (del b L G) v) ⟨_,u0,rfl,ZF s8 bg,s8.frm,t8 _ _ e17,e8,l8,a8⟩ ?_ ?_⟩
  ·rintro i σ G hi ⟨v5,us,rfl,bgG,fG,ecA,eL,lu,au⟩;have nLc:∀{G':Hp},Jf b G G'->G' cA=some (.lst (cs.map V.int)):=fun f=>f _ _ ecA ncA;refine⟨_,rfl,.inl ⟨rfl,_,Zt.of eL⟩,_,rfl,cA,rfl,⟨_,Zt.of ecA⟩,Ja (K:=K) (a:=cA) (xs:=cs.map V.int) (w30 _ (by rw[ke];lia)) (fun j zs G'=>Jf b G G'/\US G' b /\ ∃ms:QG,zs=ms.map V.int/\ms.length<=j) ⟨Jf.refl _ _,bgG,[],rfl,kj _⟩
    (fun j zs G' ⟨_,_,ms,e,l⟩=>by rw[e,ke];exact l) (fun j zs G' q=>Zt.of (nLc q.1)) (fun j x zs G' hx q=>?_) (fun zs G' q D hD=>?_)⟩
   ·obtain⟨f',bg',ms,rfl,lm⟩:=q;rw[kF] at hx;obtain⟨c,hc,rfl⟩:=Ke.mp hx;refine⟨_,rfl,b,3,rfl,bg',by decide,by decide,fun d G1 d0 d1 bg1 f1=>⟨rfl,_,rfl,ZX (fun _=>?_) (fun _=>?_)⟩⟩
    ·exact⟨_,rfl,f'.trans f1,bg1,ms ++ [c],by rw[kQ];rfl,by rw[kh];show ms.length+1<=j+1;lia⟩
    ·exact⟨f'.trans f1,bg1,ms,rfl,by lia⟩
   ·obtain⟨f',bg',ms,rfl,lm⟩:=q;rw[ke] at lm;have nD:=YW bg' hD;have eL':=f' _ _ eL nL;have nDL:D≠L:=fun z=>by rw[z,eL'] at hD;cases hD
    have sD:Zh G' (upd G' D (.lst (ms.map V.int))):=Zh.laid hD;have eD:(upd G' D (.lst (ms.map V.int))) D=some (.lst (ms.map V.int)):=Zc;generalize upd G' D (.lst (ms.map V.int))=G2 at *;have f2:=f'.trans sD.frm;refine⟨L,_,_,rfl,rfl,sD _ _ eL',(by rw[lu,k9];lia),?_⟩;refine⟨_,us ++ [.ref D],rfl,Zoo (ZF sD bg') nL,fun c o e n=>?_,?_,Zc,by rw[kh,lu];rfl,fun v hv=>?_⟩
    ·rw[Zi (Zf e fL)];exact f2 c o (fG c o e n) n
    ·rw[Zi neL];exact nLc f2
    ·rw[ZnV];rcases Kk.mp hv with z | z
     ·exact(au v z).same (ZjR f2)
     ·rw[kT.mp z];exact Jo (Zlm eD nDL nD) (by lia)
  ·rintro σ G ⟨v5,us,rfl,bgG,fG,ecA,eL,lu,au⟩;have au':∀v∈us,OkV 3 (off b G) v:=fun v hv=>(au v hv).same (ZoS b L G);refine⟨fun σ G=>∃(L:Addr)(us:QH)(v5 v6 v7 v8:QI),σ = [some (.ref l),some (.int sc),some (.ref b),some (.ref cA),some (.ref L),v5,v6,v7,v8]/\US G b/\Jf b H G/\H L=none/\G L=some (.lst us)/\us.length<=40 /\ ∀v∈us,OkV 3 (off b G) v,?_,?_⟩
   rotate_left
   ·rintro σ G ⟨L,us,v5,v6,v7,v8,rfl,bgG,fG,fL,eL,lu,au⟩;exact⟨_,rfl,k G L us bgG fG fL eL lu au⟩
   have dG:∀{G':Hp},Jf b H G'->Drw G' l ls:=fun f=>⟨xs,f _ _ hl lb,hL.frm f bg,hW,hlen⟩;refine⟨_,rfl,cA,_,rfl,.inl (Zt.of ecA),_,_,rfl,rfl,_,rfl,ZX (fun h9=>?_) (fun _=>⟨L,us,_,_,_,_,rfl,bgG,fG,fL,eL,by lia,au'⟩)⟩;have n8:nX ls<=8:=by have:=kG h9;rw[ke,ncs] at this;lia
   refine⟨_,rfl,_,rfl,l,sc,ls,g,rfl,hsc,dG fG,hg,n8,fun p G1 zs vs s1' fp ep lr fr pv rise=>?_⟩;have np:p≠b:=YW bgG fp;have bg1:=ZF s1' bgG;have eL1:=s1' _ _ eL;have zvl:zs.length<64:=by rw[Zgh lr,pv.length_eq,ke];exact Zpr n8 hW
   have row:∀(j:Nat)(x:V),zs[j]? = some x -> ∃(o:Addr)(ns:QG),x = .ref o/\G1 o=some (.lst (ns.map V.int))/\ns.length<=8/\o≠b:=fun j x hx=>by obtain⟨ns,hns,o,rfl,eo⟩:=Zk9 lr hx;obtain⟨o',e,fo⟩:=fr _ (kZ hx);cases e;refine⟨o,ns,rfl,eo,?_,YW bgG fo⟩;obtain⟨r,hr,rfl⟩:=KH.mp (pv.mem_iff.mp (kZ hns));have:=ZhC ls.length (kj _) r hr;rw[Xl] at this;lia
   clear lr fr pv rise;refine⟨_,rfl,sz0,fun e he=>?_⟩;refine lay2 (o:=.lst []) he fun G2 s2' ee=>?_;have s12:=s1'.trans s2';refine⟨p,e,zs,rfl,rfl,Zt.of (s2' _ _ ep),Zt.of ee,.inr ⟨_,rfl,_,_,rfl,rfl,.inl ⟨by decide,by decide⟩,?_⟩⟩;refine⟨_,rfl,(by split<;>decide),(by split<;>decide),JL (n:=(4*(if (!zs.isEmpty)=true then(1:Int) else 0)).toNat) (fun i σ Y=>∃(L:Addr)(us:QH)(v5 v7 v8:QI),σ = [some (.ref l),some (.int sc),some (.ref b),some (.ref cA),some (.ref L),v5,some (.ref p),v7,v8]/\US Y b/\Jf b G2 Y/\H L=none/\Y L=some (.lst us)/\us.length<=9+5*i /\ ∀v∈us,OkV 3 (off b Y) v)
    ⟨L,us,_,_,_,rfl,ZF s12 bgG,Jf.refl _ _,fL,s12 _ _ eL,by lia,fun v hv=>(au' v hv).same (WT s12.frm)⟩ ?_ ?_⟩
   ·rintro i σ Y hi ⟨L,us,v5,v7,v8,rfl,bgY,fY,fL,eL,lu,au⟩;have nz:0<zs.length:=by
     cases zs with
     | nil=>exact absurd hi (N8 _)
     | cons _ _=>exact Nat.succ_pos _
    have i4:i<4:=KD hi (by split<;>decide);have fGY:Jf b G Y:=s12.frm.trans fY;have fHY:Jf b H Y:=fG.trans fGY;have epY:=fY _ _ (s2' _ _ ep) np;refine⟨_,rfl,_,rfl,_,rfl,p,_,rfl,.inl (Zt.of epY),b,_,rfl,bgY,by lia,by lia,fun d Y1 d0 d1 bY1 f1=>?_⟩;obtain⟨dn,rfl⟩:=kI d0;obtain⟨x,hx⟩:∃x,zs[dn]? = some x:=⟨_,ko (by lia)⟩;obtain⟨o,ns,rfl,eo,ln,no⟩:=row dn x hx;refine⟨p,zs,_,_,rfl,rfl,Zt.of (f1 _ _ epY np),Zo hx,?_⟩;have fY1:=fY.trans f1;have eo1:=fY1 _ _ (s2' _ _ eo) no;have hl1:=(fHY.trans f1) _ _ hl lb;refine⟨_,rfl,_,rfl,_,rfl,l,_,rfl,.inl (Zt.of hl1),b,_,rfl,bY1,by lia,by lia,fun d2 Y2 d20 d21 bY2 f2=>?_⟩;refine⟨sz1,fun c1 hc1=>?_⟩;refine lay2 (o:=.lst [.int d2]) hc1 fun Y3 t3 e3=>?_;have eo2:=f2 _ _ eo1 no;refine⟨o,c1,_,_,rfl,rfl,t3 _ _ eo2,e3,(by rw[ke,k9];show ns.length+1<=_;lia),fun c2 hc2=>?_⟩;obtain⟨ms,em,lm⟩:∃ms:QG,ns.map V.int ++ [V.int d2]=ms.map V.int/\ms.length<=16:=⟨ns ++ [d2],by rw[kQ];rfl,by rw[kh];show ns.length+1<=16;lia⟩;rw[em];refine lay2 (o:=.lst (ms.map V.int)) hc2 fun Y4 t4 e4=>?_;refine⟨c2,ms,rfl,e4,Kb lm (by decide),fun sa ks hsa nd mem=>?_⟩;have lk:ks.length<=16:=Kb (ZeI nd fun x hx=>(mem x).mp hx) lm;refine lay2 (o:=ZeL P w sa ks) hsa fun Y5 t5 e5=>?_;refine⟨sa,ks,rfl,e5,by lia,fun so os hso pm pw=>?_⟩;have los:os.length<=16:=by rw[pm.length_eq];exact lk
    have bY5:=ZF ((t3.trans t4).trans t5) bY2;have nso:=YW bY5 hso;refine lay2 (o:=.lst (os.map V.int)) hso fun Y6 t6 e6=>?_;have t26:=((t3.trans t4).trans t5).trans t6;have eo6:=t26 _ _ eo2;have bY6:=ZF t6 bY5;refine⟨_,rfl,_,rfl,_,rfl,_,rfl,o,_,rfl,Zt.of eo6,fun r1 hr1=>?_⟩;rw[<- List.map_reverse];obtain⟨rs,ers⟩:∃rs,rs=ns.reverse:=⟨_,rfl⟩;have lrs:rs.length=ns.length:=by rw[ers,TU]
    rw[<- ers];have nr1:=YW bY6 hr1;refine lay2 (o:=.lst (rs.map V.int)) hr1 fun Y7 t7 e7=>?_;have eo7:=t7 _ _ eo6;refine⟨_,rfl,_,rfl,b,o,ns,rfl,ZF t7 bY6,eo7,by lia,no,fun Z1 w1 bZ1 fZ1 ok1=>?_⟩;have eo8:=fZ1 _ _ eo7 no;refine⟨_,rfl,_,rfl,b,o,ns,rfl,bZ1,eo8,by lia,no,fun Z2 w2 bZ2 fZ2 ok2=>?_⟩;refine⟨(by show 5<=sizeLine;decide),fun q hq=>?_⟩;have nq:=YW bZ2 hq;refine lay2 (o:=.lst [.ref o,.ref so,.ref r1,w1,w2]) hq fun Z3 t8 e8=>?_;have f6:Jf b Y6 Z3:=((t7.frm.trans fZ1).trans fZ2).trans t8.frm;have f7:Jf b Y7 Z3:=(fZ1.trans fZ2).trans t8.frm;have fYZ:Jf b Y Z3:=((f1.trans f2).trans t26.frm).trans f6;have nL:L≠b:=YW bg fL;have a5:∀v ∈ [V.ref o,.ref so,.ref r1,w1,w2],OkV 3 (off b Z3) v:=fun v hv=>by
     simp only[kO,NM,TC] at hv;rcases hv with rfl | rfl | rfl | rfl | rfl
     ·exact Jo (Wj (f7 _ _ eo7 no) no) (by lia)
     ·exact Jo (Wj (f6 _ _ e6 nso) nso) (by lia)
     ·exact Jo (Wj (f7 _ _ e7 nr1) nr1) (by lia)
     ·exact ok1.same (WT (fZ2.trans t8.frm))
     ·exact ok2.same (WT t8.frm)
    have eLZ:=fYZ _ _ eL nL;refine⟨L,q,_,_,rfl,rfl,eLZ,e8,(by rw[k9];show us.length+5<=_;lia),fun L2 hL2=>?_⟩;have bZ3:=ZF t8 bZ2;have nL2:=YW bZ3 hL2;have l5:[V.ref o,.ref so,.ref r1,w1,w2].length=5:=rfl;generalize [V.ref o,.ref so,.ref r1,w1,w2]=u5 at *;have t9:Zh Z3 (upd Z3 L2 (.lst (us++u5))):=Zh.laid hL2;refine⟨L2,us++u5,_,_,_,rfl,ZF t9 bZ3,(fY.trans fYZ).trans t9.frm,(fHY.trans fYZ).free bZ3 hL2,Zc,by rw[kh,l5];lia,fun v hv=>?_⟩;refine OkV.same (WT t9.frm) ?_;rcases Kk.mp hv with z | z
    ·exact(au v z).same (WT fYZ)
    ·exact a5 v z
   ·rintro σ Y ⟨L,us,v5,v7,v8,rfl,bgY,fY,fL,eL,lu,au⟩;exact⟨L,us,_,_,_,_,rfl,bgY,(fG.trans s12.frm).trans fY,fL,eL,Kb lu (by split<;>decide),au⟩
theorem ZoP {l r:Expr}{op:Operator}{pos:Pos}{env:Env}{x:Value}:foldedSetIterable (.BinOp l op r pos) env x=pure x:=rfl
def ZjC (K:QF):Sp:=fun vs H Q _=>∃(a:Addr)(ns:QG),vs = [.ref a]/\Zt K H a (ns.map V.int)/\ns.length<=63 /\ ∀H',Q (.bl true) H'
abbrev Zfk:Stmt:=top 59
theorem Za7:Zy ["_law_script", "_law_k", "_law_drawing_here", "_law_scale", "_law_things", "_law_thing", "_law_handed", "_law_found"] ["_law_script"] (Zj Zfk):={}
theorem ZqS {f:Addr}{fd:FuncData}(F:Yx K "law" "law" Zfk f fd)(Zae:Yq P w K mg base 1 "_law_bag" ["_law_script", "_law_at"] (Zmt K))(U3:Yq P w K mg base 4 "_law_front" ["_law_bag_here", "_law_most"] Zgv)(Uk:Yq P w K mg base 5 "_law_scales" ["_law_drawing_here"] ZeJ)(Zai:Yq P w K mg base 7 "_law_lists" ["_law_drawing_here", "_law_scale", "_law_bag_here"] ZgN)(JT:Yq P w K mg base 4 "_law_copied" ["_law_thing"] (Uu K 3))(GA:Yq P w K mg base 12 "is_banding" ["drawing", "scale", "thing"] ZmV)(ZbX:Yq P w K mg base 7 "_law_due" ["_law_drawing_here", "_law_scale", "_law_thing"] Zly)
  (ZZ:mg "range" = none) (Ye:mg "len" = none) (Ga:mg "max" = none) (ZbE:mg "min" = none) (Z6:mg "list" = none) (ZE:mg "isinstance" = none) (Zal:mg "bool" = none):Yi P w K mg base Wx 13 f fd ["_law_script"] (ZjC K):=by
 refine F.ok Za7 (fun vs H Q E h=>?_) (fun cdv A outer s H vs Q E hr h=>?_)
 ·obtain⟨a,ns,rfl,_⟩:=h;rfl
 ·obtain⟨a,ns,rfl,hS,hlen,k⟩:=h;refine⟨_,(Zd (Yw Kg rfl (YR (by rfl) ZZ (Za (Zv (WE rfl) (by rfl) Ga NK (Za Ze (Za (Zv (Zbp rfl) (by rfl) ZbE boot_min (Za Ze (Za (Zv (Yb (K:=K) rfl) (by rfl) Ye KO (Za (pv 0) Zb)) Zb))) Zb))) Zb)) (Zk (i:=1) Za7.nd rfl (.inl rfl)) (Zd (Zp (i:=2) Za7.nd rfl (.inl rfl) (Zq U3 hr (Za (Zq Zae hr (Za (pv 0) (Za (pv 1) Zb))) (Za Ze Zb))))
   (Zg (Yw Kg rfl (ZU (K:=K) rfl (Zq Uk hr (Za (pv 2) Zb))) (Zk (i:=3) Za7.nd rfl (.inl rfl)) (Zd (Zp (i:=4) Za7.nd rfl (.inl rfl) (Zq Zai hr (Za (pv 2) (Za (pv 3) (Za (Zq Zae hr (Za (pv 0) (Za (Zl ZD (Zl ZD (pv 1) Ze) (Zl Wu Ze (pv 3))) Zb))) Zb)))))
   (Zg (Yw Kg rfl (ZU (K:=K) rfl (Zl Y8 (pv 4) (PEc.out (Zbl (Jb Zjl (Jb Zp5 (Jb Zkl (Jb ZnG (Jb (Zol U1) (Jb (Zbl (Jb Zjl U1 Yn)) (Jb (Zbl (Jb (Zbl U1) U1 Zbf)) (Jb (Zbl (Jb (ZqG Wm Zkl) U1 Zd2)) (Jb (Zbl (Jb (Zqa (Zv (Yb (K:=K) rfl) (by rfl) Ye KO (Za (pv 2) Zb))) U1 (by rfl))) U1 Zbf) Zbf) Zbf) Zbf) Zhm) Yn) Yn) Yn) Yn))))) (Zk (i:=5) Za7.nd rfl (.inl rfl)) (Zd (Zp (i:=6) Za7.nd rfl (.inl rfl) (Zz (Za (Yc (J8 (K:=K) rfl) (by rfl) Z6 Xw (Za (pv 2) Zb)) (Za (Zq JT hr (Za (pv 5) Zb)) Zb))))
   (Zd (Zp (i:=7) Za7.nd rfl (.inl rfl) (Zq GA hr (Za (Zx (Zn (K:=K) rfl) (pv 6) Ze (fun _ _=>rfl)) (Za (pv 3) (Za (Zx (Zn (K:=K) rfl) (pv 6) Ze (fun _ _=>rfl)) Zb)))))
   (Zd (ZQ (PW.pt (Zc3 (Gj (Ww (Zv (YU (K:=K) rfl) (by rfl) ZE qU (Za (pv 7) (Za (Ue (v:=.ty "bool") (by rfl) Zal boot_bool rfl) Zb))))) (ZbM (Zu (Zpw (K:=K) rfl hr.units) (pv 7) (Zq ZbX hr (Za (pv 2) (Za (pv 3) (Za (pv 5) Zb)))) (Zs _))))) (Zg (Zw Gs)) ZG)
   (Zg (ZQ (Zu (ZjF (K:=K) rfl hr.units) (pv 6) (Zz (Za (pv 2) (Za (pv 5) Zb))) (Zs _)) (Zg (Zw Gs)) ZG))))) (hs:=fun _=>ZoP))))))))
   (Zg (Zw (Yl Zmj (Zq GA hr (Za (Zz Zb) (Za Ze (Za (Zz Zb) Zb)))) Gs (Zs _))))),?_⟩
  refine⟨_,rfl,a,_,rfl,.inl hS,_,_,rfl,_,_,rfl,_,rfl,?_,?_,JL (fun i σ H'=>∃v1 v2 v3 v4 v5 v6 v7:QI,σ = [some (.ref a),v1,v2,v3,v4,v5,v6,v7]/\Zh H H') ⟨none,none,none,none,none,none,none,rfl,Zh.refl _⟩ ?_ ?_⟩
  ·split<;>(try split)<;>lia
  ·rw[ke];split<;>(try split)<;>lia
  ·rintro i σ H0 hi ⟨v1,v2,v3,v4,v5,v6,v7,rfl,sm⟩;have hi':i<900:=by
    rw[ke] at hi;revert hi;split<;>(try split)<;>lia
   refine⟨_,rfl,_,rfl,a,_,ns,rfl,sm.seq hS,by lia,by lia,fun b0 H1 hb0 s1 bg1=>?_⟩;refine⟨b0,10,rfl,bg1,by decide,by decide,fun l H2 ls hl bg2 f2 dr nx=>?_⟩;refine⟨_,rfl,l,ls,rfl,dr,fun p H3 scs s3 fp ep sl hsc=>?_⟩;refine⟨p,rfl,⟨_,Zt.of ep⟩,JX (K:=K) (a:=p) (xs:=scs.map V.int) (fun j σ G=>∃v3 v4 v5 v6 v7:QI,σ = [some (.ref a),some (.int (0+(i:Int))),some (.ref l),v3,v4,v5,v6,v7]/\Zh H3 G) ⟨_,_,_,_,_,rfl,Zh.refl _⟩ (fun j σ G _ ⟨_,_,_,_,_,_,s'⟩=>Zt.of (s' _ _ ep)) ?_ ?_⟩
   ·rintro j y σ G hy ⟨v3,v4,v5,v6,v7,rfl,sG⟩;rw[kF] at hy;obtain⟨sc,e1,rfl⟩:=Ke.mp hy;obtain⟨h01,g,hg⟩:=hsc sc (kZ e1);obtain⟨xs,hxl,hL,hW,h60⟩:=id dr;have s2G:=s3.trans sG;have sHG:Zh H G:=fun c o e=>sG c o (s3 c o (f2 c o (s1 c o (sm c o e)) (Zf (sm c o e) hb0)));refine⟨_,rfl,_,rfl,_,rfl,_,rfl,_,_,rfl,rfl,_,rfl,_,_,rfl,rfl,.inl ⟨by decide,by decide⟩,_,_,rfl,rfl,a,_,ns,rfl,sHG.seq hS,?_,?_,fun b G1 fb sb bgb=>?_⟩
    ·rcases h01 with rfl | rfl<;>lia
    ·rcases h01 with rfl | rfl<;>lia
    have lb:l≠b:=Zf (s2G _ _ hxl) fb;have dr1:Drw G1 l ls:=⟨xs,sb _ _ (s2G _ _ hxl),hL.same (s2G.trans sb),hW,h60⟩;refine⟨l,b,sc,ls,g,rfl,h01,dr1,nx.2,nx.1,hg,bgb,lb,fun G2 L us bg2 f2 fL eL lu au=>?_⟩;have s3G2:Zh H3 G2:=fun c o e=>f2 c o (sb c o (sG c o e)) (Zf (sG c o e) fb);refine⟨_,rfl,sz0,fun c1 k1=>?_⟩;refine lay2 (o:=.tup []) k1 fun X1 t1 e1'=>?_;refine⟨sz1,fun c2 k2=>?_⟩;refine lay2 (o:=.lst [.non]) k2 fun X2 t2 e2=>?_;refine⟨sz0,fun c3 k3=>?_⟩;refine lay2 (o:=.lst []) k3 fun X3 t3 e3=>?_;refine⟨sz1,fun c4 k4=>?_⟩;refine lay2 (o:=.lst [.ref c3]) k4 fun X4 t4 e4=>?_;refine⟨_,rfl,sz1,fun c5 k5=>?_⟩;refine lay2 (o:=.lst [.int (-1)]) k5 fun X5 t5 e5=>?_;have t15:=(((t1.trans t2).trans t3).trans t4).trans t5;have s35:=s3G2.trans t15;refine⟨_,rfl,l,_,rfl,.inl (Zt.of (s35 _ _ (s3 _ _ hxl))),sz1,fun c6 k6=>?_⟩;refine lay2 (o:=.lst [.int (xs.length:Int)]) k6 fun X6 t6 e6=>?_;refine⟨(by show 9<=sizeLine;decide),fun c7 k7=>?_⟩;refine lay2 (o:=.lst [.non,.bl true,.int 0,.str "-", .ref c1,.ref c2,.ref c4,.ref c5,.ref c6]) k7 fun X7 t7 e7=>?_;have t67:=t6.trans t7;have a9:∀v ∈ [V.non,.bl true,.int 0,.str "-", .ref c1,.ref c2,.ref c4,.ref c5,.ref c6],OkV 3 X7 v:=fun v hv=>by
     simp only[kO,NM,TC] at hv;rcases hv with rfl | rfl | rfl | rfl | rfl | rfl | rfl | rfl | rfl
     ·exact⟨_,.non,rfl⟩
     ·exact⟨_,.bl _,rfl⟩
     ·exact⟨_,.int _,rfl⟩
     ·exact⟨_,.str _,rfl⟩
     ·exact⟨_,.tup (((t2.trans t3).trans ((t4.trans t5).trans t67)) _ _ e1') .nil,rfl⟩
     ·exact⟨_,.lst ((t3.trans ((t4.trans t5).trans t67)) _ _ e2) (.cons .non .nil),rfl⟩
     ·exact⟨_,.lst ((t5.trans t67) _ _ e4) (.cons (.lst (((t4.trans t5).trans t67) _ _ e3) .nil) .nil),rfl⟩
     ·exact⟨_,.lst (t67 _ _ e5) (.cons (.int _) .nil),rfl⟩
     ·exact⟨_,.lst (t7 _ _ e6) (.cons (.int _) .nil),rfl⟩
    have t17:=t15.trans t67;have l9:[V.non,.bl true,.int 0,.str "-", .ref c1,.ref c2,.ref c4,.ref c5,.ref c6].length=9:=rfl;generalize [V.non,.bl true,.int 0,.str "-", .ref c1,.ref c2,.ref c4,.ref c5,.ref c6]=u9 at *;refine⟨L,c7,_,_,rfl,rfl,t17 _ _ eL,e7,(by rw[l9,k9];lia),fun q k8=>?_⟩;obtain⟨ws,ews⟩:∃ws,us++u9=ws:=⟨_,rfl⟩;rw[ews];refine lay2 (o:=.lst ws) k8 fun X8 t8 e8=>?_;have all:∀v∈ws,OkV 3 X8 v:=fun v hv=>by
     rw[<- ews] at hv;rcases Kk.mp hv with z | z
     ·exact(ZnZ (au v z)).same (t17.trans t8)
     ·exact(a9 v z).same t8
    have lws:ws.length<=49:=by rw[<- ews,kh,l9];lia
    have s38:Zh H3 X8:=s3G2.trans (t17.trans t8);have s28:=s3.trans s38;refine⟨q,rfl,⟨_,Zt.of e8⟩,JX (K:=K) (a:=q) (xs:=ws) (fun m σ G'=>∃v5 v6 v7:QI,σ = [some (.ref a),some (.int (0+(i:Int))),some (.ref l),some (.int sc),some (.ref L),v5,v6,v7]/\Zh X8 G') ⟨_,_,_,rfl,Zh.refl _⟩ (fun m σ G' _ ⟨_,_,_,_,s'⟩=>Zt.of (s' _ _ e8)) ?_ ?_⟩
    ·rintro m x σ Y hx ⟨v5,v6,v7,rfl,sY⟩;obtain⟨lit,rl,okl⟩:=(all x (kZ hx)).same sY;have s2Y:=s28.trans sY;refine⟨_,rfl,l,_,rfl,.inl (Zt.of (s2Y _ _ hxl)),fun h1 fh1=>?_⟩;refine lay2 (o:=.lst xs) fh1 fun Y1 w1 eh1=>?_;refine⟨_,rfl,x,lit,rfl,rl.same w1,okl,fun x' Y2 w2 rl2 cp2=>?_⟩;refine⟨sz2,fun h2 fh2=>?_⟩;refine lay2 (o:=.lst [.ref h1,x']) fh2 fun Y3 w3 eh2=>?_;have w13:=(w1.trans w2).trans w3;have s23:=s2Y.trans w13;have eh13:=(w2.trans w3) _ _ eh1;refine⟨_,rfl,h2,_,0,.ref h1,rfl,rfl,Zt.of eh2,rfl,_,rfl,_,rfl,h2,_,1,x',rfl,rfl,Zt.of eh2,rfl,h1,x',lit,sc,ls,g,rfl,h01,⟨xs,eh13,hL.same s23,hW,h60⟩,hg,rl2.same w3,okl,fun Y4 w4=>?_⟩;have s24:=s23.trans w4;refine⟨_,rfl,_, "bool", _,true,rfl,.bl _,by rfl,true,rfl,YZ ?_⟩;refine⟨_,rfl,_,rfl,_,rfl,_,rfl,l,x,lit,sc,ls,g,rfl,h01,⟨xs,s24 _ _ hxl,hL.same s24,hW,h60⟩,hg,rl.same (w13.trans w4),okl,fun Y5 w5=>.inl ⟨rfl,_,rfl,?_⟩⟩;rw[kE rfl];refine YZ ?_;have w45:=w4.trans w5;refine⟨_,rfl,_,rfl,_,rfl,sz2,fun pr fpr=>?_⟩;refine lay2 (o:=.lst [.ref l,x]) fpr fun Y6 w6 epr=>?_;have w46:=w45.trans w6;have w36:=w3.trans w46;refine⟨h2,pr,_,_,rfl,rfl,Zt.of (w46 _ _ eh2),Zt.of epr,rfl,fun j y z ey ez=>?_,_,rfl,YZ ⟨_,_,_,rfl,(sY.trans w13).trans w46⟩⟩;rcases j with _ | _ | j
     ·cases ey;cases ez;exact .lst (Zt.of (w46 _ _ eh13)) (Zt.of ((s23.trans w46) _ _ hxl)) rfl fun n y z a1 a2=>by obtain⟨q',t,_,rfl,_⟩:=hL.get a1;rw[a1] at a2;cases a2;exact .same
     ·cases ey;cases ez;exact ZmA (Zer w36 (cp2.eqv (rl.same (w1.trans w2)))) (by decide)
     ·cases ey
    ·rintro σ Y ⟨v5,v6,v7,rfl,sY⟩;exact⟨_,_,_,_,_,rfl,s38.trans sY⟩
   ·rintro σ G ⟨v3,v4,v5,v6,v7,rfl,sG⟩;refine⟨_,_,_,_,_,_,_,rfl,fun c o e=>?_⟩;have nb:=Zf (sm c o e) hb0;exact sG c o (s3 c o (f2 c o (s1 c o (sm c o e)) nb))
  ·rintro σ H0 ⟨v1,v2,v3,v4,v5,v6,v7,rfl,sm⟩;refine⟨sz0,fun d0 f0=>?_⟩;refine lay2 (o:=.lst []) f0 fun Z1 a1 b1=>?_;refine⟨sz0,fun d1 f1=>?_⟩;refine lay2 (o:=.lst []) f1 fun Z2 a2 b2=>?_;exact⟨d0,.ref d1,.lst [],1,[],fun _=>0,rfl,.inr rfl,⟨[],a2 _ _ b1,.nil,.nil,Kr _⟩,.inl ⟨rfl,rfl⟩,.lst b2 .nil,rfl,fun Z3 a3=>⟨_,_,rfl,rfl,k _⟩⟩
end
theorem ZL {P:Program}{w:World}{K:QF}{mg:QN}{base:Heap}{k:Nat}{x:Str}{ps:QP}{sp:Sp}{f:Addr}{fd:FuncData}(G:Yi P w K mg base Wx k f fd ps sp)(m:mg x=some (.ref f))(kp:PySem.W.keepIn K (.ref f)=true)(b:Binds K fd ps []):Yq P w K mg base k x ps sp:=⟨f,fd,G,m,kp,b⟩
theorem Zjq {P:Program}{w:World}{K:QF}{mg:QN}{base:Heap}{k:Nat}{x:Str}{ps:QP}{sp:Sp}{f:Addr}{fd:FuncData}(G:Yi P w K mg base (CX1 P w) k f fd ps sp)(m:mg x=some (.ref f))(kp:PySem.W.keepIn K (.ref f)=true)(b:Binds K fd ps []):Zkt P w K mg base k x ps sp:=⟨f,fd,G,m,kp,b⟩
section
theorem us1 {α:Type}{P:List α -> Prop}(h:∀a,P [a]):∀us:List α,us.length=1->P us
 | [_],_=>h _
theorem us2 {α:Type}{P:List α -> Prop}(h:∀a b,P [a,b]):∀us:List α,us.length=2->P us
 | [_,_],_=>h _ _
theorem us3 {α:Type}{P:List α -> Prop}(h:∀a b c,P [a,b,c]):∀us:List α,us.length=3->P us
 | [_,_,_],_=>h _ _ _
theorem us4 {α:Type}{P:List α -> Prop}(h:∀a b c d,P [a,b,c,d]):∀us:List α,us.length=4->P us
 | [_,_,_,_],_=>h _ _ _ _
theorem all_mk {l:PySem.W.OpenLaw}{w:World}{K:QF}{h:Heap}{mg:QN}{fa:Addr}(X:K.In h)(G:h.Ns mainGlobals mg)(hfa:mg "law" = some (.ref fa))
  {f0 f1 f2 f3 f4 f5 f6 f7 f8 f9 f10 f11 f12 f13 f14 f15 f16 f17 f18 f19 f20 f21 f22 f23 f24 f25 f26 f27 f28 f29 f30 f31 f32 f33 f34 f35 f36 f37 f38 f39 f40 f41 f42 f43 f44 f45 f46 f47 f48 f49 f50 f51:Addr}{d0 d1 d2 d3 d4 d5 d6 d7 d8 d9 d10 d11 d12 d13 d14 d15 d16 d17 d18 d19 d20 d21 d22 d23 d24 d25 d26 d27 d28 d29 d30 d31 d32 d33 d34 d35 d36 d37 d38 d39 d40 d41 d42 d43 d44 d45 d46 d47 d48 d49 d50 d51:FuncData}
  {Yu:Addr} (U4:PySem.W.nsIn K mainGlobals "NoHeights" = some (some (.ref Yu)))
  (Gb:PySem.W.excIn K Yu [.type "ValueError", .type "Exception", .type "BaseException", .type "object"] "ValueError.__new__" = true)
  (a0:PySem.W.nsIn K mainGlobals "_law_take" = some (some (.ref f0))) (l0:Yx K "_law_take" "_law_take" ZaO f0 d0)
  (a1:PySem.W.nsIn K mainGlobals "_law_bag" = some (some (.ref f1))) (l1:Yx K "_law_bag" "_law_bag" ZbT f1 d1)
  (a2:PySem.W.nsIn K mainGlobals "_law_drawing" = some (some (.ref f2))) (l2:Yx K "_law_drawing" "_law_drawing" GV f2 d2)
  (a3:PySem.W.nsIn K mainGlobals "_law_plat" = some (some (.ref f3))) (l3:Yx K "_law_plat" "_law_plat" WZ f3 d3)
  (a4:PySem.W.nsIn K mainGlobals "_law_any" = some (some (.ref f4))) (l4:Yx K "_law_any" "_law_any" ZbN f4 d4)
  (a5:PySem.W.nsIn K mainGlobals "threads" = some (some (.ref f5))) (l5:Yx K "threads" "threads" ZcN f5 d5)
  (a6:PySem.W.nsIn K mainGlobals "_law_rows" = some (some (.ref f6))) (l6:Yx K "_law_rows" "_law_rows" ZaU f6 d6)
  (a7:PySem.W.nsIn K mainGlobals "letters_of" = some (some (.ref f7))) (l7:Yx K "letters_of" "letters_of" Gz f7 d7)
  (a8:PySem.W.nsIn K mainGlobals "ends_of" = some (some (.ref f8))) (l8:Yx K "ends_of" "ends_of" ZcL f8 d8)
  (a9:PySem.W.nsIn K mainGlobals "names_of" = some (some (.ref f9))) (l9:Yx K "names_of" "names_of" Zan f9 d9)
  (a10:PySem.W.nsIn K mainGlobals "pairs_ahead" = some (some (.ref f10))) (l10:Yx K "pairs_ahead" "pairs_ahead" Ul f10 d10)
  (a11:PySem.W.nsIn K mainGlobals "end_pairs" = some (some (.ref f11))) (l11:Yx K "end_pairs" "end_pairs" Zbb f11 d11)
  (a12:PySem.W.nsIn K mainGlobals "born_with" = some (some (.ref f12))) (l12:Yx K "born_with" "born_with" ZaQ f12 d12)
  (a13:PySem.W.nsIn K mainGlobals "end_mates" = some (some (.ref f13))) (l13:Yx K "end_mates" "end_mates" ZaB f13 d13)
  (a14:PySem.W.nsIn K mainGlobals "tour_from" = some (some (.ref f14))) (l14:Yx K "tour_from" "tour_from" Za2 f14 d14)
  (a15:PySem.W.nsIn K mainGlobals "tours" = some (some (.ref f15))) (l15:Yx K "tours" "tours" Zgb f15 d15)
  (a16:PySem.W.nsIn K mainGlobals "_law_walks" = some (some (.ref f16))) (l16:Yx K "_law_walks" "_law_walks" GC f16 d16)
  (a17:PySem.W.nsIn K mainGlobals "uppers_at_ends" = some (some (.ref f17))) (l17:Yx K "uppers_at_ends" "uppers_at_ends" WL f17 d17)
  (a18:PySem.W.nsIn K mainGlobals "steps_down" = some (some (.ref f18))) (l18:Yx K "steps_down" "steps_down" U5 f18 d18)
  (a19:PySem.W.nsIn K mainGlobals "turns" = some (some (.ref f19))) (l19:Yx K "turns" "turns" ZdJ f19 d19)
  (a20:PySem.W.nsIn K mainGlobals "heights_along" = some (some (.ref f20))) (l20:Yx K "heights_along" "heights_along" Gn f20 d20)
  (a21:PySem.W.nsIn K mainGlobals "has_scale" = some (some (.ref f21))) (l21:Yx K "has_scale" "has_scale" ZaD f21 d21)
  (a22:PySem.W.nsIn K mainGlobals "thread_heights" = some (some (.ref f22))) (l22:Yx K "thread_heights" "thread_heights" WM f22 d22)
  (a23:PySem.W.nsIn K mainGlobals "_law_heights" = some (some (.ref f23))) (l23:Yx K "_law_heights" "_law_heights" JC f23 d23)
  (a24:PySem.W.nsIn K mainGlobals "_law_curled" = some (some (.ref f24))) (l24:Yx K "_law_curled" "_law_curled" WN f24 d24)
  (a25:PySem.W.nsIn K mainGlobals "name_heights" = some (some (.ref f25))) (l25:Yx K "name_heights" "name_heights" Wq f25 d25)
  (a26:PySem.W.nsIn K mainGlobals "_law_name_heights" = some (some (.ref f26))) (l26:Yx K "_law_name_heights" "_law_name_heights" JR f26 d26)
  (a27:PySem.W.nsIn K mainGlobals "_law_front" = some (some (.ref f27))) (l27:Yx K "_law_front" "_law_front" Zac f27 d27)
  (a28:PySem.W.nsIn K mainGlobals "_law_scales" = some (some (.ref f28))) (l28:Yx K "_law_scales" "_law_scales" WR f28 d28)
  (a29:PySem.W.nsIn K mainGlobals "_law_letter_heights" = some (some (.ref f29))) (l29:Yx K "_law_letter_heights" "_law_letter_heights" Ju f29 d29)
  (a30:PySem.W.nsIn K mainGlobals "partners_born" = some (some (.ref f30))) (l30:Yx K "partners_born" "partners_born" J4 f30 d30)
  (a31:PySem.W.nsIn K mainGlobals "partners_ended" = some (some (.ref f31))) (l31:Yx K "partners_ended" "partners_ended" JG f31 d31)
  (a32:PySem.W.nsIn K mainGlobals "partners_kept" = some (some (.ref f32))) (l32:Yx K "partners_kept" "partners_kept" Gk f32 d32)
  (a33:PySem.W.nsIn K mainGlobals "is_tangled" = some (some (.ref f33))) (l33:Yx K "is_tangled" "is_tangled" Zad f33 d33)
  (a34:PySem.W.nsIn K mainGlobals "ways_on" = some (some (.ref f34))) (l34:Yx K "ways_on" "ways_on" ZcX f34 d34)
  (a35:PySem.W.nsIn K mainGlobals "_law_is_apart" = some (some (.ref f35))) (l35:Yx K "_law_is_apart" "_law_is_apart" Gr f35 d35)
  (a36:PySem.W.nsIn K mainGlobals "_law_moved_on" = some (some (.ref f36))) (l36:Yx K "_law_moved_on" "_law_moved_on" YO f36 d36)
  (a37:PySem.W.nsIn K mainGlobals "is_whole" = some (some (.ref f37))) (l37:Yx K "is_whole" "is_whole" ZbO f37 d37)
  (a38:PySem.W.nsIn K mainGlobals "_law_whole" = some (some (.ref f38))) (l38:Yx K "_law_whole" "_law_whole" U7 f38 d38)
  (a39:PySem.W.nsIn K mainGlobals "_law_numbers" = some (some (.ref f39))) (l39:Yx K "_law_numbers" "_law_numbers" Wt f39 d39)
  (a40:PySem.W.nsIn K mainGlobals "crossings_of" = some (some (.ref f40))) (l40:Yx K "crossings_of" "crossings_of" GO f40 d40)
  (a41:PySem.W.nsIn K mainGlobals "is_rising" = some (some (.ref f41))) (l41:Yx K "is_rising" "is_rising" W0 f41 d41)
  (a42:PySem.W.nsIn K mainGlobals "heights_by_name" = some (some (.ref f42))) (l42:Yx K "heights_by_name" "heights_by_name" Wn f42 d42)
  (a43:PySem.W.nsIn K mainGlobals "partners_through" = some (some (.ref f43))) (l43:Yx K "partners_through" "partners_through" Jl f43 d43)
  (a44:PySem.W.nsIn K mainGlobals "is_banding" = some (some (.ref f44))) (l44:Yx K "is_banding" "is_banding" UW f44 d44)
  (a45:PySem.W.nsIn K mainGlobals "_law_walk" = some (some (.ref f45))) (l45:Yx K "_law_walk" "_law_walk" Za8 f45 d45)
  (a46:PySem.W.nsIn K mainGlobals "_law_due" = some (some (.ref f46))) (l46:Yx K "_law_due" "_law_due" GS f46 d46)
  (a47:PySem.W.nsIn K mainGlobals "_law_bandings" = some (some (.ref f47))) (l47:Yx K "_law_bandings" "_law_bandings" J1 f47 d47)
  (a48:PySem.W.nsIn K mainGlobals "_law_odd_list" = some (some (.ref f48))) (l48:Yx K "_law_odd_list" "_law_odd_list" Gm f48 d48)
  (a49:PySem.W.nsIn K mainGlobals "_law_copied" = some (some (.ref f49))) (l49:Yx K "_law_copied" "_law_copied" JY f49 d49)
  (a50:PySem.W.nsIn K mainGlobals "_law_lists" = some (some (.ref f50))) (l50:Yx K "_law_lists" "_law_lists" Wr f50 d50)
  (a51:PySem.W.nsIn K mainGlobals "law" = some (some (.ref f51))) (l51:Yx K "law" "law" Zfk f51 d51)
  (ZaG:PySem.W.nsIn K mainGlobals "enumerate" = some none)
  (Zib:PySem.W.nsIn K mainGlobals "list" = some none)
  (ZlD:PySem.W.nsIn K mainGlobals "len" = some none)
  (ZfT:PySem.W.nsIn K mainGlobals "range" = some none)
  (Znm:PySem.W.nsIn K mainGlobals "abs" = some none)
  (Zln:PySem.W.nsIn K mainGlobals "sum" = some none)
  (Zlv:PySem.W.nsIn K mainGlobals "zip" = some none)
  (ZdZ:PySem.W.nsIn K mainGlobals "sorted" = some none)
  (U9:PySem.W.nsIn K mainGlobals "isinstance" = some none)
  (ZmT:PySem.W.nsIn K mainGlobals "int" = some none)
  (ZiP:PySem.W.nsIn K mainGlobals "bool" = some none)
  (Zl5:PySem.W.nsIn K mainGlobals "all" = some none)
  (ZmI:PySem.W.nsIn K mainGlobals "max" = some none)
  (Zl3:PySem.W.nsIn K mainGlobals "min" = some none)
  (Zao:PySem.W.nsIn K mainGlobals "ValueError" = some none)
  (Ziz:PySem.W.nsIn K mainGlobals "dict" = some none)
  (Zf8:PySem.W.nsIn K mainGlobals "tuple" = some none)
  (Zl9:PySem.W.nsIn K mainGlobals "set" = some none):
  ∃fd:FuncData,(∀(s:Shared)(v:Value),BindsTo s fd ⟨[v],[]⟩ [("_law_script", v)]) /\ ∀base:Heap,K.In base->base.Ns mainGlobals mg->Yi l.prog w K mg base Wx 13 fa fd ["_law_script"] (ZjC K):=by
 have e:=hfa.symm.trans (kR X G a51);cases e;have ZA:mg "enumerate" = none:=Ky X G ZaG;have Z6:mg "list" = none:=Ky X G Zib;have Ye:mg "len" = none:=Ky X G ZlD;have ZZ:mg "range" = none:=Ky X G ZfT;have ZbC:mg "abs" = none:=Ky X G Znm;have Zfw:mg "sum" = none:=Ky X G Zln;have Zay:mg "zip" = none:=Ky X G Zlv;have YX:mg "sorted" = none:=Ky X G ZdZ;have ZE:mg "isinstance" = none:=Ky X G U9;have GU:mg "int" = none:=Ky X G ZmT;have Zal:mg "bool" = none:=Ky X G ZiP;have ZaH:mg "all" = none:=Ky X G Zl5;have Ga:mg "max" = none:=Ky X G ZmI;have ZbE:mg "min" = none:=Ky X G Zl3;have ZnM:mg "ValueError" = none:=Ky X G Zao;have ZiA:mg "dict" = none:=Ky X G Ziz;have J3:mg "tuple" = none:=Ky X G Zf8;have ZlH:mg "set" = none:=Ky X G Zl9;have Za4:mg "NoHeights" = some (.ref Yu):=kR X G U4;have Zde:=l0;have Zh0:=Zde.binds (ps:=["_law_bag_here", "_law_many"]) fun _ _ _ _ _ _=>us2 fun _ _=>rfl;have Zes:=l1;have Zi6:=Zes.binds (ps:=["_law_script", "_law_at"]) fun _ _ _ _ _ _=>us2 fun _ _=>rfl;have Za3:=l2;have Zem:=Za3.binds (ps:=["_law_bag_here", "_law_births", "_law_most"]) fun _ _ _ _ _ _=>us3 fun _ _ _=>rfl;have Zdf:=l3;have ZhS:=Zdf.binds (ps:=["_law_bag_here", "_law_most"]) fun _ _ _ _ _ _=>us2 fun _ _=>rfl;have ZeH:=l4;have Zii:=ZeH.binds (ps:=["_law_bag_here", "_law_most"]) fun _ _ _ _ _ _=>us2 fun _ _=>rfl;have Zfn:=l5;have Zk8:=Zfn.binds (ps:=["drawing"]) fun _ _ _ _ _ _=>us1 fun _=>rfl;have Zdg:=l6;have Zg2:=Zdg.binds (ps:=["_law_drawing_here"]) fun _ _ _ _ _ _=>us1 fun _=>rfl;have Zci:=l7;have Zgm:=Zci.binds (ps:=["drawing", "kind"]) fun _ _ _ _ _ _=>us2 fun _ _=>rfl;have ZfQ:=l8;have Zkq:=ZfQ.binds (ps:=["drawing"]) fun _ _ _ _ _ _=>us1 fun _=>rfl;have Zd1:=l9;have ZiZ:=Zd1.binds (ps:=["drawing"]) fun _ _ _ _ _ _=>us1 fun _=>rfl;have ZbA:=l10;have Ze7:=ZbA.binds (ps:=["drawing", "numbers"]) fun _ _ _ _ _ _=>us2 fun _ _=>rfl;have Zdc:=l11;have Zhu:=Zdc.binds (ps:=["drawing"]) fun _ _ _ _ _ _=>us1 fun _=>rfl;have Zc9:=l12;have Zhx:=Zc9.binds (ps:=["thread"]) fun _ _ _ _ _ _=>us1 fun _=>rfl;have Zc6:=l13;have Zg5:=Zc6.binds (ps:=["drawing"]) fun _ _ _ _ _ _=>us1 fun _=>rfl;have Zc1:=l14;have ZhX:=Zc1.binds (ps:=["first", "mates"]) fun _ _ _ _ _ _=>us2 fun _ _=>rfl;have ZjT:=l15;have Zoc:=ZjT.binds (ps:=["drawing"]) fun _ _ _ _ _ _=>us1 fun _=>rfl;have Zcy:=l16;have ZgP:=Zcy.binds (ps:=["_law_drawing_here"]) fun _ _ _ _ _ _=>us1 fun _=>rfl;have UM:=l17;have ZcR:=UM.binds (ps:=["drawing"]) fun _ _ _ _ _ _=>us1 fun _=>rfl;have Zcq:=l18;have ZgF:=Zcq.binds (ps:=["tour", "uppers"]) fun _ _ _ _ _ _=>us2 fun _ _=>rfl;have Zjv:=l19;have ZoH:=Zjv.binds (ps:=["drawing"]) fun _ _ _ _ _ _=>us1 fun _=>rfl;have Zas:=l20;have Zdp:=Zas.binds (ps:=["tour", "uppers"]) fun _ _ _ _ _ _=>us2 fun _ _=>rfl;have Zc2:=l21;have ZhQ:=Zc2.binds (ps:=["drawing", "scale"]) fun _ _ _ _ _ _=>us2 fun _ _=>rfl;have UA:=l22;have Zc0:=UA.binds (ps:=["drawing", "scale"]) fun _ _ _ _ _ _=>us2 fun _ _=>rfl;have ZaS:=l23;have Zd4:=ZaS.binds (ps:=["_law_drawing_here", "_law_scale"]) fun _ _ _ _ _ _=>us2 fun _ _=>rfl;have ZbD:=l24;have ZeS:=ZbD.binds (ps:=["_law_bag_here", "_law_letters", "_law_most"]) fun _ _ _ _ _ _=>us3 fun _ _ _=>rfl;have ZaI:=l25;have Zd3:=ZaI.binds (ps:=["drawing", "scale"]) fun _ _ _ _ _ _=>us2 fun _ _=>rfl;have Gu:=l26;have Zbv:=Gu.binds (ps:=["_law_drawing_here", "_law_scale"]) fun _ _ _ _ _ _=>us2 fun _ _=>rfl;have Zcm:=l27;have ZgD:=Zcm.binds (ps:=["_law_bag_here", "_law_most"]) fun _ _ _ _ _ _=>us2 fun _ _=>rfl;have ZbB:=l28;have ZeV:=ZbB.binds (ps:=["_law_drawing_here"]) fun _ _ _ _ _ _=>us1 fun _=>rfl;have Wz:=l29;have ZaA:=Wz.binds (ps:=["_law_drawing_here", "_law_scale"]) fun _ _ _ _ _ _=>us2 fun _ _=>rfl;have Zax:=l30;have Zdm:=Zax.binds (ps:=["partners", "k"]) fun _ _ _ _ _ _=>us2 fun _ _=>rfl;have UP:=l31;have ZcT:=UP.binds (ps:=["partners", "k"]) fun _ _ _ _ _ _=>us2 fun _ _=>rfl;have Zat:=l32;have Zdq:=Zat.binds (ps:=["partners", "k"]) fun _ _ _ _ _ _=>us2 fun _ _=>rfl;have Zb6:=l33;have ZgM:=Zb6.binds (ps:=["partners", "k"]) fun _ _ _ _ _ _=>us2 fun _ _=>rfl;have Zfg:=l34;have Zk2:=Zfg.binds (ps:=["partners", "letter", "height"]) fun _ _ _ _ _ _=>us3 fun _ _ _=>rfl;have Zaq:=l35;have Zdu:=Zaq.binds (ps:=["_law_partners", "_law_k"]) fun _ _ _ _ _ _=>us2 fun _ _=>rfl;have Zau:=l36;have Zdl:=Zau.binds (ps:=["_law_partners", "_law_letter"]) fun _ _ _ _ _ _=>us2 fun _ _=>rfl;have Zd6:=l37;have Zi1:=Zd6.binds (ps:=["thing"]) fun _ _ _ _ _ _=>us1 fun _=>rfl;have ZcC:=l38;have ZgO:=ZcC.binds (ps:=["_law_thing"]) fun _ _ _ _ _ _=>us1 fun _=>rfl;have ZaV:=l39;have Zeq:=ZaV.binds (ps:=["_law_thing"]) fun _ _ _ _ _ _=>us1 fun _=>rfl;have ZaR:=l40;have ZeO:=ZaR.binds (ps:=["drawing"]) fun _ _ _ _ _ _=>us1 fun _=>rfl;have Zdh:=l41;have ZhV:=Zdh.binds (ps:=["thing", "allowed"]) fun _ _ _ _ _ _=>us2 fun _ _=>rfl;have Uh:=l42;have Zcg:=Uh.binds (ps:=["drawing", "scale"]) fun _ _ _ _ _ _=>us2 fun _ _=>rfl;have GQ:=l43;have ZbS:=GQ.binds (ps:=["drawing", "scale", "thing"]) fun _ _ _ _ _ _=>us3 fun _ _ _=>rfl;have Zcx:=l44;have Zgi:=Zcx.binds (ps:=["drawing", "scale", "thing"]) fun _ _ _ _ _ _=>us3 fun _ _ _=>rfl;have Zda:=l45;have Zhs:=Zda.binds (ps:=["_law_drawing_here", "_law_scale", "_law_changed"]) fun _ _ _ _ _ _=>us3 fun _ _ _=>rfl;have Zet:=l46;have Zis:=Zet.binds (ps:=["_law_drawing_here", "_law_scale", "_law_thing"]) fun _ _ _ _ _ _=>us3 fun _ _ _=>rfl;have Zar:=l47;have Zds:=Zar.binds (ps:=["_law_drawing_here", "_law_scale"]) fun _ _ _ _ _ _=>us2 fun _ _=>rfl;have Zap:=l48;have Zdn:=Zap.binds (ps:=["_law_bag_here", "_law_some"]) fun _ _ _ _ _ _=>us2 fun _ _=>rfl;have ZbF:=l49;have ZbH:=ZbF.binds (ps:=["_law_thing"]) fun _ _ _ _ _ _=>us1 fun _=>rfl;have Zcw:=l50;have Zgy:=Zcw.binds (ps:=["_law_drawing_here", "_law_scale", "_law_bag_here"]) fun _ _ _ _ _ _=>us3 fun _ _ _=>rfl;have Zo5:=l51;have Zs1:=Zo5.binds (ps:=["_law_script"]) fun _ _ _ _ _ _=>us1 fun _=>rfl;obtain⟨oc,od,kV,dc,pm,an,cd,ct,sl,rfl,_,_⟩:=l51.ex;refine⟨PySem.W.fnOf "law" "law" (Zch Zfk) (U6 Zfk) (Zj Zfk) .none kV dc pm an cd ct,fun s v=>.of_eq rfl,fun base _ _=>?_⟩;have Zr:Yq l.prog w K mg base 1 "_law_take" ["_law_bag_here", "_law_many"] Uq:=ZL (ZnY Zde) (kR X G a0) l0.kp Zh0;have Zae:Yq l.prog w K mg base 1 "_law_bag" ["_law_script", "_law_at"] (Zmt K):=ZL (Zp9 Zes Ye ZbC) (kR X G a1) l1.kp Zi6;have GH:Yq l.prog w K mg base 2 "_law_drawing" ["_law_bag_here", "_law_births", "_law_most"] (ZiD 0):=ZL (Zoe Za3 Zr ZZ) (kR X G a2) l2.kp Zem;have Wc:Yq l.prog w K mg base 2 "_law_plat" ["_law_bag_here", "_law_most"] Zel:=ZL (Zow Zdf Zr ZZ) (kR X G a3) l3.kp ZhS;have ZbI:Yq l.prog w K mg base 3 "_law_any" ["_law_bag_here", "_law_most"] Zel:=ZL (Zp2 ZeH Zr Wc GH) (kR X G a4) l4.kp Zii;have ZcV:Yq l.prog w K mg base 1 "threads" ["drawing"] ZaC:=ZL (Zi7 Zfn Z6) (kR X G a5) l5.kp Zk8;have YY:Yq l.prog w K mg base 1 "_law_rows" ["_law_drawing_here"] ZaC:=ZL (Zn4 Zdg Z6) (kR X G a6) l6.kp Zg2;have JI:Yq l.prog w K mg base 1 "letters_of" ["drawing", "kind"] Zbs:=ZL (ZiV Zci ZA) (kR X G a7) l7.kp Zgm;have JK:Yq l.prog w K mg base 2 "ends_of" ["drawing"] (Zav fun x=>decide (x = "end")):=ZL (Zoz ZfQ JI) (kR X G a8) l8.kp Zkq;have WD:Yq l.prog w K mg base 1 "names_of" ["drawing"] (Zav UR):=ZL (Zll Zd1 ZA) (kR X G a9) l9.kp ZiZ;have Jr:Yq l.prog w K mg base 2 "pairs_ahead" ["drawing", "numbers"] ZdO:=ZL (Zmc ZbA ZcV) (kR X G a10) l10.kp Ze7;have Wf:Yq l.prog w K mg base 3 "end_pairs" ["drawing"] Zgl:=ZL (ZgJ Zdc Jr JK) (kR X G a11) l11.kp Zhu;have JD:Yq l.prog w K mg base 1 "born_with" ["thread"] ZnF:=ZL (Zrn Zc9) (kR X G a12) l12.kp Zhx;have ZaZ:Yq l.prog w K mg base 4 "end_mates" ["drawing"] ZgU:=ZL (ZmC Zc6 Wf Ye) (kR X G a13) l13.kp Zg5;have ZaE:Yq l.prog w K mg base 2 "tour_from" ["first", "mates"] Zit:=ZL (Zny Zc1 JD) (kR X G a14) l14.kp ZhX;have Zbd:Yq l.prog w K mg base 5 "tours" ["drawing"] ZdP:=ZL (ZmY ZjT ZaZ ZaE Ye ZZ) (kR X G a15) l15.kp Zoc;have Zaf:Yq l.prog w K mg base 2 "_law_walks" ["_law_drawing_here"] Zf1:=ZL (Zmw Zcy YY ZA YX ZbC) (kR X G a16) l16.kp ZgP;have YG:Yq l.prog w K mg base 4 "uppers_at_ends" ["drawing"] Zb4:=ZL (Zk4 UM JK Wf Ye) (kR X G a17) l17.kp ZcR;have JF:Yq l.prog w K mg base 2 "steps_down" ["tour", "uppers"] Zdz:=ZL (ZlB Zcq JD ZA) (kR X G a18) l18.kp ZgF;have Zf4:Yq l.prog w K mg base 6 "turns" ["drawing"] Zgc:=ZL (ZlX Zjv YG JF Zbd ZbC Zfw) (kR X G a19) l19.kp ZoH;have Gq:Yq l.prog w K mg base 3 "heights_along" ["tour", "uppers"] Zqm:=ZL (ZrE Zas JF Ye Zay) (kR X G a20) l20.kp Zdp;have Za1:Yq l.prog w K mg base 7 "has_scale" ["drawing", "scale"] Zqg:=ZL (ZrX Zc2 Zf4) (kR X G a21) l21.kp ZhQ;have WK:Zkt l.prog w K mg base 8 "thread_heights" ["drawing", "scale"] (Zq6 Yu):=Zjq (Zr7 UA Za4 Gb Za1 JK Zbd YG Gq Ye) (kR X G a22) l22.kp Zc0;have GI:Yq l.prog w K mg base 3 "_law_heights" ["_law_drawing_here", "_law_scale"] Zpt:=ZL (ZrQ ZaS Zaf YY ZA Zfw Ye ZZ) (kR X G a23) l23.kp Zd4;have Um:Yq l.prog w K mg base 2 "_law_curled" ["_law_bag_here", "_law_letters", "_law_most"] Zgk:=ZL (Zk7 ZbD Zr Z6 ZZ Ye Ga) (kR X G a24) l24.kp ZeS;have GL:Zkt l.prog w K mg base 9 "name_heights" ["drawing", "scale"] (Zqw Yu):=Zjq (ZrR ZaI WK Jr WD) (kR X G a25) l25.kp Zd3;have Yt:Yq l.prog w K mg base 4 "_law_name_heights" ["_law_drawing_here", "_law_scale"] Zje:=ZL (Zqc Gu GI YY ZA) (kR X G a26) l26.kp Zbv;have U3:Yq l.prog w K mg base 4 "_law_front" ["_law_bag_here", "_law_most"] Zgv:=ZL (ZmJ Zcm Zr ZbI Wc Um ZZ Ye Ga ZbE) (kR X G a27) l27.kp ZgD;have Uk:Yq l.prog w K mg base 5 "_law_scales" ["_law_drawing_here"] ZeJ:=ZL (Zky ZbB Yt) (kR X G a28) l28.kp ZeV;have Yj:Yq l.prog w K mg base 5 "_law_letter_heights" ["_law_drawing_here", "_law_scale"] Zge:=ZL (ZoC Wz Yt Z6) (kR X G a29) l29.kp ZaA;have Gh:Yq l.prog w K mg base 1 "partners_born" ["partners", "k"] Zgg:=ZL (Zne Zax J3) (kR X G a30) l30.kp Zdm;have WC:Yq l.prog w K mg base 1 "partners_ended" ["partners", "k"] Zix:=ZL (ZoQ UP J3) (kR X G a31) l31.kp ZcT;have Gp:Yq l.prog w K mg base 1 "partners_kept" ["partners", "k"] ZgT:=ZL (Zlt Zat J3 Z6) (kR X G a32) l32.kp Zdq;have Zah:Yq l.prog w K mg base 1 "is_tangled" ["partners", "k"] Zij:=ZL (Zor Zb6 YX) (kR X G a33) l33.kp ZgM;have ZcI:Yq l.prog w K mg base 2 "ways_on" ["partners", "letter", "height"] Ziw:=ZL (ZnS Zfg Gh WC Gp Zah) (kR X G a34) l34.kp Zk2;have YS:Yq l.prog w K mg base 1 "_law_is_apart" ["_law_partners", "_law_k"] ZdK:=ZL (Zli Zaq ZbE Ga) (kR X G a35) l35.kp Zdu;have YQ:Yq l.prog w K mg base 1 "_law_moved_on" ["_law_partners", "_law_letter"] ZdL:=ZL (Znj Zau GU) (kR X G a36) l36.kp Zdl;have ZbV:Yq l.prog w K mg base 1 "is_whole" ["thing"] UG:=ZL (Ziy Zd6 ZE GU Zal) (kR X G a37) l37.kp Zi1;have Zaa:Yq l.prog w K mg base 1 "_law_whole" ["_law_thing"] UG:=ZL (Zk6 ZcC ZE GU Zal) (kR X G a38) l38.kp ZgO;have GP:Yq l.prog w K mg base 2 "_law_numbers" ["_law_thing"] Zgw:=ZL (ZlF ZaV Zaa ZE Z6 ZaH) (kR X G a39) l39.kp Zeq;have GW:Yq l.prog w K mg base 2 "crossings_of" ["drawing"] (Zav fun x=>decide (x = "cross")):=ZL (Zf9 ZaR JI) (kR X G a40) l40.kp ZeO;have ZaY:Yq l.prog w K mg base 2 "is_rising" ["thing", "allowed"] Zep:=ZL (Zlc Zdh ZbV ZE Z6 ZaH Zay) (kR X G a41) l41.kp ZhV;have Wi:Yq l.prog w K mg base 10 "heights_by_name" ["drawing", "scale"] ZpE:=ZL (Zrt Uh WD GL ZiA Zay) (kR X G a42) l42.kp Zcg;have J7:Yq l.prog w K mg base 11 "partners_through" ["drawing", "scale", "thing"] ZiG:=ZL (Zoq GQ Wi ZaY GW ZcI ZA) (kR X G a43) l43.kp ZbS;have GA:Yq l.prog w K mg base 12 "is_banding" ["drawing", "scale", "thing"] ZmV:=ZL (ZpW Zcx J7) (kR X G a44) l44.kp Zgi;have ZaM:Yq l.prog w K mg base 6 "_law_walk" ["_law_drawing_here", "_law_scale", "_law_changed"] ZiB:=ZL (ZnB Zda Yj YQ YS ZA Z6) (kR X G a45) l45.kp Zhs;have ZbX:Yq l.prog w K mg base 7 "_law_due" ["_law_drawing_here", "_law_scale", "_law_thing"] Zly:=ZL (ZpG Zet GP ZaM ZaH Ye Zay) (kR X G a46) l46.kp Zis;have Ge:Yq l.prog w K mg base 6 "_law_bandings" ["_law_drawing_here", "_law_scale"] Zgz:=ZL (ZlT Zar Yj YQ YS ZA YX) (kR X G a47) l47.kp Zds;have J2:Yq l.prog w K mg base 2 "_law_odd_list" ["_law_bag_here", "_law_some"] Zl2:=ZL (Zq7 Zap Zr Ye Ga J3) (kR X G a48) l48.kp Zdn;have JT:Yq l.prog w K mg base 4 "_law_copied" ["_law_thing"] (Uu K 3):=ZL (ZfO ZbF (kR X G a49) l49.kp ZbH ZE Z6 3) (kR X G a49) l49.kp ZbH;have Zai:Yq l.prog w K mg base 7 "_law_lists" ["_law_drawing_here", "_law_scale", "_law_bag_here"] ZgN:=ZL (Zmm Zcw Zr Ge J2 ZA Z6 ZZ Ye GU YX ZlH) (kR X G a50) l50.kp Zgy;exact ZqS Zo5 Zae U3 Uk Zai JT GA ZbX ZZ Ye Ga ZbE Z6 ZE Zal
theorem walk {l:PySem.W.OpenLaw}{q:Program}{loose:QP}{XP:QN->Heap->Prop}{YP:World->Heap->Prop}{d:DefRec}{K:Params->PySem.W.Frag}(hn:l.most=some 63)(hdf:d.params.defaults = [])
  (hY:∀(w:World)(h:Heap),YP w h->(K w.params).In h)
  (F:∀(w:World)(mg:QN)(fa:Addr)(h:Heap),(K w.params).In h->h.Ns mainGlobals mg->mg d.name=some (.ref fa) ->
   ∃fd:FuncData,(∀(s:Shared)(u:Value),BindsTo s fd ⟨[u],[]⟩ [("_law_script", u)]) /\ ∀base:Heap,(K w.params).In base->base.Ns mainGlobals mg->Yi l.prog w (K w.params) mg base Wx 13 fa fd ["_law_script"] (ZjC (K w.params))):
  PySem.W.WalkO q loose XP YP l.row.toRowW d [] (fun f vs=>PySem.call f vs):=
 L2.Zod (n:=63) (k:=13) (x := "_law_script") (CX:=fun _=>Wx) (sp:=fun w=>ZjC (K w.params)) hn (by decide) hdf ⟨rfl,by decide,by decide⟩ hY F (fun _ _ a ns hl _ hS=>⟨a,ns,rfl,hS,hl,fun _=>rfl⟩) fun _ _ _ _ _ z=>z
end
end Qk36
namespace PySem.W.Fast
def tw13581620604746405888:=0
def tw10170663317381449824:=0
def tw6043553339776413920:=0
def tw8452463562832385344:=0
def tw17908101428124464448:=0
def tw17358099255817589472:=0
def tw17866474274688916545:=0
def tw142752529002612097:=0
def tw10881025580936908193:=0
def tw6939042686111851009:=0
def tw9240469861823444513:=0
def tw14519693385744991330:=0
def tw17103006022576727202:=0
def tw7568679656199782690:=0
def tw11076304726781783746:=0
def tw11548355926260511522:=0
def tw3906426153678145346:=0
def tw16007415323779703746:=0
def tw18433887376269925379:=0
def tw3649250042291069891:=0
def tw17740731672154587237:=0
def tw17233870434622992549:=0
def tw9163554076236005765:=0
def tw10419428615177456293:=0
def tw13482086229077766981:=0
def tw17969931371445198022:=0
def tw4925734784483769798:=0
def tw4510232377011668486:=0
def tw16977970206582811751:=0
def tw548105140047078247:=0
def tw4138712359331863592:=0
def tw5575508099800924840:=0
def tw11604992933597559496:=0
def tw523043059822844808:=0
def tw12626805436916737097:=0
def tw9317980690244317257:=0
def tw16529580828438627785:=0
def tw11473938816546026345:=0
def tw2906571534157929610:=0
def tw16846063133905219114:=0
def tw14922773266126068682:=0
def tw8597141993400362315:=0
def tw7908930710764927499:=0
def tw14522202442620871563:=0
def tw391806476072780972:=0
def tw7291750045944680652:=0
def tw11078093184815638924:=0
def tw6227913283284009964:=0
def tw7289707142469630381:=0
def tw12724615621124961454:=0
def tw12225854302499183982:=0
def tw10536770336055041518:=0
def tw13390235320790384558:=0
def tw3275602246685519151:=0
def tw9623239090467537391:=0
def tw18130348606605382287:=0
def tw3890353507168294735:=0
def tw4647477139860632431:=0
def tw1442273275207132047:=0
def tw6653892883772454512:=0
def tw13394437364357347216:=0
def tw1521758106326242192:=0
def tw2453705407195693169:=0
def tw650176873635027313:=0
def tw3470959061860076081:=0
def tw2054644647443129073:=0
def tw12979521411864858930:=0
def tw8764163869835498066:=0
def tw544458755219255986:=0
def tw14779713719453410002:=0
def tw930200991709219859:=0
def tw9099599779920442419:=0
def tw1585115798435786067:=0
def tw16941324413884798387:=0
def tw6522597140335882771:=0
def tw1842035318353048307:=0
def tw6978575041787979892:=0
def tw18078366111763446932:=0
def tw7928025608890060980:=0
def tw3049664170395543860:=0
def tw17966496223708478836:=0
def tw11646377075885367796:=0
def tw743542787349776020:=0
def tw9855008910990168820:=0
def tw9537708031988946900:=0
def tw4278462638530346037:=0
def tw6641252995033727157:=0
def tw6740066911754389813:=0
def tw8672242033220766229:=0
def tw13130218023092231029:=0
def tw6942206461900825622:=0
def tw14444470821124997142:=0
def tw16074349937750449494:=0
def tw8321463358591611414:=0
def tw15389886111988989814:=0
def tw2014770012301652503:=0
def tw12279360776647513368:=0
def tw15650876906389135736:=0
def tw14130319577732448056:=0
def tw4294504908810141209:=0
def tw16020347546961680953:=0
def tw7142448192304393785:=0
def tw11945100032138275449:=0
def tw11831948109781565081:=0
def tw8825716662819774361:=0
def tw15362573753634526362:=0
def tw620309788813752762:=0
def tw3713525169749332635:=0
def tw1330015277629008860:=0
def tw6583308359959037916:=0
def tw9665306094508218877:=0
def tw9509668956626866973:=0
def tw1860704178846930877:=0
def tw285284858926471262:=0
def tw8303297184041043230:=0
def tw13072503276810021502:=0
def tw8496109007971690270:=0
def tw9108198135692478687:=0
def tw12287310952020716383:=0
def tw15166830025162960803:=0
end PySem.W.Fast
open PySem PySem.W PyProof.Rows
set_option maxRecDepth 100000 in
set_option maxHeartbeats 0 in
theorem PySem.Challenge.cw_bendfronts_k36_bandings_known_holds : PySem.Challenge.rw_bendfronts_k36_bandings_known.Holds := by
 w_on; o_law; k_head; (case hw => w_witness2)
 k_fill
 refine Qk36.walk (l := PySem.Challenge.rw_bendfronts_k36_bandings_known) rfl rfl (fun w h Y => PySem.W.kIn_of Y) ?F
 case F =>
  intro w mg fa h KX G hmg
  refine' Qk36.all_mk KX G hmg ?U4 ?Gb ?a0 ?l0 ?a1 ?l1 ?a2 ?l2 ?a3 ?l3 ?a4 ?l4 ?a5 ?l5 ?a6 ?l6 ?a7 ?l7 ?a8 ?l8 ?a9 ?l9 ?a10 ?l10 ?a11 ?l11 ?a12 ?l12 ?a13 ?l13 ?a14 ?l14 ?a15 ?l15 ?a16 ?l16 ?a17 ?l17 ?a18 ?l18 ?a19 ?l19 ?a20 ?l20 ?a21 ?l21 ?a22 ?l22 ?a23 ?l23 ?a24 ?l24 ?a25 ?l25 ?a26 ?l26 ?a27 ?l27 ?a28 ?l28 ?a29 ?l29 ?a30 ?l30 ?a31 ?l31 ?a32 ?l32 ?a33 ?l33 ?a34 ?l34 ?a35 ?l35 ?a36 ?l36 ?a37 ?l37 ?a38 ?l38 ?a39 ?l39 ?a40 ?l40 ?a41 ?l41 ?a42 ?l42 ?a43 ?l43 ?a44 ?l44 ?a45 ?l45 ?a46 ?l46 ?a47 ?l47 ?a48 ?l48 ?a49 ?l49 ?a50 ?l50 ?a51 ?l51 ?ZaG ?Zib ?ZlD ?ZfT ?Znm ?Zln ?Zlv ?ZdZ ?U9 ?ZmT ?ZiP ?Zl5 ?ZmI ?Zl3 ?Zao ?Ziz ?Zf8 ?Zl9
  (case U4 => k_is)
  (case Gb => k_exc)
  (case a0 => k_is)
  (case l0 => exact L2.ZJ (by k_is) (by k_is) (by k_is))
  (case a1 => k_is)
  (case l1 => exact L2.ZJ (by k_is) (by k_is) (by k_is))
  (case a2 => k_is)
  (case l2 => exact L2.ZJ (by k_is) (by k_is) (by k_is))
  (case a3 => k_is)
  (case l3 => exact L2.ZJ (by k_is) (by k_is) (by k_is))
  (case a4 => k_is)
  (case l4 => exact L2.ZJ (by k_is) (by k_is) (by k_is))
  (case a5 => k_is)
  (case l5 => exact L2.ZJ (by k_is) (by k_is) (by k_is))
  (case a6 => k_is)
  (case l6 => exact L2.ZJ (by k_is) (by k_is) (by k_is))
  (case a7 => k_is)
  (case l7 => exact L2.ZJ (by k_is) (by k_is) (by k_is))
  (case a8 => k_is)
  (case l8 => exact L2.ZJ (by k_is) (by k_is) (by k_is))
  (case a9 => k_is)
  (case l9 => exact L2.ZJ (by k_is) (by k_is) (by k_is))
  (case a10 => k_is)
  (case l10 => exact L2.ZJ (by k_is) (by k_is) (by k_is))
  (case a11 => k_is)
  (case l11 => exact L2.ZJ (by k_is) (by k_is) (by k_is))
  (case a12 => k_is)
  (case l12 => exact L2.ZJ (by k_is) (by k_is) (by k_is))
  (case a13 => k_is)
  (case l13 => exact L2.ZJ (by k_is) (by k_is) (by k_is))
  (case a14 => k_is)
  (case l14 => exact L2.ZJ (by k_is) (by k_is) (by k_is))
  (case a15 => k_is)
  (case l15 => exact L2.ZJ (by k_is) (by k_is) (by k_is))
  (case a16 => k_is)
  (case l16 => exact L2.ZJ (by k_is) (by k_is) (by k_is))
  (case a17 => k_is)
  (case l17 => exact L2.ZJ (by k_is) (by k_is) (by k_is))
  (case a18 => k_is)
  (case l18 => exact L2.ZJ (by k_is) (by k_is) (by k_is))
  (case a19 => k_is)
  (case l19 => exact L2.ZJ (by k_is) (by k_is) (by k_is))
  (case a20 => k_is)
  (case l20 => exact L2.ZJ (by k_is) (by k_is) (by k_is))
  (case a21 => k_is)
  (case l21 => exact L2.ZJ (by k_is) (by k_is) (by k_is))
  (case a22 => k_is)
  (case l22 => exact L2.ZJ (by k_is) (by k_is) (by k_is))
  (case a23 => k_is)
  (case l23 => exact L2.ZJ (by k_is) (by k_is) (by k_is))
  (case a24 => k_is)
  (case l24 => exact L2.ZJ (by k_is) (by k_is) (by k_is))
  (case a25 => k_is)
  (case l25 => exact L2.ZJ (by k_is) (by k_is) (by k_is))
  (case a26 => k_is)
  (case l26 => exact L2.ZJ (by k_is) (by k_is) (by k_is))
  (case a27 => k_is)
  (case l27 => exact L2.ZJ (by k_is) (by k_is) (by k_is))
  (case a28 => k_is)
  (case l28 => exact L2.ZJ (by k_is) (by k_is) (by k_is))
  (case a29 => k_is)
  (case l29 => exact L2.ZJ (by k_is) (by k_is) (by k_is))
  (case a30 => k_is)
  (case l30 => exact L2.ZJ (by k_is) (by k_is) (by k_is))
  (case a31 => k_is)
  (case l31 => exact L2.ZJ (by k_is) (by k_is) (by k_is))
  (case a32 => k_is)
  (case l32 => exact L2.ZJ (by k_is) (by k_is) (by k_is))
  (case a33 => k_is)
  (case l33 => exact L2.ZJ (by k_is) (by k_is) (by k_is))
  (case a34 => k_is)
  (case l34 => exact L2.ZJ (by k_is) (by k_is) (by k_is))
  (case a35 => k_is)
  (case l35 => exact L2.ZJ (by k_is) (by k_is) (by k_is))
  (case a36 => k_is)
  (case l36 => exact L2.ZJ (by k_is) (by k_is) (by k_is))
  (case a37 => k_is)
  (case l37 => exact L2.ZJ (by k_is) (by k_is) (by k_is))
  (case a38 => k_is)
  (case l38 => exact L2.ZJ (by k_is) (by k_is) (by k_is))
  (case a39 => k_is)
  (case l39 => exact L2.ZJ (by k_is) (by k_is) (by k_is))
  (case a40 => k_is)
  (case l40 => exact L2.ZJ (by k_is) (by k_is) (by k_is))
  (case a41 => k_is)
  (case l41 => exact L2.ZJ (by k_is) (by k_is) (by k_is))
  (case a42 => k_is)
  (case l42 => exact L2.ZJ (by k_is) (by k_is) (by k_is))
  (case a43 => k_is)
  (case l43 => exact L2.ZJ (by k_is) (by k_is) (by k_is))
  (case a44 => k_is)
  (case l44 => exact L2.ZJ (by k_is) (by k_is) (by k_is))
  (case a45 => k_is)
  (case l45 => exact L2.ZJ (by k_is) (by k_is) (by k_is))
  (case a46 => k_is)
  (case l46 => exact L2.ZJ (by k_is) (by k_is) (by k_is))
  (case a47 => k_is)
  (case l47 => exact L2.ZJ (by k_is) (by k_is) (by k_is))
  (case a48 => k_is)
  (case l48 => exact L2.ZJ (by k_is) (by k_is) (by k_is))
  (case a49 => k_is)
  (case l49 => exact L2.ZJ (by k_is) (by k_is) (by k_is))
  (case a50 => k_is)
  (case l50 => exact L2.ZJ (by k_is) (by k_is) (by k_is))
  (case a51 => k_is)
  (case l51 => exact L2.ZJ (by k_is) (by k_is) (by k_is))
  (case ZaG => k_is)
  (case Zib => k_is)
  (case ZlD => k_is)
  (case ZfT => k_is)
  (case Znm => k_is)
  (case Zln => k_is)
  (case Zlv => k_is)
  (case ZdZ => k_is)
  (case U9 => k_is)
  (case ZmT => k_is)
  (case ZiP => k_is)
  (case Zl5 => k_is)
  (case ZmI => k_is)
  (case Zl3 => k_is)
  (case Zao => k_is)
  (case Ziz => k_is)
  (case Zf8 => k_is)
  (case Zl9 => k_is)

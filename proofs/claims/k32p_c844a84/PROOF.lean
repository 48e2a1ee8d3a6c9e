import PyProof.Rows.All
import Wide.All
import OpenK.AllK
import Wide.FinOn
import Lean
import PyProof.EqAt
import PyProof.EqKinds
import PyProof.TupleCall
import PyProof.AttrMissHeap
import PyProof.FactsAll.zip_1
import KE.KDictOf
import PyProof.Draws
import KE.KRevIter
import PyProof.FactsAll.range
import PyProof.Rows.RuleM_int
import KE.BitLaws
import PyProof.DictItems
import PyProof.DictRoadsH
import PySem.Challenge.RW_bendfronts_k32_settings_by_bandings
set_option Elab.async false
set_option linter.all false
set_option maxRecDepth 100000
namespace L2
open PySem PySem.Spec PyProof.Rows
abbrev Key:=Sum Int Str
def ZdM:Key->Value->Bool
 | .inl k,v=>Value.isInt k v
 | .inr x,v=>Value.isStrOf x v
def Zok (w:World):Key->Int
 | .inl k=>hashInt k
 | .inr x=>hashStr w x
theorem Yp:∀{k:Key}{v:Value},ZdM k v=true->(∃i t,k=Sum.inl i/\v=Value.int i t)∨(∃x t,k=Sum.inr x/\v=Value.str x t)
 | .inl i,v,h=>by
  obtain ⟨t,e⟩:=Value.isInt_shape (k:=i) (v:=v) h
  exact .inl ⟨i,t,rfl,e⟩
 | .inr x,v,h=>by
  obtain ⟨t,e⟩:=Value.isStrOf_shape (x:=x) (v:=v) h
  exact .inr ⟨x,t,rfl,e⟩
theorem Zie (i:Int) (t:Tok):ZdM (.inl i) (.int i t)=true:=by simp [ZdM,Value.isInt]
theorem ZhP (x:Str) (t:Tok):ZdM (.inr x) (.str x t)=true:=by simp [ZdM,Value.isStrOf]
theorem Zm3 (a b:Int):decide ((Sum.inl a:Key)=Sum.inl b)=(a==b):=by
 by_cases e:a=b
 ·subst e;simp
 ·have h:¬(Sum.inl a:Key)=Sum.inl b:=fun q=>e (Sum.inl.inj q)
  rw [decide_eq_false h]
  exact (beq_eq_false_iff_ne.mpr e).symm
theorem ZmO (a b:Str):decide ((Sum.inr a:Key)=Sum.inr b)=decide (a=b):=by
 by_cases e:a=b
 ·subst e;simp
 ·have h:¬(Sum.inr a:Key)=Sum.inr b:=fun q=>e (Sum.inr.inj q)
  rw [decide_eq_false h,decide_eq_false e]
theorem Zm1 (a:Int) (b:Str):decide ((Sum.inl a:Key)=Sum.inr b)=false:=decide_eq_false (fun q=>nomatch q)
theorem Zl0 (a:Str) (b:Int):decide ((Sum.inr a:Key)=Sum.inl b)=false:=decide_eq_false (fun q=>nomatch q)
def ZH (prog:Program) (w:World):PySem.KeyKind prog w Key where
 is:=ZdM
 hash:=Zok w
 inj:=fun v a b ha hb=>by
  rcases Yp ha with ⟨i,t,rfl,rfl⟩ | ⟨x,t,rfl,rfl⟩
  ·rcases Yp hb with ⟨j,u,rfl,e⟩ | ⟨y,u,rfl,e⟩
   ·injection e with e1 _;rw [e1]
   ·exact nomatch e
  ·rcases Yp hb with ⟨j,u,rfl,e⟩ | ⟨y,u,rfl,e⟩
   ·exact nomatch e
   ·injection e with e1 _;rw [e1]
 byValue:=fun k v h=>by
  rcases Yp h with ⟨i,t,rfl,rfl⟩ | ⟨x,t,rfl,rfl⟩<;>rfl
 pyHash:=fun hv h=>by
  rcases Yp hv with ⟨i,t,rfl,rfl⟩ | ⟨x,t,rfl,rfl⟩
  ·exact wpAny_pyHash_int h
  ·exact wpAny_pyHash_str h
 eqBool:=fun hu hv h=>by
  rcases Yp hu with ⟨i,t,rfl,rfl⟩ | ⟨x,t,rfl,rfl⟩
  ·rcases Yp hv with ⟨j,u,rfl,rfl⟩ | ⟨y,u,rfl,rfl⟩
   ·rw [Zm3] at h;exact wpAny_eqBool_int h
   ·rw [Zm1] at h;exact SeqAt.EqAt.int_str i t y u _ _ _ _ h
  ·rcases Yp hv with ⟨j,u,rfl,rfl⟩ | ⟨y,u,rfl,rfl⟩
   ·rw [Zl0] at h;exact SeqAt.EqAt.str_int x t j u _ _ _ _ h
   ·rw [ZmO] at h;exact wpAny_eqBool_str h
 «strs»:=fun k x t v h=>by
  rcases Yp h with ⟨i,u,rfl,e⟩ | ⟨y,u,rfl,e⟩
  ·exact nomatch e
  ·injection e with e1 _
   subst e1
   cases v<;>rfl
theorem Zfo (prog:Program) (w:World) (i:Int) (t:Tok):(ZH prog w).is (.inl i) (.int i t)=true:=Zie i t
theorem ZfQ (prog:Program) (w:World) (x:Str) (t:Tok):(ZH prog w).is (.inr x) (.str x t)=true:=ZhP x t
inductive V where
 | non | bl (b:Bool) | int (i:Int) | str (x:Str) | byt (b:Array UInt8) | flt (b:UInt64) | ref (a:Addr) | ty (n:String)
 deriving DecidableEq
def RelV:V->Value->Prop
 | .non,u=>u=Value.none
 | .bl b,u=>u=Value.bool b
 | .int i,u=>∃t,u=Value.int i t
 | .str x,u=>∃t,u=Value.str x t
 | .byt b,u=>∃t,u=Value.bytes b t
 | .flt b,u=>∃t,u=Value.float b t
 | .ref a,u=>u=Value.ref a
 | .ty n,u=>u=Value.type n
abbrev Vals:List V->List Value->Prop:=Paired RelV
theorem Vals.length {xs:List V}{us:List Value} (r:Vals xs us):xs.length=us.length:=Paired.length r
theorem Vals.get:∀{xs:List V}{us:List Value}{i:Nat}{x:V},Vals xs us->xs[i]? = some x -> ∃u,us[i]? = some u/\RelV x u
 | _,_,_,_,.nil,e=>by simp at e
 | _,_,0,_,.cons r _,e=>by simp at e;subst e;exact ⟨_,rfl,r⟩
 | _,_,i+1,x,.cons _ t,e=>by
  obtain ⟨u,h1,h2⟩:=Vals.get (i:=i) (x:=x) t (by simpa using e)
  exact ⟨u,by simpa using h1,h2⟩
theorem Vals.set {x:V}{u:Value} (r:RelV x u):∀{xs:List V}{us:List Value} (i:Nat),Vals xs us->Vals (xs.set i x) (us.set i u)
 | _,_,_,.nil=>.nil
 | _,_,0,.cons _ t=>.cons r t
 | _,_,i+1,.cons q t=>.cons q (Vals.set r i t)
theorem Vals.append:∀{xs ys:List V}{us ws:List Value},Vals xs us->Vals ys ws->Vals (xs++ys) (us++ws)
 | _,_,_,_,.nil,s=>s
 | _,_,_,_,.cons r t,s=>.cons r (Vals.append t s)
theorem Vals.take:∀{xs:List V}{us:List Value} (n:Nat),Vals xs us->Vals (xs.take n) (us.take n)
 | _,_,0,_=>.nil
 | _,_,_+1,.nil=>.nil
 | _,_,n+1,.cons r t=>.cons r (Vals.take n t)
theorem Vals.drop:∀{xs:List V}{us:List Value} (n:Nat),Vals xs us->Vals (xs.drop n) (us.drop n)
 | _,_,0,r=>r
 | _,_,_+1,.nil=>.nil
 | _,_,n+1,.cons _ t=>Vals.drop n t
def Zbv:Option V->Option Value->Prop
 | some v,some u=>RelV v u
 | none,none=>True
 | _,_=>False
def KV {κ:Type}:List (κ × V)->List (κ × Value)->Prop:=Paired fun (p:κ × V) (q:κ × Value)=>p.1=q.1/\RelV p.2 q.2
def kV:Key->V
 | .inl i=>.int i
 | .inr x=>.str x
inductive HO where
 | lst (xs:List V)
 | tup (xs:List V)
 | dK (kvs:List (Key×V)) | dT (kvs:List (List Key×V))
 | set (S:Int->Bool) (n:Nat)
 | ins (C dx:Addr) (fs:List (Str×V))
 | own (x:Addr)
 | xd (fs:List (Str×V))
 | met (f x:Addr)
 | rng (lo hi:Int)
 | frz (o:Obj) (u:HO)
 | tbl (ps:Array Value)
 | ext (φ:Heap->Prop)
abbrev Hp:=Addr->Option HO
def upd (H:Hp) (a:Addr) (o:HO):Hp:=fun b=>if b=a then some o else H b
theorem Zc {H:Hp}{a:Addr}{o:HO}:upd H a o a=some o:=by unfold upd;rw [if_pos rfl]
theorem Zh {H:Hp}{a b:Addr}{o:HO} (h:b≠a):upd H a o b=H b:=by unfold upd;rw [if_neg h]
theorem Jm {H:Hp}{a:Addr}{o u:HO}:upd (upd H a o) a u=upd H a u:=by
 funext b;unfold upd;split<;>rfl
theorem ZaZ {H:Hp}{a b:Addr}{o u:HO} (h:H a=some o) (h':H b=some u) (d:o≠u):a≠b:=by
 intro e;subst e;rw [h] at h';exact d (Option.some.inj h')
theorem Zf {H:Hp}{a b:Addr}{o:HO} (h:H a=some o) (h':H b=none):a≠b:=by
 intro e;subst e;rw [h] at h';cases h'
section
variable (P:Program) (w:World)
def ZV (H:Hp) (h:Heap) (a:Addr):HO->Prop
 | .lst xs=>xs.length<=sizeLine /\ ∃(its:List Value) (n:Nat),Vals xs its/\h.get? a=some { cls:=.type "list", data:=.seq its.toArray n }
 | .tup xs=>xs.length<=sizeLine /\ ∃its:List Value,Vals xs its/\IsTup h a its.toArray
 | .dK kvs=>kvs.length<=sizeLine/\(a==sysModules)=false /\ ∃vs,KV kvs vs/\h.DictOf (ZH P w) a vs
 | .dT kvs=>kvs.length<=sizeLine/\(a==sysModules)=false /\ ∃xs:List (List Key×Addr×Value),
   Paired (fun (p:List Key×V) (q:List Key×Addr×Value)=>p.1=q.1/\H q.2.1=some (.tup (p.1.map kV))/\RelV p.2 q.2.2) kvs xs /\
   ∃o es ep,h.get? a=some o/\o.ExactDict/\o.data = .dict es ep/\es.toList=xs.map (entryOfKey (tupleKind (ZH P w)))/\(xs.map (·.1)).Nodup
 | .set S n=>h.SetOf (intKind P w) a S n
 | .ins C dx fs=>H dx=some (.own a)/\fs.length<=1000/\dx≠a/\h.get? a=some (PySem.W.instObj C dx) /\
   ∃mA,h.Ns1 dx mA/\(∀f,Zbv (fs.lookup f) (mA f))/\PySem.Within mA (fs.map (·.1))
 | .own _=>∃o,h.get? a=some o
 | .xd fs=>∃mA,h.Ns1 a mA /\ ∀f,Zbv (fs.lookup f) (mA f)
 | .rng lo hi=>∃t u v,h.get? a=some { cls:=.type "range", data:=.fields #[.int lo t,.int hi u,.int 1 v] }
 | .frz o u=>h.get? a=some o/\ZV H h a u
 | .tbl ps=>h.get? a=some { cls:=.none,data:=.fields ps }
 | .met f x=>h.get? a=some (PySem.W.methodObj (.ref f) (.ref x))
 | .ext φ=>φ h/\(∃o,h.get? a=some o) /\ ∀h1 h2:Heap,φ h1->(∀o,h1.get? a=some o->h2.get? a=some o) -> φ h2
def W0 (H:Hp) (h:Heap):Prop:=∀a o,H a=some o->ZV P w H h a o
end
section
variable {P:Program}{w:World}{H H':Hp}{h h':Heap}{a:Addr}{o:HO}
theorem ZV.lt (x:ZV P w H h a o):a<h.objs.size:=by
 cases o with
 | lst xs=>obtain ⟨_,_,_,_,e⟩:=x;exact Heap.lt_size e
 | tup xs=>obtain ⟨_,_,_,p⟩:=x;exact p.lt
 | dK kvs=>obtain ⟨_,_,_,_,o,_,_,e,_⟩:=x;exact Heap.lt_size e
 | dT kvs=>obtain ⟨_,_,_,_,o,_,_,e,_⟩:=x;exact Heap.lt_size e
 | set S n=>obtain ⟨o,_,_,_,e,_⟩:=x;exact Heap.lt_size e
 | ins C dx fs=>obtain ⟨_,_,_,e,_⟩:=x;exact Heap.lt_size e
 | own y=>obtain ⟨_,e⟩:=x;exact Heap.lt_size e
 | xd fs=>obtain ⟨_,⟨_,_,_,e,_⟩,_⟩:=x;exact Heap.lt_size e
 | rng lo hi=>obtain ⟨_,_,_,e⟩:=x;exact Heap.lt_size e
 | frz ob u=>obtain ⟨e,_⟩:=x;exact Heap.lt_size e
 | tbl ps=>exact Heap.lt_size (show h.get? a=some _ from x)
 | met f y=>exact Heap.lt_size (show h.get? a=some _ from x)
 | ext φ=>obtain ⟨_,⟨_,e⟩,_⟩:=x;exact Heap.lt_size e
theorem Paired.mapP {α β:Type}{F G:α -> β -> Prop}:∀{l₁:List α}{l₂:List β},Paired F l₁ l₂->(∀a b,F a b->G a b)->Paired G l₁ l₂
 | _,_,.nil,_=>.nil
 | _,_,.cons r t,f=>.cons (f _ _ r) (Paired.mapP t f)
theorem ZV.stay (x:ZV P w H h a o) (k:∀b u,(b=a∨H b=some (.own a))->h.get? b=some u->h'.get? b=some u)
  (ho:∀b,H b=some (.own a)->H' b=some (.own a)) (ht:∀b xs,H b=some (.tup xs)->H' b=some (.tup xs)):ZV P w H' h' a o:=by
 induction o with
 | lst xs=>obtain ⟨z,its,n,r,e⟩:=x;exact ⟨z,its,n,r,k _ _ (.inl rfl) e⟩
 | tup xs=>obtain ⟨z,its,r,ob,e,c⟩:=x;exact ⟨z,its,r,ob,k _ _ (.inl rfl) e,c⟩
 | dK kvs=>obtain ⟨z,y,vs,r,ob,es,ep,e,c⟩:=x;exact ⟨z,y,vs,r,ob,es,ep,k _ _ (.inl rfl) e,c⟩
 | dT kvs=>
  obtain ⟨z,y,xs,r,ob,es,ep,e,c⟩:=x
  exact ⟨z,y,xs,Paired.mapP r fun p q z=>⟨z.1,ht _ _ z.2.1,z.2.2⟩,ob,es,ep,k _ _ (.inl rfl) e,c⟩
 | set S n=>obtain ⟨ob,es,ep,t,e,c⟩:=x;exact ⟨ob,es,ep,t,k _ _ (.inl rfl) e,c⟩
 | ins C dx fs=>
  obtain ⟨d,z,ne,e,mA,⟨od,es,ep,e2,c⟩,r⟩:=x
  exact ⟨ho _ d,z,ne,k _ _ (.inl rfl) e,mA,⟨od,es,ep,k _ _ (.inr d) e2,c⟩,r⟩
 | own y=>obtain ⟨ob,e⟩:=x;exact ⟨ob,k _ _ (.inl rfl) e⟩
 | xd fs=>obtain ⟨mA,⟨od,es,ep,e,c⟩,r⟩:=x;exact ⟨mA,⟨od,es,ep,k _ _ (.inl rfl) e,c⟩,r⟩
 | rng lo hi=>obtain ⟨t,u,v,e⟩:=x;exact ⟨t,u,v,k _ _ (.inl rfl) e⟩
 | frz ob u ih=>obtain ⟨e,q⟩:=x;exact ⟨k _ _ (.inl rfl) e,ih q⟩
 | tbl ps=>
  have e:h.get? a=some { cls:=.none,data:=.fields ps }:=x
  show h'.get? a=some { cls:=.none,data:=.fields ps }
  exact k a _ (.inl rfl) e
 | met f y=>
  have e:h.get? a=some (PySem.W.methodObj (.ref f) (.ref y)):=x
  show h'.get? a=some (PySem.W.methodObj (.ref f) (.ref y))
  exact k a _ (.inl rfl) e
 | ext φ=>obtain ⟨p,⟨o,e⟩,st⟩:=x;exact ⟨st _ _ p fun o q=>k _ _ (.inl rfl) q,⟨o,k _ _ (.inl rfl) e⟩,st⟩
theorem W0.lt (x:W0 P w H h) (e:H a=some o):a<h.objs.size:=(x a o e).lt
theorem W0.fresh (x:W0 P w H h) (e:h.objs.size<=a):H a=none:=by
 cases q:H a with
 | none=>rfl
 | some u=>exact absurd (Nat.lt_of_lt_of_le (x.lt q) e) (Nat.lt_irrefl _)
theorem W0.kept (x:W0 P w H h) (k:∀b u,h.get? b=some u->h'.get? b=some u):W0 P w H h':=fun a o e=>
 (x a o e).stay (fun b u _ q=>k b u q) (fun _ q=>q) fun _ _ q=>q
theorem W0.laid (x:W0 P w H h) (k:∀b u,h.get? b=some u->h'.get? b=some u) (hp:h.objs.size<=a) (new:ZV P w (upd H a o) h' a o):W0 P w (upd H a o) h':=fun b u e=>by
 have hn:=x.fresh hp
 by_cases hb:b=a
 ·subst hb;rw [Zc] at e;cases e;exact new
 ·rw [Zh hb] at e
  exact (x b u e).stay (fun c v _ q=>k c v q) (fun c q=>by rw [Zh (Zf q hn)];exact q) fun c xs q=>by rw [Zh (Zf q hn)];exact q
end
def Rd (H:Hp) (a:Addr) (u:HO):Prop:=H a=some u ∨ ∃o,H a=some (.frz o u)
theorem Rd.ok {P:Program}{w:World}{H:Hp}{h:Heap}{a:Addr}{u:HO} (r:Rd H a u) (x:W0 P w H h):ZV P w H h a u:=by
 rcases r with r | ⟨o,r⟩
 ·exact x a u r
 ·obtain ⟨_,q⟩:=x a _ r
  exact q
def Mut:Option HO->Prop
 | some (.lst _)=>True
 | some (.dK _)=>True
 | some (.dT _)=>True
 | some (.set _ _)=>True
 | some (.ins _ _ _)=>True
 | some (.ext _)=>True
 | _=>False
section
variable {P:Program}{w:World}{H:Hp}{h h':Heap}{x e:Addr}{o':HO}
theorem W0.write (ok:W0 P w H h) (mu:Mut (H x)) (he:e=x∨H e=some (.own x)) (k:∀b u,b≠e->h.get? b=some u->h'.get? b=some u) (heo:∃u,h'.get? e=some u)
  (new:ZV P w (upd H x o') h' x o'):W0 P w (upd H x o') h':=fun b u q=>by
 have nown:∀c y,H c=some (.own y)->c≠x:=fun c y r z=>by subst z;rw [r] at mu;exact mu
 have ntup:∀c xs,H c=some (.tup xs)->c≠x:=fun c xs r z=>by subst z;rw [r] at mu;exact mu
 by_cases hb:b=x
 ·subst hb;rw [Zc] at q;cases q;exact new
 ·rw [Zh hb] at q
  by_cases hbe:b=e
  ·have q':H b=some (.own x):=by
    rcases he with z | z
    ·exact absurd (hbe.trans z) hb
    ·rw [hbe];exact z
   rw [q] at q';cases q'
   obtain ⟨v,hv⟩:=heo
   exact ⟨v,by rw [hbe];exact hv⟩
  ·refine (ok b u q).stay (fun c v hc r=>k c v ?_ r) (fun c r=>by rw [Zh (nown c b r)];exact r) fun c xs r=>by rw [Zh (ntup c xs r)];exact r
   rcases hc with rfl | hc
   ·exact hbe
   ·rintro rfl
    rcases he with z | z
    ·exact nown c b hc z
    ·rw [hc] at z;cases z;exact hb rfl
end
structure Un (fs ex:List Addr) (H H':Hp) (h h':Heap):Prop where
 keep:∀b o,h.get? b=some o->H b=none->b∉fs->b∉ex->h'.get? b=some o
 slot:∀b o,h.get? b=some o->H b=none->b∈fs->b∉ex -> ∃sl,h'.get? b=some { o with slots:=sl }
 free:∀b o,h.get? b=some o->H b=none->b∉ex->H' b=none
 there:∀b o,h.get? b=some o->b∉ex -> ∃o',h'.get? b=some o'
 tups:∀b xs,H b=some (.tup xs)->H' b=some (.tup xs)
 frzs:∀b o u,H b=some (.frz o u)->H' b=some (.frz o u)
 tbls:∀b ps,H b=some (.tbl ps) -> ∃more,H' b=some (.tbl (ps++more))
section
variable {fs fs' ex ex':List Addr}{H H1 H2:Hp}{h h1 h2 h':Heap}{a x e:Addr}{o:HO}
theorem Un.any (u:Un fs ex H H1 h h1) {b:Addr}{ob:Obj} (q:h.get? b=some ob) (n:H b=none) (hx:b∉ex):∃sl,h1.get? b=some { ob with slots:=sl }:=by
 by_cases hb:b∈fs
 ·exact u.slot b ob q n hb hx
 ·exact ⟨ob.slots,u.keep b ob q n hb hx⟩
theorem Un.kept (k:∀b u,h.get? b=some u->h'.get? b=some u):Un fs ex H H h h':=
 ⟨fun b ob q _ _ _=>k b ob q,fun b ob q _ _ _=>⟨ob.slots,k b ob q⟩,fun _ _ _ n _=>n,fun b ob q _=>⟨ob,k b ob q⟩,fun _ _ q=>q,fun _ _ _ q=>q,fun _ ps q=>⟨#[],by rw [q];simp⟩⟩
theorem Un.refl:Un fs ex H H h h:=Un.kept fun _ _ q=>q
theorem Un.laid (k:∀b u,h.get? b=some u->h'.get? b=some u) (hp:h.objs.size<=a) (hn:H a=none):Un fs ex H (upd H a o) h h' where
 keep:=fun b u q _ _ _=>k b u q
 slot:=fun b u q _ _ _=>⟨u.slots,k b u q⟩
 free:=fun b u q n _=>by rw [Zh (Nat.ne_of_lt (Nat.lt_of_lt_of_le (Heap.lt_size q) hp))];exact n
 there:=fun b u q _=>⟨u,k b u q⟩
 tups:=fun b xs q=>by rw [Zh (Zf q hn)];exact q
 frzs:=fun b u xs q=>by rw [Zh (Zf q hn)];exact q
 tbls:=fun b ps q=>⟨#[],by rw [Zh (Zf q hn),q];simp⟩
theorem Un.write (mu:Mut (H x)) (he:e=x∨H e=some (.own x)) (k:∀b u,b≠e->h.get? b=some u->h'.get? b=some u) (heo:∃u,h'.get? e=some u):Un fs ex H (upd H x o) h h':=by
 have hx:∀b,H b=none->b≠x:=fun b n z=>by subst z;rw [n] at mu;exact mu
 have hb:∀b,H b=none->b≠e:=fun b n z=>by
  subst z
  rcases he with r | r
  ·exact hx b n r
  ·rw [n] at r;cases r
 have hm:∀b u,H b=some u -> ¬Mut (some u)->b≠x:=fun b u q nm z=>by subst z;rw [q] at mu;exact nm mu
 refine ⟨fun b u q n _ _=>k b u (hb b n) q,fun b u q n _ _=>⟨u.slots,k b u (hb b n) q⟩,fun b u q n _=>by rw [Zh (hx b n)];exact n,fun b u q _=>?_,
  fun b xs q=>by rw [Zh (hm b _ q fun z=>z)];exact q,fun b u xs q=>by rw [Zh (hm b _ q fun z=>z)];exact q,fun b ps q=>⟨#[],by rw [Zh (hm b _ q fun z=>z),q];simp⟩⟩
 by_cases hbe:b=e
 ·subst hbe;exact heo
 ·exact ⟨u,k b u hbe q⟩
end
def trk (h:Heap) (H:Hp):List Addr:=(List.range h.objs.size).filter fun a=>(H a).isSome
def Zel (h:Heap) (H:Hp):Heap:=PySem.W.hideAll h (trk h H)
theorem ZhO (h:Heap) (H:Hp):(Zel h H).objs.size=h.objs.size:=PySem.W.hideAll_size _ _
theorem ZjL {h:Heap}{H:Hp}{b:Addr}{o:Obj} (e:h.get? b=some o) (n:H b=none):(Zel h H).get? b=some o:=
 PySem.W.hideAll_get _ e fun hm=>by
  have q:(H b).isSome=true:=(List.mem_filter.mp hm).2
  rw [n] at q;simp at q
theorem Zlj {h:Heap}{H:Hp}{b:Addr}{o:Obj} (e:(Zel h H).get? b=some o):h.get? b=some o/\H b=none:=by
 have e':h.get? b=some o:=PySem.W.of_hideAll (trk h H) e
 refine ⟨e',?_⟩
 cases q:H b with
 | none=>rfl
 | some x=>
  have hm:b∈trk h H:=List.mem_filter.mpr ⟨List.mem_range.mpr (Heap.lt_size e'),by simp [q]⟩
  have z:(Zel h H).get? b=none:=PySem.W.hideAll_none (trk h H) hm
  rw [z] at e;cases e
def W5 (g h:Heap) (L:Addr):List (Addr×Obj):=(List.range h.objs.size).filterMap fun a=>if a=L∨(g.get? a).isSome=true then none else (h.get? a).map fun o=>(a,o)
theorem UA {g h:Heap}{L a:Addr}{o:Obj} (h1:a≠L) (h2:g.get? a=none) (h3:h.get? a=some o):(a,o)∈W5 g h L:=
 List.mem_filterMap.mpr ⟨a,List.mem_range.mpr (Heap.lt_size h3),by simp [h1,h2,h3]⟩
theorem ZcL {g h:Heap}{L:Addr}{p:Addr×Obj} (hp:p∈W5 g h L):p.1≠L/\g.get? p.1=none/\h.get? p.1=some p.2:=by
 obtain ⟨b,_,e⟩:=List.mem_filterMap.mp hp
 split at e
 ·cases e
 ·rename_i hn
  cases q:h.get? b with
  | none=>rw [q] at e;simp at e
  | some u=>
   rw [q] at e
   simp only [Option.map_some,Option.some.injEq] at e
   subst e
   refine ⟨fun z=>hn (.inl z),?_,q⟩
   show g.get? b=none
   cases r:g.get? b with
   | none=>rfl
   | some v=>exact (hn (.inr (by simp [r]))).elim
theorem Zfy {g h:Heap}{L:Addr}:News g L h (W5 g h L):=fun p hp=>let ⟨a,b,c⟩:=ZcL hp;⟨c,a,b⟩
structure Mod (K:PySem.W.Frag) (mg:Str->Option Value) (base:Heap):Prop where
 kin:K.In base
 glob:base.Ns mainGlobals mg
 blt:∃mb,base.Ns builtinsNs mb /\ ∀x:Str,x ≠ "__name__" -> mb x=bootBuiltins x
 nolimit:base.NoLimit
structure Cx where
 prog:Program
 w:World
 K:PySem.W.Frag
 mg:Str->Option Value
 base:Heap
 A:Around
 N:List Str
 s₀:Shared
 H₀:Hp
 env:Env
 outer:List Env
 stack:List Env
 ex:List Addr
 fn:Str->Bool
 calm:Bool
 pn:List (Addr×Obj)
 xe:Value->Shared->Prop
def frs (l:List Env):List Addr:=l.filterMap (·.frame)
abbrev Cx.fs (X:Cx):List Addr:=frs X.outer
def Vis (sc:Scope) (x:Str):Prop:=sc.names.lookup x=some .local∨sc.names.lookup x=some .cell∨sc.names.lookup x=some .free
def Loc (sc:Scope) (x:Str):Prop:=sc.names.lookup x=some .local∨sc.names.lookup x=some .cell
def Look (env:Env) (h:Heap) (m:Str->Option Value) (x:Str) (u:Value):Prop:=
 (env.kindOf x=some .local/\m x=some u)∨((env.kindOf x=some .cell∨env.kindOf x=some .free) /\ ∃c,env.cells.lookup x=some c/\h.IsCell c (some u))
structure Cx.Ok (X:Cx):Prop where
 mod:Mod X.K X.mg X.base
 kind:X.env.scope.kind = .function
 glob:X.env.globals=mainGlobals
 blt:X.env.builtins=builtinsNs
 above:X.s₀.heap.objs.size<=X.env.locals
 inj:∀x y c,X.env.cells.lookup x=some c->X.env.cells.lookup y=some c->x=y
 has:∀x,(X.env.kindOf x=some .cell∨X.env.kindOf x=some .free) -> ∃c,X.env.cells.lookup x=some c
 cab:∀x c,X.fn x=true->X.env.cells.lookup x=some c->X.s₀.heap.objs.size<=c
 hd:X.calm=true->X.A.handled=none
 frames:X.A.frames=some X.stack
 stk:X.stack=X.outer∨(X.stack=X.env::X.outer/\X.env.frame=some X.env.locals)
 exf:∀b∈X.ex,b≠X.env.locals /\ ∀x c,X.env.cells.lookup x=some c->c≠b
 bs:∀b o,X.base.get? b=some o->X.s₀.heap.get? b=some o/\X.H₀ b=none
 bsz:X.base.objs.size<=X.s₀.heap.objs.size
 noex:∀b o,X.base.get? b=some o->b∉X.ex
 exfs:∀b∈X.ex,b∉X.fs
 funs:X.s₀.heap.FunFrames X.base X.outer
 frf:∀b∈X.fs,X.H₀ b=none
structure Inv (X:Cx) (pins:List (Addr×Obj)) (σ:List (Option V)) (H:Hp) (s:Shared):Prop where
 ok:X.Ok
 os:s.os=X.s₀.os
 bare:AllBare s.gens
 base:Un X.fs X.ex X.H₀ H X.s₀.heap s.heap
 loc:∃m,s.heap.Ns X.env.locals m /\ ∀(i:Nat) (x:Str) (v:V),X.N[i]? = some x -> σ[i]? = some (some v)->Vis X.env.scope x -> ∃u,RelV v u/\Look X.env s.heap m x u
 cell:∀x c,X.env.cells.lookup x=some c -> ∃v,s.heap.IsCell c v
 free:H X.env.locals=none
 freeC:∀x c,X.env.cells.lookup x=some c->H c=none
 pin:∀p∈X.pn++pins,s.heap.get? p.1=some p.2/\H p.1=none/\p.1≠X.env.locals/\p.1∉X.fs /\ ∀v,p.2.data ≠ .cell v
 hok:W0 X.prog X.w H s.heap
 len:σ.length=X.N.length
section
variable {X:Cx}{pins:List (Addr×Obj)} {σ:List (Option V)}{H H':Hp}{s:Shared}{h':Heap}
theorem Cx.Ok.nofr (ok:X.Ok) {b:Addr}{o:Obj} (e:X.base.get? b=some o):b∉X.fs:=fun hb=>by
 have:=(ok.funs.mem hb).1
 rw [e] at this;cases this
theorem Inv.bs (I:Inv X pins σ H s):∀b o,X.base.get? b=some o->s.heap.get? b=some o/\H b=none:=fun b o e=>
 ⟨I.base.keep b o (I.ok.bs b o e).1 (I.ok.bs b o e).2 (I.ok.nofr e) (I.ok.noex b o e),I.base.free b o (I.ok.bs b o e).1 (I.ok.bs b o e).2 (I.ok.noex b o e)⟩
theorem Inv.bk (I:Inv X pins σ H s):∀b o,X.base.get? b=some o->s.heap.get? b=some o:=fun b o e=>(I.bs b o e).1
theorem Inv.mod (I:Inv X pins σ H s):Mod X.K X.mg X.base:=I.ok.mod
theorem Inv.kIn (I:Inv X pins σ H s):X.K.In s.heap:=I.ok.mod.kin.keeps I.bk
theorem Inv.fr (I:Inv X pins σ H s):∃m,Fr X.base X.env.locals s.heap m:=
 let ⟨m,hn,_⟩:=I.loc
 ⟨m,hn,I.bk,Nat.le_trans I.ok.bsz I.ok.above⟩
theorem Inv.lt (I:Inv X pins σ H s):X.env.locals<s.heap.objs.size:=let ⟨_,hn,_⟩:=I.loc;hn.lt
theorem Inv.sz (I:Inv X pins σ H s):X.s₀.heap.objs.size<=s.heap.objs.size:=Nat.le_trans I.ok.above (Nat.le_of_lt I.lt)
theorem Inv.nofs (I:Inv X pins σ H s) {a:Addr} (h:s.heap.objs.size<=a):a∉X.fs:=fun hb=>by
 obtain ⟨_,o,ho,_⟩:=I.ok.funs.mem hb
 exact absurd (Nat.lt_of_lt_of_le (Heap.lt_size ho) (Nat.le_trans I.sz h)) (Nat.lt_irrefl _)
theorem Inv.cne (I:Inv X pins σ H s):∀x c,X.env.cells.lookup x=some c->c≠X.env.locals:=fun x c e z=>by
 obtain ⟨v,o,ho,hd⟩:=I.cell x c e
 obtain ⟨m,⟨o',es,ep,ho',hd',_⟩,_⟩:=I.loc
 rw [z,ho'] at ho;cases ho;rw [hd'] at hd;cases hd
theorem Inv.funs (I:Inv X pins σ H s):s.heap.FunFrames X.base X.outer:=by
 have all:∀(l:List Env),(∀b∈frs l,b∈X.fs)->X.s₀.heap.FunFrames X.base l->s.heap.FunFrames X.base l:=by
  intro l
  induction l with
  | nil=>intro _ _;trivial
  | cons env r ih=>
   intro hs hl
   obtain ⟨hk,⟨L,o,hf,hn,ho,hd⟩,hr⟩:=hl
   have hL:L∈X.fs:=hs L (by unfold frs;rw [List.filterMap_cons,hf];exact List.mem_cons_self)
   obtain ⟨sl,e⟩:=I.base.slot L o ho (I.ok.frf L hL) hL fun z=>I.ok.exfs L z hL
   exact ⟨hk,⟨L,_,hf,hn,e,hd⟩,ih (fun b hb=>hs b (by unfold frs;rw [List.filterMap_cons,hf];exact List.mem_cons_of_mem _ hb)) hr⟩
 exact all X.outer (fun _ hb=>hb) I.ok.funs
theorem Inv.stack (I:Inv X pins σ H s):s.heap.FunFrames X.base X.stack:=by
 rcases I.ok.stk with e | ⟨e,hf⟩
 ·rw [e];exact I.funs
 ·rw [e]
  obtain ⟨m,hn,_⟩:=I.loc
  refine .cons (by rw [I.ok.kind];decide) hf hn ?_ I.funs
  exact Heap.get?_none_of_le (Nat.le_trans I.ok.bsz I.ok.above)
theorem Inv.stkSub (I:Inv X pins σ H s):∀b∈frs X.stack,b∈X.env.locals::X.fs:=fun b hb=>by
 rcases I.ok.stk with e | ⟨e,hf⟩
 ·rw [e] at hb;exact List.mem_cons_of_mem _ hb
 ·rw [e] at hb
  unfold frs at hb
  rw [List.filterMap_cons,hf] at hb
  exact hb
theorem Inv.stkFree (I:Inv X pins σ H s):∀b∈frs X.stack,H b=none:=fun b hb=>by
 rcases List.mem_cons.mp (I.stkSub b hb) with e | hb
 ·rw [e];exact I.free
 ·obtain ⟨_,o,ho,_⟩:=I.ok.funs.mem hb
  exact I.base.free b o ho (I.ok.frf b hb) fun z=>I.ok.exfs b z hb
theorem Inv.step {g':Array GenState}{t':Nat}{d':Drawn}{ch:List Addr} (I:Inv X pins σ H s)
  (hch:∀b∈ch,(b∈X.ex∨X.s₀.heap.objs.size<=b)/\b≠X.env.locals/\(∀x c,X.env.cells.lookup x=some c->c≠b) /\ ∀p∈X.pn++pins,p.1≠b)
  (keep:∀b o,b≠X.env.locals->b∉X.fs->b∉ch->s.heap.get? b=some o->H b=none->h'.get? b=some o)
  (slot:∀b o,b≠X.env.locals->b∈X.fs->b∉ch->s.heap.get? b=some o->H b=none -> ∃sl,h'.get? b=some { o with slots:=sl }) (free:∀b o,b∉ch->s.heap.get? b=some o->H b=none->H' b=none)
  (there:∀b o,b∉ch->s.heap.get? b=some o -> ∃o',h'.get? b=some o')
  (tups:∀b xs,H b=some (.tup xs)->H' b=some (.tup xs)) (frzs:∀b o u,H b=some (.frz o u)->H' b=some (.frz o u)) (tbls:∀b ps,H b=some (.tbl ps) -> ∃more,H' b=some (.tbl (ps++more)))
  (ns:∀m,s.heap.Ns X.env.locals m->h'.Ns X.env.locals m) (hok:W0 X.prog X.w H' h') (hg:AllBare g'):
  Inv X pins σ H' { s with heap:=h',gens:=g',drawn:=d',toks:=t' }:=by
 have neL:∀b o,X.s₀.heap.get? b=some o->b≠X.env.locals:=fun b o e=>Nat.ne_of_lt (Nat.lt_of_lt_of_le (Heap.lt_size e) I.ok.above)
 have neC:∀b o,X.s₀.heap.get? b=some o->b∉X.ex->b∉ch:=fun b o e hx hb=>by
  rcases (hch b hb).1 with z | z
  ·exact hx z
  ·exact absurd (Nat.lt_of_lt_of_le (Heap.lt_size e) z) (Nat.lt_irrefl _)
 have cellK:∀x c,X.env.cells.lookup x=some c -> ∀v,s.heap.IsCell c v->h'.IsCell c v:=fun x c e v ⟨o,ho,hd⟩=>by
  have nch:c∉ch:=fun z=>(hch c z).2.2.1 x c e rfl
  by_cases hc:c∈X.fs
  ·obtain ⟨sl,q⟩:=slot c o (I.cne x c e) hc nch ho (I.freeC x c e)
   exact ⟨_,q,hd⟩
  ·exact ⟨o,keep c o (I.cne x c e) hc nch ho (I.freeC x c e),hd⟩
 refine ⟨I.ok,I.os,hg,⟨fun b o e n hb hx=>?_,fun b o e n hb hx=>?_,fun b o e n hx=>?_,fun b o e hx=>?_,fun b xs e=>tups b xs (I.base.tups b xs e),fun b o xs e=>frzs b o xs (I.base.frzs b o xs e),fun b ps e=>?_⟩,?_,fun x c e=>?_,?_,fun x c e=>?_,fun p hp=>?_,hok,I.len⟩
 ·exact keep b o (neL b o e) hb (neC b o e hx) (I.base.keep b o e n hb hx) (I.base.free b o e n hx)
 ·obtain ⟨sl,e1⟩:=I.base.slot b o e n hb hx
  obtain ⟨sl',e2⟩:=slot b _ (neL b o e) hb (neC b o e hx) e1 (I.base.free b o e n hx)
  exact ⟨sl',e2⟩
 ·obtain ⟨o',e1⟩:=I.base.there b o e hx
  exact free b o' (neC b o e hx) e1 (I.base.free b o e n hx)
 ·obtain ⟨o',e1⟩:=I.base.there b o e hx
  exact there b o' (neC b o e hx) e1
 ·obtain ⟨m1,e1⟩:=I.base.tbls b ps e
  obtain ⟨m2,e2⟩:=tbls b _ e1
  exact ⟨m1++m2,by rw [e2,Array.append_assoc]⟩
 ·obtain ⟨m,hn,hl⟩:=I.loc
  refine ⟨m,ns m hn,fun i x v e1 e2 e3=>?_⟩
  obtain ⟨u,r,l⟩:=hl i x v e1 e2 e3
  refine ⟨u,r,?_⟩
  rcases l with l | ⟨k,c,e,z⟩
  ·exact .inl l
  ·exact .inr ⟨k,c,e,cellK x c e _ z⟩
 ·obtain ⟨v,z⟩:=I.cell x c e
  exact ⟨v,cellK x c e v z⟩
 ·obtain ⟨m,⟨o,_,_,ho,_⟩,_⟩:=I.loc
  exact free _ o (fun z=>(hch _ z).2.1 rfl) ho I.free
 ·obtain ⟨v,o,ho,hd⟩:=I.cell x c e
  exact free c o (fun z=>(hch c z).2.2.1 x c e rfl) ho (I.freeC x c e)
 ·obtain ⟨e,n,ne,nf,d⟩:=I.pin p hp
  have nch:p.1∉ch:=fun z=>(hch p.1 z).2.2.2 p hp rfl
  exact ⟨keep p.1 p.2 ne nf nch e n,free p.1 p.2 nch e n,ne,nf,d⟩
theorem Inv.un {t':Nat} (I:Inv X pins σ H s) (u:Un X.fs [] H H' s.heap h') (hok:W0 X.prog X.w H' h'):Inv X pins σ H' { s with heap:=h',toks:=t' }:=by
 obtain ⟨m,⟨o,es,ep,ho,r⟩,_⟩:=id I.loc
 obtain ⟨sl,hL⟩:=u.any ho I.free (by simp)
 exact I.step (g':=s.gens) (d':=s.drawn) (ch:=[]) (fun _ z=>nomatch z) (fun b o _ hb _ e n=>u.keep b o e n hb (by simp)) (fun b o _ hb _ e n=>u.slot b o e n hb (by simp)) (fun b o _ e n=>u.free b o e n (by simp)) (fun b o _ e=>u.there b o e (by simp)) u.tups u.frzs u.tbls (fun m' hm=>by
  obtain ⟨o',es',ep',ho',r'⟩:=hm
  rw [ho] at ho';cases ho'
  exact ⟨_,es',ep',hL,r'⟩) hok I.bare
theorem Inv.call {g':Array GenState}{t':Nat}{d':Drawn}{ch:List Addr} (I:Inv X pins σ H s) (u:Un (frs X.stack) ch H H' s.heap h') (hok:W0 X.prog X.w H' h') (hg:AllBare g')
  (hch:∀b∈ch,(b∈X.ex∨X.s₀.heap.objs.size<=b)/\b≠X.env.locals/\(∀x c,X.env.cells.lookup x=some c->c≠b) /\ ∀p∈X.pn++pins,p.1≠b):
  Inv X pins σ H' { s with heap:=h',gens:=g',drawn:=d',toks:=t' }:=by
 obtain ⟨m,⟨o,es,ep,ho,r⟩,_⟩:=id I.loc
 obtain ⟨sl,hL⟩:=u.any ho I.free fun z=>(hch _ z).2.1 rfl
 exact I.step (ch:=ch) hch (fun b o hL hb hc e n=>u.keep b o e n (fun z=>(List.mem_cons.mp (I.stkSub b z)).elim hL hb) hc) (fun b o _ _ hc e n=>u.any e n hc) (fun b o hc e n=>u.free b o e n hc) (fun b o hc e=>u.there b o e hc) u.tups u.frzs u.tbls (fun m' hm=>by
  obtain ⟨o',es',ep',ho',r'⟩:=hm
  rw [ho] at ho';cases ho'
  exact ⟨_,es',ep',hL,r'⟩) hok hg
theorem Inv.turned {t':Nat}{it:Addr} (I:Inv X pins σ H s) (k:∀b o,b≠it->s.heap.get? b=some o->h'.get? b=some o) (hn:H it=none) (hL:it≠X.env.locals)
  (h1:it∈X.ex∨X.s₀.heap.objs.size<=it) (h2:∀x c,X.env.cells.lookup x=some c->c≠it) (h3:∀p∈X.pn++pins,p.1≠it):Inv X pins σ H { s with heap:=h',toks:=t' }:=by
 have nit:∀b u,H b=some u->b≠it:=fun b u e z=>by rw [z,hn] at e;cases e
 refine I.step (g':=s.gens) (d':=s.drawn) (ch:=[it]) (fun b hb=>?_) (fun b o _ _ hc e _=>k b o (fun z=>hc (by simp [z])) e) (fun b o _ _ hc e _=>⟨o.slots,k b o (fun z=>hc (by simp [z])) e⟩) (fun _ _ _ _ n=>n)
  (fun b o hc e=>⟨o,k b o (fun z=>hc (by simp [z])) e⟩) (fun _ _ e=>e) (fun _ _ _ e=>e) (fun b ps e=>⟨#[],by rw [e];simp⟩) (fun m hm=>?_) (fun b u e=>?_) I.bare
 ·have e:b=it:=by simpa using hb
  subst e
  exact ⟨h1,hL,h2,h3⟩
 ·obtain ⟨o,es,ep,ho,r⟩:=hm
  exact ⟨o,es,ep,k _ o (Ne.symm hL) ho,r⟩
 ·refine (I.hok b u e).stay (fun c v hc q=>k c v ?_ q) (fun _ q=>q) fun _ _ q=>q
  rcases hc with z | z
  ·rw [z];exact nit b u e
  ·exact nit c _ z
theorem Inv.tok (I:Inv X pins σ H s) (t:Nat):Inv X pins σ H { s with toks:=t }:=I.un (h':=s.heap) (t':=t) Un.refl I.hok
theorem Inv.kept {t':Nat} (I:Inv X pins σ H s) (k:∀b u,s.heap.get? b=some u->h'.get? b=some u):Inv X pins σ H { s with heap:=h',toks:=t' }:=I.un (Un.kept k) (I.hok.kept k)
theorem Inv.laid {a:Addr}{o:HO}{t':Nat} (I:Inv X pins σ H s) (k:∀b u,s.heap.get? b=some u->h'.get? b=some u) (hp:s.heap.objs.size<=a) (new:ZV X.prog X.w (upd H a o) h' a o):
  Inv X pins σ (upd H a o) { s with heap:=h',toks:=t' }:=I.un (Un.laid k hp (I.hok.fresh hp)) (I.hok.laid k hp new)
theorem Inv.write {x e:Addr}{o:HO}{t':Nat} (I:Inv X pins σ H s) (mu:Mut (H x)) (he:e=x∨H e=some (.own x)) (k:∀b u,b≠e->s.heap.get? b=some u->h'.get? b=some u) (heo:∃u,h'.get? e=some u)
  (new:ZV X.prog X.w (upd H x o) h' x o):Inv X pins σ (upd H x o) { s with heap:=h',toks:=t' }:=I.un (Un.write mu he k heo) (I.hok.write mu he k heo new)
theorem Inv.pins_of {pins':List (Addr×Obj)} (I:Inv X pins σ H s) (h:∀p∈pins',s.heap.get? p.1=some p.2/\H p.1=none/\p.1≠X.env.locals/\p.1∉X.fs /\ ∀v,p.2.data ≠ .cell v):Inv X pins' σ H s:=
 ⟨I.ok,I.os,I.bare,I.base,I.loc,I.cell,I.free,I.freeC,fun p hp=>(List.mem_append.mp hp).elim (fun z=>I.pin p (List.mem_append_left _ z)) (h p),I.hok,I.len⟩
theorem ZfV {N:List Str} (hN:N.Nodup) {i j:Nat}{x:Str} (a:N[i]? = some x) (b:N[j]? = some x):i=j:=by
 obtain ⟨h1,e1⟩:=List.getElem?_eq_some_iff.mp a
 obtain ⟨h2,e2⟩:=List.getElem?_eq_some_iff.mp b
 exact (List.getElem_inj hN).mp (e1.trans e2.symm)
theorem ZdS {M:Model}{A:Around}{E:Value->Shared->Prop}{i:Nat}{x:Str}{v:V}{u:Value}{Q:Unit->Shared->Prop} (I:Inv X pins σ H s) (hN:X.N.Nodup) (hi:X.N[i]? = some x) (hx:Loc X.env.scope x) (r:RelV v u)
  (h:∀s',Inv X pins (σ.set i (some v)) H s'->(∃a,Heap.SameBut a s.heap s'.heap/\(a=X.env.locals∨X.env.cells.lookup x=some a))->Q () s') (hf:X.fn x=true∨X.env.scope.names.lookup x=some .local:=by first | exact .inl rfl | exact .inr rfl | assumption):wpAny M A (storeName X.env x u) Q E s:=by
 obtain ⟨m,hn,hl⟩:=id I.loc
 have hcls:(X.env.scope.kind == .class||(X.env.scope.kind == .module&&X.env.locals != X.env.globals))=false:=by rw [I.ok.kind];rfl
 have hiσ:i < σ.length:=by rw [I.len];exact (List.getElem?_eq_some_iff.mp hi).1
 have cne:=I.cne
 have tracked:∀{a:Addr}{h':Heap},(∃o,s.heap.get? a=some o/\H a=none)->Heap.SameBut a s.heap h'->W0 X.prog X.w H h':=fun {a h'} ha hs b ob e=>by
  obtain ⟨_,_,hfree⟩:=ha
  refine (I.hok b ob e).stay (fun c w' hc q=>(hs.2 c ?_).trans q) (fun _ q=>q) fun _ _ q=>q
  rintro rfl
  rcases hc with rfl | hc
  ·rw [hfree] at e;cases e
  ·rw [hfree] at hc;cases hc
 rcases hx with hk | hk
 ·refine wpAny_storeName_local hk hn (fun h' hn' hs=>?_) hcls
  obtain ⟨oL,_,_,hoL,_⟩:=id hn
  refine h _ ⟨I.ok,I.os,I.bare,⟨fun b o e n hb hx=>?_,fun b o e n hb hx=>?_,I.base.free,fun b o e hx=>?_,I.base.tups,I.base.frzs,I.base.tbls⟩,⟨_,hn',fun j y v' e1 e2 e3=>?_⟩,fun y c e=>?_,I.free,I.freeC,fun p hp=>?_,tracked ⟨oL,hoL,I.free⟩ hs,by simpa using I.len⟩ ⟨_,hs,.inl rfl⟩
  ·exact (hs.2 b (Nat.ne_of_lt (Nat.lt_of_lt_of_le (Heap.lt_size e) I.ok.above))).trans (I.base.keep b o e n hb hx)
  ·obtain ⟨sl,e1⟩:=I.base.slot b o e n hb hx
   exact ⟨sl,(hs.2 b (Nat.ne_of_lt (Nat.lt_of_lt_of_le (Heap.lt_size e) I.ok.above))).trans e1⟩
  ·obtain ⟨o',e1⟩:=I.base.there b o e hx
   exact ⟨o',(hs.2 b (Nat.ne_of_lt (Nat.lt_of_lt_of_le (Heap.lt_size e) I.ok.above))).trans e1⟩
  ·by_cases hj:j=i
   ·subst hj
    rw [hi] at e1;cases e1
    rw [List.getElem?_set_self hiσ] at e2
    cases e2
    exact ⟨u,r,.inl ⟨hk,by simp⟩⟩
   ·rw [List.getElem?_set_ne (Ne.symm hj)] at e2
    obtain ⟨u',r',q⟩:=hl j y v' e1 e2 e3
    refine ⟨u',r',?_⟩
    rcases q with ⟨k,e⟩ | ⟨k,c,e,z⟩
    ·refine .inl ⟨k,?_⟩
     have:y≠x:=fun e=>hj (ZfV hN e1 (e ▸ hi))
     simp [this,e]
    ·exact .inr ⟨k,c,e,z.sameBut hs (cne y c e)⟩
  ·obtain ⟨w',z⟩:=I.cell y c e
   exact ⟨w',z.sameBut hs (cne y c e)⟩
  ·obtain ⟨e,n,ne,nf,d⟩:=I.pin p hp
   exact ⟨(hs.2 p.1 ne).trans e,n,ne,nf,d⟩
 ·have hfn:X.fn x=true:=by
   rcases hf with z | z
   ·exact z
   ·rw [z] at hk;cases hk
  obtain ⟨c,hc⟩:=I.ok.has x (.inl hk)
  obtain ⟨w',z⟩:=I.cell x c hc
  refine wpAny_storeName_cell I.ok.kind hk hc z (fun h' hc' hs=>?_)
  obtain ⟨oc,hoc,hocd⟩:=id z
  refine h { s with heap:=h' } ⟨I.ok,I.os,I.bare,⟨fun b o e n hb hx=>?_,fun b o e n hb hx=>?_,I.base.free,fun b o e hx=>?_,I.base.tups,I.base.frzs,I.base.tbls⟩,⟨m,hn.sameBut hs (Ne.symm (cne x c hc)),fun j y v' e1 e2 e3=>?_⟩,fun y c' e=>?_,I.free,I.freeC,fun p hp=>?_,tracked ⟨oc,hoc,I.freeC x c hc⟩ hs,by simpa using I.len⟩ ⟨c,hs,.inr hc⟩
  ·exact (hs.2 b (Nat.ne_of_lt (Nat.lt_of_lt_of_le (Heap.lt_size e) (I.ok.cab x c hfn hc)))).trans (I.base.keep b o e n hb hx)
  ·obtain ⟨sl,e1⟩:=I.base.slot b o e n hb hx
   exact ⟨sl,(hs.2 b (Nat.ne_of_lt (Nat.lt_of_lt_of_le (Heap.lt_size e) (I.ok.cab x c hfn hc)))).trans e1⟩
  ·obtain ⟨o',e1⟩:=I.base.there b o e hx
   exact ⟨o',(hs.2 b (Nat.ne_of_lt (Nat.lt_of_lt_of_le (Heap.lt_size e) (I.ok.cab x c hfn hc)))).trans e1⟩
  ·by_cases hj:j=i
   ·subst hj
    rw [hi] at e1;cases e1
    rw [List.getElem?_set_self hiσ] at e2
    cases e2
    exact ⟨u,r,.inr ⟨.inl hk,c,hc,hc'⟩⟩
   ·rw [List.getElem?_set_ne (Ne.symm hj)] at e2
    obtain ⟨u',r',q⟩:=hl j y v' e1 e2 e3
    refine ⟨u',r',?_⟩
    rcases q with q | ⟨k,c',e,z'⟩
    ·exact .inl q
    ·refine .inr ⟨k,c',e,z'.sameBut hs ?_⟩
     rintro rfl
     exact hj (ZfV hN e1 (I.ok.inj _ _ _ e hc ▸ hi))
  ·by_cases hcc:c'=c
   ·subst hcc;exact ⟨_,hc'⟩
   ·obtain ⟨w2,z2⟩:=I.cell y c' e
    exact ⟨w2,z2.sameBut hs hcc⟩
  ·obtain ⟨e,n,ne,nf,d⟩:=I.pin p hp
   refine ⟨(hs.2 p.1 ?_).trans e,n,ne,nf,d⟩
   intro q
   rw [q,hoc] at e
   have q':oc=p.2:=Option.some.inj e
   exact d w' (by rw [<- q'];exact hocd)
theorem U0 {M:Model}{A:Around}{E:Value->Shared->Prop}{i:Nat}{x:Str}{v:V}{u:Value}{Q:Unit->Shared->Prop} (I:Inv X pins σ H s) (hN:X.N.Nodup) (hi:X.N[i]? = some x) (hx:Loc X.env.scope x) (r:RelV v u)
  (h:∀s',Inv X pins (σ.set i (some v)) H s'->Q () s') (hf:X.fn x=true∨X.env.scope.names.lookup x=some .local:=by first | exact .inl rfl | exact .inr rfl | assumption):wpAny M A (storeName X.env x u) Q E s:=
 ZdS I hN hi hx r (fun s' I' _=>h s' I') hf
theorem Inv.call' {s':Shared}{ch:List Addr} (I:Inv X pins σ H s) (ho:s'.os=s.os) (u:Un (frs X.stack) ch H H' s.heap s'.heap) (hok:W0 X.prog X.w H' s'.heap) (hg:AllBare s'.gens)
  (hch:∀b∈ch,(b∈X.ex∨X.s₀.heap.objs.size<=b)/\b≠X.env.locals/\(∀x c,X.env.cells.lookup x=some c->c≠b) /\ ∀p∈X.pn++pins,p.1≠b):Inv X pins σ H' s':=by
 obtain ⟨h',g',d',t',o'⟩:=s'
 have e:o'=s.os:=ho
 subst e
 exact I.call (g':=g') (t':=t') (d':=d') u hok hg hch
end
abbrev XK:=Value->Option Addr->Hp->Prop
abbrev St:=List (Option V)
abbrev VK:=V->Hp->Prop
abbrev TE:=St->Hp->VK->Prop
abbrev TT:=St->Hp->(Bool->Hp->Prop)->Prop
abbrev TA:=St->Hp->(List V->Hp->Prop)->Prop
structure Ends where
 nx:St->Hp->Prop
 rt:VK
 bk:St->Hp->Prop:=fun _ _=>False
 ct:St->Hp->Prop:=fun _ _=>False
abbrev TS:=Ends->St->Hp->Prop
def EP (X:Cx) (pins:List (Addr×Obj)) (σ:St) (Q:VK) (u:Value) (s':Shared):Prop:=∃v H',Inv X pins σ H' s'/\RelV v u/\Q v H'
def TP (X:Cx) (pins:List (Addr×Obj)) (σ:St) (Q:Bool->Hp->Prop) (b:Bool) (s':Shared):Prop:=∃H',Inv X pins σ H' s'/\Q b H'
def AP (X:Cx) (pins:List (Addr×Obj)) (σ:St) (Q:List V->Hp->Prop) (us:List Value) (s':Shared):Prop:=∃vs H',Inv X pins σ H' s'/\Vals vs us/\Q vs H'
def SP (X:Cx) (pins:List (Addr×Obj)) (D:Ends) (f:Flow) (s':Shared):Prop:=
 match f with
 | .next=>∃ σ' H',Inv X pins σ' H' s'/\D.nx σ' H'
 | .brk=>∃ σ' H',Inv X pins σ' H' s'/\D.bk σ' H'
 | .cont=>∃ σ' H',Inv X pins σ' H' s'/\D.ct σ' H'
 | .ret u=>∃v σ' H',Inv X pins σ' H' s'/\RelV v u/\D.rt v H'
def PE (X:Cx) (e:Expr) (t:TE):Prop:=
 ∀(pins:List (Addr×Obj)) (s:Shared) (σ:St) (H:Hp) (Q:VK),Inv X pins σ H s->t σ H Q->wpAny (model X.prog X.w) X.A (eval e X.env) (EP X pins σ Q) X.xe s
def PT (X:Cx) (e:Expr) (t:TT):Prop:=
 ∀(pins:List (Addr×Obj)) (s:Shared) (σ:St) (H:Hp) (Q:Bool->Hp->Prop),Inv X pins σ H s->t σ H Q->wpAny (model X.prog X.w) X.A (isTrue e X.env (eval e X.env)) (TP X pins σ Q) X.xe s
def PW (X:Cx) (e:Expr) (t:TT):Prop:=
 ∀(whole:Sem Value) (pins:List (Addr×Obj)) (s:Shared) (σ:St) (H:Hp) (Q:Bool->Hp->Prop),Inv X pins σ H s->t σ H Q->wpAny (model X.prog X.w) X.A (isTrue e X.env whole) (TP X pins σ Q) X.xe s
theorem PW.pt {X:Cx}{e:Expr}{t:TT} (h:PW X e t):PT X e t:=h _
def PA (X:Cx) (es:List Expr) (t:TA):Prop:=
 ∀(pos:Pos) (pins:List (Addr×Obj)) (s:Shared) (σ:St) (H:Hp) (Q:List V->Hp->Prop),Inv X pins σ H s->t σ H Q->wpAny (model X.prog X.w) X.A (spliced (backTo pos (starEach es X.env))) (AP X pins σ Q) X.xe s
def PS (X:Cx) (st:Stmt) (t:TS):Prop:=
 ∀(pins:List (Addr×Obj)) (s:Shared) (σ:St) (H:Hp) (D:Ends),Inv X pins σ H s->t D σ H->wpAny (model X.prog X.w) X.A (exec st X.env) (SP X pins D) X.xe s
def PSs (X:Cx) (st:List Stmt) (t:TS):Prop:=
 ∀(pins:List (Addr×Obj)) (s:Shared) (σ:St) (H:Hp) (D:Ends),Inv X pins σ H s->t D σ H->wpAny (model X.prog X.w) X.A (execs st X.env) (SP X pins D) X.xe s
theorem Yq {α:Type}{t:Sem α}{Q Q':α -> Shared->Prop}{M:Model}{A:Around}{E:Value->Shared->Prop}{s:Shared} (h:wpAny M A t Q E s) (hQ:∀a s,Q a s->Q' a s):wpAny M A t Q' E s:=wpAny_mono h hQ fun _ _ x=>x
section
variable {X:Cx}
def Yv (i:Nat):TE:=fun σ H Q=>∃v,σ[i]? = some (some v)/\Q v H
def tC (v:V):TE:=fun _ H Q=>Q v H
theorem ZmL {i:Nat}{x:Str}{pos:Pos} (hN:X.N[i]? = some x) (hv:Vis X.env.scope x) (hd:(x==("__debug__" : Str))=false:=by decide) (hcd:(x==("__classdict__" : Str))=false:=by decide):PE X (.Name x pos) (Yv i):=by
 intro pins s σ H Q I h
 obtain ⟨v,e,h⟩:=h
 obtain ⟨m,hn,hl⟩:=I.loc
 obtain ⟨u,r,l⟩:=hl i x v hN e hv
 have fin:EP X pins σ Q u s:=⟨v,H,I,r,h⟩
 rcases l with ⟨hk,hm⟩ | ⟨hk,c,hc,hcell⟩
 ·exact wpAny_Name (wpAny_loadName_local I.ok.kind hk hn hm fin) hd
 ·rcases hk with hk | hk
  ·exact wpAny_Name (wpAny_loadName_cell I.ok.kind hk hc hcell fin) hd
  ·exact wpAny_Name (wpAny_loadName_free I.ok.kind hk hc hcell fin hcd) hd
theorem Zd {i j pos}:PE X (.Constant (.int i) j pos) (tC (.int i)):=fun _ _ _ H _ I h=>wpAny_Constant_int ⟨.int i,H,I.tok _,⟨_,rfl⟩,h⟩
theorem Zaw {b j pos}:PE X (.Constant (.bool b) j pos) (tC (.bl b)):=fun _ _ _ H _ I h=>Constant_bool ⟨.bl b,H,I,rfl,h⟩
theorem UP {j pos}:PE X (.Constant .none j pos) (tC .non):=fun _ _ _ H _ I h=>Constant_none ⟨.non,H,I,rfl,h⟩
theorem ZG {x j pos}:PE X (.Constant (.str x) j pos) (tC (.str x)):=fun _ _ _ H _ I h=>Calls.Constant_str ⟨.str x,H,I.tok _,⟨_,rfl⟩,h⟩
def Gl (X:Cx) (x:Str):Prop:=X.env.kindOf x=some .globalImplicit
theorem ZhF {E:Value->Shared->Prop}{pins:List (Addr×Obj)}{s:Shared} {σ:St}{H:Hp}{x:Str}{u:Value}{pos:Pos}{Q:Value->Shared->Prop} (I:Inv X pins σ H s) (hg:Gl X x) (hm:X.mg x=some u) (h:Q u s)
  (hd:(x==("__debug__" : Str))=false:=by decide):wpAny (model X.prog X.w) X.A (eval (.Name x pos) X.env) Q E s:=
 Calls.Name_function_global I.ok.kind hg (Calls.loadGlobal_global (by rw [I.ok.glob];exact I.mod.glob.keeps I.bk) hm h) hd
theorem GN {E:Value->Shared->Prop}{pins:List (Addr×Obj)}{s:Shared} {σ:St}{H:Hp}{x:Str}{u:Value}{pos:Pos}{Q:Value->Shared->Prop} (I:Inv X pins σ H s) (hg:Gl X x) (hm:X.mg x=none) (hv:bootBuiltins x=some u) (h:Q u s)
  (hn:x ≠ "__name__" := by decide) (hd:(x==("__debug__" : Str))=false:=by decide):wpAny (model X.prog X.w) X.A (eval (.Name x pos) X.env) Q E s:=by
 obtain ⟨mb,h1,h2⟩:=I.mod.blt
 exact Calls.Name_function_global I.ok.kind hg (Calls.loadGlobal_builtin (by rw [I.ok.glob];exact I.mod.glob.keeps I.bk) hm (by rw [I.ok.blt];exact h1.keeps I.bk) ((h2 x hn).trans hv) h) hd
theorem Zhd {x:Str}{v:V}{u:Value}{pos:Pos} (hg:Gl X x) (hm:X.mg x=none) (hv:bootBuiltins x=some u) (r:RelV v u) (hn:x ≠ "__name__" := by decide) (hd:(x==("__debug__" : Str))=false:=by decide):PE X (.Name x pos) (tC v):=
 fun _ _ _ H _ I h=>GN I hg hm hv ⟨v,H,I,r,h⟩ hn hd
variable {a b:Expr}{ta tb:TE}{pos:Pos}
def PC (X:Cx) (op:CmpOp) (a b:Expr) (t:TE):Prop:=
 ∀(pins:List (Addr×Obj)) (s:Shared) (σ:St) (H:Hp) (Q:VK),Inv X pins σ H s->t σ H Q ->
  wpAny (model X.prog X.w) X.A (eval a X.env) (fun v s₁=>wpAny (model X.prog X.w) X.A (eval b X.env) (fun u s₂=>wpAny (model X.prog X.w) X.A (compareOp op v u) (EP X pins σ Q) X.xe s₂) X.xe s₁) X.xe s
def tB (t:TE):TT:=fun σ H Q=>t σ H fun x H1=>∃c,x = .bl c/\Q c H1
theorem Zey {op:CmpOp}{t:TE} (h:PC X op a b t) (h1:behindInMarks op b=false:=by first | exact nobehind _ (by decide) (by decide) | rfl):PT X (.Compare a [op] [b] pos) (tB t):=by
 intro pins s σ H Q I hw
 refine wpAny_isTrue_Compare1 (Yq (h pins s σ H _ I hw) fun v s1 h1=>Yq h1 fun u s2 h2=>Yq h2 fun c s3 ⟨x,H1,I1,r1,q1⟩=>?_) h1
 obtain ⟨d,rfl,q⟩:=q1
 cases r1
 exact wpAny_truthy_bool ⟨H1,I1,q⟩
theorem ZaK {e:Expr}{t:TE} (h:PE X e t) (he:∀whole,isTrue e X.env whole=(do let v <- whole;standAt e.pos;holding [v] (truthy v)):=by intro _;rfl):PT X e (tB t):=by
 intro pins s σ H Q I hw
 refine isTrue_plain (Yq (h pins s σ H _ I hw) fun v s1 ⟨x,H1,I1,r1,q1⟩=>?_) (he _)
 obtain ⟨d,rfl,q⟩:=q1
 cases r1
 exact wpAny_truthy_bool ⟨H1,I1,q⟩
variable {tA tB':TT}{rest:List Expr}
def ZkN (t u:TT):TT:=fun σ H Q=>t σ H fun c H1=>if c=true then u σ H1 Q else Q false H1
def tOr (t u:TT):TT:=fun σ H Q=>t σ H fun c H1=>if c=true then Q true H1 else u σ H1 Q
def ZoA (t:TT):TT:=fun σ H Q=>t σ H fun c H1=>Q (!c) H1
theorem GX (ha:PT X a tA):PW X (.BoolOp .And [a] pos) tA:=by
 intro wh pins s σ H Q I h
 refine isTrue_and (Yq (ha pins s σ H Q I h) fun c s1 e=>?_)
 cases c with
 | true=>exact isTrue_and_nil e
 | false=>exact e
theorem Zf8 (ha:PT X a tA):PW X (.BoolOp .Or [a] pos) tA:=by
 intro wh pins s σ H Q I h
 refine isTrue_or (Yq (ha pins s σ H Q I h) fun c s1 e=>?_)
 cases c with
 | false=>exact isTrue_or_nil e
 | true=>exact e
theorem Gj (ha:PT X a tA) (hb:PW X (.BoolOp .And (b::rest) pos) tB'):PW X (.BoolOp .And (a::b::rest) pos) (ZkN tA tB'):=by
 intro wh pins s σ H Q I h
 refine isTrue_and (Yq (ha pins s σ H _ I h) fun c s1 ⟨H1,I1,q1⟩=>?_)
 cases c with
 | true=>exact hb wh pins s1 σ H1 Q I1 q1
 | false=>exact ⟨H1,I1,q1⟩
theorem Zhz (ha:PT X a tA) (hb:PW X (.BoolOp .Or (b::rest) pos) tB'):PW X (.BoolOp .Or (a::b::rest) pos) (tOr tA tB'):=by
 intro wh pins s σ H Q I h
 refine isTrue_or (Yq (ha pins s σ H _ I h) fun c s1 ⟨H1,I1,q1⟩=>?_)
 cases c with
 | true=>exact ⟨H1,I1,q1⟩
 | false=>exact hb wh pins s1 σ H1 Q I1 q1
theorem ZeP (ha:PT X a tA):PT X (.UnaryOp .Not a pos) (ZoA tA):=by
 intro pins s σ H Q I h
 exact isTrue_not (ha pins s σ H (fun c H1=>Q (!c) H1) I h)
def ZlO (ta tb:TE):TE:=fun σ H Q=>ta σ H fun x H1=>∃c,x = .bl c/\if c=true then tb σ H1 Q else Q (.bl false) H1
def Zoo (ta tb:TE):TE:=fun σ H Q=>ta σ H fun x H1=>∃c,x = .bl c/\if c=true then Q (.bl true) H1 else tb σ H1 Q
def Znt (ta:TE):TE:=fun σ H Q=>ta σ H fun x H1=>∃c,x = .bl c/\Q (.bl (!c)) H1
theorem U1 {op}{t:TE} (h:PE X a t):PE X (.BoolOp op [a] pos) t:=fun pins s σ H Q I hw=>BoolOp_one (h pins s σ H Q I hw)
theorem Zc2 (ha:PE X a ta) (hb:PE X (.BoolOp .And (b::rest) pos) tb):PE X (.BoolOp .And (a::b::rest) pos) (ZlO ta tb):=by
 intro pins s σ H Q I h
 refine BoolOp_and (Yq (ha pins s σ H _ I h) fun v s1 ⟨x,H1,I1,r1,q1⟩=>?_)
 obtain ⟨c,rfl,q1⟩:=q1
 cases r1
 refine wpAny_truthy_bool ?_
 cases c with
 | true=>exact hb pins s1 σ H1 Q I1 q1
 | false=>exact ⟨.bl false,H1,I1,rfl,q1⟩
theorem Zff (ha:PE X a ta) (hb:PE X (.BoolOp .Or (b::rest) pos) tb):PE X (.BoolOp .Or (a::b::rest) pos) (Zoo ta tb):=by
 intro pins s σ H Q I h
 refine BoolOp_or (Yq (ha pins s σ H _ I h) fun v s1 ⟨x,H1,I1,r1,q1⟩=>?_)
 obtain ⟨c,rfl,q1⟩:=q1
 cases r1
 refine wpAny_truthy_bool ?_
 cases c with
 | false=>exact hb pins s1 σ H1 Q I1 q1
 | true=>exact ⟨.bl true,H1,I1,rfl,q1⟩
theorem Zma (ha:PE X a ta):PE X (.UnaryOp .Not a pos) (Znt ta):=by
 intro pins s σ H Q I h
 refine UnaryOp_ (Yq (ha pins s σ H _ I h) fun v s1 ⟨x,H1,I1,r1,q1⟩=>?_)
 obtain ⟨c,rfl,q1⟩:=q1
 cases r1
 exact not_of (wpAny_truthy_bool ⟨.bl (!c),H1,I1,rfl,q1⟩)
def tIf (t:TT) (ta tb:TE):TE:=fun σ H Q=>t σ H fun c H1=>if c=true then ta σ H1 Q else tb σ H1 Q
theorem U2 {c:Expr} (hc:PT X c tA) (ha:PE X a ta) (hb:PE X b tb):PE X (.IfExp c a b pos) (tIf tA ta tb):=by
 intro pins s σ H Q I h
 refine wpAny_IfExp (Yq (hc pins s σ H _ I h) fun d s1 ⟨H1,I1,q1⟩=>?_)
 cases d with
 | true=>exact ha pins s1 σ H1 Q I1 q1
 | false=>exact hb pins s1 σ H1 Q I1 q1
end
def Zw (K:PySem.W.Frag) (H:Hp) (a:Addr) (xs:List V):Prop:=
 Rd H a (.lst xs) ∨
  ∃(o:Obj) (its:Array Value) (n:Nat),K.lookup a=some o/\o.cls = .type "list" /\ o.dict=none/\o.data = .seq its n/\its.size<=sizeLine/\Vals xs its.toList
def YB (K:PySem.W.Frag) (H:Hp) (a:Addr) (xs:List V):Prop:=
 Rd H a (.tup xs) ∨
  ∃(o:Obj) (its:Array Value) (n:Nat),K.lookup a=some o/\o.cls = .type "tuple" /\ o.data = .seq its n/\its.size<=sizeLine/\Vals xs its.toList
def Zox:Value->Option V
 | .none=>some .non
 | .bool b=>some (.bl b)
 | .int i _=>some (.int i)
 | .str x _=>some (.str x)
 | .bytes b _=>some (.byt b)
 | .float b _=>some (.flt b)
 | .ref a=>some (.ref a)
 | .type n=>some (.ty n)
 | _=>none
theorem RelV.abs {x:V}{u:Value} (r:RelV x u):Zox u=some x:=by
 cases x with
 | non=>cases r;rfl
 | bl _=>cases r;rfl
 | int _=>obtain ⟨t,rfl⟩:=r;rfl
 | str _=>obtain ⟨t,rfl⟩:=r;rfl
 | byt _=>obtain ⟨t,rfl⟩:=r;rfl
 | flt _=>obtain ⟨t,rfl⟩:=r;rfl
 | ref _=>cases r;rfl
 | ty _=>cases r;rfl
theorem RelV.inj {x y:V}{u:Value} (r:RelV x u) (q:RelV y u):x=y:=Option.some.inj (r.abs.symm.trans q.abs)
theorem Vals.inj:∀{xs ys:List V}{us:List Value},Vals xs us->Vals ys us->xs=ys
 | _,_,_,.nil,.nil=>rfl
 | _,_,_,.cons r t,.cons r' t'=>by rw [r.inj r',Vals.inj t t']
section
variable {X:Cx}{pins:List (Addr×Obj)} {σ:St}{H:Hp}{s:Shared}{a:Addr}{xs ys:List V}
theorem Zw.of {K:PySem.W.Frag} (h:H a=some (.lst xs)):Zw K H a xs:=.inl (.inl h)
theorem YB.of {K:PySem.W.Frag} (h:H a=some (.tup xs)):YB K H a xs:=.inl (.inl h)
theorem Inv.list (I:Inv X pins σ H s) (h:Zw X.K H a xs):∃its:List Value,Vals xs its/\PlainL s.heap a its.toArray/\xs.length<=sizeLine:=by
 rcases h with h | ⟨o,its,n,hk,hc,hd,hs,hz,r⟩
 ·obtain ⟨z,its,n,r,e⟩:=h.ok I.hok
  exact ⟨its,r,⟨_,n,e,rfl,rfl,rfl⟩,z⟩
 ·refine ⟨its.toList,r,⟨o,n,I.kIn a o hk,hc,hd,by simpa using hs⟩,?_⟩
  have e:=r.length
  simp only [Array.length_toList] at e
  lia
theorem Inv.tuple (I:Inv X pins σ H s) (h:YB X.K H a xs):∃its:List Value,Vals xs its/\IsTup s.heap a its.toArray/\xs.length<=sizeLine:=by
 rcases h with h | ⟨o,its,n,hk,hc,hs,hz,r⟩
 ·obtain ⟨z,its,r,p⟩:=h.ok I.hok
  exact ⟨its,r,p,z⟩
 ·refine ⟨its.toList,r,⟨o,I.kIn a o hk,hc,n,by simpa using hs⟩,?_⟩
  have e:=r.length
  simp only [Array.length_toList] at e
  lia
theorem Inv.list_inj (I:Inv X pins σ H s) (h:Zw X.K H a xs) (h':Zw X.K H a ys):xs=ys:=by
 obtain ⟨its,r,⟨o,n,e,_,_,d⟩,_⟩:=I.list h
 obtain ⟨its',r',⟨o',n',e',_,_,d'⟩,_⟩:=I.list h'
 rw [e] at e';cases e'
 rw [d] at d'
 injection d' with d1 _
 have:its=its':=by simpa using congrArg Array.toList d1
 subst this
 exact r.inj r'
theorem Inv.tuple_inj (I:Inv X pins σ H s) (h:YB X.K H a xs) (h':YB X.K H a ys):xs=ys:=by
 obtain ⟨its,r,⟨o,e,_,n,d⟩,_⟩:=I.tuple h
 obtain ⟨its',r',⟨o',e',_,n',d'⟩,_⟩:=I.tuple h'
 rw [e] at e';cases e'
 rw [d] at d'
 injection d' with d1 _
 have:its=its':=by simpa using congrArg Array.toList d1
 subst this
 exact r.inj r'
end
abbrev Cx.wish (X:Cx) (E:Value->Shared->Prop):Cx:={ X with xe:=E }
abbrev Cx.nox (X:Cx):Cx:=X.wish fun _ _=>False
theorem Cx.Ok.wish {X:Cx} (ok:X.Ok) (E:Value->Shared->Prop):(X.wish E).Ok:=
 ⟨ok.mod,ok.kind,ok.glob,ok.blt,ok.above,ok.inj,ok.has,ok.cab,ok.hd,ok.frames,ok.stk,ok.exf,ok.bs,ok.bsz,ok.noex,ok.exfs,ok.funs,ok.frf⟩
theorem Cx.Ok.unwish {X:Cx}{E:Value->Shared->Prop} (ok:(X.wish E).Ok):X.Ok:=
 ⟨ok.mod,ok.kind,ok.glob,ok.blt,ok.above,ok.inj,ok.has,ok.cab,ok.hd,ok.frames,ok.stk,ok.exf,ok.bs,ok.bsz,ok.noex,ok.exfs,ok.funs,ok.frf⟩
section
variable {X:Cx}{pins:List (Addr×Obj)} {σ:St}{H:Hp}{s:Shared}{E:Value->Shared->Prop}
theorem Inv.wish (I:Inv X pins σ H s) (E:Value->Shared->Prop):Inv (X.wish E) pins σ H s:=⟨I.ok.wish E,I.os,I.bare,I.base,I.loc,I.cell,I.free,I.freeC,I.pin,I.hok,I.len⟩
theorem Inv.unwish (I:Inv (X.wish E) pins σ H s):Inv X pins σ H s:=⟨I.ok.unwish,I.os,I.bare,I.base,I.loc,I.cell,I.free,I.freeC,I.pin,I.hok,I.len⟩
theorem SP.unwish {D:Ends}{f:Flow}{s':Shared} (h:SP (X.wish E) pins D f s'):SP X pins D f s':=by
 cases f with
 | next=>obtain ⟨σ',H',I,q⟩:=h;exact ⟨σ',H',I.unwish,q⟩
 | brk=>obtain ⟨σ',H',I,q⟩:=h;exact ⟨σ',H',I.unwish,q⟩
 | cont=>obtain ⟨σ',H',I,q⟩:=h;exact ⟨σ',H',I.unwish,q⟩
 | ret u=>obtain ⟨v,σ',H',I,r,q⟩:=h;exact ⟨v,σ',H',I.unwish,r,q⟩
theorem PSs.nox {st:List Stmt}{t:TS} (h:PSs X.nox st t):PSs X st t:=fun pins s σ H D I hw=>
 wpAny_mono (h pins s σ H D (I.wish _) hw) (fun _ _ q=>q.unwish) fun _ _ z=>False.elim z
end
section
variable {X:Cx}{st:Stmt}{rest:List Stmt}{t u:TS}{e:Expr}{te:TE}{pos:Pos}
def Zhn:TS:=fun D σ H=>D.nx σ H
def Ux (t u:TS):TS:=fun D σ H=>t { D with nx:=u D } σ H
theorem ZO:PSs X [] Zhn:=fun _ _ σ H _ I h=>wpAny_execs_nil ⟨σ,H,I,h⟩
theorem Ze (h1:PS X st t) (h2:PSs X rest u):PSs X (st::rest) (Ux t u):=by
 intro pins s σ H D I h
 refine wpAny_execs_cons (Yq (h1 pins s σ H { D with nx:=u D } I h) fun f s1 q=>?_)
 cases f with
 | next=>
  obtain ⟨σ',H',I',q⟩:=q
  exact h2 pins s1 σ' H' D I' q
 | ret v=>exact q
 | brk=>exact q
 | cont=>exact q
theorem Zg (h1:PS X st t):PSs X [st] t:=by
 intro pins s σ H D I h
 refine wpAny_execs_cons (Yq (h1 pins s σ H D I h) fun f s1 q=>?_)
 cases f with
 | next=>exact wpAny_execs_nil q
 | ret v=>exact q
 | brk=>exact q
 | cont=>exact q
theorem Inv.quiet {pins:List (Addr×Obj)} {σ:St}{H:Hp}{s:Shared} (I:Inv X pins σ H s):interactive X.env=false:=by simp [interactive,I.ok.kind]
def ZnI (te:TE):TS:=fun D σ H=>te σ H fun _ H1=>D.nx σ H1
theorem Yb (he:PE X e te) (hs:swapsWith e none pos.line X.env=pure false:=by rfl):PS X (.Expr e pos) (ZnI te):=by
 intro pins s σ H D I h
 exact wpAny_Expr_any (Yq (he pins s σ H _ I h) fun v s1 ⟨x,H1,I1,r1,q1⟩=>⟨σ,H1,I1,q1⟩) I.quiet hs
def ZnO (te:TE):TS:=fun D σ H=>te σ H D.rt
theorem Zy (he:PE X e te):PS X (.Return (some e) pos) (ZnO te):=by
 intro pins s σ H D I h
 exact wpAny_Return_some (Yq (he pins s σ H _ I h) fun v s1 ⟨x,H1,I1,r1,q1⟩=>⟨x,σ,H1,I1,r1,q1⟩)
def Zew (c:TT) (t u:TS):TS:=fun D σ H=>c σ H fun b H1=>if b=true then t D σ H1 else u D σ H1
theorem ZZ {c:Expr}{a b:List Stmt}{tc:TT} (hc:PT X c tc) (ha:PSs X a t) (hb:PSs X b u):PS X (.If c a b pos) (Zew tc t u):=by
 intro pins s σ H D I h
 refine wpAny_If (Yq (hc pins s σ H _ I h) fun d s1 ⟨H1,I1,q1⟩=>?_)
 cases d with
 | true=>exact ha pins s1 σ H1 D I1 q1
 | false=>exact hb pins s1 σ H1 D I1 q1
end
abbrev TG:=V->St->Hp->(St->Hp->Prop)->Prop
abbrev TGs:=List V->St->Hp->(St->Hp->Prop)->Prop
def PG (X:Cx) (target:Expr) (t:TG):Prop:=
 ∀(pins:List (Addr×Obj)) (s:Shared) (σ:St) (H:Hp) (v:V) (u:Value) (Q:St->Hp->Prop),Inv X pins σ H s->RelV v u->t v σ H Q ->
  wpAny (model X.prog X.w) X.A (assign target X.env u) (fun _ s'=>∃ σ' H',Inv X pins σ' H' s'/\Q σ' H') X.xe s
def PGs (X:Cx) (ts:List Expr) (t:TGs):Prop:=
 ∀(pins:List (Addr×Obj)) (s:Shared) (σ:St) (H:Hp) (vs:List V) (us:List Value) (Q:St->Hp->Prop),Inv X pins σ H s->Vals vs us->t vs σ H Q ->
  wpAny (model X.prog X.w) X.A (assignInOrder ((assignEach ts X.env).map (·.2)) us) (fun _ s'=>∃ σ' H',Inv X pins σ' H' s'/\Q σ' H') X.xe s
abbrev Zm7:=V->V->V->Hp->(Hp->Prop)->Prop
def ZkX (X:Cx) (t:Zm7):Prop:=
 ∀(pins:List (Addr×Obj)) (s:Shared) (σ:St) (H:Hp) (o i v:V) (ov iv u:Value) (Q:Hp->Prop),Inv X pins σ H s->RelV o ov->RelV i iv->RelV v u->t o i v H Q ->
  wpAny (model X.prog X.w) X.A (setItem ov iv u) (fun _ s'=>∃H',Inv X pins σ H' s'/\Q H') X.xe s
abbrev TIp:=V->V->Hp->VK->Prop
def PIp (X:Cx) (op:Operator) (t:TIp):Prop:=
 ∀(pins:List (Addr×Obj)) (s:Shared) (σ:St) (H:Hp) (x y:V) (v u:Value) (Q:VK),Inv X pins σ H s->RelV x v->RelV y u->t x y H Q ->
  wpAny (model X.prog X.w) X.A (inplaceOp op v u) (EP X pins σ Q) X.xe s
section
variable {X:Cx}{pos:Pos}
def Ju (i:Nat):TG:=fun v σ H Q=>Q (σ.set i (some v)) H
theorem Zl {i:Nat}{x:Str} (hN:X.N.Nodup) (hi:X.N[i]? = some x) (hx:Loc X.env.scope x) (hf:X.fn x=true∨X.env.scope.names.lookup x=some .local:=by first | exact .inl rfl | exact .inr rfl | assumption):PG X (.Name x pos) (Ju i):=by
 intro pins s σ H v u Q I r h
 exact wpAny_assign_Name (U0 I hN hi hx r (fun s' I'=>⟨_,H,I',h⟩) hf)
def ZlB:TGs:=fun vs σ H Q=>vs = []/\Q σ H
def Zc4 (t:TG) (u:TGs):TGs:=fun vs σ H Q=>∃v r,vs=v::r/\t v σ H fun σ' H'=>u r σ' H' Q
theorem ZP:PGs X [] ZlB:=by
 intro pins s σ H vs us Q I r h
 obtain ⟨e,h⟩:=h
 subst e
 cases r
 exact assignInOrder_nil ⟨σ,H,I,h⟩
theorem Zm {e:Expr}{es:List Expr}{t:TG}{u:TGs} (h1:PG X e t) (h2:PGs X es u)
  (hs:(assignEach (e::es) X.env).map (·.2)=assign e X.env::(assignEach es X.env).map (·.2):=by rfl):PGs X (e::es) (Zc4 t u):=by
 intro pins s σ H vs us Q I r h
 obtain ⟨v,vr,e1,h⟩:=h
 subst e1
 cases r with
 | cons r rr=>
  rw [hs]
  refine assignInOrder_cons (Yq (h1 pins s σ H _ _ _ I r h) fun _ s1 ⟨σ1,H1,I1,q1⟩=>?_)
  exact h2 pins s1 σ1 H1 _ _ Q I1 rr q1
def Zi8 (K:PySem.W.Frag) (n:Nat) (t:TGs):TG:=fun v σ H Q=>∃a xs,v = .ref a/\YB K H a xs/\xs.length=n/\t xs σ H Q
theorem ZmZ {es:List Expr}{k:Nat}{t:TGs}{n:Nat} (hc:X.calm=true) (h:PGs X es t)
  (hn:(assignEach es X.env).length=n:=by rfl) (hst:(assignEach es X.env).findIdx? (·.1)=none:=by rfl):PG X (.Tuple es k pos) (Zi8 X.K n t):=by
 intro pins s σ H v u Q I r hw
 obtain ⟨a,xs,e1,hq,hl,hw⟩:=hw
 subst e1
 cases r
 obtain ⟨its,rv,ht,hz⟩:=I.tuple hq
 refine assign_Tuple_tuple (I.ok.hd hc) ht (by simp [hn,<- hl,rv.length]) hst fun h' hx=>?_
 have I1:Inv X pins σ H { s with heap:=h' }:=I.kept (t':=s.toks) fun b o e=>hx b o (Nat.ne_of_lt (Heap.lt_size e)) e
 exact h pins _ σ H xs _ Q I1 (by simpa using rv) hw
def ZhS (to ti:TE) (t:Zm7):TG:=fun v σ H Q=>to σ H fun o H1=>ti σ H1 fun i H2=>t o i v H2 fun H3=>Q σ H3
theorem Yl {o i:Expr}{to ti:TE}{t:Zm7} (ho:PE X o to) (hi:PE X i ti) (hs:ZkX X t)
  (ha:∀v,assign (.Subscript o i pos) X.env v=(do
   let ov <- holding [v] (eval o X.env)
   let iv <- holding [v,ov] (eval i X.env)
   standAt pos
   holding [v,ov,iv] (setItem ov iv v)
   release [v,ov,iv] []):=by intro _;rfl):PG X (.Subscript o i pos) (ZhS to ti t):=by
 intro pins s σ H v u Q I r h
 rw [ha]
 refine wpAny_bind (wpAny_holding (Yq (ho pins s σ H _ I h) fun ov s1 ⟨x,H1,I1,r1,q1⟩=>?_))
 refine wpAny_bind (wpAny_holding (Yq (hi pins s1 σ H1 _ I1 q1) fun iv s2 ⟨y,H2,I2,r2,q2⟩=>?_))
 refine wpAny_bind (wpAny_standAt (wpAny_bind (wpAny_holding (Yq (hs pins s2 σ H2 x y v ov iv u _ I2 r1 r2 r q2) fun _ s3 ⟨H3,I3,q3⟩=>?_))))
 exact wpAny_release ⟨σ,H3,I3,q3⟩
def UT (te:TE) (g:TG):TS:=fun D σ H=>te σ H fun x H1=>g x σ H1 D.nx
theorem Z8 {tg e:Expr}{te:TE}{g:TG} (he:PE X e te) (hg:PG X tg g) (hs:swapsWithSole [tg] e pos.line X.env=pure false:=by rfl) (hw:swappedStores [tg] e X.env=pure none:=by rfl)
  (h1:(assignEach [tg] X.env).map (·.2) = [assign tg X.env]:=by rfl):PS X (.Assign [tg] e pos) (UT te g):=by
 intro pins s σ H D I h
 refine wpAny_Assign_stores (Yq (he pins s σ H _ I h) fun v s1 ⟨x,H1,I1,r1,q1⟩=>?_) hs hw
 rw [h1]
 exact Yq (hg pins s1 σ H1 x v _ I1 r1 q1) fun _ s2 q=>q
theorem Zn {i:Nat}{x:Str}{e:Expr}{te:TE}{pos':Pos} (hN:X.N.Nodup) (hi:X.N[i]? = some x) (hx:Loc X.env.scope x) (he:PE X e te) (hs:swapsWith e (some (.Name x pos')) pos.line X.env=pure false:=by rfl) (hf:X.fn x=true∨X.env.scope.names.lookup x=some .local:=by first | exact .inl rfl | exact .inr rfl | assumption):
  PS X (.Assign [.Name x pos'] e pos) (UT te (Ju i)):=by
 intro pins s σ H D I h
 refine wpAny_Assign_Name (Yq (he pins s σ H _ I h) fun v s1 ⟨y,H1,I1,r1,q1⟩=>?_) hs
 exact U0 I1 hN hi hx r1 (fun s2 I2=>⟨_,H1,I2,q1⟩) hf
def Zot (i j:Nat) (ta:TA):TS:=fun D σ H=>ta σ H fun vs H1=>∃v w,vs = [v,w]/\D.nx ((σ.set i (some v)).set j (some w)) H1
theorem Zjo {i j:Nat}{x y:Str}{a b:Expr}{ta:TA}{px py pt:Pos}{kt k2 pt2} (hc:X.calm=true) (hN:X.N.Nodup) (hi:X.N[i]? = some x) (hj:X.N[j]? = some y) (hij:i≠j)
  (hx:X.env.scope.names.lookup x=some .local) (hy:X.env.scope.names.lookup y=some .local) (ha:PA X [a,b] ta)
  (hw:swappedStores [.Tuple [.Name x px,.Name y py] kt pt] (.Tuple [a,b] k2 pt2) X.env=pure (some [x,y]))
  (hs:swapsWithSole [.Tuple [.Name x px,.Name y py] kt pt] (.Tuple [a,b] k2 pt2) pos.line X.env=pure false:=by rfl):
  PS X (.Assign [.Tuple [.Name x px,.Name y py] kt pt] (.Tuple [a,b] k2 pt2) pos) (Zot i j ta):=by
 intro pins s σ H D I h
 rw [exec_Assign_arm]
 refine wpAny_bind (wpAny_standAt ?_)
 rw [hs]
 refine wpAny_bind (wpAny_pure ?_)
 rw [if_neg (by decide)]
 refine wpAny_bind (Tuple_ (Yq (ha _ pins s σ H _ I h) fun us s1 ⟨vs,H1,I1,r1,q1⟩=>?_))
 obtain ⟨v,w,e1,q1⟩:=q1
 subst e1
 obtain ⟨u1,u2,rfl,rv,rw'⟩:∃u1 u2,us = [u1,u2]/\RelV v u1/\RelV w u2:=by
  cases r1 with
  | cons p q=>
   cases q with
   | cons p' q'=>
    cases q'
    exact ⟨_,_,rfl,p,p'⟩
 refine wpAny_newObj_type ?_ (by show 2<=sizeLine;decide)
 have I2:Inv X pins σ H1 { s1 with heap:=s1.heap.push { cls:=.type "tuple", data:=.seq [u1,u2].toArray } }:=I1.kept (t':=s1.toks) fun b o e=>Heap.get?_push_of_some _ e
 rw [hw]
 refine wpAny_bind (wpAny_pure ?_)
 show wpAny (model X.prog X.w) X.A (do rule "assign.swapped-stores"; let items <- unpackItems (.ref s1.heap.objs.size) 2 none;assignInOrder [fun v=>bindName X.env y v,fun v=>bindName X.env x v] items.reverse;pure Flow.next) _ _ _
 refine wpAny_bind (wpAny_rule (wpAny_bind (unpackItems_tuple (items:=#[u1,u2]) (I.ok.hd hc) (IsTup.new s1.heap _) fun h' hx'=>?_)))
 have I3:=I2.kept (h':=h') (t':=s1.toks) fun b o e=>hx' b o (Nat.ne_of_lt (Heap.lt_size e)) e
 show wpAny _ _ (assignInOrder [fun v=>bindName X.env y v,fun v=>bindName X.env x v] [u2,u1] >>= fun _=>pure Flow.next) _ _ _
 refine wpAny_bind (assignInOrder_cons (wpAny_bindName (U0 I3 hN hj (.inl hy) rw' (fun s2 I4=>?_) (.inr hy))))
 refine assignInOrder_cons (wpAny_bindName (U0 I4 hN hi (.inl hx) rv (fun s3 I5=>assignInOrder_nil (wpAny_pure ?_)) (.inr hx)))
 rw [List.set_comm _ _ (Ne.symm hij)] at I5
 exact ⟨_,H1,I5,q1⟩
def Zop (i:Nat) (te:TE) (ti:TIp):TS:=fun D σ H=>∃x,σ[i]? = some (some x)/\te σ H fun y H1=>ti x y H1 fun z H2=>D.nx (σ.set i (some z)) H2
theorem Zj7 {i:Nat}{x:Str}{e:Expr}{te:TE}{op:Operator}{ti:TIp}{pos':Pos} (hN:X.N.Nodup) (hi:X.N[i]? = some x) (hx:Loc X.env.scope x) (he:PE X e te) (ho:PIp X op ti) (hf:X.fn x=true∨X.env.scope.names.lookup x=some .local:=by first | exact .inl rfl | exact .inr rfl | assumption):
  PS X (.AugAssign (.Name x pos') op e pos) (Zop i te ti):=by
 intro pins s σ H D I h
 obtain ⟨v,e1,h⟩:=h
 obtain ⟨m,hn,hl⟩:=I.loc
 have vis:Vis X.env.scope x:=by rcases hx with k | k;exact .inl k;exact .inr (.inl k)
 obtain ⟨u,r,l⟩:=hl i x v hi e1 vis
 refine wpAny_AugAssign_Name ?_
 have go:wpAny (model X.prog X.w) X.A (eval e X.env) (fun w s₂=>wpAny (model X.prog X.w) X.A (inplaceOp op u w) (fun r s₃=>wpAny (model X.prog X.w) X.A (storeName X.env x r) (fun _=>SP X pins D .next) X.xe s₃) X.xe s₂) X.xe s:=by
  refine Yq (he pins s σ H _ I h) fun w s1 ⟨y,H1,I1,r1,q1⟩=>?_
  refine Yq (ho pins s1 σ H1 v y u w _ I1 r r1 q1) fun z s2 ⟨zv,H2,I2,r2,q2⟩=>?_
  exact U0 I2 hN hi hx r2 (fun s3 I3=>⟨_,H2,I3,q2⟩) hf
 rcases l with ⟨hk,hm⟩ | ⟨hk,c,hc,hcell⟩
 ·exact wpAny_loadName_local I.ok.kind hk hn hm go
 ·rcases hk with hk | hk
  ·exact wpAny_loadName_cell I.ok.kind hk hc hcell go
  ·rcases hx with k | k
   ·have:X.env.scope.names.lookup x=some .free:=hk
    rw [k] at this;cases this
   ·have:X.env.scope.names.lookup x=some .free:=hk
    rw [k] at this;cases this
def ipI (f:Int->Int->Int):TIp:=fun x y H Q=>∃i j,x = .int i/\y = .int j/\Q (.int (f i j)) H
theorem Zmn:PIp X .Add (ipI fun i j=>i+j):=by
 intro pins s σ H x y v u Q I r1 r2 h
 obtain ⟨i,j,e1,e2,q⟩:=h
 subst e1;subst e2
 obtain ⟨t,rfl⟩:=r1
 obtain ⟨t',rfl⟩:=r2
 exact iadd_int ⟨.int _,H,I.tok _,⟨_,rfl⟩,q⟩
theorem ZmT:PIp X .Sub (ipI fun i j=>i-j):=by
 intro pins s σ H x y v u Q I r1 r2 h
 obtain ⟨i,j,e1,e2,q⟩:=h
 subst e1;subst e2
 obtain ⟨t,rfl⟩:=r1
 obtain ⟨t',rfl⟩:=r2
 exact isub_int ⟨.int _,H,I.tok _,⟨_,rfl⟩,q⟩
end
section
variable {X:Cx}{pos:Pos}
def ZiV (c:TT) (tb:TS):TS:=fun D σ H=>∃W:Nat->St->Hp->Prop,(∃m,W m σ H) /\ ∀m σ H,W m σ H ->
 c σ H fun b H1=>if b=true then ∃N:St->Hp->Prop,(∀ σ' H',N σ' H' -> ∃m',m'<m/\W m' σ' H')/\tb { D with nx:=N,ct:=N,bk:=D.nx } σ H1 else D.nx σ H1
theorem Za4 {c:Expr}{body:List Stmt}{tc:TT}{tb:TS} (hp:PassesOwn (model X.prog X.w) X.A X.env X.xe) (hc:PT X c tc) (hb:PSs X body tb):PS X (.While c body [] pos) (ZiV tc tb):=by
 intro pins s σ H D I h
 obtain ⟨W,⟨m0,w0⟩,turn⟩:=h
 refine wpAny_While (codeAny_whileLoop (fun n s'=>∃ σ' H',Inv X pins σ' H' s'/\W n σ' H') ?_ m0 ⟨σ,H,I,w0⟩)
 rintro n s1 ⟨σ1,H1,I1,w1⟩
 refine wpAny_passesOwn hp (Yq (hc pins s1 σ1 H1 _ I1 (turn n σ1 H1 w1)) fun b s2 ⟨H2,I2,q2⟩=>?_)
 cases b with
 | true=>
  obtain ⟨N,hN,q2⟩:=q2
  rw [if_pos rfl]
  refine wpAny_passesOwn hp (Yq (hb pins s2 σ1 H2 _ I2 q2) fun f s3 q3=>?_)
  cases f with
  | next=>
   obtain ⟨σ3,H3,I3,n3⟩:=q3
   obtain ⟨m',hm,w3⟩:=hN σ3 H3 n3
   exact ⟨m',hm,σ3,H3,I3,w3⟩
  | cont=>
   obtain ⟨σ3,H3,I3,n3⟩:=q3
   obtain ⟨m',hm,w3⟩:=hN σ3 H3 n3
   exact ⟨m',hm,σ3,H3,I3,w3⟩
  | brk=>exact q3
  | ret v=>exact q3
 | false=>
  rw [if_neg Bool.false_ne_true]
  exact wpAny_execs_nil ⟨σ1,H2,I2,q2⟩
end
structure It where
 go:Nat->Hp->Prop
 yld:Nat->Hp->V->Hp->Prop
 stop:Nat->Hp->Prop
def Zce (X:Cx) (pins:List (Addr×Obj)) (H:Hp) (b:Addr):Prop:=
 H b=none/\b≠X.env.locals/\b∉X.fs/\(b∈X.ex∨X.s₀.heap.objs.size<=b)/\(∀x c,X.env.cells.lookup x=some c->c≠b) /\ ∀p∈X.pn++pins,p.1≠b
theorem Inv.fpOk {X:Cx}{pins:List (Addr×Obj)} {σ:St}{H H':Hp}{s:Shared}{b:Addr} (I:Inv X pins σ H s) (hb:s.heap.objs.size<=b) (hn:H' b=none):Zce X pins H' b:=by
 refine ⟨hn,Nat.ne_of_gt (Nat.lt_of_lt_of_le I.lt hb),I.nofs hb,.inr (Nat.le_trans I.sz hb),fun x c e z=>?_,fun p hp z=>?_⟩
 ·obtain ⟨v,q⟩:=I.cell x c e
  exact absurd (Nat.lt_of_lt_of_le q.lt (by rw [z];exact hb)) (Nat.lt_irrefl _)
 ·exact absurd (Nat.lt_of_lt_of_le (Heap.lt_size (I.pin p hp).1) (by rw [z];exact hb)) (Nat.lt_irrefl _)
structure Turn (P:Program) (w:World) (K:PySem.W.Frag) (tg:Expr) (J:It) (fp:List Addr) (it:Addr) (tn:Nat->Heap->Prop):Prop where
 mem:it∈fp
 obj:∀i h,tn i h -> ∀b∈fp,∃o,h.get? b=some o /\ ∀v,o.data ≠ .cell v
 keep:∀i h h',tn i h->(∀b∈fp,∀o,h.get? b=some o->h'.get? b=some o)->tn i h'
 item:∀(X:Cx),X.prog=P->X.w=w->X.K=K->X.calm=true -> ∀(i:Nat) (pins:List (Addr×Obj)) (s:Shared) (σ:St) (H:Hp) (E:Value->Shared->Prop),Inv X pins σ H s->(∀b∈fp,Zce X pins H b)->tn i s.heap->J.go i H ->
  wpAny (model P w) X.A (pyNext (.ref it)) (fun r s1=>∃u,r=some u /\
   wpAny (model P w) X.A (letOwnedTupleGo tg (.ref it) u) (fun _ s2=>∃x H',Inv X pins σ H' s2/\RelV x u/\J.yld i H x H'/\tn (i+1) s2.heap /\ ∀b∈fp,H' b=none) E s1) E s
 done:∀(X:Cx),X.prog=P->X.w=w->X.K=K->X.calm=true -> ∀(i:Nat) (pins:List (Addr×Obj)) (s:Shared) (σ:St) (H:Hp) (E:Value->Shared->Prop),Inv X pins σ H s->(∀b∈fp,Zce X pins H b)->tn i s.heap->J.stop i H ->
  wpAny (model P w) X.A (pyNext (.ref it)) (fun r s1=>r=none/\Inv X pins σ H s1) E s
 self:∀(A:Around) (i:Nat) (s:Shared) (Q:Value->Shared->Prop) (E:Value->Shared->Prop),tn i s.heap->Q (.ref it) s->wpAny (model P w) A (pyIter (.ref it)) Q E s
abbrev TI:=St->Hp->(It->Hp->Prop)->Prop
def PIE (X:Cx) (pins:List (Addr×Obj)) (σ:St) (tg:Expr) (R:It->Hp->Prop) (itv:Value) (s2:Shared):Prop:=
 ∃(it:Addr) (fp:List Addr) (tn:Nat->Heap->Prop) (J:It) (H':Hp),itv = .ref it/\Inv X pins σ H' s2/\Turn X.prog X.w X.K tg J fp it tn/\tn 0 s2.heap/\(∀b∈fp,Zce X pins H' b)/\R J H'
def PI (X:Cx) (tg iter:Expr) (wi:TI):Prop:=
 ∀(pins:List (Addr×Obj)) (s:Shared) (σ:St) (H:Hp) (R:It->Hp->Prop),Inv X pins σ H s->wi σ H R ->
  wpAny (model X.prog X.w) X.A (eval iter X.env) (fun v s1=>wpAny (model X.prog X.w) X.A (pyIter v) (PIE X pins σ tg R) X.xe s1) X.xe s
theorem Zfs {M:Model}{A:Around}{E:Value->Shared->Prop}{s:Shared}{tg:Expr}{it:Addr}{u:Value}{o:Obj}{n:String}{vs:Array Value}{Q:Unit->Shared->Prop} (ho:s.heap.get? it=some o) (hc:o.cls = .type n) (hd:o.data = .fields vs)
    (hn:["enumerate", "zip", "dict_itemiterator", "dict_reverseitemiterator", "odict_iterator", "itertools.zip_longest", "itertools.pairwise"].contains n=false) (hQ:Q () s):wpAny M A (letOwnedTupleGo tg (.ref it) u) Q E s:=by
  unfold letOwnedTupleGo
  cases tg<;>first
    | exact wpAny_pure hQ
    | (cases u<;>first
        | exact wpAny_pure hQ
        | (refine wpAny_bind (wpAny_load ho ?_)
           rw [hc,hd]
           show wpAny M A (if (["enumerate", "zip", "dict_itemiterator", "dict_reverseitemiterator", "odict_iterator", "itertools.zip_longest", "itertools.pairwise"].contains n&&vs[0]? == some (rawInt _))=true then _ else _) Q E s
           rw [if_neg (by intro h;rw [hn,Bool.false_and] at h;cases h)]
           exact wpAny_pure hQ))
def Itl (K:PySem.W.Frag) (a:Addr):It:=
 ⟨fun i H=>∃xs x,Zw K H a xs/\xs[i]? = some x,fun i H x H'=>H'=H /\ ∀xs,Zw K H a xs->xs[i]? = some x,fun i H=>∃xs,Zw K H a xs/\xs.length<=i⟩
def Itt (K:PySem.W.Frag) (a:Addr):It:=
 ⟨fun i H=>∃xs x,YB K H a xs/\xs[i]? = some x,fun i H x H'=>H'=H /\ ∀xs,YB K H a xs->xs[i]? = some x,fun i H=>∃xs,YB K H a xs/\xs.length<=i⟩
def Itr (lo:Int) (n:Nat):It:=⟨fun i _=>i<n,fun i H x H'=>H'=H/\x = .int (lo+i),fun i _=>n<=i⟩
theorem Zik {P:Program}{w:World}{K:PySem.W.Frag}{tg:Expr} (a it:Addr):Turn P w K tg (Itl K a) [it] it (fun i h=>h.IsListIter it a i) where
 mem:=by simp
 obj:=fun i h st b hb=>by
  have e:b=it:=by simpa using hb
  subst e
  obtain ⟨o,e,c,d⟩:=st
  exact ⟨o,e,fun v z=>by rw [d] at z;cases z⟩
 keep:=fun i h h' st k=>st.at fun o e=>k it (by simp) o e
 item:=by
  intro X hP hw hK hc i pins s σ H E I hf st hg
  subst hP hw hK
  obtain ⟨xs,x,hq,hx⟩:=hg
  obtain ⟨its,rv,p,hz⟩:=I.list hq
  obtain ⟨u,hu,ru⟩:=rv.get hx
  obtain ⟨f0,f1,f2,f3,f4,f5⟩:=hf it (by simp)
  refine wpAny_pyNext_list_item st p.isList (x:=u) (by simpa using hu) fun h' st' sb=>?_
  have I1:Inv X pins σ H { s with heap:=h' }:=I.turned (t':=s.toks) (fun b o hb e=>(sb.2 b hb).trans e) f0 f1 f3 f4 f5
  obtain ⟨o,e,c,d⟩:=id st'
  exact ⟨u,rfl,Zfs (s:={ s with heap:=h' }) e c d (by decide) ⟨x,H,I1,ru,⟨rfl,fun ys hy=>by rw [I.list_inj hy hq];exact hx⟩,st',fun b hb=>(hf b hb).1⟩⟩
 done:=by
  intro X hP hw hK hc i pins s σ H E I hf st hg
  subst hP hw hK
  obtain ⟨xs,hq,hx⟩:=hg
  obtain ⟨its,rv,p,hz⟩:=I.list hq
  obtain ⟨f0,f1,f2,f3,f4,f5⟩:=hf it (by simp)
  have hl:=rv.length
  exact wpAny_pyNext_list_end (I.ok.hd hc) st p.isList (by simp;lia) fun h' eb=>⟨rfl,I.turned (t':=s.toks) (fun b o hb e=>eb b o hb e) f0 f1 f3 f4 f5⟩
 self:=fun _ _ _ _ _ st h=>wpAny_pyIter_listiter st h
theorem ZgO {P:Program}{w:World}{K:PySem.W.Frag}{tg:Expr} (a it:Addr):Turn P w K tg (Itt K a) [it] it (fun i h=>h.IsTupleIter it a i) where
 mem:=by simp
 obj:=fun i h st b hb=>by
  have e:b=it:=by simpa using hb
  subst e
  obtain ⟨o,e,c,d⟩:=st
  exact ⟨o,e,fun v z=>by rw [d] at z;cases z⟩
 keep:=fun i h h' st k=>st.at fun o e=>k it (by simp) o e
 item:=by
  intro X hP hw hK hc i pins s σ H E I hf st hg
  subst hP hw hK
  obtain ⟨xs,x,hq,hx⟩:=hg
  obtain ⟨its,rv,p,hz⟩:=I.tuple hq
  obtain ⟨u,hu,ru⟩:=rv.get hx
  obtain ⟨f0,f1,f2,f3,f4,f5⟩:=hf it (by simp)
  refine wpAny_pyNext_tuple_item st (show s.heap.IsTuple a its.toArray from p) (x:=u) (by simpa using hu) fun h' st' sb=>?_
  have I1:Inv X pins σ H { s with heap:=h' }:=I.turned (t':=s.toks) (fun b o hb e=>(sb.2 b hb).trans e) f0 f1 f3 f4 f5
  obtain ⟨o,e,c,d⟩:=id st'
  exact ⟨u,rfl,Zfs (s:={ s with heap:=h' }) e c d (by decide) ⟨x,H,I1,ru,⟨rfl,fun ys hy=>by rw [I.tuple_inj hy hq];exact hx⟩,st',fun b hb=>(hf b hb).1⟩⟩
 done:=by
  intro X hP hw hK hc i pins s σ H E I hf st hg
  subst hP hw hK
  obtain ⟨xs,hq,hx⟩:=hg
  obtain ⟨its,rv,p,hz⟩:=I.tuple hq
  obtain ⟨f0,f1,f2,f3,f4,f5⟩:=hf it (by simp)
  have hl:=rv.length
  exact wpAny_pyNext_tuple_end (I.ok.hd hc) st (show s.heap.IsTuple a its.toArray from p) (by simp;lia) fun h' eb=>⟨rfl,I.turned (t':=s.toks) (fun b o hb e=>eb b o hb e) f0 f1 f3 f4 f5⟩
 self:=fun _ _ _ _ _ st h=>wpAny_pyIter_tupleiter st h
theorem Zgt {P:Program}{w:World}{K:PySem.W.Frag}{tg:Expr} (it:Addr) (lo:Int) (n:Nat):Turn P w K tg (Itr lo n) [it] it (fun i h=>IsRangeIter h it (lo+(i:Nat)*1) ((n:Int)-(i:Nat)) 1) where
 mem:=by simp
 obj:=fun i h st b hb=>by
  have e:b=it:=by simpa using hb
  subst e
  exact ⟨_,st,fun v z=>by
   have z':Data.fields _=Data.cell v:=z
   cases z'⟩
 keep:=fun i h h' st k=>k it (by simp) _ st
 item:=by
  intro X hP hw hK hc i pins s σ H E I hf st hg
  subst hP hw hK
  obtain ⟨f0,f1,f2,f3,f4,f5⟩:=hf it (by simp)
  have W:=Walks.range (prog:=X.prog) (w:=X.w) (I.ok.hd hc) it lo 1 n
  refine W.item i s _ _ hg st fun v h' tk hv st' kk=>?_
  obtain ⟨t,rfl⟩:=hv
  have I1:Inv X pins σ H { s with heap:=h',toks:=tk }:=I.turned (fun b o hb e=>kk b o (by simpa using hb) e) f0 f1 f3 f4 f5
  refine ⟨_,rfl,Zfs (s:={ s with heap:=h',toks:=tk }) (n := "range_iterator") st' rfl rfl (by decide) ⟨.int (lo+i),H,I1,⟨t,?_⟩,⟨rfl,rfl⟩,st',fun b hb=>(hf b hb).1⟩⟩
  rw [Int.mul_one]
 done:=by
  intro X hP hw hK hc i pins s σ H E I hf st hg
  subst hP hw hK
  obtain ⟨f0,f1,f2,f3,f4,f5⟩:=hf it (by simp)
  exact wpAny_pyNext_range_end (I.ok.hd hc) st (by have:n<=i:=hg;lia) fun h' eb=>⟨rfl,I.turned (t':=s.toks) (fun b o hb e=>eb b o hb e) f0 f1 f3 f4 f5⟩
 self:=fun _ _ _ _ _ st h=>wpAny_pyIter_rangeiter st h
section
variable {X:Cx}{tg:Expr}
def ZlF (K:PySem.W.Frag) (tl:TE):TI:=fun σ H R=>tl σ H fun x H1=>∃a,x = .ref a/\(∃xs,Zw K H1 a xs)/\R (Itl K a) H1
def Znw (K:PySem.W.Frag) (tl:TE):TI:=fun σ H R=>tl σ H fun x H1=>∃a,x = .ref a/\(∃xs,YB K H1 a xs)/\R (Itt K a) H1
theorem ZkD {l:Expr}{tl:TE} (hl:PE X l tl):PI X tg l (ZlF X.K tl):=by
 intro pins s σ H R I h
 refine Yq (hl pins s σ H _ I h) fun v s1 ⟨x,H1,I1,r1,q1⟩=>?_
 obtain ⟨a,e,⟨xs,hq⟩,q⟩:=q1
 subst e
 cases r1
 obtain ⟨its,rv,p,hz⟩:=I1.list hq
 refine wpAny_pyIter_list p.isList ?_
 refine ⟨s1.heap.objs.size,[s1.heap.objs.size],_,_,H1,rfl,I1.kept (t':=s1.toks) fun b o e=>Heap.get?_push_of_some _ e,Zik a _,⟨_,Heap.get?_push_size _ rfl,rfl,rfl⟩,fun b hb=>?_,q⟩
 have e:b=s1.heap.objs.size:=by simpa using hb
 subst e
 exact I1.fpOk (Nat.le_refl _) (I1.hok.fresh (Nat.le_refl _))
theorem ZmK {l:Expr}{tl:TE} (hl:PE X l tl):PI X tg l (Znw X.K tl):=by
 intro pins s σ H R I h
 refine Yq (hl pins s σ H _ I h) fun v s1 ⟨x,H1,I1,r1,q1⟩=>?_
 obtain ⟨a,e,⟨xs,hq⟩,q⟩:=q1
 subst e
 cases r1
 obtain ⟨its,rv,p,hz⟩:=I1.tuple hq
 refine wpAny_pyIter_tuple (show s1.heap.IsTuple a its.toArray from p) ?_
 refine ⟨s1.heap.objs.size,[s1.heap.objs.size],_,_,H1,rfl,I1.kept (t':=s1.toks) fun b o e=>Heap.get?_push_of_some _ e,ZgO a _,⟨_,Heap.get?_push_size _ rfl,rfl,rfl⟩,fun b hb=>?_,q⟩
 have e:b=s1.heap.objs.size:=by simpa using hb
 subst e
 exact I1.fpOk (Nat.le_refl _) (I1.hok.fresh (Nat.le_refl _))
theorem Zjs {pins:List (Addr×Obj)} {σ:St}{H:Hp}{s:Shared}{R:It->Hp->Prop}{E:Value->Shared->Prop}{lo hi:Int}{t u v:Tok}{tk:Nat} (I:Inv X pins σ H s) (h1 : -(2 ^ 62)<=lo) (h2:lo<2 ^ 62) (h3 : -(2 ^ 62)<=hi) (h4:hi<2 ^ 62)
  (q:R (Itr lo (hi-lo).toNat) H):wpAny (model X.prog X.w) X.A (pyIter (.ref s.heap.objs.size)) (PIE X pins σ tg R) E { s with heap:=s.heap.push { cls:=.type "range", data:=.fields #[.int lo t,.int hi u,.int 1 v] },toks:=tk }:=by
 refine wpAny_pyIter_range (IsRange.new ..) (small_one h1 h2 h3 h4) ?_
 have I1:Inv X pins σ H { s with heap:=s.heap.push { cls:=.type "range", data:=.fields #[.int lo t,.int hi u,.int 1 v] },toks:=tk }:=I.kept fun b o e=>Heap.get?_push_of_some _ e
 refine ⟨(s.heap.push { cls:=.type "range", data:=.fields #[.int lo t,.int hi u,.int 1 v] }).objs.size,[(s.heap.push { cls:=.type "range", data:=.fields #[.int lo t,.int hi u,.int 1 v] }).objs.size],_,_,H,rfl,
  I1.kept (t':=tk) fun b o e=>Heap.get?_push_of_some _ e,Zgt _ lo (hi-lo).toNat,?_,fun b hb=>?_,q⟩
 ·have e1:lo+((0:Nat):Int)*1=lo:=by simp
  have e2:(((hi-lo).toNat:Nat):Int)-((0:Nat):Int)=Builtin.Range.rangeSize lo hi 1:=by rw [rangeSize_one];split<;>lia
  show IsRangeIter _ _ (lo+((0:Nat):Int)*1) ((((hi-lo).toNat:Nat):Int)-((0:Nat):Int)) 1
  rw [e1,e2]
  exact Heap.get?_push_size _ rfl
 ·have e:b=(s.heap.push { cls:=.type "range", data:=.fields #[.int lo t,.int hi u,.int 1 v] }).objs.size:=by simpa using hb
  subst e
  exact I1.fpOk (Nat.le_refl _) (I1.hok.fresh (Nat.le_refl _))
def ZnS (ta:TA):TI:=fun σ H R=>ta σ H fun vs H1=>∃j:Int,vs = [.int j] /\ -(2 ^ 62)<=j/\j<2 ^ 62/\R (Itr 0 j.toNat) H1
theorem YX {a:Expr}{ta:TA}{p pos:Pos} (hg:Gl X "range") (hm:X.mg "range" = none) (ha:PA X [a] ta) (hs:starEach [a] X.env = [(false,eval a X.env)]:=by rfl):PI X tg (.Call (.Name "range" p) [a] [] pos) (ZnS ta):=by
 intro pins s σ H R I h
 refine Call_ (GN I hg hm boot_range (PyProof.Rows.callWith_type1 (Yq (ha pos pins s σ H _ I h) fun us s1 ⟨vs,H1,I1,r1,q1⟩=>?_) hs rfl))
 obtain ⟨j,e,q1,q2,q⟩:=q1
 subst e
 cases r1 with
 | cons r rr=>
  cases rr
  obtain ⟨t,rfl⟩:=r
  exact call_range_1 (Zjs I1 (by lia) (by lia) q1 q2 (by simpa using q))
def Zlg (wi:TI) (g:TG) (tb:TS):TS:=fun D σ H=>wi σ H fun J H1=>∃W:Nat->Nat->St->Hp->Prop,(∃m,W 0 m σ H1) /\ ∀i m σ H,W i m σ H ->
 (J.stop i H/\D.nx σ H)∨(J.go i H /\ ∃N:St->Hp->Prop,(∀ σ' H',N σ' H' -> ∃m',m'<m/\W (i+1) m' σ' H') /\ ∀x H',J.yld i H x H'->g x σ H' fun σ2 H2=>tb { D with nx:=N,ct:=N,bk:=D.nx } σ2 H2)
def Zdi (fp:List Addr) (h:Heap):List (Addr×Obj):=fp.filterMap fun b=>(h.get? b).map fun o=>(b,o)
theorem Uj {fp:List Addr}{h:Heap}{b:Addr}{o:Obj} (hb:b∈fp) (e:h.get? b=some o):(b,o)∈Zdi fp h:=List.mem_filterMap.mpr ⟨b,hb,by rw [e];rfl⟩
theorem Zid {fp:List Addr}{h:Heap}{p:Addr×Obj} (hp:p∈Zdi fp h):p.1∈fp/\h.get? p.1=some p.2:=by
 obtain ⟨b,hb,e⟩:=List.mem_filterMap.mp hp
 cases q:h.get? b with
 | none=>rw [q] at e;cases e
 | some o=>
  rw [q] at e
  have e':(b,o)=p:=Option.some.inj e
  subst e'
  exact ⟨hb,q⟩
theorem Inv.pinned {pins:List (Addr×Obj)} {σ:St}{H:Hp}{s:Shared}{fp:List Addr} (I:Inv X pins σ H s) (hf:∀b∈fp,Zce X pins H b) (ho:∀b∈fp,∃o,s.heap.get? b=some o /\ ∀v,o.data ≠ .cell v):Inv X (pins++Zdi fp s.heap) σ H s:=
 I.pins_of fun p hp=>(List.mem_append.mp hp).elim (fun z=>I.pin p (List.mem_append_right _ z)) fun z=>by
  obtain ⟨hb,e⟩:=Zid z
  obtain ⟨f0,f1,f2,_⟩:=hf p.1 hb
  obtain ⟨o,e',d⟩:=ho p.1 hb
  rw [e] at e';cases e'
  exact ⟨e,f0,f1,f2,d⟩
theorem Inv.unpinned {pins pl:List (Addr×Obj)} {σ:St}{H:Hp}{s:Shared} (I:Inv X (pins++pl) σ H s):Inv X pins σ H s:=I.pins_of fun p hp=>I.pin p (List.mem_append_right _ (List.mem_append_left _ hp))
theorem Ym {iter:Expr}{body:List Stmt}{wi:TI}{g:TG}{tb:TS}{pos:Pos} (hp:PassesOwn (model X.prog X.w) X.A X.env X.xe) (hc:X.calm=true) (hi:PI X tg iter wi) (hg:PG X tg g) (hb:PSs X body tb)
  (hs:∀x,foldedSetIterable iter X.env x=pure x:=by intro _;rfl):PS X (.For tg iter body [] pos) (Zlg wi g tb):=by
 intro pins s σ H D I h
 refine wpAny_For (Yq (hi pins s σ H _ I h) fun v s1 h1=>Yq h1 fun itv s2 h2=>?_) hs
 obtain ⟨it,fp,tn,J,H2,e,I2,T,st2,f2,W,⟨m0,w0⟩,turn⟩:=h2
 subst e
 have stat:∀{H':Hp},(∀b∈fp,H' b=none) -> ∀b∈fp,Zce X pins H' b:=fun hn b hb=>⟨hn b hb,(f2 b hb).2⟩
 refine codeAny_forLoop_any (fun n s'=>∃i σ' H',Inv X pins σ' H' s'/\tn i s'.heap/\(∀b∈fp,H' b=none)/\W i n σ' H') ?_ m0 ⟨0,σ,H2,I2,st2,fun b hb=>(f2 b hb).1,w0⟩
 rintro n s3 ⟨i,σ3,H3,I3,st3,fr3,w3⟩
 rcases turn i n σ3 H3 w3 with ⟨stop,qn⟩ | ⟨go,N,hN,step⟩
 ·refine wpAny_passesOwn hp (Yq (T.done X rfl rfl rfl hc i pins s3 σ3 H3 X.xe I3 (stat fr3) st3 stop) fun r s4 ⟨hr,I4⟩=>?_)
  subst hr
  exact wpAny_execs_nil ⟨σ3,H3,I4,qn⟩
 ·refine wpAny_passesOwn hp (Yq (T.item X rfl rfl rfl hc i pins s3 σ3 H3 X.xe I3 (stat fr3) st3 go) fun r s4 ⟨u,hr,h4⟩=>?_)
  subst hr
  refine wpAny_passesOwn hp (Yq h4 fun _ s5 ⟨x,H5,I5,r5,y5,st5,fr5⟩=>?_)
  have I5':=I5.pinned (stat fr5) (T.obj _ _ st5)
  refine wpAny_passesOwn hp (Yq (hg _ s5 σ3 H5 x u _ I5' r5 (step x H5 y5)) fun _ s6 ⟨σ6,H6,I6,q6⟩=>?_)
  refine wpAny_passesOwn hp (Yq (hb _ s6 σ6 H6 _ I6 q6) fun f s7 q7=>?_)
  have again:∀{σ7:St}{H7:Hp},Inv X (pins++Zdi fp s5.heap) σ7 H7 s7->N σ7 H7 -> ∃m,m<n /\ ∃i σ' H',Inv X pins σ' H' s7/\tn i s7.heap/\(∀b∈fp,H' b=none)/\W i m σ' H':=fun {σ7 H7} I7 n7=>by
   obtain ⟨m',hm,w7⟩:=hN σ7 H7 n7
   refine ⟨m',hm,i+1,σ7,H7,I7.unpinned,T.keep _ _ _ st5 fun b hb o e=>(I7.pin (b,o) (List.mem_append_right _ (List.mem_append_right _ (Uj hb e)))).1,fun b hb=>?_,w7⟩
   obtain ⟨o,e,d⟩:=T.obj _ _ st5 b hb
   exact (I7.pin (b,o) (List.mem_append_right _ (List.mem_append_right _ (Uj hb e)))).2.1
  cases f with
  | next=>obtain ⟨σ7,H7,I7,n7⟩:=q7;exact again I7 n7
  | cont=>obtain ⟨σ7,H7,I7,n7⟩:=q7;exact again I7 n7
  | brk=>obtain ⟨σ7,H7,I7,q7⟩:=q7;exact ⟨σ7,H7,I7.unpinned,q7⟩
  | ret v=>obtain ⟨x7,σ7,H7,I7,r7,q7⟩:=q7;exact ⟨x7,σ7,H7,I7.unpinned,r7,q7⟩
end
theorem JI {K:PySem.W.Frag}{a:Addr}{xs:List V}{g:TG}{tb:TS}{D:Ends} {σ:St}{H:Hp} (Pv:Nat->St->Hp->Prop) (h0:Pv 0 σ H) (hl:∀i σ H,i<=xs.length->Pv i σ H->Zw K H a xs)
  (hs:∀i x σ H,xs[i]? = some x->Pv i σ H->g x σ H fun σ2 H2=>tb { D with nx:=Pv (i+1),ct:=Pv (i+1),bk:=D.nx } σ2 H2) (hd:∀ σ H,Pv xs.length σ H->D.nx σ H):
  ∃W:Nat->Nat->St->Hp->Prop,(∃m,W 0 m σ H) /\ ∀i m σ H,W i m σ H ->
   ((Itl K a).stop i H/\D.nx σ H)∨((Itl K a).go i H /\ ∃N:St->Hp->Prop,(∀ σ' H',N σ' H' -> ∃m',m'<m/\W (i+1) m' σ' H') /\ ∀x H',(Itl K a).yld i H x H'->g x σ H' fun σ2 H2=>tb { D with nx:=N,ct:=N,bk:=D.nx } σ2 H2):=by
 refine ⟨fun i m σ H=>m=xs.length-i/\i<=xs.length/\Pv i σ H,⟨xs.length,by simp,Nat.zero_le _,h0⟩,?_⟩
 rintro i m σ H ⟨rfl,hi,p⟩
 have q:=hl i σ H hi p
 by_cases hlt:i<xs.length
 ·refine .inr ⟨⟨xs,xs[i],q,by simp [hlt]⟩,Pv (i+1),fun σ' H' p'=>⟨xs.length-(i+1),by lia,rfl,hlt,p'⟩,fun x H' y=>?_⟩
  obtain ⟨e,y⟩:=y
  subst e
  exact hs i x σ _ (y xs q) p
 ·have e:i=xs.length:=by lia
  subst e
  exact .inl ⟨⟨xs,q,Nat.le_refl _⟩,hd σ H p⟩
theorem JS {lo:Int}{n:Nat}{g:TG}{tb:TS}{D:Ends} {σ:St}{H:Hp} (Pv:Nat->St->Hp->Prop) (h0:Pv 0 σ H)
  (hs:∀i σ H,i<n->Pv i σ H->g (.int (lo+i)) σ H fun σ2 H2=>tb { D with nx:=Pv (i+1),ct:=Pv (i+1),bk:=D.nx } σ2 H2) (hd:∀ σ H,Pv n σ H->D.nx σ H):
  ∃W:Nat->Nat->St->Hp->Prop,(∃m,W 0 m σ H) /\ ∀i m σ H,W i m σ H ->
   ((Itr lo n).stop i H/\D.nx σ H)∨((Itr lo n).go i H /\ ∃N:St->Hp->Prop,(∀ σ' H',N σ' H' -> ∃m',m'<m/\W (i+1) m' σ' H') /\ ∀x H',(Itr lo n).yld i H x H'->g x σ H' fun σ2 H2=>tb { D with nx:=N,ct:=N,bk:=D.nx } σ2 H2):=by
 refine ⟨fun i m σ H=>m=n-i/\i<=n/\Pv i σ H,⟨n,by simp,Nat.zero_le _,h0⟩,?_⟩
 rintro i m σ H ⟨rfl,hi,p⟩
 by_cases hlt:i<n
 ·refine .inr ⟨hlt,Pv (i+1),fun σ' H' p'=>⟨n-(i+1),by lia,rfl,hlt,p'⟩,fun x H' y=>?_⟩
  obtain ⟨e,y⟩:=y
  subst e y
  exact hs i σ _ hlt p
 ·have e:i=n:=by lia
  subst e
  exact .inl ⟨Nat.le_refl _,hd σ H p⟩
theorem ZjM {c:TT}{tb:TS}{D:Ends} {σ:St}{H:Hp} (Pv:St->Hp->Prop) (μ:St->Hp->Nat) (h0:Pv σ H)
  (hs:∀ σ H,Pv σ H->c σ H fun b H1=>if b=true then tb { D with nx:=fun σ' H'=>Pv σ' H' /\ μ σ' H' < μ σ H,ct:=fun σ' H'=>Pv σ' H' /\ μ σ' H' < μ σ H,bk:=D.nx } σ H1 else D.nx σ H1)
  (mono:∀ σ H Q Q',(∀b H1,Q b H1->Q' b H1)->c σ H Q->c σ H Q'):ZiV c tb D σ H:=by
 refine ⟨fun m σ H=>m = μ σ H/\Pv σ H,⟨_,rfl,h0⟩,?_⟩
 rintro m σ H ⟨rfl,p⟩
 refine mono σ H _ _ (fun b H1 q=>?_) (hs σ H p)
 cases b with
 | true=>exact ⟨_,fun σ' H' ⟨p',l⟩=>⟨_,l,rfl,p'⟩,q⟩
 | false=>exact q
abbrev R2:=V->V->Hp->VK->Prop
def Uy (X:Cx) (f:Value->Value->Sem Value) (r:R2):Prop:=
 ∀(pins:List (Addr×Obj)) (s:Shared) (σ:St) (H:Hp) (x y:V) (v u:Value) (Q:VK),Inv X pins σ H s->RelV x v->RelV y u->r x y H Q ->
  wpAny (model X.prog X.w) X.A (f v u) (EP X pins σ Q) X.xe s
def UnR (X:Cx) (f:Value->Sem Value) (r:V->Hp->VK->Prop):Prop:=
 ∀(pins:List (Addr×Obj)) (s:Shared) (σ:St) (H:Hp) (x:V) (v:Value) (Q:VK),Inv X pins σ H s->RelV x v->r x H Q ->
  wpAny (model X.prog X.w) X.A (f v) (EP X pins σ Q) X.xe s
def Jw (X:Cx) (f:Value) (r:List V->Hp->VK->Prop):Prop:=
 ∀(pins:List (Addr×Obj)) (s:Shared) (σ:St) (H:Hp) (xs:List V) (us:List Value) (Q:VK),Inv X pins σ H s->Vals xs us->r xs H Q ->
  wpAny (model X.prog X.w) X.A (call f us) (EP X pins σ Q) X.xe s
def Zol (X:Cx) (r:V->Hp->(Bool->Hp->Prop)->Prop):Prop:=
 ∀(pins:List (Addr×Obj)) (s:Shared) (σ:St) (H:Hp) (x:V) (v:Value) (Q:Bool->Hp->Prop),Inv X pins σ H s->RelV x v->r x H Q ->
  wpAny (model X.prog X.w) X.A (truthy v) (TP X pins σ Q) X.xe s
def tOp (r:R2) (ta tb:TE):TE:=fun σ H Q=>ta σ H fun x H1=>tb σ H1 fun y H2=>r x y H2 Q
def tUn (r:V->Hp->VK->Prop) (ta:TE):TE:=fun σ H Q=>ta σ H fun x H1=>r x H1 Q
def rI (C:Int->Int->Prop) (g:Int->Int->V):R2:=fun x y H Q=>∃i j,x = .int i/\y = .int j/\C i j/\Q (g i j) H
def rI0 (g:Int->Int->V):R2:=fun x y H Q=>∃i j,x = .int i/\y = .int j/\Q (g i j) H
def rU (g:Int->V):V->Hp->VK->Prop:=fun x H Q=>∃i,x = .int i/\Q (g i) H
section
variable {X:Cx}{a b c:Expr}{ta tb tc:TE}{pos:Pos}
theorem ZmX (ha:PE X a ta) (hb:PE X b tb) {pins:List (Addr×Obj)}{s:Shared} {σ:St}{H:Hp}{R:V->V->Hp->Prop} (I:Inv X pins σ H s)
  (h:ta σ H fun x H1=>tb σ H1 fun y H2=>R x y H2) {Q:Value->Shared->Prop}{f:Value->Value->Sem Value}
  (hf:∀v u s2 x y H2,Inv X pins σ H2 s2->RelV x v->RelV y u->R x y H2->wpAny (model X.prog X.w) X.A (f v u) Q X.xe s2):
  wpAny (model X.prog X.w) X.A (eval a X.env) (fun v s₁=>wpAny (model X.prog X.w) X.A (eval b X.env) (fun u s₂=>wpAny (model X.prog X.w) X.A (f v u) Q X.xe s₂) X.xe s₁) X.xe s:=by
 refine Yq (ha pins s σ H _ I h) fun v s1 ⟨x,H1,I1,r1,q1⟩=>?_
 refine Yq (hb pins s1 σ H1 _ I1 q1) fun u s2 ⟨y,H2,I2,r2,q2⟩=>?_
 exact hf v u s2 x y H2 I2 r1 r2 q2
theorem Zk {op:Operator}{r:R2} (ho:Uy X (binaryOp op) r) (ha:PE X a ta) (hb:PE X b tb):PE X (.BinOp a op b pos) (tOp r ta tb):=by
 intro pins s σ H Q I h
 exact wpAny_BinOp (ZmX ha hb I h fun v u s2 x y H2 I2 rx ry q=>ho pins s2 σ H2 x y v u Q I2 rx ry q)
theorem ZbY {op:UnaryOp}{r:V->Hp->VK->Prop} (ho:UnR X (unaryOp op) r) (ha:PE X a ta):PE X (.UnaryOp op a pos) (tUn r ta):=by
 intro pins s σ H Q I h
 exact UnaryOp_ (Yq (ha pins s σ H _ I h) fun v s1 ⟨x,H1,I1,r1,q1⟩=>ho pins s1 σ H1 x v Q I1 r1 q1)
theorem opI {f:Value->Value->Sem Value}{C:Int->Int->Prop}{g:Int->Int->Int}
  (rule:∀(i j:Int) (t u:Tok) (s:Shared) (Q:Value->Shared->Prop) (E:Value->Shared->Prop),C i j->Q (.int (g i j) s.toks) { s with toks:=s.toks+1 } -> wpAny (model X.prog X.w) X.A (f (.int i t) (.int j u)) Q E s):
  Uy X f (rI C fun i j=>.int (g i j)):=by
 intro pins s σ H x y v u Q I rx ry h
 obtain ⟨i,j,rfl,rfl,hc,q⟩:=h
 obtain ⟨t,rfl⟩:=rx
 obtain ⟨t',rfl⟩:=ry
 exact rule i j t t' s _ _ hc ⟨.int (g i j),H,I.tok _,⟨_,rfl⟩,q⟩
theorem ZkR {f:Value->Value->Sem Value}{g:Int->Int->Int}
  (rule:∀(i j:Int) (t u:Tok) (s:Shared) (Q:Value->Shared->Prop) (E:Value->Shared->Prop),Q (.int (g i j) s.toks) { s with toks:=s.toks+1 } -> wpAny (model X.prog X.w) X.A (f (.int i t) (.int j u)) Q E s):
  Uy X f (rI0 fun i j=>.int (g i j)):=by
 intro pins s σ H x y v u Q I rx ry h
 obtain ⟨i,j,rfl,rfl,q⟩:=h
 obtain ⟨t,rfl⟩:=rx
 obtain ⟨t',rfl⟩:=ry
 exact rule i j t t' s _ _ ⟨.int (g i j),H,I.tok _,⟨_,rfl⟩,q⟩
theorem ZmG {f:Value->Value->Sem Value}{g:Int->Int->Bool}
  (rule:∀(i j:Int) (t u:Tok) (s:Shared) (Q:Value->Shared->Prop) (E:Value->Shared->Prop),Q (.bool (g i j)) s->wpAny (model X.prog X.w) X.A (f (.int i t) (.int j u)) Q E s):
  Uy X f (rI0 fun i j=>.bl (g i j)):=by
 intro pins s σ H x y v u Q I rx ry h
 obtain ⟨i,j,rfl,rfl,q⟩:=h
 obtain ⟨t,rfl⟩:=rx
 obtain ⟨t',rfl⟩:=ry
 exact rule i j t t' s _ _ ⟨.bl (g i j),H,I,rfl,q⟩
def Zov (i j:Int):Prop:=0<j/\j<1073741824
def ZoD (i j:Int):Prop:=0<=j/\j<=1000000/\i.natAbs<2 ^ 64
def ZlC (i j:Int):Prop:=(-(2 ^ 64)<i/\i<2 ^ 64)∨(-(2 ^ 64)<j/\j<2 ^ 64)
theorem ZlC.ok {i j:Int} (h:ZlC i j):IntMulOk i j:=by
 rcases h with ⟨h1,h2⟩ | ⟨h1,h2⟩
 ·exact .of_left (intBits_le_64 h1 h2)
 ·exact .of_right (intBits_le_64 h1 h2)
theorem Zu:Uy X (binaryOp .Add) (rI0 fun i j=>.int (i+j)):=ZkR fun _ _ _ _ _ _ _ q=>add_int q
theorem YO:Uy X (binaryOp .Sub) (rI0 fun i j=>.int (i-j)):=ZkR fun _ _ _ _ _ _ _ q=>sub_int q
theorem JO:Uy X (binaryOp .Mult) (rI ZlC fun i j=>.int (i*j)):=opI fun _ _ _ _ _ _ _ hc q=>mul_int q hc.ok
theorem Zbi:Uy X (binaryOp .FloorDiv) (rI Zov fun i j=>.int (i / j)):=opI fun i j _ _ _ _ _ hc q=>by
 have h1:(0:Int)<j:=hc.1
 have h2:j<1073741824:=hc.2
 exact floordiv_int (by lia) (by rw [Int.fdiv_eq_ediv_of_nonneg i (by lia)];exact q) (.inl (PyProof.noPylong_small (by lia)))
theorem WQ:Uy X (binaryOp .Mod) (rI (fun _ j=>0<j) fun i j=>.int (i % j)):=opI fun i j _ _ _ _ _ hc q=>by
 have h1:(0:Int)<j:=hc
 exact mod_int' (by lia) (by rw [Int.fmod_eq_emod_of_nonneg i (by lia)];exact q)
theorem Zgv:Uy X (binaryOp .Pow) (rI ZoD fun i j=>.int (i ^ j.toNat)):=opI fun _ _ _ _ _ _ _ hc q=>pow_int_small hc.1 hc.2.1 hc.2.2 q
theorem Zmd:Uy X (binaryOp .BitAnd) (rI0 fun i j=>.int (Builtin.bitAnd i j)):=ZkR fun _ _ _ _ _ _ _ q=>and_int q
theorem ZmE:Uy X (binaryOp .BitXor) (rI0 fun i j=>.int (Builtin.bitXor i j)):=ZkR fun _ _ _ _ _ _ _ q=>xor_int q
theorem unI {f:Value->Sem Value}{g:Int->Int}
  (rule:∀(i:Int) (t:Tok) (s:Shared) (Q:Value->Shared->Prop) (E:Value->Shared->Prop),Q (.int (g i) s.toks) { s with toks:=s.toks+1 } -> wpAny (model X.prog X.w) X.A (f (.int i t)) Q E s):
  UnR X f (rU fun i=>.int (g i)):=by
 intro pins s σ H x v Q I rx h
 obtain ⟨i,rfl,q⟩:=h
 obtain ⟨t,rfl⟩:=rx
 exact rule i t s _ _ ⟨.int (g i),H,I.tok _,⟨_,rfl⟩,q⟩
theorem UI:UnR X (unaryOp .USub) (rU fun i=>.int (-i)):=unI fun _ _ _ _ _ q=>neg_int q
end
def ZnQ:V->V->Bool
 | .non,.non=>true | .non,.int _=>true | .int _,.non=>true | .non,.bl _=>true | .bl _,.non=>true | .non,.str _=>true | .str _,.non=>true
 | .int _,.int _=>true | .bl _,.bl _=>true | .str _,.str _=>true | .byt _,.byt _=>true
 | .int _,.str _=>true | .str _,.int _=>true | .bl _,.str _=>true | .str _,.bl _=>true
 | _,_=>false
def rEq:R2:=fun x y H Q=>ZnQ x y=true/\Q (.bl (decide (x=y))) H
def rNe:R2:=fun x y H Q=>ZnQ x y=true/\Q (.bl (!decide (x=y))) H
theorem Zhg {i j:Int}:decide (V.int i=V.int j)=(i==j):=by
 rw [Bool.eq_iff_iff]
 simp
theorem Ziw {i j:Bool}:decide (V.bl i=V.bl j)=(i==j):=by
 rw [Bool.eq_iff_iff]
 simp
theorem ZhB {i j:Str}:decide (V.str i=V.str j)=(i==j):=by
 rw [Bool.eq_iff_iff]
 simp
theorem Zg6 {i j:Array UInt8}:decide (V.byt i=V.byt j)=(i.toList==j.toList):=by
 rw [Bool.eq_iff_iff]
 cases i
 cases j
 simp
section
variable {X:Cx}{a b c:Expr}{ta tb tc:TE}{pos:Pos}
theorem Z0 {pins:List (Addr×Obj)} {σ:St}{H:Hp}{s:Shared}{Q:VK}{k k':Bool} (I:Inv X pins σ H s) (q:Q (.bl k) H) (e:k=k'):EP X pins σ Q (.bool k') s:=by
 subst e
 exact ⟨.bl k,H,I,rfl,q⟩
theorem Yc:Uy X (compareOp .Eq) rEq:=by
 intro pins s σ H x y v u Q I rx ry h
 obtain ⟨hs,q⟩:=h
 cases x with
 | non=>
  cases rx
  cases y with
  | non=>cases ry;exact PySem.EqNone.eq_none_none (Z0 I q (by simp))
  | bl j=>cases ry;exact PySem.EqNone.eq_none_bool (Z0 I q (by simp))
  | int j=>obtain ⟨t',rfl⟩:=ry;exact PySem.EqNone.eq_none_int (Z0 I q (by simp))
  | str j=>obtain ⟨t',rfl⟩:=ry;exact PySem.EqNone.eq_none_str (Z0 I q (by simp))
  | _=>exact absurd (show false=true from hs) Bool.false_ne_true
 | bl i=>
  cases rx
  cases y with
  | non=>cases ry;exact PySem.EqNone.eq_bool_none (Z0 I q (by simp))
  | bl j=>cases ry;exact eq_bool (Z0 I q Ziw)
  | str j=>obtain ⟨t',rfl⟩:=ry;exact PySem.EqMixed.eq_bool_str (Z0 I q (by simp))
  | _=>exact absurd (show false=true from hs) Bool.false_ne_true
 | int i=>
  obtain ⟨t,rfl⟩:=rx
  cases y with
  | non=>cases ry;exact PySem.EqNone.eq_int_none (Z0 I q (by simp))
  | int j=>obtain ⟨t',rfl⟩:=ry;exact eq_int (Z0 I q Zhg)
  | str j=>obtain ⟨t',rfl⟩:=ry;exact PySem.EqMixed.eq_int_str (Z0 I q (by simp))
  | _=>exact absurd (show false=true from hs) Bool.false_ne_true
 | str i=>
  obtain ⟨t,rfl⟩:=rx
  cases y with
  | non=>cases ry;exact PySem.EqNone.eq_str_none (Z0 I q (by simp))
  | bl j=>cases ry;exact PySem.EqMixed.eq_str_bool (Z0 I q (by simp))
  | int j=>obtain ⟨t',rfl⟩:=ry;exact PySem.EqMixed.eq_str_int (Z0 I q (by simp))
  | str j=>obtain ⟨t',rfl⟩:=ry;exact eq_str (Z0 I q ZhB)
  | _=>exact absurd (show false=true from hs) Bool.false_ne_true
 | byt i=>
  obtain ⟨t,rfl⟩:=rx
  cases y with
  | byt j=>obtain ⟨t',rfl⟩:=ry;exact PySem.W.eq_bytes (Z0 I q Zg6)
  | _=>exact absurd (show false=true from hs) Bool.false_ne_true
 | _=>cases y<;>exact absurd (show false=true from hs) Bool.false_ne_true
theorem Zc9:Uy X (compareOp .NotEq) rNe:=by
 intro pins s σ H x y v u Q I rx ry h
 obtain ⟨hs,q⟩:=h
 cases x with
 | non=>
  cases rx
  cases y with
  | non=>cases ry;exact PySem.EqNone.ne_none_none (Z0 I q (by simp))
  | bl j=>cases ry;exact PySem.EqNone.ne_none_bool (Z0 I q (by simp))
  | int j=>obtain ⟨t',rfl⟩:=ry;exact PySem.EqNone.ne_none_int (Z0 I q (by simp))
  | str j=>obtain ⟨t',rfl⟩:=ry;exact PySem.EqNone.ne_none_str (Z0 I q (by simp))
  | _=>exact absurd (show false=true from hs) Bool.false_ne_true
 | bl i=>
  cases rx
  cases y with
  | non=>cases ry;exact PySem.EqNone.ne_bool_none (Z0 I q (by simp))
  | bl j=>cases ry;exact ne_bool (Z0 I q (congrArg not Ziw))
  | str j=>obtain ⟨t',rfl⟩:=ry;exact PySem.EqMixed.ne_bool_str (Z0 I q (by simp))
  | _=>exact absurd (show false=true from hs) Bool.false_ne_true
 | int i=>
  obtain ⟨t,rfl⟩:=rx
  cases y with
  | non=>cases ry;exact PySem.EqNone.ne_int_none (Z0 I q (by simp))
  | int j=>obtain ⟨t',rfl⟩:=ry;exact ne_int (Z0 I q (congrArg not Zhg))
  | str j=>obtain ⟨t',rfl⟩:=ry;exact PySem.EqMixed.ne_int_str (Z0 I q (by simp))
  | _=>exact absurd (show false=true from hs) Bool.false_ne_true
 | str i=>
  obtain ⟨t,rfl⟩:=rx
  cases y with
  | non=>cases ry;exact PySem.EqNone.ne_str_none (Z0 I q (by simp))
  | bl j=>cases ry;exact PySem.EqMixed.ne_str_bool (Z0 I q (by simp))
  | int j=>obtain ⟨t',rfl⟩:=ry;exact PySem.EqMixed.ne_str_int (Z0 I q (by simp))
  | str j=>obtain ⟨t',rfl⟩:=ry;exact ne_str (Z0 I q (congrArg not ZhB))
  | _=>exact absurd (show false=true from hs) Bool.false_ne_true
 | byt i=>
  obtain ⟨t,rfl⟩:=rx
  cases y with
  | byt j=>obtain ⟨t',rfl⟩:=ry;exact PySem.W.ne_bytes (Z0 I q (congrArg not Zg6))
  | _=>exact absurd (show false=true from hs) Bool.false_ne_true
 | _=>cases y<;>exact absurd (show false=true from hs) Bool.false_ne_true
theorem WS:Uy X (compareOp .Lt) (rI0 fun i j=>.bl (decide (i<j))):=ZmG fun _ _ _ _ _ _ _ q=>lt_int q
theorem Zbe:Uy X (compareOp .Gt) (rI0 fun i j=>.bl (decide (j<i))):=ZmG fun _ _ _ _ _ _ _ q=>gt_int q
theorem Ziz:Uy X (compareOp .GtE) (rI0 fun i j=>.bl (decide (j<=i))):=ZmG fun _ _ _ _ _ _ _ q=>ge_int q
theorem ZmY:Uy X (compareOp .Is) (fun x y H Q=>y = .non/\Q (.bl (decide (x = .non))) H):=by
 intro pins s σ H x y v u Q I rx ry h
 obtain ⟨rfl,q⟩:=h
 cases ry
 refine is_none_gen (Z0 I q ?_)
 cases x<;>first
  | (cases rx;rfl)
  | (obtain ⟨t,rfl⟩:=rx;rfl)
theorem Zeq:Uy X (compareOp .IsNot) (fun x y H Q=>y = .non/\Q (.bl (!decide (x = .non))) H):=by
 intro pins s σ H x y v u Q I rx ry h
 obtain ⟨rfl,q⟩:=h
 cases ry
 refine isnot_none_gen (Z0 I q ?_)
 cases x<;>first
  | (cases rx;rfl)
  | (obtain ⟨t,rfl⟩:=rx;rfl)
theorem Zp (b:Expr) {op:CmpOp} (h:op ≠ .In:=by decide) (h2:op ≠ .NotIn:=by decide):behindInMarks op b=false:=by
 have e1:(op==CmpOp.In)=false:=by cases op<;>first | rfl | exact absurd rfl h
 have e2:(op==CmpOp.NotIn)=false:=by cases op<;>first | rfl | exact absurd rfl h2
 cases b<;>simp [behindInMarks,e1,e2]
theorem Yn {op:CmpOp}{r:R2} (ho:Uy X (compareOp op) r) (ha:PE X a ta) (hb:PE X b tb) (hm:behindInMarks op b=false):PE X (.Compare a [op] [b] pos) (tOp r ta tb):=by
 intro pins s σ H Q I h
 exact wpAny_Compare1 (ZmX ha hb I h fun v u s2 x y H2 I2 rx ry q=>ho pins s2 σ H2 x y v u Q I2 rx ry q) hm
def Zd8 (t:TE):TT:=fun σ H Q=>t σ H fun x H'=>∃k,x = .bl k/\Q k H'
theorem Zr {op:CmpOp}{r:R2} (ho:Uy X (compareOp op) r) (ha:PE X a ta) (hb:PE X b tb) (hm:behindInMarks op b=false):PT X (.Compare a [op] [b] pos) (Zd8 (tOp r ta tb)):=by
 intro pins s σ H Q I h
 refine wpAny_isTrue_Compare1 (Yq (ha pins s σ H _ I h) fun v s1 ⟨x,H1,I1,r1,q1⟩=>Yq (hb pins s1 σ H1 _ I1 q1) fun u s2 ⟨y,H2,I2,r2,q2⟩=>
  Yq (ho pins s2 σ H2 x y v u _ I2 r1 r2 q2) fun c s3 ⟨z,H3,I3,r3,k,e,q3⟩=>?_) hm
 subst e
 cases r3
 exact wpAny_truthy_bool ⟨H3,I3,q3⟩
def ZiI (r r':R2) (ta tb tc:TE):TE:=fun σ H Q=>ta σ H fun x H1=>tb σ H1 fun y H2=>r x y H2 fun z H3=>∃k,z = .bl k /\
 (if k=true then tc σ H3 fun w' H4=>r' y w' H4 Q else Q (.bl false) H3)
theorem ZjO {op op':CmpOp}{r r':R2} (ho:Uy X (compareOp op) r) (ho':Uy X (compareOp op') r') (ha:PE X a ta) (hb:PE X b tb) (hc:PE X c tc)
  (hm:lastMarks [op,op'] [b,c]=false:=by with_unfolding_all rfl):PE X (.Compare a [op,op'] [b,c] pos) (ZiI r r' ta tb tc):=by
 intro pins s σ H Q I h
 refine Compare_chain (Yq (ha pins s σ H _ I h) fun v s1 ⟨x,H1,I1,r1,q1⟩=>chain_link (Yq (hb pins s1 σ H1 _ I1 q1) fun u s2 ⟨y,H2,I2,r2,q2⟩=>
  Yq (ho pins s2 σ H2 x y v u _ I2 r1 r2 q2) fun d s3 ⟨z,H3,I3,r3,k,e,q3⟩=>?_)) hm
 subst e
 cases r3
 refine wpAny_truthy_bool ?_
 cases k with
 | false=>exact ite_ff ⟨.bl false,H3,I3,rfl,q3⟩
 | true=>exact ite_tt (chain_last (Yq (hc pins s3 σ H3 _ I3 q3) fun w' s4 ⟨z',H4,I4,r4,q4⟩=>ho' pins s4 σ H4 y z' u w' Q I4 r2 r4 q4))
theorem ZiF {op op':CmpOp}{r r':R2} (ho:Uy X (compareOp op) r) (ho':Uy X (compareOp op') r') (ha:PE X a ta) (hb:PE X b tb) (hc:PE X c tc)
  (hm:lastMarks [op,op'] [b,c]=false:=by with_unfolding_all rfl):PT X (.Compare a [op,op'] [b,c] pos) (Zd8 (ZiI r r' ta tb tc)):=by
 intro pins s σ H Q I h
 refine isTrue_chain (Yq (ha pins s σ H _ I h) fun v s1 ⟨x,H1,I1,r1,q1⟩=>test_link (Yq (hb pins s1 σ H1 _ I1 q1) fun u s2 ⟨y,H2,I2,r2,q2⟩=>
  Yq (ho pins s2 σ H2 x y v u _ I2 r1 r2 q2) fun d s3 ⟨z,H3,I3,r3,k,e,q3⟩=>?_)) hm
 subst e
 cases r3
 refine wpAny_truthy_bool ?_
 cases k with
 | false=>
  obtain ⟨k',e',q'⟩:=q3
  cases e'
  exact ite_ff ⟨H3,I3,q'⟩
 | true=>
  refine ite_tt (test_last (Yq (hc pins s3 σ H3 _ I3 q3) fun w' s4 ⟨z',H4,I4,r4,q4⟩=>Yq (ho' pins s4 σ H4 y z' u w' _ I4 r2 r4 q4) fun d' s5 ⟨z2,H5,I5,r5,k2,e2,q5⟩=>?_))
  subst e2
  cases r5
  exact wpAny_truthy_bool ⟨H5,I5,q5⟩
def ZnF (K:PySem.W.Frag) (x:V) (H:Hp) (k:Bool):Prop:=
 match x with
 | .non=>k=false
 | .bl b=>k=b
 | .int i=>k=(i != 0)
 | .str y=>y.length<=sizeLine/\k=((y.length:Int) != 0)
 | .byt y=>y.size<=sizeLine/\k=((y.size:Int) != 0)
 | .ref p=>(∃xs,Zw K H p xs/\k = !xs.isEmpty)∨(∃xs,YB K H p xs/\k = !xs.isEmpty) ∨ ∃kvs,H p=some (.dK kvs)/\k = !kvs.isEmpty
 | _=>False
theorem Zgh {κ:Type}{kvs:List (κ × V)}{vs:List (κ × Value)} (r:KV kvs vs):(!vs.isEmpty) = !kvs.isEmpty:=by
 cases r<;>rfl
theorem ZcN {xs:List V}{its:List Value} (r:Vals xs its):(!its.toArray.isEmpty) = !xs.isEmpty:=by
 cases r<;>simp
theorem ZcZ:(sizeLine:Nat)<2 ^ 63:=by rw [sizeLine_eq];decide
theorem Zmu:Zol X (fun x H Q=>∃k,ZnF X.K x H k/\Q k H):=by
 intro pins s σ H x v Q I rx h
 obtain ⟨k,e,q⟩:=h
 have hl:=ZcZ
 have hs:sizeLine=16777216:=sizeLine_eq
 cases x with
 | non=>
  cases rx
  have e':k=false:=e
  subst e'
  exact truthy_none ⟨H,I,q⟩
 | bl b=>
  cases rx
  have e':k=b:=e
  subst e'
  exact wpAny_truthy_bool ⟨H,I,q⟩
 | int i=>
  obtain ⟨t,rfl⟩:=rx
  have e':k=(i != 0):=e
  subst e'
  exact PySem.P.truthy_int ⟨H,I,q⟩
 | str y=>
  obtain ⟨t,rfl⟩:=rx
  obtain ⟨hy,e'⟩:y.length<=sizeLine/\k=((y.length:Int) != 0):=e
  subst e'
  exact PySem.P.truthy_str (by lia) ⟨H,I.tok _,q⟩
 | byt y=>
  obtain ⟨t,rfl⟩:=rx
  obtain ⟨hy,e'⟩:y.size<=sizeLine/\k=((y.size:Int) != 0):=e
  subst e'
  exact PySem.W.truthy_bytes (by lia) ⟨H,I.tok _,q⟩
 | ref p=>
  cases rx
  have e':(∃xs,Zw X.K H p xs/\k = !xs.isEmpty)∨(∃xs,YB X.K H p xs/\k = !xs.isEmpty) ∨ ∃kvs,H p=some (.dK kvs)/\k = !kvs.isEmpty:=e
  rcases e' with ⟨xs,hx,e'⟩ | ⟨xs,hx,e'⟩ | ⟨kvs,hx,e'⟩
  ·subst e'
   obtain ⟨its,r,pl,hz⟩:=I.list hx
   have hlen:=r.length
   exact wpAny_truthy_list pl.isList (by simp only [List.size_toArray];lia) ⟨H,I.tok _,by rw [ZcN r];exact q⟩
  ·subst e'
   obtain ⟨its,r,pl,hz⟩:=I.tuple hx
   have hlen:=r.length
   exact truthy_tuple pl (by simp only [List.size_toArray];lia) ⟨H,I.tok _,by rw [ZcN r];exact q⟩
  ·subst e'
   obtain ⟨hz,hS,vs,r,m⟩:kvs.length<=sizeLine/\(p==sysModules)=false /\ ∃vs,KV kvs vs/\s.heap.DictOf (ZH X.prog X.w) p vs:=I.hok p _ hx
   have hlen:kvs.length=vs.length:=Paired.length r
   exact wpAny_truthy_dict hS m (by lia) ⟨H,I.tok _,by rw [Zgh r];exact q⟩
 | _=>exact (show False from e).elim
theorem ZiT (ha:PE X a ta) (he:∀whole,isTrue a X.env whole=(do let v <- whole;standAt a.pos;holding [v] (truthy v))):
  PT X a (fun σ H Q=>ta σ H fun x H'=>∃k,ZnF X.K x H' k/\Q k H'):=by
 intro pins s σ H Q I h
 exact isTrue_plain (Yq (ha pins s σ H _ I h) fun v s1 ⟨x,H1,I1,r1,q1⟩=>Zmu pins s1 σ H1 x v Q I1 r1 q1) (he _)
theorem vals1 {x:V}{us:List Value} (r:Vals [x] us):∃u,us = [u]/\RelV x u:=by
 cases r with
 | cons r1 r2=>cases r2;exact ⟨_,rfl,r1⟩
theorem vals2 {x y:V}{us:List Value} (r:Vals [x,y] us):∃u w',us = [u,w']/\RelV x u/\RelV y w':=by
 cases r with
 | cons r1 r2=>
  cases r2 with
  | cons r3 r4=>cases r4;exact ⟨_,_,rfl,r1,r3⟩
theorem Zbo:Jw X (.builtin "abs") (fun xs H Q=>∃i,xs = [.int i]/\Q (.int (if i<0 then -i else i)) H):=by
 intro pins s σ H xs us Q I r h
 obtain ⟨i,rfl,q⟩:=h
 obtain ⟨u,rfl,t,rfl⟩:=vals1 r
 exact call_abs_int fun u tk=>⟨.int (if i<0 then -i else i),H,I.tok _,⟨_,rfl⟩,q⟩
theorem WG (hc:X.calm=true):Jw X (.builtin "max") (fun xs H Q=>∃i j,xs = [.int i,.int j]/\Q (.int (if j>i then j else i)) H):=by
 intro pins s σ H xs us Q I r h
 obtain ⟨i,j,rfl,q⟩:=h
 obtain ⟨u,w',rfl,⟨t,rfl⟩,⟨t',rfl⟩⟩:=vals2 r
 refine max_two_ints (I.ok.hd hc) fun h' tk k=>⟨_,H,I.kept k,?_,q⟩
 by_cases hj:j>i
 ·rw [if_pos hj,if_pos hj];exact ⟨_,rfl⟩
 ·rw [if_neg hj,if_neg hj];exact ⟨_,rfl⟩
theorem Zag (hc:X.calm=true):Jw X (.builtin "min") (fun xs H Q=>∃i j,xs = [.int i,.int j]/\Q (.int (if j<i then j else i)) H):=by
 intro pins s σ H xs us Q I r h
 obtain ⟨i,j,rfl,q⟩:=h
 obtain ⟨u,w',rfl,⟨t,rfl⟩,⟨t',rfl⟩⟩:=vals2 r
 refine min_two_ints (I.ok.hd hc) fun h' tk k=>⟨_,H,I.kept k,?_,q⟩
 by_cases hj:j<i
 ·rw [if_pos hj,if_pos hj];exact ⟨_,rfl⟩
 ·rw [if_neg hj,if_neg hj];exact ⟨_,rfl⟩
theorem Gu:Jw X (.type "int") (fun xs H Q=>(∃i,xs = [.int i]/\Q (.int i) H) ∨ ∃k,xs = [.bl k]/\Q (.int (if k then 1 else 0)) H):=by
 intro pins s σ H xs us Q I r h
 rcases h with ⟨i,rfl,q⟩ | ⟨k,rfl,q⟩
 ·obtain ⟨u,rfl,t,rfl⟩:=vals1 r
  exact call_int_int ⟨.int i,H,I,⟨_,rfl⟩,q⟩
 ·obtain ⟨u,rfl,r1⟩:=vals1 r
  cases r1
  exact call_int_bool ⟨.int (if k then 1 else 0),H,I.tok _,⟨_,rfl⟩,q⟩
end
structure Zmj (h:Heap) (x dx C:Addr) (mA:Str->Option Value):Prop where
 obj:h.get? x=some (PySem.W.instObj C dx)
 ns:h.Ns1 dx mA
 ne:dx≠x
theorem ZhJ {h:Heap}{dx:Addr}{mA:Str->Option Value} (n:h.Ns1 dx mA):∃od,h.get? dx=some od /\ ∀name,PySem.W.lookIn name od=some (mA name):=by
 obtain ⟨o,es,ep,ho,hd,hk,_,hm⟩:=n
 refine ⟨o,ho,fun name=>?_⟩
 have e:=hm name
 unfold nsFind findBy at e
 rw [<- Array.find?_toList] at e
 unfold PySem.W.lookIn
 rw [hd]
 dsimp only
 split
 ·rename_i y q
  rw [q] at e
  exact congrArg some e
 ·rename_i q
  rw [q] at e
  have a:es.toList.any (·.refKey)=false:=by
   rw [List.any_eq_false]
   intro y hy
   obtain ⟨z,t,hkey⟩:=hk y (Array.mem_toList_iff.mp hy)
   simp [DictEntry.refKey,hkey]
  have a':¬es.toList.any (·.refKey)=true:=by rw [a];exact Bool.false_ne_true
  rw [if_neg a']
  exact congrArg some e
theorem Zmj.look {h:Heap}{x dx C:Addr}{mA:Str->Option Value} (I:Zmj h x dx C mA):∃od,PySem.W.InstAt h x (PySem.W.instObj C dx) C (some od) /\ ∀name,PySem.W.lookIn name od=some (mA name):=
 let ⟨od,ho,hl⟩:=ZhJ I.ns
 ⟨od,⟨I.obj,rfl,rfl,ho⟩,hl⟩
theorem Zbv.some_of {v:V}{o:Option Value} (r:Zbv (some v) o):∃u,o=some u/\RelV v u:=by
 cases o with
 | none=>exact (show False from r).elim
 | some u=>exact ⟨u,rfl,r⟩
section
variable {P:Program}{w:World}{H H':Hp}{h h':Heap}{a C dx:Addr}{fs fs':List (Str×V)}
theorem ZkL (hok:W0 P w H h) (e:H a=some (.ins C dx fs)):∃mA,Zmj h a dx C mA/\(∀f,Zbv (fs.lookup f) (mA f))/\PySem.Within mA (fs.map (·.1))/\fs.length<=1000/\H dx=some (.own a):=by
 obtain ⟨d,z,ne,ob,mA,n,r,q⟩:=(show ZV P w H h a (.ins C dx fs) from hok a _ e)
 exact ⟨mA,⟨ob,n,ne⟩,r,q,z,d⟩
end
structure Cls (K:PySem.W.Frag) (C:Addr):Prop where
 pg:PySem.W.plainGet K C Str.empty=true
 hd:PySem.W.hasDictIn K C=true
 po:PySem.W.plainOver K C=true
 sa:PySem.W.findIn K (.ref C) "__setattr__" = some (some (.builtin "object.__setattr__"))
theorem Cls.get {K:PySem.W.Frag}{C:Addr} (c:Cls K C) (f:Str):PySem.W.plainGet K C f=true:=c.pg
section
variable {X:Cx}{pins:List (Addr×Obj)} {σ:St}{H:Hp}{s:Shared}{A:Around}{E:Value->Shared->Prop}{Q:Value->Shared->Prop}{c:Value}{b:Bool}
inductive Za2 (K:PySem.W.Frag) (H:Hp):V->Value->Prop where
 | non:Za2 K H .non (.type "NoneType")
 | bl (x:Bool):Za2 K H (.bl x) (.type "bool")
 | int (i:Int):Za2 K H (.int i) (.type "int")
 | str (x:Str):Za2 K H (.str x) (.type "str")
 | flt (x:UInt64):Za2 K H (.flt x) (.type "float")
 | lst {a:Addr}{xs:List V} (e:H a=some (.lst xs)):Za2 K H (.ref a) (.type "list")
 | frz {a:Addr}{o:Obj}{xs:List V} (e:H a=some (.frz o (.lst xs))):Za2 K H (.ref a) (.type "list")
 | tup {a:Addr}{xs:List V} (e:H a=some (.tup xs)):Za2 K H (.ref a) (.type "tuple")
 | dK {a:Addr}{kvs:List (Key×V)} (e:H a=some (.dK kvs)):Za2 K H (.ref a) (.type "dict")
 | dT {a:Addr}{kvs:List (List Key×V)} (e:H a=some (.dT kvs)):Za2 K H (.ref a) (.type "dict")
 | ins {a C dx:Addr}{fs:List (Str×V)} (e:H a=some (.ins C dx fs)) (cl:Cls K C) (ha:PySem.W.findIn K (.ref C) "__class__" = some (some (.builtin "object.__class__")))
   (hn:PySem.W.specialIn K (.builtin "object.__class__") "__get__" = some (some (.builtin "getset_descriptor.__get__"))) (htk:PySem.W.takesIn K (.builtin "object.__class__")=some true)
   (hm:PySem.W.mroIn K C (.type "object")=some true):Za2 K H (.ref a) (.ref C)
theorem ZhZ {x:V}{u t:Value} (I:Inv X pins σ H s) (rx:RelV x u) (ty:Za2 X.K H x t) (e:PySem.W.kitOne X.K t c=some b) (h:∀tk,Q (.bool b) { s with toks:=tk }):
  wpAny (model X.prog X.w) A (call (.builtin "isinstance") [u,c]) Q E s:=by
 cases ty with
 | non=>cases (show u=Value.none from rx);exact PySem.W.kia_one PySem.W.kitx_none I.kIn True.intro e (fun z=>nomatch z) h
 | bl y=>cases (show u=Value.bool y from rx);exact PySem.W.kia_one PySem.W.kitx_bool I.kIn True.intro e (fun z=>nomatch z) h
 | int i=>obtain ⟨t,q⟩:=(show ∃t,u=Value.int i t from rx);cases q;exact PySem.W.kia_one PySem.W.kitx_int I.kIn True.intro e (fun z=>nomatch z) h
 | str y=>obtain ⟨t,q⟩:=(show ∃t,u=Value.str y t from rx);cases q;exact PySem.W.kia_one PySem.W.kitx_str I.kIn True.intro e (fun z=>nomatch z) h
 | flt y=>obtain ⟨t,q⟩:=(show ∃t,u=Value.float y t from rx);cases q;exact PySem.W.kia_one PySem.W.kitx_float I.kIn True.intro e (fun z=>nomatch z) h
 | @lst a xs ea=>
  cases (show u=Value.ref a from rx)
  obtain ⟨_,_,n,_,h1⟩:=(show ZV X.prog X.w H s.heap a (.lst xs) from I.hok a _ ea)
  exact PySem.W.kia_one PySem.W.kitx_list I.kIn ⟨_,h1,rfl⟩ e (fun z=>nomatch z) h
 | @frz a ob xs ea=>
  cases (show u=Value.ref a from rx)
  obtain ⟨_,_,_,n,_,h1⟩:=(show ZV X.prog X.w H s.heap a (.frz ob (.lst xs)) from I.hok a _ ea)
  exact PySem.W.kia_one PySem.W.kitx_list I.kIn ⟨_,h1,rfl⟩ e (fun z=>nomatch z) h
 | @tup a xs ea=>
  cases (show u=Value.ref a from rx)
  obtain ⟨_,_,_,p⟩:=(show ZV X.prog X.w H s.heap a (.tup xs) from I.hok a _ ea)
  obtain ⟨o,h1,h2,_⟩:=p
  exact PySem.W.kia_one PySem.W.kitx_tuple I.kIn ⟨o,h1,h2⟩ e (fun z=>nomatch z) h
 | @dK a kvs ea=>
  cases (show u=Value.ref a from rx)
  obtain ⟨_,_,vs,_,p⟩:=(show ZV X.prog X.w H s.heap a (.dK kvs) from I.hok a _ ea)
  obtain ⟨o,es,ep,h1,h2,_⟩:=p
  exact PySem.W.kia_one PySem.W.kitx_dict I.kIn ⟨o,h1,h2.1⟩ e (fun z=>nomatch z) h
 | @dT a kvs ea=>
  cases (show u=Value.ref a from rx)
  obtain ⟨_,_,xs,_,o,es,ep,h1,h2,_⟩:=(show ZV X.prog X.w H s.heap a (.dT kvs) from I.hok a _ ea)
  exact PySem.W.kia_one PySem.W.kitx_dict I.kIn ⟨o,h1,h2.1⟩ e (fun z=>nomatch z) h
 | @ins a C dx fs ea cl ha hn htk hm=>
  cases (show u=Value.ref a from rx)
  obtain ⟨mA,O,_⟩:=ZkL I.hok ea
  obtain ⟨od,J,_⟩:=O.look
  exact PySem.W.kia_one (PySem.W.kitx_own (cl.get _) cl.hd ha hn htk hm) I.kIn J e (fun z=>nomatch z) h
end
structure W4 (k:Nat) (A:Around):Prop where
 hd:A.handled=none
 dp:A.depth+3*k+5<recursionLimit
 un:A.units+16*k+200<cLine
theorem W4.mono {j k:Nat}{A:Around} (r:W4 k A) (h:j<=k):W4 j A:=⟨r.hd,by have:=r.dp;lia,by have:=r.un;lia⟩
theorem W4.deeper {k:Nat}{A:Around} (r:W4 (k+1) A) (env:Env):W4 k (A.deeper env):=
 ⟨r.hd,by have:=r.dp;show A.depth+1+3*k+5<_;lia,by have:=r.un;show A.units+3+16*k+200<_;lia⟩
theorem W4.depth {k:Nat}{A:Around} (r:W4 k A):A.depth<recursionLimit:=by have:=r.dp;lia
theorem W4.units {k:Nat}{A:Around} (r:W4 k A):A.units+64<cLine:=by have:=r.un;lia
def U3:TA:=fun _ H Q=>Q [] H
def YM (ta:TE) (tr:TA):TA:=fun σ H Q=>ta σ H fun x H1=>tr σ H1 fun xs H2=>Q (x::xs) H2
section
variable {X:Cx}{e:Expr}{es:List Expr}{te:TE}{t:TA}{pos:Pos}
theorem Zb:PA X [] U3:=fun _ _ _ _ H Q I h=>Calls.spliced_nil ⟨[],H,I,.nil,h⟩
theorem Za (ha:PE X e te) (hr:PA X es t) (hs:starEach (e::es) X.env=(false,eval e X.env)::starEach es X.env:=by rfl):PA X (e::es) (YM te t):=by
 intro pos pins s σ H Q I h
 rw [hs]
 show wpAny _ _ (spliced ((false,eval e X.env)::backTo pos (starEach es X.env))) _ _ s
 refine Calls.spliced_cons (Yq (ha pins s σ H _ I h) fun u s1 ⟨x,H1,I1,r1,q1⟩=>?_)
 exact Yq (hr pos pins s1 σ H1 _ I1 q1) fun us s2 ⟨xs,H2,I2,r2,q2⟩=>⟨x::xs,H2,I2,.cons r1 r2,q2⟩
def ZdB (t:TA):TE:=fun σ H Q=>t σ H fun xs H1=>xs.length<=sizeLine /\ ∀p,H1 p=none->Q (.ref p) (upd H1 p (.tup xs))
def ZoK (t:TA):TE:=fun σ H Q=>t σ H fun xs H1=>xs.length<=sizeLine /\ ∀p,H1 p=none->Q (.ref p) (upd H1 p (.lst xs))
theorem ZA {x1} (h:PA X es t):PE X (.Tuple es x1 pos) (ZdB t):=by
 intro pins s σ H Q I hq
 refine wpAny_Tuple_spliced (Yq (h pos pins s σ H _ I hq) fun us s1 ⟨xs,H1,I1,r,z,q⟩=>⟨by rw [<- r.length];exact z,?_⟩)
 have hf:H1 s1.heap.objs.size=none:=I1.hok.fresh (Nat.le_refl _)
 refine ⟨.ref s1.heap.objs.size,upd H1 s1.heap.objs.size (.tup xs),I1.laid (t':=s1.toks) (fun b u e=>Heap.get?_push_of_some _ e) (Nat.le_refl _) ?_,rfl,q _ hf⟩
 exact ⟨z,us,r,⟨_,Heap.get?_push_size _ rfl,rfl,_,rfl⟩⟩
theorem ZL (h:PA X es t):PE X (.List es pos) (ZoK t):=by
 intro pins s σ H Q I hq
 refine wpAny_List_spliced (Yq (h pos pins s σ H _ I hq) fun us s1 ⟨xs,H1,I1,r,z,q⟩=>⟨by rw [<- r.length];exact z,?_⟩)
 have hf:H1 s1.heap.objs.size=none:=I1.hok.fresh (Nat.le_refl _)
 refine ⟨.ref s1.heap.objs.size,upd H1 s1.heap.objs.size (.lst xs),I1.laid (t':=s1.toks) (fun b u e=>Heap.get?_push_of_some _ e) (Nat.le_refl _) ?_,rfl,q _ hf⟩
 exact ⟨z,us,0,r,Heap.get?_push_size _ rfl⟩
end
abbrev Sp:=List V->Hp->VK->XK->Prop
abbrev CXT:=List Env->Hp->Shared->XK->Value->Shared->Prop
structure ZkH (P:Program) (w:World) (K:PySem.W.Frag) (mg:Str->Option Value) (base:Heap) (A:Around) (outer:List Env) (s:Shared) (H:Hp):Prop where
 frames:A.frames=some outer
 mod:Mod K mg base
 bs:∀b o,base.get? b=some o->s.heap.get? b=some o/\H b=none
 bsz:base.objs.size<=s.heap.objs.size
 funs:s.heap.FunFrames base outer
 frf:∀b∈frs outer,H b=none
 hok:W0 P w H s.heap
 bare:AllBare s.gens
def CE (outer:List Env) (P:Program) (w:World) (H:Hp) (s:Shared) (Q:VK) (u:Value) (s':Shared):Prop:=
 ∃v H',s'.os=s.os/\AllBare s'.gens/\Un (frs outer) [] H H' s.heap s'.heap/\W0 P w H' s'.heap/\RelV v u/\Q v H'
def CR (CX:CXT) (outer:List Env) (P:Program) (w:World) (H:Hp) (s:Shared) (Q:VK) (E:XK) (r:Result) (s':Shared):Prop:=
 match r with
 | .ok (.ret u)=>CE outer P w H s Q u s'
 | .ok _=>False
 | .error e=>CX outer H s E e s'
structure Yj (P:Program) (w:World) (K:PySem.W.Frag) (mg:Str->Option Value) (base:Heap) (CX:CXT) (k:Nat) (f:Addr) (fd:FuncData) (ps:List Str) (sp:Sp):Prop where
 len:∀vs H Q E,sp vs H Q E->vs.length=ps.length
 run:∀(A:Around) (outer:List Env) (s:Shared) (H:Hp) (args:Args) (us:List Value) (vs:List V) (Q:VK) (E:XK),W4 k A->ZkH P w K mg base A outer s H->BindsTo s fd args (ps.zip us)->Vals vs us->sp vs H Q E ->
  codeAny (model P w) A (.call (.ref f) args) (CR CX outer P w H s Q E) s
section
variable {X:Cx}{pins:List (Addr×Obj)} {σ:St}{H:Hp}{s s':Shared}
theorem Inv.env0 (I:Inv X pins σ H s):ZkH X.prog X.w X.K X.mg X.base X.A X.stack s H:=
 ⟨I.ok.frames,I.ok.mod,I.bs,Nat.le_trans I.ok.bsz I.sz,I.stack,I.stkFree,I.hok,I.bare⟩
theorem Inv.after {Q:VK}{u:Value} (I:Inv X pins σ H s) (h:CE X.stack X.prog X.w H s Q u s'):EP X pins σ Q u s':=by
 obtain ⟨v,H',os,bare,un,hok,r,q⟩:=h
 obtain ⟨hh,g,d,t,os'⟩:=s'
 obtain rfl:os'=s.os:=os
 exact ⟨v,H',I.call (h':=hh) (g':=g) (d':=d) (t':=t) (ch:=[]) un hok bare (fun b z=>absurd z (by simp)),r,q⟩
end
def Zd4 (sp:Sp) (dvs:List V) (E:XK) (t:TA):TE:=fun σ H Q=>t σ H fun vs H1=>sp (vs++dvs) H1 Q E
def Binds (K:PySem.W.Frag) (fd:FuncData) (ps:List Str) (ds:List Value):Prop:=
 ∀(s:Shared) (us:List Value),K.In s.heap->(us++ds).length=ps.length->BindsTo s fd ⟨us,[]⟩ (ps.zip (us++ds))
theorem Binds.all {K:PySem.W.Frag}{fd:FuncData}{ps:List Str} (h:∀us:List Value,us.length=ps.length->bindArgs fd ⟨us,[]⟩=pure (ps.zip us)):Binds K fd ps []:=fun s us _ hl=>by
 rw [List.append_nil] at hl ⊢
 exact .of_eq (h us hl)
def Passes (CX:CXT) (X:Cx) (E:XK):Prop:=∀(pins:List (Addr×Obj)) (σ:St) (H:Hp) (s:Shared) (e:Value) (s':Shared),Inv X pins σ H s->CX X.stack H s E e s'->X.xe e s'
section
variable {X:Cx}{CX:CXT}{k:Nat}{f C:Addr}{fd:FuncData}{ps:List Str}{sp:Sp}{dvs:List V}{ds:List Value}{E:XK}{x m:Str}{p pos apos:Pos}{e o:Expr}{es:List Expr}{ta:TE}{t:TA}
theorem ZmR {pins:List (Addr×Obj)} {σ:St}{H:Hp}{s:Shared}{Q:VK}{us:List Value}{vs:List V} (F:Yj X.prog X.w X.K X.mg X.base CX k f fd ps sp) (hr:W4 k X.A) (hb:Binds X.K fd ps ds) (hd:Vals dvs ds) (hx:Passes CX X E)
  (I:Inv X pins σ H s) (r:Vals vs us) (h:sp (vs++dvs) H Q E):wpAny (model X.prog X.w) X.A (call (.ref f) us) (EP X pins σ Q) X.xe s:=by
 have r2:Vals (vs++dvs) (us++ds):=r.append hd
 have hl:(us++ds).length=ps.length:=by rw [<- r2.length];exact F.len _ _ _ _ h
 refine wpAny_call (codeAny_mono (F.run X.A X.stack s H ⟨us,[]⟩ (us++ds) (vs++dvs) Q E hr I.env0 (hb s us I.kIn hl) r2 h) fun r s' hq=>?_)
 cases r with
 | error e=>exact hx pins σ H s e s' I hq
 | ok fl=>
  cases fl with
  | ret u=>exact I.after hq
  | next=>exact False.elim hq
  | brk=>exact False.elim hq
  | cont=>exact False.elim hq
theorem Zhe (F:Yj X.prog X.w X.K X.mg X.base CX k f fd ps sp) (hr:W4 k X.A) (hg:Gl X x) (hm:X.mg x=some (.ref f)) (hk:PySem.W.keepIn X.K (.ref f)=true) (hb:Binds X.K fd ps ds) (hd:Vals dvs ds) (hx:Passes CX X E)
  (ha:PA X (e::es) t) (hdb:(x==("__debug__" : Str))=false:=by decide) (he:starEach (e::es) X.env=(false,eval e X.env)::starEach es X.env:=by rfl) (hpl:(backTo pos (starEach es X.env)).any (·.1)=false:=by rfl):
  PE X (.Call (.Name x p) (e::es) [] pos) (Zd4 sp dvs E t):=by
 intro pins s σ H Q I h
 refine wpAny_Call_Name_kw (ZhF I hg hm ?_ hdb)
 refine PySem.W.callWith_K (h₀:=X.base) I.ok.mod.kin hk (Yq (ha pos pins s σ H _ I h) fun us s1 ⟨vs,H1,I1,r,q⟩=>⟨I1.kIn,?_⟩) he hpl
 exact ZmR F hr hb hd hx I1 r q
end
structure Zz (N P:List Str) (sc:Scope):Prop where
 kind:sc.kind = .function:=by rfl
 co:sc.isCoroutine=false:=by rfl
 gen:sc.isGenerator=false:=by rfl
 nd:N.Nodup:=by decide +kernel
 pre:N.take P.length=P:=by rfl
 par:∀x∈P,sc.names.lookup x=some .local∨sc.names.lookup x=some .cell:=by decide +kernel
 nofree:∀y∈sc.names,y.2 ≠ .free:=by decide +kernel
theorem ZdT {kindOf:Str->Option NameKind}{x:Str}:∀{binds:List (Str×Value)}{m:Str->Option Value},(∀v,(x,v)∉binds)->bindL kindOf binds m x=m x
 | [],_,_=>rfl
 | (n,v)::r,m,h=>by
  unfold bindL
  rw [ZdT fun w hw=>h w (List.mem_cons_of_mem _ hw)]
  split
  ·have:x≠n:=by rintro rfl;exact h v List.mem_cons_self
   simp [this]
  ·rfl
theorem ZdN {kindOf:Str->Option NameKind}{x:Str}:∀{binds:List (Str×Value)}{m:Str->Option Value},(∀v,(x,v)∉binds)->bindC kindOf binds m x=m x
 | [],_,_=>rfl
 | (n,v)::r,m,h=>by
  unfold bindC
  rw [ZdN fun w hw=>h w (List.mem_cons_of_mem _ hw)]
  split
  ·rfl
  ·have:x≠n:=by rintro rfl;exact h v List.mem_cons_self
   simp [this]
theorem ZdU {kindOf:Str->Option NameKind}{x:Str}{v:Value}:∀{P:List Str}{vs:List Value}{i:Nat}{m:Str->Option Value},P.Nodup->P[i]? = some x->vs[i]? = some v->kindOf x=some .local ->
  bindL kindOf (P.zip vs) m x=some v
 | [],_,_,_,_,h,_,_=>by simp at h
 | _::_,[],_,_,_,_,h,_=>by simp at h
 | p::P,w::vs,0,m,nd,h1,h2,hk=>by
  simp at h1 h2;subst h1;subst h2
  show bindL kindOf ((p,w)::P.zip vs) m p=_
  unfold bindL
  rw [ZdT fun v hv=>(List.nodup_cons.mp nd).1 (List.of_mem_zip hv).1,if_pos hk]
  simp
 | p::P,w::vs,i+1,m,nd,h1,h2,hk=>by
  show bindL kindOf ((p,w)::P.zip vs) m x=_
  unfold bindL
  exact ZdU (i:=i) (List.nodup_cons.mp nd).2 (by simpa using h1) (by simpa using h2) hk
theorem ZdD {kindOf:Str->Option NameKind}{x:Str}{v:Value}:∀{P:List Str}{vs:List Value}{i:Nat}{m:Str->Option Value},P.Nodup->P[i]? = some x->vs[i]? = some v->kindOf x≠some .local ->
  bindC kindOf (P.zip vs) m x=some v
 | [],_,_,_,_,h,_,_=>by simp at h
 | _::_,[],_,_,_,_,h,_=>by simp at h
 | p::P,w::vs,0,m,nd,h1,h2,hk=>by
  simp at h1 h2;subst h1;subst h2
  show bindC kindOf ((p,w)::P.zip vs) m p=_
  unfold bindC
  rw [ZdN fun v hv=>(List.nodup_cons.mp nd).1 (List.of_mem_zip hv).1,if_neg hk]
  simp
 | p::P,w::vs,i+1,m,nd,h1,h2,hk=>by
  show bindC kindOf ((p,w)::P.zip vs) m x=_
  unfold bindC
  exact ZdD (i:=i) (List.nodup_cons.mp nd).2 (by simpa using h1) (by simpa using h2) hk
def start (N:List Str) (vs:List V):St:=vs.map some++List.replicate (N.length-vs.length) none
def Wz (CX:CXT) (P:Program) (w:World) (K:PySem.W.Frag) (mg:Str->Option Value) (base:Heap) (N:List Str) (qual:Str) (scope:Scope) (f:Addr) (cd:Value) (A:Around) (outer:List Env) (s:Shared) (H:Hp) (E:XK):Cx where
 prog:=P
 w:=w
 K:=K
 mg:=mg
 base:=base
 A:=A.deeper (envOfC qual scope s.heap.objs.size f cd)
 N:=N
 s₀:=s
 H₀:=H
 env:=envOfC qual scope s.heap.objs.size f cd
 outer:=outer
 stack:=envOfC qual scope s.heap.objs.size f cd::outer
 ex:=[]
 calm:=true
 fn:=fun _=>true
 pn:=[]
 xe:=fun e s'=>wpAny (model P w) (A.deeper (envOfC qual scope s.heap.objs.size f cd)) (leaving (envOfC qual scope s.heap.objs.size f cd) e) (fun _ s''=>CX outer H s E e s'') (fun e' s''=>CX outer H s E e' s'') s'
theorem Zfe {sc:Scope}{n:Nat}{x:Str} (h:sc.names.lookup x=some .cell):∃c,(cellsFrom n sc.names []).lookup x=some c:=by
 have q:=PySem.W.cellsFrom_some sc.names n [] (.inl h)
 exact Option.isSome_iff_exists.mp q
theorem Zij {CX:CXT}{P:Program}{w:World}{K:PySem.W.Frag}{mg:Str->Option Value}{base:Heap}{N ps:List Str}{qual:Str}{scope:Scope}{f:Addr}{cd:Value}{A:Around}{outer:List Env}{s s1:Shared}{H:Hp}{E:XK}{us:List Value}{vs:List V}
  (S:Zz N ps scope) (hd:A.handled=none) (e0:ZkH P w K mg base A outer s H) (hl:vs.length=ps.length) (r:Vals vs us)
  (x:InCallC s s.heap.objs.size (bindL (envOfC qual scope s.heap.objs.size f cd).kindOf (ps.zip us) fun _=>none) (cellsFrom (s.heap.objs.size+1) scope.names []) (bindC (envOfC qual scope s.heap.objs.size f cd).kindOf (ps.zip us) fun _=>none) s1):
  Inv (Wz CX P w K mg base N qual scope f cd A outer s H E) [] (start N vs) H s1:=by
 have hpl:ps.length<=N.length:=by have:=congrArg List.length S.pre;rw [List.length_take] at this;lia
 obtain ⟨h1,tk,rfl,hk⟩:=x.done
 have noA:∀b:Addr,b∉(Wz CX P w K mg base N qual scope f cd A outer s H E).ex:=fun b z=>absurd (show b∈([]:List Addr) from z) (by simp)
 refine ⟨⟨e0.mod,S.kind,rfl,rfl,Nat.le_refl _,fun y z c h1 h2=>?_,fun y hy=>?_,fun y c _ h=>?_,fun _=>hd,Around.frames_deeper e0.frames,.inr ⟨rfl,rfl⟩,fun b z=>absurd z (noA b),e0.bs,e0.bsz,fun b _ _=>noA b,fun b z=>absurd z (noA b),e0.funs,e0.frf⟩,
  rfl,e0.bare,Un.kept hk,⟨_,x.toInCall.ns,fun i y v h1 h2 h3=>?_⟩,fun y c h=>⟨_,x.cell y c h⟩,e0.hok.fresh (Nat.le_refl _),fun y c h=>?_,fun p hp=>absurd (show p∈([]:List (Addr×Obj)) from hp) (by simp),e0.hok.kept hk,?_⟩
 ·exact name_of_addr x.apart (PySem.mem_of_lookup h1) (PySem.mem_of_lookup h2)
 ·have hy:scope.names.lookup y=some .cell∨scope.names.lookup y=some .free:=hy
  rcases hy with hy | hy
  ·exact Zfe hy
  ·exact absurd rfl (S.nofree _ (PySem.mem_of_lookup hy))
 ·exact Nat.le_of_lt (x.above y c (PySem.mem_of_lookup h))
 ·have hi:i<vs.length:=by
   unfold start at h2
   by_cases hi:i<vs.length
   ·exact hi
   ·rw [List.getElem?_append_right (by simpa using hi)] at h2
    rw [List.getElem?_replicate] at h2
    split at h2<;>cases h2
  have ha:vs[i]? = some v:=by
   unfold start at h2
   rw [List.getElem?_append_left (by simpa using hi),List.getElem?_map] at h2
   cases e:vs[i]? with
   | none=>rw [e] at h2;cases h2
   | some a=>rw [e] at h2;cases h2;rfl
  obtain ⟨u,hu,rv⟩:=r.get ha
  have hp:ps[i]? = some y:=by
   rw [<- S.pre,List.getElem?_take_of_lt (by lia)];exact h1
  have ndP:ps.Nodup:=by rw [<- S.pre];exact S.nd.sublist (List.take_sublist _ _)
  refine ⟨u,rv,?_⟩
  rcases S.par y (List.mem_of_getElem? hp) with k | k
  ·exact .inl ⟨k,ZdU ndP hp hu k⟩
  ·obtain ⟨c,e⟩:=Zfe (n:=s.heap.objs.size+1) k
   refine .inr ⟨.inl k,c,e,?_⟩
   have q:=x.cell y c e
   rw [ZdD ndP hp hu (by show scope.names.lookup y≠_;rw [k];decide)] at q
   exact q
 ·exact e0.hok.fresh (Nat.le_of_lt (x.above y c (PySem.mem_of_lookup h)))
 ·unfold start
  show _=N.length
  rw [List.length_append,List.length_map,List.length_replicate]
  lia
theorem ZlR {CX:CXT}{P:Program}{w:World}{K:PySem.W.Frag}{mg:Str->Option Value}{base:Heap}{k:Nat}{f:Addr}{name qual:Str}{params:Arguments}{body:List Stmt}{scope:Scope}{dV kV doc pm cdv ct oc:Value}{an od:Option Addr}
  {osl:Array (Option Value)}{N ps:List Str}{sp:Sp} (lk:K.lookup f=some ⟨oc,od,.func (PySem.W.fnOf name qual params body scope dV kV doc pm an cdv ct),osl⟩) (hcd:PySem.W.codeIn K cdv qual=true) (S:Zz N ps scope)
  (len:∀vs H Q E,sp vs H Q E->vs.length=ps.length)
  (hbody:∀(A:Around) (outer:List Env) (s:Shared) (H:Hp) (vs:List V) (Q:VK) (E:XK),W4 k (A.deeper (envOfC qual scope s.heap.objs.size f cdv))->sp vs H Q E ->
   ∃t,PSs (Wz CX P w K mg base N qual scope f cdv A outer s H E) body t/\t { nx:=fun _ H'=>Q .non H',rt:=Q } (start N vs) H):
  Yj P w K mg base CX (k+1) f (PySem.W.fnOf name qual params body scope dV kV doc pm an cdv ct) ps sp:=by
 refine ⟨len,fun A outer s H args us vs Q E hr e0 hb r hsp=>?_⟩
 have hl:=len _ _ _ _ hsp
 have KX:K.In s.heap:=e0.mod.kin.keeps fun b o e=>(e0.bs b o e).1
 have lim:s.heap.NoLimit:=e0.mod.nolimit.keeps fun b o e=>(e0.bs b o e).1
 have hkind:∀y∈ps.zip us,scope.names.lookup y.1=some .local∨(scope.names.lookup y.1=some .cell/\((cellsFrom (s.heap.objs.size+1) scope.names []).lookup y.1).isSome=true):=fun ⟨n,v⟩ hy=>by
  rcases S.par n (List.of_mem_zip hy).1 with q | q
  ·exact .inl q
  ·exact .inr ⟨q,PySem.W.cellsFrom_some _ _ _ (.inl q)⟩
 refine codeAny_call_function hr.depth (KX _ _ lk) rfl S.co S.gen rfl (PySem.W.codeRec_of KX hcd) (hb _ _ _ _ ?_)
 refine wpAny_newFunctionEnv_cells S.kind hkind fun env he s1 x=>?_
 subst he
 refine ⟨lim.keeps x.toInCall.keep,codeAny_func ?_⟩
 obtain ⟨t,ht,hq⟩:=hbody A outer s H vs Q E (hr.deeper _) hsp
 have I:Inv (Wz CX P w K mg base N qual scope f cdv A outer s H E) [] (start N vs) H s1:=Zij S hr.hd e0 hl r x
 refine wpAny_mono (ht [] s1 (start N vs) H _ I hq) (fun fl s' hs=>?_) fun e s' hs=>hs
 have fin:∀{σ':St}{H':Hp}{v:V}{u:Value},Inv (Wz CX P w K mg base N qual scope f cdv A outer s H E) [] σ' H' s'->RelV v u->Q v H'->CE outer P w H s Q u s':=
  fun {σ' H' v u} J rv q=>⟨v,H',J.os,J.bare,J.base,J.hok,rv,q⟩
 cases fl with
 | ret u=>
  obtain ⟨v,σ',H',J,rv,q⟩:=hs
  exact fin J rv q
 | next=>
  obtain ⟨σ',H',J,q⟩:=hs
  exact fin (v:=V.non) (u:=Value.none) J rfl q
 | brk=>
  obtain ⟨_,_,_,q⟩:=hs
  exact False.elim q
 | cont=>
  obtain ⟨_,_,_,q⟩:=hs
  exact False.elim q
section
variable {X:Cx}{x:Str}{p pos:Pos}{e:Expr}{es:List Expr}{t:TA}{id T:String}{r:List V->Hp->VK->Prop}
def tCB (r:List V->Hp->VK->Prop) (t:TA):TE:=fun σ H Q=>t σ H fun vs H1=>r vs H1 Q
theorem ZE (hc:Jw X (.builtin id) r) (hg:Gl X x) (hm:X.mg x=none) (hv:bootBuiltins x=some (.builtin id)) (ha:PA X (e::es) t) (hn:x ≠ "__name__" := by decide) (hdb:(x==("__debug__" : Str))=false:=by decide)
  (he:starEach (e::es) X.env=(false,eval e X.env)::starEach es X.env:=by rfl) (hpl:(backTo pos (starEach es X.env)).any (·.1)=false:=by rfl):PE X (.Call (.Name x p) (e::es) [] pos) (tCB r t):=by
 intro pins s σ H Q I h
 refine wpAny_Call_Name_kw (GN I hg hm hv ?_ hn hdb)
 exact PyProof.Rows.callWith_builtin1 (Yq (ha pos pins s σ H _ I h) fun us s1 ⟨vs,H1,I1,r1,q1⟩=>hc pins s1 σ H1 vs us Q I1 r1 q1) he hpl
theorem Z9 (hc:Jw X (.type T) r) (hg:Gl X x) (hm:X.mg x=none) (hv:bootBuiltins x=some (.type T)) (ha:PA X (e::es) t) (hn:x ≠ "__name__" := by decide) (hdb:(x==("__debug__" : Str))=false:=by decide)
  (he:starEach (e::es) X.env=(false,eval e X.env)::starEach es X.env:=by rfl) (hpl:(backTo pos (starEach es X.env)).any (·.1)=false:=by rfl):PE X (.Call (.Name x p) (e::es) [] pos) (tCB r t):=by
 intro pins s σ H Q I h
 refine wpAny_Call_Name_kw (GN I hg hm hv ?_ hn hdb)
 exact PyProof.Rows.callWith_type1 (Yq (ha pos pins s σ H _ I h) fun us s1 ⟨vs,H1,I1,r1,q1⟩=>hc pins s1 σ H1 vs us Q I1 r1 q1) he hpl
end
end L2
namespace HT
open PySem PyProof.Rows
section
open PySem.SeqAt
open PySem.AutoSeq1 (wpAny_loadPart')
open PySem.MeetsSeq PySem.MeetsSeq2 PySem.MeetsSeq3
end
section
variable {prog:Program}{w:World}{A:Around}{E:Value->Shared->Prop}{s:Shared}
theorem Zly {t b:Addr}{vs ws:List Value}{Q:Value->Shared->Prop} (ht:IsTup s.heap t vs.toArray) (hb:IsTup s.heap b ws.toArray) (hv:vs ≠ [])
  (h1:ws = []->Q (.ref t) s) (h2:ws ≠ []->Q (.ref s.heap.objs.size) { s with heap:=s.heap.push { cls:=.type "tuple", data:=.seq (vs++ws).toArray } })
  (hsz:vs.length+ws.length<=sizeLine):wpAny (model prog w) A (binaryOp .Add (.ref t) (.ref b)) Q E s:=by
 obtain ⟨⟨cls,dd,data,sl⟩,ho,hc,n,hd⟩:=id ht
 obtain ⟨⟨cls2,dd2,data2,sl2⟩,ho2,hc2,n2,hd2⟩:=id hb
 simp only at hc hd hc2 hd2
 subst hc hd hc2 hd2
 have e:vs.toArray++ws.toArray=(vs++ws).toArray:=by simp
 by_cases hw:ws = []
 ·exact concat_meets ⟨_,ho,rfl⟩ ⟨_,ho2,rfl⟩ noFill_tuple_add seq_tuple_add PySem.F.slot_tuple_add PySem.F.entry_tuple_add (PySem.F.args_tuple_add_2 _ _)
   (tuple_addW1 t b vs.toArray ws.toArray n n2 dd dd2 sl sl2 (by simpa using hv) (by simp [hw])) ⟨ho,ho2,h1 hw⟩
 ·refine concat_meets ⟨_,ho,rfl⟩ ⟨_,ho2,rfl⟩ noFill_tuple_add seq_tuple_add PySem.F.slot_tuple_add PySem.F.entry_tuple_add (PySem.F.args_tuple_add_2 _ _)
   (tuple_addW2 t b vs.toArray ws.toArray n n2 dd dd2 sl sl2 (by simpa using hv) (by simpa using hw) (by rw [List.size_toArray,List.size_toArray];exact hsz)) ⟨ho,ho2,?_⟩
  rw [e]
  exact h2 hw
def Jj (n d:Nat):Option Int->Nat
 | none=>d
 | some v=>if v<0 then (v+(n:Int)).toNat else min v.toNat n
theorem ZcO (n d:Nat):Jj n d none=d:=rfl
theorem Zbb (n d k:Nat):Jj n d (some (k:Int))=min k n:=by
 show (if (k:Int)<0 then ((k:Int)+(n:Int)).toNat else min (k:Int).toNat n)=min k n
 rw [if_neg (by lia),Int.toNat_natCast]
theorem Zm2 (n d:Nat) (hd:d<=n) (o:Option Int):Jj n d o<=n:=by
 cases o with
 | none=>exact hd
 | some v=>
  show (if v<0 then (v+(n:Int)).toNat else min v.toNat n)<=n
  by_cases hv:v<0
  ·rw [if_pos hv];lia
  ·rw [if_neg hv];exact Nat.min_le_right _ _
theorem ZhH (v:Int) (n d:Nat):(if v<0 then max (v+(n:Int)) 0 else min v (n:Int))=((Jj n d (some v):Nat):Int):=by
 show (if v<0 then max (v+(n:Int)) 0 else min v (n:Int))=(((if v<0 then (v+(n:Int)).toNat else min v.toNat n):Nat):Int)
 by_cases hv:v<0
 ·simp only [if_pos hv];lia
 ·simp only [if_neg hv];lia
theorem ZgI (lo hi:Option Int) (n:Nat):Builtin.Slice.sliceAdjust lo hi 1 (n:Int)=(((Jj n 0 lo:Nat):Int),((Jj n n hi:Nat):Int)):=by
 have h1:¬((1:Int)<0):=by lia
 unfold Builtin.Slice.sliceAdjust
 simp only [h1,if_false]
 refine Prod.ext ?_ ?_
 ·cases lo with
  | none=>rfl
  | some v=>exact ZhH v n 0
 ·cases hi with
  | none=>rfl
  | some v=>exact ZhH v n n
theorem ZgJ (i j:Nat):Builtin.Slice.slicePlaces (i:Int) (j:Int) 1=j-i:=by
 unfold Builtin.Slice.slicePlaces
 have h1:(1:Int)>0:=by lia
 simp only [h1,if_true,Int.ediv_one]
 split<;>lia
theorem Zcz {v:Value}{o:Option Int}{Q:Option Int->Shared->Prop} (p:IsPart v o) (h:Q o s):wpAny (model prog w) A (Builtin.Slice.slicePartIndex v) Q E s:=by
 cases p with
 | none=>exact slicePart_none h
 | int i t=>exact slicePart_int h
theorem Gw {sl:Addr}{vl vu:Value}{lo hi:Option Int}{n:Nat}{Q:Int×Int×Nat->Shared->Prop} (hs:s.heap.IsSliceOf sl vl vu .none) (pl:IsPart vl lo) (pu:IsPart vu hi)
  (h:Q (((Jj n 0 lo:Nat):Int),1,Jj n n hi-Jj n 0 lo) s):wpAny (model prog w) A (Builtin.Slice.sliceApplied (.ref sl) (pure (n:Int))) Q E s:=by
 obtain ⟨os,hos,hcs,hds⟩:=id hs
 unfold Builtin.Slice.sliceApplied Builtin.Slice.sliceFields
 refine wpAny_bind (wpAny_bind (wpAny_field hos hds (x:=vl) rfl (wpAny_bind (wpAny_field hos hds (x:=vu) rfl (wpAny_bind (wpAny_field hos hds (x:=.none) rfl (wpAny_pure ?_)))))))
 refine wpAny_bind (slicePart_none ?_)
 show wpAny _ _ (if ((1:Int)==0)=true then _ else _) _ _ s
 rw [if_neg (by decide)]
 refine wpAny_bind (Zcz pl (wpAny_bind (Zcz pu (wpAny_bind (wpAny_pure ?_)))))
 show wpAny _ _ (match Builtin.Slice.sliceAdjust lo hi 1 (n:Int) with | (lo,hi)=>pure (lo,(1:Int),Builtin.Slice.slicePlaces lo hi 1)) _ _ s
 rw [ZgI lo hi n]
 show wpAny _ _ (pure (((Jj n 0 lo:Nat):Int),(1:Int),Builtin.Slice.slicePlaces ((Jj n 0 lo:Nat):Int) ((Jj n n hi:Nat):Int) 1)) _ _ s
 rw [ZgJ]
 exact wpAny_pure h
theorem ZjZ (xs:Array Value) (i k:Nat):((List.range k).filterMap fun (m:Nat)=>xs[((i:Int)+(m:Int)*1).toNat]?).toArray=((xs.toList.drop i).take k).toArray:=by
 have e:(fun (m:Nat)=>xs[((i:Int)+(m:Int)*1).toNat]?)=fun m=>xs[i+m]?:=by
  funext m
  have:((i:Int)+(m:Int)*1).toNat=i+m:=by lia
  rw [this]
 rw [e]
 have:=pick_run xs i k
 rw [List.filterMap_map] at this
 have e2:((fun x=>xs[x]?) ∘ fun x=>i+x)=fun m=>xs[i+m]?:=rfl
 rw [e2] at this
 rw [this]
theorem Zba {t sl:Addr}{items:Array Value}{vl vu:Value}{lo hi:Option Int}{Q:Value->Shared->Prop} (ht:IsTup s.heap t items) (hs:s.heap.IsSliceOf sl vl vu .none) (pl:IsPart vl lo) (pu:IsPart vu hi)
  (hw:¬(Jj items.size 0 lo=0/\Jj items.size items.size hi=items.size))
  (h:Q (.ref s.heap.objs.size) { s with heap:=s.heap.push { cls:=.type "tuple", data:=.seq ((items.toList.drop (Jj items.size 0 lo)).take (Jj items.size items.size hi-Jj items.size 0 lo)).toArray } })
  (hsz:items.size<=sizeLine):wpAny (model prog w) A (getItem (.ref t) (.ref sl)) Q E s:=by
 have htake:sizeOk (.seq ((items.toList.drop (Jj items.size 0 lo)).take (Jj items.size items.size hi-Jj items.size 0 lo)).toArray):=by
  show ((items.toList.drop (Jj items.size 0 lo)).take (Jj items.size items.size hi-Jj items.size 0 lo)).toArray.size<=sizeLine
  rw [List.size_toArray,List.length_take,List.length_drop,Array.length_toList]
  lia
 have hj:Jj items.size items.size hi<=items.size:=Zm2 _ _ (Nat.le_refl _) hi
 obtain ⟨os,hos,hcs,hds⟩:=id hs
 have hTs:s.TypeIs (.ref sl) "slice" := ⟨os,hos,hcs⟩
 unfold getItem
 try with_reducible refine wpAny_holding ?_
 first | refine wpAny_bind (wpAny_pure ?_) | skip
 refine wpAny_bind (wpAny_sequenceKey ht.typeIs (by decide) ?_)
 refine wpAny_bind (wpAny_callSpecial?_slot (name:=Str.ofString "__getitem__") ht.typeIs PyProof.Rows.slot_tuple_getitem
  (wpAny_call_entry PyProof.Rows.slot_tuple_getitem ht.typeIs entry_tuple_getitem ?_ (args_tuple_getitem _ _)))
 show wpAny _ _ (Builtin.Tuple.tupleItemsOf (.ref t) >>= _) _ _ s
 refine wpAny_bind (tupleItemsOf_ ht ?_)
 refine wpAny_bind (wpAny_typeOf hTs ?_)
 rw [if_pos (by decide)]
 refine wpAny_bind (Gw hs pl pu ?_)
 have hno:¬((((Jj items.size 0 lo:Nat):Int)==0&&(1:Int)==1&&(Jj items.size items.size hi-Jj items.size 0 lo)==items.size)=true):=by
  intro q
  rw [Bool.and_eq_true,Bool.and_eq_true] at q
  have q1:((Jj items.size 0 lo:Nat):Int)=0:=eq_of_beq q.1.1
  have q2:Jj items.size items.size hi-Jj items.size 0 lo=items.size:=eq_of_beq q.2
  exact hw ⟨by lia,by lia⟩
 show wpAny _ _ (if (((Jj items.size 0 lo:Nat):Int)==0&&(1:Int)==1&&(Jj items.size items.size hi-Jj items.size 0 lo)==items.size)=true then _ else _) _ _ s
 rw [if_neg hno,ZjZ]
 first
  | exact wpAny_bind (m:=Builtin.Tuple.tupleExact _) (wpAny_newObj_type (wpAny_pure ⟨_,rfl,wpAny_pure h⟩) htake)
  | exact wpAny_bind (m:=Builtin.Tuple.tupleExact _) (wpAny_newObj_type (wpAny_bind (wpAny_pure (wpAny_pure ⟨_,rfl,wpAny_pure h⟩))) htake)
  | exact wpAny_bind (wpAny_bind (m:=Builtin.Tuple.tupleExact _) (wpAny_newObj_type (wpAny_pure (wpAny_pure ⟨_,rfl,wpAny_pure h⟩)) htake))
  | exact wpAny_bind (wpAny_bind (m:=Builtin.Tuple.tupleExact _) (wpAny_newObj_type (wpAny_pure ⟨_,rfl,wpAny_pure h⟩) htake))
end
end HT
namespace L2
open PySem PySem.Spec PyProof.Rows
abbrev TO:=St->Hp->(Option Int->Hp->Prop)->Prop
def PO (X:Cx) (e:Option Expr) (t:TO):Prop:=
 ∀(pins:List (Addr×Obj)) (s:Shared) (σ:St) (H:Hp) (Q:Option Int->Hp->Prop),Inv X pins σ H s->t σ H Q ->
  wpAny (model X.prog X.w) X.A (evalPart e X.env) (fun u s'=>∃o H',Inv X pins σ H' s'/\IsPart u o/\Q o H') X.xe s
def Zac:TO:=fun _ H Q=>Q none H
def ZnL (t:TE):TO:=fun σ H Q=>t σ H fun x H1=>∃i,x = .int i/\Q (some i) H1
section
variable {X:Cx}{e:Expr}{te:TE}{lo hi:Option Expr}{tl th:TO}{pos p2:Pos}
theorem Jy:PO X none Zac:=by
 intro pins s σ H Q I h
 rw [evalPart_none]
 exact wpAny_pure ⟨none,H,I,.none,h⟩
theorem Yh (h:PE X e te):PO X (some e) (ZnL te):=by
 intro pins s σ H Q I hw
 rw [evalPart_some]
 refine Yq (h pins s σ H _ I hw) fun u s1 ⟨x,H1,I1,r1,q1⟩=>?_
 obtain ⟨i,rfl,q⟩:=q1
 obtain ⟨t,rfl⟩:=r1
 exact ⟨some i,H1,I1,.int i t,q⟩
def SlR (X:Cx) (r:V->Option Int->Option Int->Hp->VK->Prop):Prop:=
 ∀(pins:List (Addr×Obj)) (s:Shared) (σ:St) (H:Hp) (x:V) (v vl vu:Value) (lo hi:Option Int) (sl:Addr) (Q:VK),Inv X pins σ H s->RelV x v->s.heap.IsSliceOf sl vl vu .none->IsPart vl lo->IsPart vu hi->r x lo hi H Q ->
  ∃T id,typeLookup (.type T) "__getitem__" = pure (some (.builtin id))/\s.TypeIs v T/\wpAny (model X.prog X.w) X.A (getItem v (.ref sl)) (EP X pins σ Q) X.xe s
def tSl (r:V->Option Int->Option Int->Hp->VK->Prop) (te:TE) (tl th:TO):TE:=fun σ H Q=>te σ H fun x H1=>tl σ H1 fun l H2=>th σ H2 fun u H3=>r x l u H3 Q
theorem YA {r:V->Option Int->Option Int->Hp->VK->Prop} (hr:SlR X r) (he:PE X e te) (hl:PO X lo tl) (hu:PO X hi th):PE X (.Subscript e (.Slice lo hi none p2) pos) (tSl r te tl th):=by
 intro pins s σ H Q I h
 refine Subscript_ (Yq (he pins s σ H _ I h) fun v s1 ⟨x,H1,I1,r1,q1⟩=>?_)
 refine wpAny_Slice (Yq (hl pins s1 σ H1 _ I1 q1) fun vl s2 ⟨l,H2,I2,pl,q2⟩=>Yq (hu pins s2 σ H2 _ I2 q2) fun vu s3 ⟨u,H3,I3,pu,q3⟩=>?_)
 rw [evalPart_none]
 refine wpAny_pure ?_
 have I4:Inv X pins σ H3 { s3 with heap:=s3.heap.push { cls:=.type "slice", data:=.fields #[vl,vu,.none] } }:=I3.kept (t':=s3.toks) fun b ob q=>Heap.get?_push_of_some _ q
 obtain ⟨T,id,hT,ht,hg⟩:=hr pins { s3 with heap:=s3.heap.push { cls:=.type "slice", data:=.fields #[vl,vu,.none] } } σ H3 x v vl vu l u s3.heap.objs.size Q I4 r1 (Heap.IsSliceOf.new ..) pl pu q3
 show wpAny (model X.prog X.w) X.A (subscriptTail e (.Slice lo hi none p2) v (.ref s3.heap.objs.size)) (EP X pins σ Q) X.xe { s3 with heap:=s3.heap.push { cls:=.type "slice", data:=.fields #[vl,vu,.none] } }
 exact tail_any (ops:=[.ref s3.heap.objs.size,v]) ht hT hg (by with_unfolding_all rfl)
def Gg (xs:List V) (lo hi:Option Int):List V:=(xs.drop (HT.Jj xs.length 0 lo)).take (HT.Jj xs.length xs.length hi-HT.Jj xs.length 0 lo)
theorem Zb3 (xs:List V) (lo hi:Option Int):(Gg xs lo hi).length<=xs.length:=by
 unfold Gg
 rw [List.length_take,List.length_drop]
 lia
def ZoJ (K:PySem.W.Frag):V->Option Int->Option Int->Hp->VK->Prop:=fun x lo hi H Q=>∃a xs,x = .ref a/\YB K H a xs /\
 ¬(HT.Jj xs.length 0 lo=0/\HT.Jj xs.length xs.length hi=xs.length) /\ ∀p,H p=none->Q (.ref p) (upd H p (.tup (Gg xs lo hi)))
theorem Zmg:SlR X (ZoJ X.K):=by
 intro pins s σ H x v vl vu lo hi sl Q I rx hs pl pu h
 obtain ⟨a,xs,rfl,hx,hw,q⟩:=h
 cases rx
 obtain ⟨its,r,ht,hz⟩:=I.tuple hx
 have hlen:its.toArray.size=xs.length:=by rw [List.size_toArray];exact r.length.symm
 refine ⟨"tuple", _,PyProof.Rows.slot_tuple_getitem.lookup,ht.typeIs,?_⟩
 refine HT.Zba ht hs pl pu (by rw [hlen];exact hw) ?_ (by rw [hlen];exact hz)
 rw [hlen]
 refine ⟨.ref s.heap.objs.size,_,I.laid (t':=s.toks) (o:=.tup (Gg xs lo hi)) (fun b ob q=>Heap.get?_push_of_some _ q) (Nat.le_refl _) ?_,rfl,q _ (I.hok.fresh (Nat.le_refl _))⟩
 exact ⟨Nat.le_trans (Zb3 xs lo hi) hz,_,(r.drop (HT.Jj xs.length 0 lo)).take (HT.Jj xs.length xs.length hi-HT.Jj xs.length 0 lo),IsTup.new _ _⟩
end
def ixN (n:Nat) (i:Int):Option Nat:=if 0<=i then (if i<n then some i.toNat else none) else if -(n:Int)<=i then some (i+n).toNat else none
def atI {α:Type} (xs:List α) (i:Int):Option α:=(ixN xs.length i).bind fun j=>xs[j]?
theorem ZgT {n:Nat}{i:Int}{j:Nat} (h:ixN n i=some j):seqIndex? i n=some j/\j<n /\ -(n:Int)<=i/\i<n:=by
 unfold ixN at h
 by_cases h0:0<=i
 ·rw [if_pos h0] at h
  by_cases h1:i<n
  ·rw [if_pos h1] at h
   have e:i.toNat=j:=Option.some.inj h
   exact ⟨by rw [seqIndex_of h0 h1,e],by lia,by lia,h1⟩
  ·rw [if_neg h1] at h;cases h
 ·rw [if_neg h0] at h
  by_cases h1 : -(n:Int)<=i
  ·rw [if_pos h1] at h
   have e:(i+n).toNat=j:=Option.some.inj h
   exact ⟨by rw [seqIndex_neg (by lia) h1,e],by lia,h1,by lia⟩
  ·rw [if_neg h1] at h;cases h
theorem ZhA {α:Type}{xs:List α}{i:Int}{v:α} (h:atI xs i=some v):∃j,seqIndex? i xs.length=some j/\xs[j]? = some v/\j<xs.length /\ -(xs.length:Int)<=i/\i<xs.length:=by
 unfold atI at h
 cases e:ixN xs.length i with
 | none=>rw [e] at h;cases h
 | some j=>
  rw [e] at h
  obtain ⟨h1,h2,h3,h4⟩:=ZgT e
  exact ⟨j,h1,h,h2,h3,h4⟩
theorem Zo {α:Type}{xs:List α}{j:Nat}{v:α} (h:xs[j]? = some v):atI xs (j:Int)=some v:=by
 have hj:j<xs.length:=(List.getElem?_eq_some_iff.mp h).1
 have e:ixN xs.length (j:Int)=some j:=by
  unfold ixN
  rw [if_pos (by lia),if_pos (by lia)];simp
 unfold atI;rw [e];exact h
theorem Za3 {α:Type} (xs:List α) (v:α):atI (xs ++ [v]) (-1)=some v:=by
 have hl:(xs ++ [v]).length=xs.length+1:=by simp
 have e:ixN (xs ++ [v]).length (-1)=some xs.length:=by
  unfold ixN
  rw [hl,if_neg (by decide),if_pos (by lia)]
  congr 1
  lia
 unfold atI
 rw [e]
 show (xs ++ [v])[xs.length]? = some v
 simp
def Zk3 (b:Expr):Prop:=∀o i,subscripted b false o i=operate [o,i] (getItem o i)
def IxR (X:Cx) (r:R2):Prop:=
 ∀(value slice:Expr) (pins:List (Addr×Obj)) (s:Shared) (σ:St) (H:Hp) (x y:V) (v u:Value) (Q:VK),Inv X pins σ H s->RelV x v->RelV y u->r x y H Q ->
  subscripted slice false v u=operate [v,u] (getItem v u)->wpAny (model X.prog X.w) X.A (subscriptTail value slice v u) (EP X pins σ Q) X.xe s
def MtR (X:Cx) (id:String) (r:V->List V->Hp->VK->Prop):Prop:=
 ∀(pins:List (Addr×Obj)) (s:Shared) (σ:St) (H:Hp) (x:V) (xs:List V) (v:Value) (us:List Value) (Q:VK),Inv X pins σ H s->RelV x v->Vals xs us->r x xs H Q ->
  wpAny (model X.prog X.w) X.A (call (.builtin id) (v::us)) (EP X pins σ Q) X.xe s
section
variable {X:Cx}{a b:Expr}{ta tb:TE}{pos:Pos}
theorem Zv {r:R2} (hr:IxR X r) (ha:PE X a ta) (hb:PE X b tb) (hs:Zk3 b):PE X (.Subscript a b pos) (tOp r ta tb):=by
 intro pins s σ H Q I h
 exact Subscript_ (ZmX ha hb I h fun v u s2 x y H2 I2 rx ry q=>hr a b pins s2 σ H2 x y v u Q I2 rx ry q (hs _ _))
def Znr (K:PySem.W.Frag):R2:=fun x y H Q=>∃p xs i v,x = .ref p/\y = .int i/\Zw K H p xs/\atI xs i=some v/\Q v H
def Zdm (K:PySem.W.Frag):R2:=fun x y H Q=>∃p xs i v,x = .ref p/\y = .int i/\YB K H p xs/\atI xs i=some v/\Q v H
theorem Zk4:IxR X (Znr X.K):=by
 intro value slice pins s σ H x y v u Q I rx ry h hs
 obtain ⟨p,xs,i,z,rfl,rfl,hq,he,q⟩:=h
 cases rx
 obtain ⟨t,rfl⟩:=ry
 obtain ⟨its,r,pl,hz⟩:=I.list hq
 obtain ⟨j,h1,h2,h3,h4,h5⟩:=ZhA he
 obtain ⟨w,ew,rw'⟩:=r.get h2
 have hl:=r.length
 have hn:=ZcZ
 have fin:EP X pins σ Q w s:=⟨z,H,I,rw',q⟩
 by_cases h0:0<=i
 ·have hj:i.toNat=j:=by
   rw [seqIndex_of h0 h5] at h1
   exact Option.some.inj h1
  exact item_listR pl.isList h0 (by lia) (by rw [hj];simpa using ew) fin hs
 ·have hj:(i+(its.toArray.size:Int)).toNat=j:=by
   rw [seqIndex_neg (by lia) h4] at h1
   rw [List.size_toArray,<- hl]
   exact Option.some.inj h1
  exact subscriptTail_builtinR (x:=w) pl.isList.typeIs slot_list_getitem.lookup
   (wpAny_getItem_list_neg (Q:=fun r s'=>r=w/\EP X pins σ Q r s') pl.isList (by lia) (by rw [List.size_toArray]<;>lia) (by lia) (by rw [hj];simpa using ew) ⟨rfl,fin⟩) hs
theorem Zl2:IxR X (Zdm X.K):=by
 intro value slice pins s σ H x y v u Q I rx ry h hs
 obtain ⟨p,xs,i,z,rfl,rfl,hq,he,q⟩:=h
 cases rx
 obtain ⟨t,rfl⟩:=ry
 obtain ⟨its,r,pl,hz⟩:=I.tuple hq
 obtain ⟨j,h1,h2,h3,h4,h5⟩:=ZhA he
 obtain ⟨w,ew,rw'⟩:=r.get h2
 have hl:=r.length
 have hn:=ZcZ
 have fin:EP X pins σ Q w s:=⟨z,H,I,rw',q⟩
 exact subscriptTail_builtinR (x:=w) pl.typeIs slot_tuple_getitem.lookup
  (getItem_tuple (j:=j) (Q:=fun r s'=>r=w/\EP X pins σ Q r s') pl (by lia) (by lia) (by rw [List.size_toArray,<- hl];exact h1) (by simpa using ew) ⟨rfl,fin⟩) hs
theorem ZgF (its:List Value) (n j:Nat) (u:Value):Obj.mapSeq (·.setIfInBounds j u) { cls:=.type "list", data:=.seq its.toArray n } = { cls:=.type "list", data:=.seq (its.set j u).toArray n }:=by
 simp [Obj.mapSeq]
theorem Inv.lst {pins:List (Addr×Obj)} {σ:St}{H:Hp}{s:Shared}{p:Addr}{xs:List V} (I:Inv X pins σ H s) (h:H p=some (.lst xs)):
  ∃(its:List Value) (n:Nat),Vals xs its/\s.heap.get? p=some { cls:=.type "list", data:=.seq its.toArray n } /\ xs.length<=sizeLine:=by
 obtain ⟨z,its,n,r,e⟩:=I.hok p _ h
 exact ⟨its,n,r,e,z⟩
theorem Inv.lstUpd {pins:List (Addr×Obj)} {σ:St}{H:Hp}{s:Shared}{p:Addr}{xs ys:List V}{its its':List Value}{n n':Nat}{f:Obj->Obj} (I:Inv X pins σ H s) (h:H p=some (.lst xs))
  (ho:s.heap.get? p=some { cls:=.type "list", data:=.seq its.toArray n }) (hf:f { cls:=.type "list", data:=.seq its.toArray n } = { cls:=.type "list", data:=.seq its'.toArray n' }) (r:Vals ys its') (hz:ys.length<=sizeLine) (t:Nat):
  Inv X pins σ (upd H p (.lst ys)) { s with heap:=s.heap.update p f,toks:=t }:=by
 have e:(s.heap.update p f).get? p=some { cls:=.type "list", data:=.seq its'.toArray n' }:=by
  rw [Heap.get?_update_self f ho (by rw [hf]<;>rfl),hf]
 refine I.write (x:=p) (e:=p) (by rw [h];trivial) (.inl rfl) (fun b u hb q=>(Heap.get?_update_other _ _ (Ne.symm hb)).trans q) ⟨_,e⟩ ?_
 exact ⟨hz,its',n',r,e⟩
def ZnP:V->V->V->Hp->(Hp->Prop)->Prop:=fun o i v H Q=>∃p xs k j,o = .ref p/\i = .int k/\H p=some (.lst xs)/\ixN xs.length k=some j/\Q (upd H p (.lst (xs.set j v)))
theorem set_list:ZkX X ZnP:=by
 intro pins s σ H o i v ov iv u Q I ro ri rv h
 obtain ⟨p,xs,k,j,rfl,rfl,hp,hj,q⟩:=h
 cases ro
 obtain ⟨t,rfl⟩:=ri
 obtain ⟨its,n,r,ho,hz⟩:=I.lst hp
 obtain ⟨h1,h2,h3,h4⟩:=ZgT hj
 have hl:=r.length
 have hn:=ZcZ
 have I':Inv X pins σ (upd H p (.lst (xs.set j v))) { s with heap:=s.heap.update p (Obj.mapSeq (·.setIfInBounds j u)) }:=
  I.lstUpd hp ho (ZgF its n j u) (r.set rv j) (by rw [List.length_set];exact hz) s.toks
 by_cases h0:0<=k
 ·have hk:k.toNat=j:=by
   rw [seqIndex_of h0 h4] at h1
   exact Option.some.inj h1
  exact PySem.W.ki_setAt ho h0 (by lia) (by rw [List.size_toArray,<- hl];exact h4) (by rw [hk];exact ⟨_,I',q⟩)
 ·have hk:(k+(its.toArray.size:Int)).toNat=j:=by
   rw [seqIndex_neg (by lia) h3] at h1
   rw [List.size_toArray,<- hl]
   exact Option.some.inj h1
  exact PySem.W.ki_setBack ho (by lia) (by rw [List.size_toArray,<- hl];exact h3) (by lia) (by rw [hk];exact ⟨_,I',q⟩)
theorem ZeJ (lo hi:Option Int) (n:Nat):(sliceBounds lo hi none n).1=((HT.Jj n 0 lo:Nat):Int)/\(sliceBounds lo hi none n).2.1=((HT.Jj n n hi:Nat):Int)/\(sliceBounds lo hi none n).2.2=1:=by
 refine ⟨?_,?_,rfl⟩
 ·cases lo with
  | none=>simp [sliceBounds,HT.Jj]
  | some i=>
   simp only [sliceBounds,HT.Jj,Option.getD_none,show (1:Int)>0 by decide,if_true]
   by_cases h:i<0
   ·simp only [h,if_true]<;>lia
   ·simp only [h,if_false]<;>lia
 ·cases hi with
  | none=>simp [sliceBounds,HT.Jj]
  | some i=>
   simp only [sliceBounds,HT.Jj,Option.getD_none,show (1:Int)>0 by decide,if_true]
   by_cases h:i<0
   ·simp only [h,if_true]<;>lia
   ·simp only [h,if_false]<;>lia
theorem Zdo (its:List Value) (lo hi:Option Int):slicePick its.toArray lo hi none=((its.drop (HT.Jj its.length 0 lo)).take (HT.Jj its.length its.length hi-HT.Jj its.length 0 lo)).toArray:=by
 obtain ⟨h1,h2,h3⟩:=ZeJ lo hi its.toArray.size
 unfold slicePick
 rw [h1,h2,h3]
 simp only [sliceRange_one,pick_run,List.size_toArray]<;>rfl
def Zn3 (K:PySem.W.Frag):V->Option Int->Option Int->Hp->VK->Prop:=fun x lo hi H Q=>∃a xs,x = .ref a/\Zw K H a xs /\ ∀p,H p=none->Q (.ref p) (upd H p (.lst (Gg xs lo hi)))
theorem Zk0:SlR X (Zn3 X.K):=by
 intro pins s σ H x v vl vu lo hi sl Q I rx hs pl pu h
 obtain ⟨a,xs,rfl,hx,q⟩:=h
 cases rx
 obtain ⟨its,r,ht,hz⟩:=I.list hx
 have hlen:=r.length
 refine ⟨"list", _,slot_list_getitem.lookup,ht.isList.typeIs,?_⟩
 refine wpAny_getItem_list_slice ht.isList hs pl pu .none (by simp) ?_ (by rw [List.size_toArray]<;>lia)
 rw [Zdo,<- hlen]
 refine ⟨.ref s.heap.objs.size,_,I.laid (t':=s.toks) (o:=.lst (Gg xs lo hi)) (fun b ob q=>Heap.get?_push_of_some _ q) (Nat.le_refl _) ?_,rfl,q _ (I.hok.fresh (Nat.le_refl _))⟩
 exact ⟨Nat.le_trans (Zb3 xs lo hi) hz,_,0,(r.drop (HT.Jj xs.length 0 lo)).take (HT.Jj xs.length xs.length hi-HT.Jj xs.length 0 lo),Heap.get?_push_size _ rfl⟩
def Wt:V->Bool
 | .non=>true
 | .bl _=>true
 | .int _=>true
 | .str _=>true
 | _=>false
def eqV:V->V->Bool
 | .non,.non=>true
 | .bl a,.bl b=>a==b
 | .bl a,.int b=>(if a then 1 else 0)==b
 | .int a,.bl b=>a==(if b then 1 else 0)
 | .int a,.int b=>a==b
 | .str a,.str b=>a==b
 | _,_=>false
theorem ZiL {A:Around}{s:Shared}{y x:V}{u v:Value} (ry:RelV y u) (rx:RelV x v) (fy:Wt y=true) (fx:Wt x=true):SeqAt.EqAt A s u v (eqV y x):=by
 cases y with
 | non=>
  cases ry
  cases x with
  | non=>cases rx;exact SeqAt.EqAt.same _
  | bl b=>cases rx;exact SeqAt.EqAt.none_bool b
  | int b=>obtain ⟨t,rfl⟩:=rx;exact SeqAt.EqAt.none_int b t
  | str b=>obtain ⟨t,rfl⟩:=rx;exact SeqAt.EqAt.none_str b t
  | _=>exact absurd (show false=true from fx) Bool.false_ne_true
 | bl a=>
  cases ry
  cases x with
  | non=>cases rx;exact SeqAt.EqAt.bool_none a
  | bl b=>cases rx;exact SeqAt.EqAt.bool_bool a b
  | int b=>obtain ⟨t,rfl⟩:=rx;exact SeqAt.EqAt.bool_int a b t
  | str b=>obtain ⟨t,rfl⟩:=rx;exact SeqAt.EqAt.bool_str a b t
  | _=>exact absurd (show false=true from fx) Bool.false_ne_true
 | int a=>
  obtain ⟨t',rfl⟩:=ry
  cases x with
  | non=>cases rx;exact SeqAt.EqAt.int_none a t'
  | bl b=>cases rx;exact SeqAt.EqAt.int_bool a t' b
  | int b=>obtain ⟨t,rfl⟩:=rx;exact SeqAt.EqAt.int_int a t' b t
  | str b=>obtain ⟨t,rfl⟩:=rx;exact SeqAt.EqAt.int_str a t' b t
  | _=>exact absurd (show false=true from fx) Bool.false_ne_true
 | str a=>
  obtain ⟨t',rfl⟩:=ry
  cases x with
  | non=>cases rx;exact SeqAt.EqAt.str_none a t'
  | bl b=>cases rx;exact SeqAt.EqAt.str_bool a t' b
  | int b=>obtain ⟨t,rfl⟩:=rx;exact SeqAt.EqAt.str_int a t' b t
  | str b=>obtain ⟨t,rfl⟩:=rx;exact SeqAt.EqAt.str_str a t' b t
  | _=>exact absurd (show false=true from fx) Bool.false_ne_true
 | _=>exact absurd (show false=true from fy) Bool.false_ne_true
def eqU (x:V) (u:Value):Bool:=match u with
 | .none=>eqV .non x
 | .bool b=>eqV (.bl b) x
 | .int i _=>eqV (.int i) x
 | .str z _=>eqV (.str z) x
 | _=>false
theorem Zge {x y:V}{u:Value} (r:RelV y u) (f:Wt y=true):eqU x u=eqV y x:=by
 cases y with
 | non=>cases r;rfl
 | bl b=>cases r;rfl
 | int i=>obtain ⟨t,rfl⟩:=r;rfl
 | str z=>obtain ⟨t,rfl⟩:=r;rfl
 | _=>exact absurd (show false=true from f) Bool.false_ne_true
theorem Zeo {x:V}:∀{xs:List V}{us:List Value},Vals xs us->xs.all Wt=true->us.any (eqU x)=xs.any fun y=>eqV y x
 | _,_,.nil,_=>rfl
 | y::xs,u::us,.cons r t,f=>by
  rw [List.all_cons,Bool.and_eq_true] at f
  rw [List.any_cons,List.any_cons,Zge r f.1,Zeo t f.2]
theorem ZaU {A:Around}{s:Shared}{x:V}{v:Value} (rx:RelV x v) (fx:Wt x=true):∀{xs:List V}{us:List Value},Vals xs us->xs.all Wt=true -> ∀u∈us,SeqAt.EqAt A s u v (eqU x u)
 | _,_,.nil,_=>fun u hu=>by cases hu
 | y::xs,u::us,.cons r t,f=>fun u' hu=>by
  rw [List.all_cons,Bool.and_eq_true] at f
  rcases List.mem_cons.mp hu with rfl | hu
  ·rw [Zge r f.1];exact ZiL r rx f.1 fx
  ·exact ZaU rx fx t f.2 u' hu
def inV (x:V) (xs:List V):Bool:=xs.any fun y=>eqV y x
def rIn (K:PySem.W.Frag) (neg:Bool):R2:=fun x y H Q=>∃p xs,y = .ref p/\(Zw K H p xs∨YB K H p xs)/\Wt x=true/\xs.all Wt=true/\Q (.bl (if neg then !inV x xs else inV x xs)) H
theorem Zef:Uy X (compareOp .NotIn) (rIn X.K true):=by
 intro pins s σ H x y v u Q I rx ry h
 obtain ⟨p,xs,rfl,hq,fx,fs,q⟩:=h
 cases ry
 rcases hq with hq | hq
 ·obtain ⟨its,r,pl,hz⟩:=I.list hq
  refine SeqAt.notIn_listAt (eqU x) pl.isList (fun w hw=>ZaU rx fx r fs w (by simpa using hw)) ⟨.bl _,H,I,rfl,?_⟩
  rw [show its.toArray.any (eqU x)=its.any (eqU x) by simp,Zeo r fs]
  exact q
 ·obtain ⟨its,r,pl,hz⟩:=I.tuple hq
  refine SeqAt.notIn_tupleAt (eqU x) pl (fun w hw=>ZaU rx fx r fs w (by simpa using hw)) ⟨.bl _,H,I,rfl,?_⟩
  rw [show its.toArray.any (eqU x)=its.any (eqU x) by simp,Zeo r fs]
  exact q
theorem Zes:Jw X (.builtin "len") (fun xs H Q=>∃p ys,xs = [.ref p]/\(Zw X.K H p ys∨YB X.K H p ys)/\Q (.int ys.length) H):=by
 intro pins s σ H xs us Q I r h
 obtain ⟨p,ys,rfl,hq,q⟩:=h
 obtain ⟨u,rfl,rx⟩:=vals1 r
 cases rx
 have hn:=ZcZ
 rcases hq with hq | hq
 ·obtain ⟨its,r',pl,hz⟩:=I.list hq
  have hlen:=r'.length
  exact Calls.call_len_list pl.isList (by simp only [List.size_toArray]<;>lia) ⟨.int ys.length,H,I.tok _,⟨s.toks+1,by rw [List.size_toArray,hlen]⟩,q⟩
 ·obtain ⟨its,r',pl,hz⟩:=I.tuple hq
  have hlen:=r'.length
  exact len_tuple pl (by simp only [List.size_toArray]<;>lia) ⟨.int ys.length,H,I.tok _,⟨s.toks+1,by rw [List.size_toArray,hlen]⟩,q⟩
theorem Zeb:Jw X (.type "list") (fun xs H Q=>∃p ys,xs = [.ref p]/\(Zw X.K H p ys∨YB X.K H p ys) /\ ∀l,H l=none->Q (.ref l) (upd H l (.lst ys))):=by
 intro pins s σ H xs us Q I r h
 obtain ⟨p,ys,rfl,hq,q⟩:=h
 obtain ⟨u,rfl,rx⟩:=vals1 r
 cases rx
 have fin:∀(its:List Value),Vals ys its->ys.length<=sizeLine -> ∀(h':Heap) (c':Nat),(∀b o',s.heap.get? b=some o'->h'.get? b=some o') ->
   h'.get? s.heap.objs.size=some { cls:=.type "list", dict:=none,data:=.seq its.toArray c',slots:=#[] } -> EP X pins σ Q (.ref s.heap.objs.size) { s with heap:=h' }:=fun its r' hz h' c' kp e=>
  ⟨.ref s.heap.objs.size,_,I.laid (t':=s.toks) kp (Nat.le_refl _) (show ZV X.prog X.w _ h' _ (.lst ys) from ⟨hz,its,c',r',e⟩),rfl,q _ (I.hok.fresh (Nat.le_refl _))⟩
 rcases hq with hq | hq
 ·obtain ⟨its,r',pl,hz⟩:=I.list hq
  have hlen:=r'.length
  obtain ⟨o,ho,hc,n,hd⟩:=pl.isList
  exact call_list_seq p (.inl rfl) ho hc hd (fun h' c' kp e=>fin its r' hz h' c' kp e) (by simp only [List.size_toArray]<;>lia)
 ·obtain ⟨its,r',pl,hz⟩:=I.tuple hq
  have hlen:=r'.length
  obtain ⟨o,ho,hc,n,hd⟩:=pl
  exact call_list_seq p (.inr rfl) ho hc hd (fun h' c' kp e=>fin its r' hz h' c' kp e) (by simp only [List.size_toArray]<;>lia)
theorem Zdx:Jw X (.type "tuple") (fun xs H Q=>∃p ys,xs = [.ref p]/\((Zw X.K H p ys /\ ∀l,H l=none->Q (.ref l) (upd H l (.tup ys)))∨(YB X.K H p ys/\Q (.ref p) H))):=by
 intro pins s σ H xs us Q I r h
 obtain ⟨p,ys,rfl,h⟩:=h
 obtain ⟨u,rfl,rx⟩:=vals1 r
 cases rx
 rcases h with ⟨hq,q⟩ | ⟨hq,q⟩
 ·obtain ⟨its,r',pl,hz⟩:=I.list hq
  have hlen:=r'.length
  refine call_tuple_list pl.isList (fun h' kp=>?_) (by simp only [List.size_toArray]<;>lia)
  have I1:Inv X pins σ H { s with heap:=h' }:=I.kept (t':=s.toks) kp
  have I2:Inv X pins σ (upd H h'.objs.size (.tup ys)) { s with heap:=h'.push { cls:=.type "tuple", data:=.seq its.toArray } }:=
   I1.laid (t':=s.toks) (fun b o e=>Heap.get?_push_of_some _ e) (Nat.le_refl _) (show ZV X.prog X.w _ _ _ (.tup ys) from ⟨hz,its,r',IsTup.new _ _⟩)
  exact ⟨.ref h'.objs.size,_,I2,rfl,q _ (I1.hok.fresh (Nat.le_refl _))⟩
 ·obtain ⟨its,r',pl,hz⟩:=I.tuple hq
  exact call_tuple_same pl ⟨.ref p,H,I,rfl,q⟩
def tyV (K:PySem.W.Frag) (T:String) (x:V) (H:Hp):Prop:=match x with
 | .str _=>T = "str"
 | .int _=>T = "int"
 | .ref p=>(T = "list" /\ ∃xs,Zw K H p xs)∨(T = "tuple" /\ ∃o,K.lookup p=some o/\o.cls = .type "tuple" /\ o.dict=none) ∨
   (T = "dict" /\ ((∃kvs,H p=some (.dK kvs)) ∨ ∃kvs,H p=some (.dT kvs)))∨(T = "set" /\ ∃S n,H p=some (.set S n))
 | _=>False
theorem ZmH {pins:List (Addr×Obj)} {σ:St}{H:Hp}{s:Shared}{T:String}{x:V}{v:Value} (I:Inv X pins σ H s) (r:RelV x v) (ty:tyV X.K T x H):
  s.TypeIs v T /\ ∀a,v = .ref a -> ∃ob,s.heap.get? a=some ob/\ob.dict=none:=by
 cases x with
 | str z=>
  obtain ⟨t,rfl⟩:=r
  cases (show T = "str" from ty)
  exact ⟨typeIs_str s z t,fun _ e=>nomatch e⟩
 | int i=>
  obtain ⟨t,rfl⟩:=r
  cases (show T = "int" from ty)
  exact ⟨typeIs_int s i t,fun _ e=>nomatch e⟩
 | ref p=>
  cases r
  rcases ty with ⟨rfl,xs,hq⟩ | ⟨rfl,o,hk,hc,hd⟩ | ⟨rfl,hk⟩ | ⟨rfl,S,n,hk⟩
  ·obtain ⟨its,_,pl,_⟩:=I.list hq
   refine ⟨pl.isList.typeIs,fun a e=>?_⟩
   cases e
   obtain ⟨o,n,e,c,hd,_⟩:=pl
   exact ⟨o,e,hd⟩
  ·refine ⟨⟨o,I.kIn p o hk,hc⟩,fun a e=>?_⟩
   cases e
   exact ⟨o,I.kIn _ o hk,hd⟩
  ·have z:∃o,s.heap.get? p=some o/\o.ExactDict:=by
    rcases hk with ⟨kvs,hk⟩ | ⟨kvs,hk⟩
    ·obtain ⟨_,_,_,_,o,_,_,e,ex,_⟩:=I.hok p _ hk
     exact ⟨o,e,ex⟩
    ·obtain ⟨_,_,_,_,o,_,_,e,ex,_⟩:=I.hok p _ hk
     exact ⟨o,e,ex⟩
   obtain ⟨o,e,ex⟩:=z
   refine ⟨⟨o,e,ex.1⟩,fun a e2=>?_⟩
   cases e2
   exact ⟨o,e,ex.2.1⟩
  ·obtain ⟨o,_,_,_,e,ex,_⟩:=I.hok p _ hk
   refine ⟨⟨o,e,ex.1⟩,fun a e2=>?_⟩
   cases e2
   exact ⟨o,e,ex.2.1⟩
 | _=>exact False.elim ty
def tBM (K:PySem.W.Frag) (T:String) (r:V->List V->Hp->VK->Prop) (to:TE) (t:TA):TE:=fun σ H Q=>to σ H fun x H1=>tyV K T x H1/\t σ H1 fun xs H2=>r x xs H2 Q
variable {o e:Expr}{es:List Expr}{to:TE}{t:TA}{name:Str}{apos cpos:Pos}{T id:String}{r:V->List V->Hp->VK->Prop}
theorem YN (pa:PlainAttrs T) (slot:Slot T name id) (hty:typeOf (.builtin id)=pure (.type "method_descriptor")) (hm:MtR X id r) (ho:PE X o to) (ha:PA X (e::es) t)
  (hbase:attributeBase o name X.env (eval o X.env)=eval o X.env:=by rfl)
  (hfew:((backTo cpos (starEach (e::es) X.env)).all (fun x=>!x.1)&&(backToKw cpos (keywordEach [] X.env)).all (fun x=>x.1.isSome)
   && decide ((e::es).length+([]:List Keyword).length+(if ([]:List Keyword).isEmpty then 0 else 1)<30))=true:=by rfl)
  (hline:(apos.endLine==cpos.line)=true:=by rfl) (hs:starEach (e::es) X.env=(false,eval e X.env)::starEach es X.env:=by rfl) (hplain:(backTo cpos (starEach es X.env)).any (·.1)=false:=by rfl):
  PE X (.Call (.Attribute o name apos) (e::es) [] cpos) (tBM X.K T r to t):=by
 intro pins s σ H Q I h
 refine wpAny_Call_method_late hbase hfew hline rfl (Yq (ho pins s σ H _ I h) fun v s1 ⟨x,H1,I1,r1,ty,q1⟩=>?_)
 obtain ⟨h1,h2⟩:=ZmH I1 r1 ty
 refine ⟨T,id,pa,slot,hty,h1,h2,?_⟩
 have hA:=ha cpos pins s1 σ H1 _ I1 q1
 rw [hs] at hA ⊢
 refine Calls.callWith_builtin (by show (false||(backTo cpos (starEach es X.env)).any (·.1))=false;rw [hplain]<;>rfl) (Calls.evalArgs_plain ?_)
 exact Yq hA fun us s2 ⟨vs,H2,I2,r2,q2⟩=>hm pins s2 σ H2 x vs v us Q I2 r1 r2 q2
end
def MtM (X:Cx) (id:String) (r:V->List V->Hp->VK->Prop):Prop:=
 ∀(pins:List (Addr×Obj)) (s:Shared) (σ:St) (H:Hp) (x:V) (xs:List V) (v:Value) (us:List Value) (Q:VK),Inv X pins σ H s->RelV x v->Vals xs us->r x xs H Q ->
  wpAny (model X.prog X.w) X.A (call (.builtin id) (v::us)) (EP X pins σ Q) X.xe s
theorem Vals.one:∀{x:V}{us:List Value},Vals [x] us -> ∃u,us = [u]/\RelV x u
 | _,_,.cons r .nil=>⟨_,rfl,r⟩
theorem Vals.two:∀{x y:V}{us:List Value},Vals [x,y] us -> ∃u v,us = [u,v]/\RelV x u/\RelV y v
 | _,_,_,.cons r (.cons q .nil)=>⟨_,_,rfl,r,q⟩
theorem Vals.eraseIdx:∀{xs:List V}{us:List Value} (i:Nat),Vals xs us->Vals (xs.eraseIdx i) (us.eraseIdx i)
 | _,_,_,.nil=>.nil
 | _,_,0,.cons _ t=>t
 | _,_,i+1,.cons r t=>.cons r (Vals.eraseIdx i t)
theorem Vals.rep {xs:List V}{us:List Value} (h:Vals xs us):∀k:Nat,Vals (List.replicate k xs).flatten (List.replicate k us).flatten
 | 0=>.nil
 | k+1=>by
  rw [List.replicate_succ,List.replicate_succ,List.flatten_cons,List.flatten_cons]
  exact Vals.append h (Vals.rep h k)
theorem ZdV {α:Type}:∀(l:List α) (i:Nat),(l.eraseIdx i).length<=l.length
 | [],_=>Nat.le_refl _
 | _::_,0=>Nat.le_succ _
 | _::r,i+1=>Nat.succ_le_succ (ZdV r i)
theorem foldl_rep (its:List Value):∀(k:Nat) (acc:List Value),
  List.foldl (fun x1 x2=>x1++x2) acc.toArray (List.replicate k its.toArray)=(acc++(List.replicate k its).flatten).toArray
 | 0,acc=>by simp
 | k+1,acc=>by
  have e:acc.toArray++its.toArray=(acc++its).toArray:=by simp
  have e2:(acc++its)++(List.replicate k its).flatten=acc++(List.replicate (k+1) its).flatten:=by
   rw [List.replicate_succ,List.flatten_cons,List.append_assoc]
  rw [<- e2,<- foldl_rep its k (acc++its),<- e,List.replicate_succ,List.foldl_cons]
section
variable {X:Cx}{pins:List (Addr×Obj)} {σ:St}{H:Hp}{s:Shared}{l b:Addr}{xs ys zs:List V}
theorem Inv.lset {its its':List Value}{n:Nat}{f:Array Value->Array Value}{t':Nat} (I:Inv X pins σ H s) (hH:H l=some (.lst xs))
  (e:s.heap.get? l=some { cls:=.type "list", data:=.seq its.toArray n }) (hf:f its.toArray=its'.toArray) (hv:Vals ys its') (hz:ys.length<=sizeLine):
  Inv X pins σ (upd H l (.lst ys)) { s with heap:=s.heap.update l (Obj.mapSeq f),toks:=t' }:=by
 have q:=PySem.IsL.update e f
 rw [hf] at q
 refine I.write (x:=l) (e:=l) (by rw [hH];exact trivial) (.inl rfl) (fun b' u hb hu=>(Heap.get?_update_other s.heap (Obj.mapSeq f) (Ne.symm hb)).trans hu) ⟨_,q⟩ ?_
 exact ⟨hz,its',_,hv,q⟩
theorem Inv.lnew {its:List Value}{t':Nat} (I:Inv X pins σ H s) (hv:Vals ys its) (hz:ys.length<=sizeLine):
  Inv X pins σ (upd H s.heap.objs.size (.lst ys)) { s with heap:=s.heap.push { cls:=.type "list", data:=.seq its.toArray },toks:=t' }:=
 I.laid (fun _ _ q=>Heap.get?_push_of_some _ q) (Nat.le_refl _) ⟨hz,its,0,hv,Heap.get?_push_size _ rfl⟩
theorem Inv.fresh (I:Inv X pins σ H s):H s.heap.objs.size=none:=I.hok.fresh (Nat.le_refl _)
theorem Inv.lstM (I:Inv X pins σ H s) (hH:H l=some (.lst xs)):xs.length<=sizeLine /\ ∃(its:List Value) (n:Nat),Vals xs its/\xs.length=its.length/\s.heap.get? l=some { cls:=.type "list", data:=.seq its.toArray n }:=by
 obtain ⟨z,its,n,r,e⟩:=I.hok l _ hH
 exact ⟨z,its,n,r,r.length,e⟩
theorem ZcM {n:Nat} (h:n<=sizeLine):Builtin.List.listTooLong n=false:=by
 unfold Builtin.List.listTooLong
 exact decide_eq_false (by lia)
end
section
variable {X:Cx}
def Zku:V->List V->Hp->VK->Prop:=fun x vs H Q=>∃l xs y,x = .ref l/\vs = [y]/\H l=some (.lst xs)/\xs.length<sizeLine/\Q .non (upd H l (.lst (xs ++ [y])))
theorem ZW:MtM X "list.append" Zku:=by
 intro pins s σ H x vs v us Q I rx rv h
 obtain ⟨l,xs,y,rfl,rfl,hH,hz,q⟩:=h
 cases rx
 obtain ⟨u,rfl,ru⟩:=rv.one
 obtain ⟨z,its,n,r,hl,e⟩:=I.lstM hH
 refine call_meets F.slot_list_append ⟨_,e,rfl⟩ F.entry_list_append (F.args_list_append_2 _ _) (PySem.list_append l its.toArray n u (by rw [List.size_toArray];lia)) ⟨e,?_⟩
 refine ⟨.non,_,I.lset (its':=its ++ [u]) hH e (by simp) (r.append (.cons ru .nil)) ?_,rfl,q⟩
 rw [List.length_append,List.length_singleton]
 lia
def Zmx:V->List V->Hp->VK->Prop:=fun x vs H Q=>∃l xs i k y,x = .ref l/\vs = [.int i]/\H l=some (.lst xs) /\ -(2 ^ 63)<=i/\i<2 ^ 63/\seqIndex? i xs.length=some k/\xs[k]? = some y/\Q y (upd H l (.lst (xs.eraseIdx k)))
theorem ZcW:MtM X "list.pop" Zmx:=by
 intro pins s σ H x vs v us Q I rx rv h
 obtain ⟨l,xs,i,k,y,rfl,rfl,hH,h1,h2,hk,hy,q⟩:=h
 cases rx
 obtain ⟨u,rfl,ru⟩:=rv.one
 obtain ⟨t,rfl⟩:=ru
 obtain ⟨z,its,n,r,hl,e⟩:=I.lstM hH
 obtain ⟨w,hw,rw'⟩:=r.get hy
 refine call_meets F.slot_list_pop ⟨_,e,rfl⟩ F.entry_list_pop (F.args_list_pop_2 _ _)
  (MeetsSeq.list_pop_at l its.toArray n i t k w (fitsIndex_both h1 h2) (by rw [List.size_toArray,<- hl];exact hk) (by rw [<- Array.getElem?_toList];exact hw) (by rw [List.size_toArray];lia)) ⟨e,?_⟩
 refine ⟨y,_,I.lset (its':=its.eraseIdx k) hH e ?_ (r.eraseIdx k) ?_,rw',q⟩
 ·show its.toArray.eraseIdxIfInBounds k=(its.eraseIdx k).toArray
  rw [List.eraseIdxIfInBounds_toArray]
 ·have:=ZdV xs k
  lia
def ZoE:R2:=fun x y H Q=>∃l b xs zs,x = .ref l/\y = .ref b/\H l=some (.lst xs)/\H b=some (.lst zs)/\xs.length+zs.length<=sizeLine /\ ∀p,H p=none->Q (.ref p) (upd H p (.lst (xs++zs)))
theorem Gh:Uy X (binaryOp .Add) ZoE:=by
 intro pins s σ H x y v u Q I rx ry h
 obtain ⟨l,b,xs,zs,rfl,rfl,hH,hB,hz,q⟩:=h
 cases rx
 cases ry
 obtain ⟨z,its,n,r,hl,e⟩:=I.lstM hH
 obtain ⟨z2,its2,n2,r2,hl2,e2⟩:=I.lstM hB
 refine PySem.P.add_list e e2 ?_ (by rw [List.size_toArray,List.size_toArray];lia)
 have ea:its.toArray++its2.toArray=(its++its2).toArray:=by simp
 rw [ea]
 exact ⟨.ref _,_,I.lnew (t':=s.toks) (r.append r2) (by rw [List.length_append];lia),rfl,q _ I.fresh⟩
def Zne:R2:=fun x y H Q=>∃l k xs,x = .ref l/\y = .int k/\H l=some (.lst xs) /\ -(2 ^ 63)<=k/\k<2 ^ 63/\xs.length*k.toNat<=sizeLine /\
 ∀p,H p=none->Q (.ref p) (upd H p (.lst (List.replicate k.toNat xs).flatten))
theorem len_rep {α:Type} (xs:List α) (k:Nat):(List.replicate k xs).flatten.length=k*xs.length:=by
 induction k with
 | zero=>simp
 | succ k ih=>rw [List.replicate_succ,List.flatten_cons,List.length_append,ih,Nat.succ_mul,Nat.add_comm]
theorem ZaH:Uy X (binaryOp .Mult) Zne:=by
 intro pins s σ H x y v u Q I rx ry h
 obtain ⟨l,k,xs,rfl,rfl,hH,h1,h2,hz,q⟩:=h
 cases rx
 obtain ⟨t,rfl⟩:=ry
 obtain ⟨z,its,n,r,hl,e⟩:=I.lstM hH
 have hlen:its.toArray.size*k.toNat<=sizeLine:=by rw [List.size_toArray,<- hl];exact hz
 have hcap:¬its.toArray.size*k.toNat>(2 ^ 63-1) / 8:=by
  have:(sizeLine:Nat)<=(2 ^ 63-1) / 8:=by decide
  lia
 have hfit:¬(!Builtin.List.listFitsIndex k)=true:=by
  rw [fitsIndex_both h1 h2]
  exact Bool.false_ne_true
 have hlong:¬Builtin.List.listTooLong (its.toArray.size*k.toNat)=true:=by
  rw [ZcM hlen]
  exact Bool.false_ne_true
 have hnew:List.foldl (fun x1 x2=>x1++x2) #[] (List.replicate (if its.toArray.isEmpty=true then 0 else k.toNat) its.toArray)=(List.replicate k.toNat its).flatten.toArray:=by
  have f0:∀m:Nat,List.foldl (fun x1 x2=>x1++x2) #[] (List.replicate m its.toArray)=(List.replicate m its).flatten.toArray:=fun m=>by
   have:=foldl_rep its m []
   rw [List.nil_append] at this
   exact this
  rw [f0]
  cases its with
  | nil=>simp
  | cons a r'=>rw [if_neg (by simp)]
 refine wpAny_binaryOp_repeat_ref (T := "list") (U := "int") (by decide) ⟨_,e,rfl⟩ (fun s'=>typeIs_int s' k t) noFill_list_mul F.fills_int_mul F.slot_int_rmul repeat_list F.slot_int_index.lookup
  (call_meets F.slot_int_rmul (typeIs_int s k t) F.entry_int_rmul (F.args_int_rmul_2 _ _) (int___rmul___int_list k t l its.toArray n)
   ⟨e,rfl,⟨_,e,rfl⟩,call_meets F.slot_list_mul ⟨_,e,rfl⟩ F.entry_list_mul (F.args_list_mul_2 _ _) (AutoListH.list___mul___list_int_3 l its.toArray n k t hfit hcap hlong) ⟨e,?_⟩⟩)
 rw [hnew]
 exact ⟨.ref _,_,I.lnew (t':=s.toks) (r.rep k.toNat) (by rw [len_rep,Nat.mul_comm];exact hz),rfl,q _ I.fresh⟩
end
section
variable {prog:Program}{w:World}{A:Around}{E:Value->Shared->Prop}{s:Shared}
theorem Zh3 (its its2:List Value) (a c:Nat):its.toArray.extract 0 a++its2.toArray++its.toArray.extract c its.toArray.size=(its.take a++its2++its.drop c).toArray:=by
  apply Array.toList_inj.mp
  first
    | (simp
       exact List.take_of_length_le (by simp))
    | simp [List.take_of_length_le]
    | simp
theorem Zdj {a c n:Nat} (hac:a<=c) (hc:c<=n):sliceBounds (some (a:Int)) (some (c:Int)) none n=((a:Int),(c:Int),1):=by
 simp only [sliceBounds,Option.getD_none]
 have h1:¬((a:Int)<0):=by lia
 have h2:¬((c:Int)<0):=by lia
 simp only [h1,h2,if_false,show (1:Int)>0 by decide,if_true]
 congr 1
 ·lia
 ·congr 1;lia
set_option maxRecDepth 100000 in
theorem Zdv {l b sl:Addr}{items new:Array Value}{n n2:Nat}{vl vu:Value}{a c:Nat}{Q:Unit->Shared->Prop}
    (e:s.heap.get? l=some { cls:=.type "list", data:=.seq items n }) (e2:s.heap.get? b=some { cls:=.type "list", data:=.seq new n2 }) (hne:l≠b)
    (hs:s.heap.IsSliceOf sl vl vu .none) (pl:IsPart vl (some (a:Int))) (pu:IsPart vu (some (c:Int))) (hac:a<=c) (hc:c<=items.size)
    (hsz:items.size+new.size<=sizeLine) (h:Q () { s with heap:=s.heap.update l (Obj.mapSeq fun xs=>xs.extract 0 a++new++xs.extract c xs.size) }):
    wpAny (model prog w) A (setItem (.ref l) (.ref sl) (.ref b)) Q E s:=by
  have hl:s.heap.IsList l items:=PySem.IsL.isList e
  have hb:s.heap.IsList b new:=PySem.IsL.isList e2
  obtain ⟨os,hos,hcs,hds⟩:=id hs
  have hTs:s.TypeIs (.ref sl) "slice" := ⟨os,hos,hcs⟩
  have hstep:¬((rawPart none==rawInt 0)=true):=Bool.false_ne_true
  have hsame:Builtin.List.listSameRef (.ref l) (.ref b)=false:=by
    unfold Builtin.List.listSameRef
    exact beq_eq_false_iff_ne.mpr hne
  have hmax:(max (a:Int) (c:Int)).toNat=c:=by lia
  have hz':((fun xs:Array Value=>xs.extract 0 a++new++xs.extract c xs.size) items).size<=sizeLine+1:=by
    simp only [Array.size_append,Array.size_extract]
    lia
  unfold setItem
  try with_reducible refine wpAny_holding ?_
  first | refine wpAny_bind (wpAny_pure ?_) | skip
  refine wpAny_bind (wpAny_sequenceKey hl.typeIs (by decide) ?_)
  refine wpAny_bind (wpAny_callSpecial?_slot (name:=Str.ofString "__setitem__") hl.typeIs slot_list_setitem
    (wpAny_call_entry slot_list_setitem hl.typeIs entry_list_setitem ?_ (args_list_setitem _ _ _)))
  show wpAny _ _ (Builtin.List.listSubscript? (.ref sl) >>= _) _ _ s
  refine wpAny_bind ?_
  unfold Builtin.List.listSubscript?
  refine wpAny_bind (wpAny_specialOf hTs slice_no_index ?_)
  simp only [Option.isNone_none,if_true]
  refine wpAny_pure ?_
  show wpAny _ _ (typeOf (.ref sl) >>= _) _ _ s
  refine wpAny_bind (wpAny_typeOf hTs ?_)
  first
    | rw [if_neg (by decide)]
    | refine PySem.W.KFB.if_not (by decide) ?_
  rw [listSliceParts_eq]
  refine wpAny_bind (wpAny_bind (wpAny_field hos hds (x:=.none) rfl (wpAny_bind (wpAny_listPart .none ?_))))
  rw [if_neg hstep]
  refine wpAny_bind (wpAny_field hos hds (x:=vl) rfl (wpAny_bind (wpAny_listPart pl ?_)))
  refine wpAny_bind (wpAny_field hos hds (x:=vu) rfl (wpAny_bind (wpAny_listPart pu (wpAny_pure ?_))))
  first
    | simp only [hsame,Bool.false_eq_true,if_false]
    | refine PySem.W.KFB.if_not hsame ?_
    | (dsimp only
       rw [if_neg (by rw [hsame];exact Bool.false_ne_true)])
  refine wpAny_bind (m:=Builtin.List.listAllItems (.ref b) "must assign iterable to extended slice") ?_
  unfold Builtin.List.listAllItems
  refine wpAny_bind (wpAny_typeOf hb.typeIs ?_)
  first
    | refine PySem.W.KFB.if_so (by decide) ?_
    | rw [if_pos (by decide)]
    | simp only [beq_self_eq_true,Bool.true_or,if_true]
  unfold Builtin.List.listItems
  refine wpAny_bind (wpAny_seqItems e2 rfl (wpAny_pure ?_))
  refine wpAny_bind (wpAny_bind (wpAny_seqItems e rfl (wpAny_pure ?_)))
  refine wpAny_bind (wpAny_of_eq ((sliceIndices_raw (some (a:Int)) (some (c:Int)) none items.size (by simp)).trans (congrArg (pure:Int×Int×Int->Sem (Int×Int×Int)) (Zdj hac hc))) ?_)
  show wpAny _ _ (if ((1:Int)==1)=true then _ else _) _ _ s
  rw [if_pos (by decide)]
  refine wpAny_bind (wpAny_rule ?_)
  first
    | simp only [ZcM hsz,Bool.false_eq_true,if_false]
    | refine PySem.W.KFB.if_not (ZcM hsz) ?_
  first | refine wpAny_bind (wpAny_pure ?_) | skip
  show wpAny _ _ (updateSeq l (fun xs=>xs.extract 0 ((a:Int)).toNat++new++xs.extract (max (a:Int) (c:Int)).toNat xs.size) >>= _) _ _ s
  rw [hmax,Int.toNat_natCast]
  refine wpAny_bind (wpAny_updateSeq (hz:=Nat.le_trans (Nat.le_add_right _ _) hsz) (_hz':=hz') e rfl ?_)
  refine wpAny_bind (wpAny_letGo ?_)
  first
    | exact wpAny_bind (wpAny_pure (wpAny_pure ⟨.none,rfl,wpAny_pure h⟩))
    | exact wpAny_pure ⟨.none,rfl,wpAny_pure h⟩
end
section
variable {X:Cx}
theorem Zh1 {pins:List (Addr×Obj)}{s:Shared} {σ:St}{H:Hp}{l b sl:Addr}{xs ys:List V}{a c:Int}{vl vu:Value}{Q:Unit->Shared->Prop} (I:Inv X pins σ H s)
  (hH:H l=some (.lst xs)) (hB:H b=some (.lst ys)) (hne:l≠b) (hs:s.heap.IsSliceOf sl vl vu .none) (ra:RelV (.int a) vl) (rc:RelV (.int c) vu) (h0:0<=a) (hac:a<=c) (hc:c<=xs.length)
  (hz:xs.length+ys.length<=sizeLine) (h:∀s',Inv X pins σ (upd H l (.lst (xs.take a.toNat++ys++xs.drop c.toNat))) s'->Q () s'):
  wpAny (model X.prog X.w) X.A (setItem (.ref l) (.ref sl) (.ref b)) Q X.xe s:=by
 obtain ⟨ta,rfl⟩:=ra
 obtain ⟨tc,rfl⟩:=rc
 obtain ⟨z,its,n,r,hl,e⟩:=I.lstM hH
 obtain ⟨z2,its2,n2,r2,hl2,e2⟩:=I.lstM hB
 obtain ⟨a',rfl⟩:=Int.eq_ofNat_of_zero_le h0
 obtain ⟨c',rfl⟩:=Int.eq_ofNat_of_zero_le (Int.le_trans h0 hac)
 simp only [Int.toNat_natCast] at h
 refine Zdv (a:=a') (c:=c') e e2 hne hs (.int _ _) (.int _ _) (by lia) (by rw [List.size_toArray];lia) (by rw [List.size_toArray,List.size_toArray];lia) (h _ ?_)
 refine I.lset (its':=its.take a'++its2++its.drop c') (t':=s.toks) hH e ?_ (Vals.append (Vals.append (r.take _) r2) (r.drop _)) ?_
 ·exact Zh3 its its2 a' c'
 ·rw [List.length_append,List.length_append,List.length_take,List.length_drop]
  lia
end
end L2
namespace Att
open PySem PySem.W PySem.Calls PyProof.Rows
theorem Zcc {P:Params}{h:Heap}:∀(ns:List Int) (vs:List Value),WellAll P h vs (ns.map WData.int)->IntsAre vs ns:=by
 intro ns
 induction ns with
 | nil=>
  intro vs w
  rw [List.map_nil] at w
  cases w
  exact .nil
 | cons n ns ih=>
  intro vs w
  rw [List.map_cons] at w
  cases w with
  | cons a b=>
   cases a
   exact .cons _ _ (ih _ b)
theorem Zh5 {l:OpenLaw}{n:Nat} (hn:l.most=some n) {P:Params}{h:Heap}{args:List WData}{vals:List Value}
  (hpre:l.row.toRowW.claim.pre args=true) (hwl:WellAll P h vals args):
  ∃a vs ns,vals = [Value.ref a]/\args = [WData.list (ns.map WData.int)]/\h.get? a=some { cls:=.type "list", data:=.seq vs.toArray } /\ IntsAre vs ns/\ns.length<=n:=by
 have hsh:WShape.hasAll [] args [.list .int]=true:=(pre_splitW hpre).1
 have hc:l.pre.holds [] { args:=args } = true:=(pre_splitW hpre).2
 obtain ⟨d,r,rfl,h1,h2⟩:=hasAllW_cons hsh
 obtain rfl:=hasAllW_nil h2
 obtain ⟨xs,rfl,h3⟩:=hasW_list h1
 obtain ⟨ns,rfl⟩:=items_int h3
 have hlen:ns.length<=n:=by
  unfold OpenLaw.pre at hc
  have h4:(WTm.not (.lt (.lit (.int (n:Int))) (.len (.arg 0)))).holds [] { args:=[.list (ns.map .int)] } = true:=by
   have h4:=(holds_andW hc).1
   rw [hn] at h4
   exact h4
  have h5:=condW_of h4 (w_not (w_lt w_lit (w_len_list (w_arg rfl))))
  rw [List.length_map] at h5
  refine Nat.le_of_not_lt fun q=>?_
  have q':(n:Int)<((ns.length:Nat):Int):=by lia
  first
   | (rw [decide_eq_true q'] at h5;exact absurd h5 (by decide))
   | (simp at h5;lia)
 cases hwl with
 | cons w1 w2=>
  cases w2
  cases w1 with
  | list ho hall=>exact ⟨_,_,ns,rfl,rfl,ho,Zcc ns _ hall,hlen⟩
theorem Zif (l:OpenLaw) (args:List WData):l.row.toRowW.claim.post args (.bool true) args=true:=
 postW_of (r:=l.row.toRowW) (X:=(true==true))
  (show WShape.has [] (.bool true) .bool=true by first | rfl | decide | simp [WShape.has,WShape.arms,WShape.armsAll])
  (show (WTm.eq .res (.lit (.bool true))).value [] { args:=args,res:=some (.bool true),after:=args } = some (.bool (true==true)) from w_eq_bool (w_res rfl) w_lit) rfl
theorem Zfj {l:OpenLaw}{n:Nat}{q:Program}{loose:List Str}{XP:(Str->Option Value)->Heap->Prop}{YP:World->Heap->Prop}{d:DefRec}
  (hn:l.most=some n) (hdf:d.params.defaults = [])
  (call:∀(w:World) (s₀ s₁:Shared) (mg mb:Str->Option Value) (fa:Addr) (o:Obj) (pm cd doc:Value) (a:Addr) (vs:List Value) (ns:List Int),
   Ground q loose [] XP w s₀ mg mb s₁.heap->YP w s₁.heap ->
   s₁.heap.get? fa=some o->o.data = .func (docDef d.name d.params d.body d.scope pm cd doc)->s₁.heap.CodeRec cd d.name->mg d.name=some (.ref fa) ->
   s₁.heap.get? a=some { cls:=.type "list", data:=.seq vs.toArray } -> IntsAre vs ns->ns.length<=n->s₁.gens = #[] ->
   codeAny (model l.prog w) callerA (.call (.ref fa) ⟨[.ref a],[]⟩) (fun r s'=>r = .ok (.ret (.bool true))/\OldK s₁.heap s'.heap/\s'.os=s₁.os/\AllBare s'.gens) s₁):
  WalkO q loose XP YP l.row.toRowW d [] (fun f vs=>PySem.call f vs):=by
 intro w s₀ s₁ mg mb G Y fa o pm cd doc dV kV ho hd hcd hD hmg hg args vals as hpre hlay hrd hwl hlo
 obtain rfl:dV = .none:=Dflts.none hD hdf
 obtain rfl:kV = .none:=Dflts.noKw hD
 obtain ⟨a,vs,ns,rfl,rfl,hobj,hints,hlen⟩:=Zh5 hn hpre hwl
 refine enter_call (codeAny_mono (call w s₀ s₁ mg mb fa o pm cd doc a vs ns G Y ho (fd_plain hd) hcd hmg hobj hints hlen hg) fun r s' hq=>?_)
 obtain ⟨rfl,h2,h3,h4⟩:=hq
 exact ⟨.inl ⟨.bool true,.bool true,[],rfl,fun _=>rfl,.bool true,Zif l _,fun _=>⟨List.Pairwise.nil,fun _ hm=>(nomatch hm)⟩⟩,h2,h3,h4⟩
end Att
namespace L2
open PySem PySem.Spec PyProof.Rows
theorem Zab:∀{vs:List Value}{ns:List Int},IntsAre vs ns->Vals (ns.map V.int) vs
 | _,_,.nil=>.nil
 | _,_,.cons n t h=>.cons ⟨t,rfl⟩ (Zab h)
def Zna (H:Hp):Prop:=∀b,H b=none ∨ ∃o xs,H b=some (.frz o (.lst xs))
theorem ZjC {P:Program}{w:World}{K:PySem.W.Frag}{mg mb:Str->Option Value}{CX:CXT}{k:Nat}{fa a:Addr}{fd:FuncData}{x:Str}{sp:Sp}{s₁:Shared}{vs:List Value}{ns:List Int}
  (KX:K.In s₁.heap) (hns:s₁.heap.Ns mainGlobals mg) (hb:s₁.heap.Ns builtinsNs mb) (hbb:∀x:Str,x ≠ "__name__" -> mb x=bootBuiltins x) (hlim:s₁.heap.NoLimit) (hg:s₁.gens = #[])
  (ha:s₁.heap.get? a=some { cls:=.type "list", data:=.seq vs.toArray }) (hi:IntsAre vs ns) (hl:ns.length<=sizeLine) (hr:W4 k callerA)
  (F:∀base:Heap,K.In base->base.Ns mainGlobals mg->Yj P w K mg base CX k fa fd [x] sp) (hbind:∀(s:Shared) (u:Value),BindsTo s fd ⟨[u],[]⟩ [(x,u)])
  (hsp:∀H:Hp,Zna H->Zw K H a (ns.map V.int)->sp [.ref a] H (fun v _=>v = .bl true) fun _ _ _=>False)
  (hCX:∀H e s',CX [] H s₁ (fun _ _ _=>False) e s'->False):
  codeAny (model P w) callerA (.call (.ref fa) ⟨[.ref a],[]⟩) (fun r s'=>r = .ok (.ret (.bool true))/\OldK s₁.heap s'.heap/\s'.os=s₁.os/\AllBare s'.gens) s₁:=by
 have rv:=Zab hi
 have lenV:=hi.length
 have core:∀H:Hp,Zna H->Zw K H a (ns.map V.int)->W0 P w H s₁.heap->(∀b,H b≠none->b=a)->(H a≠none->K.lookup a=none) ->
   codeAny (model P w) callerA (.call (.ref fa) ⟨[.ref a],[]⟩) (fun r s'=>r = .ok (.ret (.bool true))/\OldK s₁.heap s'.heap/\s'.os=s₁.os/\AllBare s'.gens) s₁:=by
  intro H hO hS hok hA hK
  have base_of:∀{b:Addr}{o:Obj},s₁.heap.get? b=some o->H b=none->(Zel s₁.heap H).get? b=some o:=fun e n=>ZjL e n
  have noA:∀{b:Addr}{o:Obj}{es:Array DictEntry}{ep:Nat},s₁.heap.get? b=some o->o.data = .dict es ep->H b=none:=fun {b o es ep} e d=>by
   cases q:H b with
   | none=>rfl
   | some u=>
    have e':b=a:=hA b (by rw [q];simp)
    subst e'
    rw [ha] at e;cases e
    have d':Data.seq vs.toArray _=Data.dict es ep:=d
    cases d'
  have nsK:∀{b:Addr}{m:Str->Option Value},s₁.heap.Ns b m->(Zel s₁.heap H).Ns b m:=fun {b m} ⟨o,es,ep,e,d,r⟩=>⟨o,es,ep,base_of e (noA e d),d,r⟩
  have hKb:K.In (Zel s₁.heap H):=fun b o e=>base_of (KX b o e) (by
   cases q:H b with
   | none=>rfl
   | some u=>
    have e':b=a:=hA b (by rw [q];simp)
    subst e'
    rw [hK (by rw [q];simp)] at e;cases e)
  have hM:Mod K mg (Zel s₁.heap H):=⟨hKb,nsK hns,⟨mb,nsK hb,hbb⟩,let ⟨mc,h1,h2⟩:=hlim;⟨mc,nsK h1,h2⟩⟩
  have e0:ZkH P w K mg (Zel s₁.heap H) callerA [] s₁ H:=⟨rfl,hM,fun b o e=>Zlj e,Nat.le_of_eq (ZhO _ _),trivial,fun b hb=>absurd (show b∈([]:List Addr) from hb) (by simp),hok,.of_eq hg⟩
  refine codeAny_mono ((F _ hKb (nsK hns)).run callerA [] s₁ H ⟨[.ref a],[]⟩ [.ref a] [.ref a] _ _ hr e0 (hbind s₁ (.ref a)) (.cons rfl .nil) (hsp H hO hS)) fun r s' h=>?_
  cases r with
  | error e=>exact (hCX H e s' h).elim
  | ok fl=>
   cases fl with
   | next=>exact False.elim h
   | brk=>exact False.elim h
   | cont=>exact False.elim h
   | ret u=>
    obtain ⟨v,H',os,bare,un,hok',r',q⟩:=h
    have q':v = .bl true:=q
    subst q'
    obtain rfl:u=Value.bool true:=r'
    refine ⟨rfl,OldK.of_keep fun b o e=>?_,os,bare⟩
    cases q:H b with
    | none=>exact un.keep b o e q (by intro z;exact absurd (show b∈([]:List Addr) from z) (by simp)) (by simp)
    | some u=>
     rcases hO b with z | ⟨ob,xs,z⟩
     ·rw [q] at z;cases z
     ·have z2:=un.frzs b ob _ z
      obtain ⟨e1,_⟩:=hok b _ z
      obtain ⟨e2,_⟩:=hok' b _ z2
      rw [e] at e1;cases e1
      exact e2
 cases hk:K.lookup a with
 | some o=>
  have e:=KX a o hk
  rw [ha] at e
  cases e
  refine core (fun _=>none) (fun _=>.inl rfl) (.inr ⟨_,vs.toArray,_,hk,rfl,rfl,rfl,by rw [List.size_toArray,lenV];exact hl,by simpa using rv⟩) (fun b u z=>by have z':(none:Option HO)=some u:=z;cases z') (fun b z=>absurd rfl z) fun z=>absurd rfl z
 | none=>
  refine core (fun b=>if b=a then some (.frz { cls:=.type "list", data:=.seq vs.toArray } (.lst (ns.map V.int))) else none) (fun b=>?_) (.inl (.inr ⟨{ cls:=.type "list", data:=.seq vs.toArray },if_pos rfl⟩)) (fun b u z=>?_) (fun b z=>?_) fun _=>hk
  ·by_cases hb:b=a
   ·exact .inr ⟨_,_,if_pos hb⟩
   ·exact .inl (if_neg hb)
  ·by_cases hb:b=a
   ·have z':=(if_pos hb).symm.trans z
    cases z'
    subst hb
    exact ⟨ha,by rw [List.length_map];exact hl,vs,_,rv,ha⟩
   ·have z':=(if_neg hb).symm.trans z
    cases z'
  ·by_cases hb:b=a
   ·exact hb
   ·exact absurd (if_neg hb) z
theorem Zkz {l:PySem.W.OpenLaw}{n k:Nat}{q:Program}{loose:List Str}{XP:(Str->Option Value)->Heap->Prop}{YP:World->Heap->Prop}{d:DefRec}{K:Params->PySem.W.Frag}{CX:World->CXT}{sp:World->Sp}{x:Str}
  (hn:l.most=some n) (hn2:n<=sizeLine) (hdf:d.params.defaults = []) (hr:W4 k callerA)
  (hY:∀(w:World) (h:Heap),YP w h->(K w.params).In h)
  (F:∀(w:World) (mg:Str->Option Value) (fa:Addr) (h:Heap),(K w.params).In h->h.Ns mainGlobals mg->mg d.name=some (.ref fa) ->
   ∃fd:FuncData,(∀(s:Shared) (u:Value),BindsTo s fd ⟨[u],[]⟩ [(x,u)]) /\
    ∀base:Heap,(K w.params).In base->base.Ns mainGlobals mg->Yj l.prog w (K w.params) mg base (CX w) k fa fd [x] (sp w))
  (hsp:∀(w:World) (H:Hp) (a:Addr) (ns:List Int),ns.length<=n->Zna H->Zw (K w.params) H a (ns.map V.int)->sp w [.ref a] H (fun v _=>v = .bl true) fun _ _ _=>False)
  (hCX:∀(w:World) (H:Hp) (s:Shared) (e:Value) (s':Shared),CX w [] H s (fun _ _ _=>False) e s'->False):
  PySem.W.WalkO q loose XP YP l.row.toRowW d [] (fun f vs=>PySem.call f vs):=by
 refine Att.Zfj hn hdf fun w s₀ s₁ mg mb fa o pm cd doc a vs ns G Y ho hd hcd hmg hobj hints hlen hg=>?_
 have KX:=hY w _ Y
 obtain ⟨fd,hb,hF⟩:=F w mg fa _ KX G.T.g hmg
 exact ZjC KX G.T.g G.T.b G.T.builtins G.T.nolimit hg hobj hints (Nat.le_trans hlen hn2) hr hF hb (fun H hO hS=>hsp w H a ns hlen hO hS) fun H e s'=>hCX w H s₁ e s'
def Zbj (s:Stmt):Arguments:=match s with
 | .FunctionDef _ a _ _ _ _ _ _ _ _=>a
 | _=>{ posonlyargs:=[],args:=[],vararg:=none,kwonlyargs:=[],kw_defaults:=[],kwarg:=none,defaults:=[] }
def GY (s:Stmt):List Stmt:=match s with
 | .FunctionDef _ _ b _ _ _ _ _ _ _=>b
 | _=>[]
def Zj (s:Stmt):Scope:=match s with
 | .FunctionDef _ _ _ _ _ _ sc _ _ _=>sc
 | _=>{ kind:=.function,names:=[],isGenerator:=false,isCoroutine:=false }
abbrev Wy:CXT:=fun _ _ _ _ _ _=>False
abbrev E0:XK:=fun _ _ _=>False
theorem Znz {X:Cx}:Passes Wy X E0:=fun _ _ _ _ _ _ _ h=>h.elim
structure YE (K:PySem.W.Frag) (x qual:Str) (st:Stmt) (f:Addr) (fd:FuncData):Prop where
 ex:∃(oc:Value) (od:Option Addr) (kV doc pm:Value) (an:Option Addr) (cdv ct:Value) (osl:Array (Option Value)),
  fd=PySem.W.fnOf x qual (Zbj st) (GY st) (Zj st) .none kV doc pm an cdv ct/\K.lookup f=some ⟨oc,od,.func fd,osl⟩/\PySem.W.codeIn K cdv qual=true
 kp:PySem.W.keepIn K (.ref f)=true
section
variable {P:Program}{w:World}{K:PySem.W.Frag}{mg:Str->Option Value}{base:Heap}
theorem YE.ok {x qual:Str}{st:Stmt}{f:Addr}{fd:FuncData}{N ps:List Str}{k:Nat}{sp:Sp} (F:YE K x qual st f fd) (S:Zz N ps (Zj st)) (len:∀vs H Q E,sp vs H Q E->vs.length=ps.length)
  (hbody:∀(cdv:Value) (A:Around) (outer:List Env) (s:Shared) (H:Hp) (vs:List V) (Q:VK) (E:XK),W4 k (A.deeper (envOfC qual (Zj st) s.heap.objs.size f cdv))->sp vs H Q E ->
   ∃t,PSs (Wz Wy P w K mg base N qual (Zj st) f cdv A outer s H E).nox (GY st) t/\t { nx:=fun _ H'=>Q .non H',rt:=Q } (start N vs) H):Yj P w K mg base Wy (k+1) f fd ps sp:=by
 obtain ⟨oc,od,kV,doc,pm,an,cdv,ct,osl,rfl,lk,hcd⟩:=F.ex
 refine ZlR lk hcd S len fun A outer s H vs Q E hr hsp=>?_
 obtain ⟨t,h,q⟩:=hbody cdv A outer s H vs Q E hr hsp
 exact ⟨t,h.nox,q⟩
theorem YE.binds {x qual:Str}{st:Stmt}{f:Addr}{fd:FuncData}{ps:List Str} (F:YE K x qual st f fd)
  (h:∀(kV doc pm:Value) (an:Option Addr) (cdv ct:Value) (us:List Value),us.length=ps.length->bindArgs (PySem.W.fnOf x qual (Zbj st) (GY st) (Zj st) .none kV doc pm an cdv ct) ⟨us,[]⟩=pure (ps.zip us)):Binds K fd ps []:=by
 obtain ⟨oc,od,kV,doc,pm,an,cdv,ct,osl,rfl,lk,hcd⟩:=F.ex
 exact .all (h kV doc pm an cdv ct)
theorem ZM {x qual:Str}{st:Stmt}{f:Addr}{oc:Value}{od an:Option Addr}{osl:Array (Option Value)}{kV doc pm cdv ct:Value} (l:K.lookup f=some ⟨oc,od,.func (PySem.W.fnOf x qual (Zbj st) (GY st) (Zj st) .none kV doc pm an cdv ct),osl⟩)
  (c:PySem.W.codeIn K cdv qual=true) (k:PySem.W.keepIn K (.ref f)=true):YE K x qual st f (PySem.W.fnOf x qual (Zbj st) (GY st) (Zj st) .none kV doc pm an cdv ct):=⟨⟨oc,od,kV,doc,pm,an,cdv,ct,osl,rfl,l,c⟩,k⟩
end
theorem Jb {A:Around}{k:Nat} (hr:W4 k A):A.units+1<cLine:=Nat.lt_of_le_of_lt (Nat.add_le_add_left (by decide:1<=64) _) hr.units
theorem Zx {n:Nat} (h:n<=1000):n<sizeLine:=Nat.lt_of_le_of_lt h (by decide)
section
variable {X:Cx}
theorem pv (i:Nat) {x:Str}{pos:Pos} (hN:X.N[i]? = some x:=by rfl) (hv:Vis X.env.scope x:=by first | exact Or.inl rfl | exact Or.inr (Or.inl rfl) | exact Or.inr (Or.inr rfl)) (hd:(x==("__debug__" : Str))=false:=by decide)
  (hcd:(x==("__classdict__" : Str))=false:=by decide):PE X (.Name x pos) (Yv i):=ZmL hN hv hd hcd
end
theorem WE {A B:Prop} (h:B):if false=true then A else B:=by
 rw [if_neg Bool.false_ne_true]
 exact h
theorem Za9 {A B:Prop} (h:A):if true=true then A else B:=by
 rw [if_pos rfl]
 exact h
theorem ZX {c A B:Prop} [Decidable c] (h1:c->A) (h2:¬c->B):if c then A else B:=by
 by_cases h:c
 ·rw [if_pos h]
  exact h1 h
 ·rw [if_neg h]
  exact h2 h
theorem ZlH {c A B:Prop} [Decidable c] (hc:c) (h:B):if (!decide c)=true then A else B:=by
 rw [decide_eq_true hc]
 exact WE h
def Zi (H H':Hp):Prop:=∀b o,H b=some o->H' b=some o
theorem Zi.refl (H:Hp):Zi H H:=fun _ _ h=>h
theorem Zi.trans {H H1 H2:Hp} (a:Zi H H1) (b:Zi H1 H2):Zi H H2:=fun c o h=>b c o (a c o h)
theorem Zi.free {H H':Hp} (e:Zi H H') {l:Addr} (h:H' l=Option.none):H l=Option.none:=by
 cases q:H l with
 | none=>rfl
 | some o=>
  rw [e l o q] at h
  cases h
theorem Zi.seq {K:PySem.W.Frag}{H H':Hp}{a:Addr}{xs:List V} (e:Zi H H') (h:Zw K H a xs):Zw K H' a xs:=by
 rcases h with (h | ⟨o,h⟩) | h
 ·exact .inl (.inl (e _ _ h))
 ·exact .inl (.inr ⟨o,e _ _ h⟩)
 ·exact .inr h
end L2
set_option maxHeartbeats 4000000
namespace L2
open PySem PySem.Spec PyProof.Rows
section
variable {prog:Program}{w:World}{A:Around}{R:Result->Shared->Prop}{s:Shared}
theorem Zh0 {elt target iter:Expr}{ifs:List Expr}{scope:Scope}{pos:Pos}{it acc:Value}{env:Env} (I:Nat->Shared->Prop)
  (turn:∀n s,I n s->wpAny (model prog w) A (pyNext it) (fun r s₁=>match r with
   | none=>R (.ok .next) s₁
   | some v=>wpAny (model prog w) A (letOwnedTupleGo target it v) (fun _ s₁'=>wpAny (model prog w) A (assign target env v) (fun _ s₂=>
     wpAny (model prog w) A (forIn ifs true fun c r=>if r=true then do let ok <- isTrue c env (eval c env);pure (ForInStep.yield ok) else pure (ForInStep.yield r)) (fun ok s₃=>
      if ok=true then wpAny (model prog w) A (eval elt env) (fun x s₄=>
       wpAny (model prog w) A (call (.builtin "list.append") [acc,x]) (fun _ s₅=>∃m,m<n/\I m s₅) (fun _ _=>False) s₄) (fun _ _=>False) s₃
      else ∃m,m<n/\I m s₃) (fun _ _=>False) s₂) (fun _ _=>False) s₁') (fun _ _=>False) s₁) (fun _ _=>False) s)
  (n:Nat) (h:I n s):codeAny (model prog w) A (.compLoop (.ListComp elt [⟨target,iter,ifs,0⟩] scope pos) 0 it acc env) R s:=by
 refine codeAny_loop rfl I (fun n s hI=>?_) n h
 show wpAny _ A ((compTurn (.ListComp elt [⟨target,iter,ifs,0⟩] scope pos) 0 it acc env).onRaise (fun x=>do noteFrame x env;theTreesLotGoes x)) _ _ s
 refine wpAny_noted ?_
 rw [compTurn_list]
 refine wpAny_bind (wpAny_standAt (wpAny_bind (wpAny_mono (turn n s hI) (fun r s₁ h₁=>?_) fun _ _ h'=>h'.elim)))
 cases r with
 | none=>exact wpAny_pure h₁
 | some v=>
  refine wpAny_bind (wpAny_mono h₁ (fun _ s₁' h₁'=>?_) fun _ _ h'=>h'.elim)
  refine wpAny_bind (wpAny_mono h₁' (fun _ s₂ h₂=>wpAny_bind (wpAny_mono h₂ (fun ok s₃ h₃=>?_) fun _ _ h'=>h'.elim)) fun _ _ h'=>h'.elim)
  cases ok with
  | false=>exact wpAny_pure ⟨rfl,h₃⟩
  | true=>
   exact wpAny_bind (wpAny_bind (wpAny_mono h₃ (fun x s₄ h₄=>wpAny_bind (wpAny_mono h₄ (fun _ s₅ h₅=>wpAny_pure (wpAny_pure ⟨rfl,h₅⟩)) fun _ _ h'=>h'.elim)) fun _ _ h'=>h'.elim))
end
theorem ZeL (env:Env) (f:Str×NameKind->List (Str×Addr)->Sem (ForInStep (List (Str×Addr))))
  (hf:∀n k r,f (n,k) r=if (k==NameKind.free)=true then (do let a <- cellOf env n;pure (ForInStep.yield ((n,a)::r))) else pure (ForInStep.yield r)):
  ∀(ns:List (Str×NameKind)) (acc:List (Str×Addr)),(∀y∈ns,y.2 = .free -> ∃c,env.cells.lookup y.1=some c)->(∀x c,acc.lookup x=some c->env.cells.lookup x=some c) ->
   ∃cl,forIn ns acc f=pure cl/\(∀x c,cl.lookup x=some c->env.cells.lookup x=some c)/\(∀y∈ns,y.2 = .free -> ∃c,cl.lookup y.1=some c)/\(∀x c,acc.lookup x=some c -> ∃c',cl.lookup x=some c')
 | [],acc,_,ha=>⟨acc,by rw [List.forIn_nil],ha,fun _ h=>(nomatch h),fun x c h=>⟨c,h⟩⟩
 | (n,k)::r,acc,hn,ha=>by
  rw [List.forIn_cons,hf]
  by_cases hk:k = .free
  ·subst hk
   obtain ⟨c,hc⟩:=hn (n,.free) List.mem_cons_self rfl
   have hc':env.cells.lookup n=some c:=hc
   have e1:cellOf env n=pure c:=by unfold cellOf;rw [hc']
   obtain ⟨cl,h1,h2,h3,h4⟩:=ZeL env f hf r ((n,c)::acc) (fun y hy=>hn y (List.mem_cons_of_mem _ hy)) (fun x c' hx=>by
    rw [List.lookup_cons] at hx
    cases e:x==n with
    | true=>
     rw [e] at hx
     have:x=n:=by simpa using e
     subst this
     rw [<- Option.some.inj hx];exact hc'
    | false=>rw [e] at hx;exact ha x c' hx)
   refine ⟨cl,?_,h2,fun y hy hyf=>?_,fun x c' hx=>?_⟩
   ·rw [if_pos (by rfl),e1]
    exact h1
   ·rcases List.mem_cons.mp hy with e | hy
    ·subst e
     exact h4 n c (by simp)
    ·exact h3 y hy hyf
   ·cases e:x==n with
    | true=>exact h4 x c (by rw [List.lookup_cons,e])
    | false=>exact h4 x c' (by rw [List.lookup_cons,e];exact hx)
  ·have hk':(k==NameKind.free)=false:=by simpa using hk
   obtain ⟨cl,h1,h2,h3,h4⟩:=ZeL env f hf r acc (fun y hy=>hn y (List.mem_cons_of_mem _ hy)) ha
   refine ⟨cl,?_,h2,fun y hy hyf=>?_,h4⟩
   ·rw [hk',if_neg Bool.false_ne_true]
    exact h1
   ·rcases List.mem_cons.mp hy with e | hy
    ·subst e
     exact absurd hyf hk
    ·exact h3 y hy hyf
theorem Zg3 {scope:Scope}{env:Env} (h:∀y∈scope.names,y.2 = .free -> ∃c,env.cells.lookup y.1=some c):
  ∃cl,closureFor scope env=pure cl/\(∀x c,cl.lookup x=some c->env.cells.lookup x=some c)/\(∀y∈scope.names,y.2 = .free -> ∃c,cl.lookup y.1=some c):=by
 obtain ⟨cl,h1,h2,h3,_⟩:=ZeL env (fun x r=>match x with
  | (n,k)=>if (k==NameKind.free)=true then (do let a <- cellOf env n;pure (ForInStep.yield ((n,a)::r))) else pure (ForInStep.yield r)) (fun _ _ _=>rfl) scope.names [] h (fun x c q=>by simp at q)
 refine ⟨cl,?_,h2,h3⟩
 unfold closureFor
 refine Eq.trans ?_ h1
 have e:∀(m:Sem (List (Str×Addr))),(m >>= fun r=>(pure r >>= fun r=>pure r))=m:=fun m=>by simp only [pure_bind,bind_pure]
 exact e _
def Zcf (n:Nat) (fi:List Nat) (σ:St):St:=List.replicate n none++fi.map fun i=>σ.getD i none
def Zhl:TT:=fun _ H Q=>Q true H
def PTs (X:Cx) (ifs:List Expr) (t:TT):Prop:=
 ∀(pins:List (Addr×Obj)) (s:Shared) (σ:St) (H:Hp) (Q:Bool->Hp->Prop),Inv X pins σ H s->t σ H Q ->
  wpAny (model X.prog X.w) X.A (forIn ifs true fun c r=>if r=true then do let ok <- isTrue c X.env (eval c X.env);pure (ForInStep.yield ok) else pure (ForInStep.yield r)) (TP X pins σ Q) X.xe s
theorem Jk {X:Cx}:PTs X [] Zhl:=fun pins s σ H Q I h=>wpAny_tests_nil ⟨H,I,h⟩
theorem Zct {X:Cx}{c:Expr}{t:TT} (h:PT X c t):PTs X [c] t:=fun pins s σ H Q I q=>wpAny_tests_one (h pins s σ H Q I q)
structure Yi (N:List Str) (osc scope:Scope) (Ls Fs:List Str) (fi:List Nat):Prop where
 kind:scope.kind = .function
 cells:∀y∈scope.names,y.2 ≠ .cell
 names:∀y∈scope.names,y.2 = .local->scope.names.lookup y.1=some .local
 fre:∀x∈Fs,scope.names.lookup x=some .free
 all:∀y∈scope.names,y.2 = .free->osc.names.lookup y.1=some .cell∨osc.names.lookup y.1=some .free
 ix:fi.map (fun i=>N[i]?)=Fs.map some
def blk (X:Cx) (scope:Scope) (N:List Str) (cl:List (Str×Addr)) (C:Addr) (s3:Shared) (H3:Hp) (ex:List Addr):Cx:=
 { X with N:=N,s₀:=s3,H₀:=H3,env:=compEnvC scope cl C X.env,outer:=X.stack,stack:=X.stack,ex:=ex,fn:=fun _=>false,pn:=[],xe:=fun _ _=>False }
theorem Zbt {env:Env}:∀{names:List (Str×NameKind)}{x:Str},(∀y∈names,y.2 ≠ .cell) ->
    ((names.map fun (n,k)=>if (k==NameKind.free&&env.scope.kind == .function&&env.kindOf n==some .cell) then (n,NameKind.cell) else (n,k)).lookup x=some .cell ∨
     (names.map fun (n,k)=>if (k==NameKind.free&&env.scope.kind == .function&&env.kindOf n==some .cell) then (n,NameKind.cell) else (n,k)).lookup x=some .free) -> ∃y∈names,y.1=x/\y.2 = .free
  | [],_,_,h=>by simp at h
  | (n,k)::r,x,hc,h=>by
    have ih:=@Zbt env r x (fun y hy=>hc y (List.mem_cons_of_mem _ hy))
    cases hx:x==n with
    | true=>
      have e:x=n:=by simpa using hx
      subst e
      by_cases hb:(k==NameKind.free&&env.scope.kind == .function&&env.kindOf x==some .cell)=true
      · have:k = .free:=by
          simp only [Bool.and_eq_true,beq_iff_eq] at hb
          exact hb.1.1
        exact ⟨(x,k),List.mem_cons_self,rfl,this⟩
      · simp only [List.map_cons,if_neg hb,List.lookup_cons,hx] at h
        rcases h with h | h
        · exact absurd (Option.some.inj h) (hc (x,k) List.mem_cons_self)
        · exact ⟨(x,k),List.mem_cons_self,rfl,Option.some.inj h⟩
    | false=>
      have h':((r.map fun (n,k)=>if (k==NameKind.free&&env.scope.kind == .function&&env.kindOf n==some .cell) then (n,NameKind.cell) else (n,k)).lookup x=some .cell ∨
        (r.map fun (n,k)=>if (k==NameKind.free&&env.scope.kind == .function&&env.kindOf n==some .cell) then (n,NameKind.cell) else (n,k)).lookup x=some .free):=by
        by_cases hb:(k==NameKind.free&&env.scope.kind == .function&&env.kindOf n==some .cell)=true
        · simpa only [List.map_cons,if_pos hb,List.lookup_cons,hx] using h
        · simpa only [List.map_cons,if_neg hb,List.lookup_cons,hx] using h
      obtain ⟨y,hy,z⟩:=ih h'
      exact ⟨y,List.mem_cons_of_mem _ hy,z⟩
theorem Za1 {env:Env}{x:Str}:∀{names:List (Str×NameKind)},names.lookup x=some .free ->
    ((names.map fun (n,k)=>if (k==NameKind.free&&env.scope.kind == .function&&env.kindOf n==some .cell) then (n,NameKind.cell) else (n,k)).lookup x=some .cell ∨
     (names.map fun (n,k)=>if (k==NameKind.free&&env.scope.kind == .function&&env.kindOf n==some .cell) then (n,NameKind.cell) else (n,k)).lookup x=some .free)
  | [],h=>by simp at h
  | (n,k)::r,h=>by
    cases hx:x==n with
    | true=>
      have e:x=n:=by simpa using hx
      subst e
      rw [List.lookup_cons,hx] at h
      have hk:k = .free:=Option.some.inj h
      subst hk
      by_cases hb:(NameKind.free==NameKind.free&&env.scope.kind == .function&&env.kindOf x==some .cell)=true
      · left;simp only [List.map_cons,if_pos hb,List.lookup_cons,hx]
      · right;simp only [List.map_cons,if_neg hb,List.lookup_cons,hx]
    | false=>
      rw [List.lookup_cons,hx] at h
      have ih:=@Za1 env x r h
      by_cases hb:(k==NameKind.free&&env.scope.kind == .function&&env.kindOf n==some .cell)=true
      · simpa only [List.map_cons,if_pos hb,List.lookup_cons,hx] using ih
      · simpa only [List.map_cons,if_neg hb,List.lookup_cons,hx] using ih
theorem aLt {h:Heap}{b:Addr}{o:Obj} (e:h.get? b=some o):@LT.lt Nat _ b h.objs.size:=Heap.lt_size e
def LcW (J:It) (σ:St) (g:TG) (tc:TT) (te:TE) (H:Hp) (Q:VK):Prop:=
 ∃W:Nat->Nat->List V->Hp->Prop,(∃m,W 0 m [] H) /\ ∀i m ys H,W i m ys H ->
  (J.stop i H/\ys.length<=sizeLine /\ ∀D,H D=none->Q (.ref D) (upd H D (.lst ys))) ∨
  (J.go i H/\ys.length<=sizeLine /\ ∃N:List V->Hp->Prop,(∀ys' H',N ys' H' -> ∃m',m'<m/\W (i+1) m' ys' H') /\ ∀x H',J.yld i H x H'->g x σ H' fun σ2 H2=>
   tc σ2 H2 fun b H3=>if b=true then te σ2 H3 fun y H4=>N (ys ++ [y]) H4 else N ys H3)
def tLc (n:Nat) (fi:List Nat) (wi:TI) (g:TG) (tc:TT) (te:TE):TE:=fun σ H Q=>wi σ H fun J H1=>LcW J (Zcf n fi σ) g tc te H1 Q
section
variable {X:Cx}{pins:List (Addr×Obj)} {σ:St}{tg elt iter:Expr}{ifs:List Expr}{scope:Scope}{pos:Pos}{Ls Fs:List Str}{fi:List Nat}{g:TG}{tc:TT}{te:TE}
structure ZlQ (X:Cx) (tg:Expr) (J:It) (fp:List Addr) (it:Addr) (tn:Nat->Heap->Prop):Prop where
 obj:∀i h,tn i h -> ∀b∈fp,∃o,h.get? b=some o /\ ∀v,o.data ≠ .cell v
 keep:∀i h h',tn i h->(∀b∈fp,∀o,h.get? b=some o->h'.get? b=some o)->tn i h'
 item:∀(i:Nat) (pins:List (Addr×Obj)) (s:Shared) (σ:St) (H:Hp) (E:Value->Shared->Prop),Inv X pins σ H s->(∀b∈fp,Zce X pins H b)->tn i s.heap->J.go i H ->
  wpAny (model X.prog X.w) X.A (pyNext (.ref it)) (fun r s1=>∃u,r=some u /\
   wpAny (model X.prog X.w) X.A (letOwnedTupleGo tg (.ref it) u) (fun _ s2=>∃x H',Inv X pins σ H' s2/\RelV x u/\J.yld i H x H'/\tn (i+1) s2.heap /\ ∀b∈fp,H' b=none) E s1) E s
 done:∀(i:Nat) (pins:List (Addr×Obj)) (s:Shared) (σ:St) (H:Hp) (E:Value->Shared->Prop),Inv X pins σ H s->(∀b∈fp,Zce X pins H b)->tn i s.heap->J.stop i H ->
  wpAny (model X.prog X.w) X.A (pyNext (.ref it)) (fun r s1=>r=none/\Inv X pins σ H s1) E s
 self:∀(A:Around) (i:Nat) (s:Shared) (Q:Value->Shared->Prop) (E:Value->Shared->Prop),tn i s.heap->Q (.ref it) s->wpAny (model X.prog X.w) A (pyIter (.ref it)) Q E s
theorem Turn.at {X:Cx}{tg:Expr}{J:It}{fp:List Addr}{it:Addr}{tn:Nat->Heap->Prop} (T:Turn X.prog X.w X.K tg J fp it tn) (hc:X.calm=true):ZlQ X tg J fp it tn:=⟨T.obj,T.keep,T.item X rfl rfl rfl hc,T.done X rfl rfl rfl hc,T.self⟩
theorem Ze3 {H2:Hp}{s2:Shared}{it:Addr}{fp:List Addr}{tn:Nat->Heap->Prop}{J:It}{cl:List (Str×Addr)}{Q:VK}{E:Value->Shared->Prop}{RR:Value->Addr->Result->Shared->Prop}
  (S:Yi X.N X.env.scope scope Ls Fs fi)
  (hb:∀C s3 H3 ex,PG (blk X scope (Ls++Fs) cl C s3 H3 ex) tg g/\PTs (blk X scope (Ls++Fs) cl C s3 H3 ex) ifs tc/\PE (blk X scope (Ls++Fs) cl C s3 H3 ex) elt te)
  (hcl1:∀x c,cl.lookup x=some c->X.env.cells.lookup x=some c) (hcl2:∀y∈scope.names,y.2 = .free -> ∃c,cl.lookup y.1=some c)
  (I2:Inv X pins σ H2 s2) (TX:∀C s3 H3 ex,ZlQ (blk X scope (Ls++Fs) cl C s3 H3 ex) tg J fp it tn) (st2:tn 0 s2.heap) (f2:∀b∈fp,Zce X pins H2 b)
  (hW:∃W:Nat->Nat->List V->Hp->Prop,(∃m,W 0 m [] H2) /\ ∀i m ys H,W i m ys H ->
   (J.stop i H/\ys.length<=sizeLine /\ ∀D,H D=none->Q (.ref D) (upd H D (.lst ys))) ∨
   (J.go i H/\ys.length<=sizeLine /\ ∃N:List V->Hp->Prop,(∀ys' H',N ys' H' -> ∃m',m'<m/\W (i+1) m' ys' H') /\ ∀x H',J.yld i H x H'->g x (Zcf Ls.length fi σ) H' fun σ2 H2=>
    tc σ2 H2 fun b H3=>if b=true then te σ2 H3 fun y H4=>N (ys ++ [y]) H4 else N ys H3))
  (fin:∀D C H' s' m,Inv X pins σ H' s'->Q (.ref D) H'->s'.heap.Ns C m->Zce X pins H' C->RR (.ref D) C (.ok .next) s'):
  wpAny (model X.prog X.w) X.A (newList []) (fun acc s₃=>wpAny (model X.prog X.w) X.A (newFunctionEnv scope X.env.globals cl [] X.env.qual none .none (some X.env)) (fun cenv s₄=>
   codeAny (model X.prog X.w) X.A (.compStart (.ListComp elt [⟨tg,iter,ifs,0⟩] scope pos) 0 (.ref it) acc { cenv with scope:=relabel scope X.env }) (RR acc cenv.locals) s₄) E s₃) E s2:=by
 refine wpAny_newObj_type (wpAny_newFunctionEnv S.cells (by intro y hy;simp at hy) (fun h₁ hns₁ hsb₁=>?_) S.kind)
 dsimp only at hns₁ hsb₁ ⊢
 generalize hH3:s2.heap.push { cls:=.type "list", dict:=none,data:=.seq ([]:List Value).toArray } = h3 at hns₁ hsb₁ ⊢
 generalize hC:h3.objs.size=C at hns₁ hsb₁ ⊢
 generalize hD:s2.heap.objs.size=D
 have hCD:C=D+1:=by rw [<- hC,<- hH3,Heap.size_push,hD]
 have k23:∀b o,s2.heap.get? b=some o->h3.get? b=some o:=fun b o e=>by rw [<- hH3];exact Heap.get?_push_of_some _ e
 have k34:∀b o,h3.get? b=some o->h₁.get? b=some o:=fun b o e=>hsb₁.extBut b o (Nat.ne_of_lt (by have:=aLt e;lia)) (Heap.get?_push_of_some _ e)
 have hDo:h3.get? D=some { cls:=.type "list", data:=.seq ([]:List Value).toArray }:=by rw [<- hH3,<- hD];exact Heap.get?_push_size _ rfl
 obtain ⟨W,⟨m0,w0⟩,turn⟩:=hW
 have T:=TX C { s2 with heap:=h3 } H2 (D::fp)
 have I3:Inv X pins σ H2 { s2 with heap:=h3 }:=I2.kept (t':=s2.toks) k23
 have frD:H2 D=none:=by rw [<- hD];exact I2.fresh
 have frC:H2 C=none:=I2.hok.fresh (by lia)
 have DL:D≠X.env.locals:=Nat.ne_of_gt (by have:@LT.lt Nat _ X.env.locals s2.heap.objs.size:=I2.lt;lia)
 have CL:C≠X.env.locals:=Nat.ne_of_gt (by have:@LT.lt Nat _ X.env.locals s2.heap.objs.size:=I2.lt;lia)
 have cellLt:∀x c,X.env.cells.lookup x=some c -> @LT.lt Nat _ c D:=fun x c e=>by
  obtain ⟨v,q⟩:=I2.cell x c e
  have:@LT.lt Nat _ c s2.heap.objs.size:=q.lt
  lia
 have fpLt:∀b∈fp,@LT.lt Nat _ b D:=fun b hb=>by
  obtain ⟨o,e,_⟩:=T.obj _ _ st2 b hb
  have:=aLt e
  lia
 have exLoc:∀b∈D::fp,b≠C/\(∀x c,X.env.cells.lookup x=some c->c≠b):=fun b hb=>by
  rcases List.mem_cons.mp hb with e | hb
  ·subst e
   exact ⟨Nat.ne_of_lt (by lia),fun x c e=>Nat.ne_of_lt (cellLt x c e)⟩
  ·exact ⟨Nat.ne_of_lt (by have:=fpLt b hb;lia),(f2 b hb).2.2.2.2.1⟩
 have ok':(blk X scope (Ls++Fs) cl C { s2 with heap:=h3 } H2 (D::fp)).Ok:=by
  refine ⟨I2.ok.mod,S.kind,I2.ok.glob,I2.ok.blt,?_,fun x y c e1 e2=>I2.ok.inj x y c (hcl1 x c e1) (hcl1 y c e2),fun x hx=>?_,fun x c hx=>absurd hx Bool.false_ne_true,I2.ok.hd,I2.ok.frames,.inl rfl,
   fun b hb=>⟨(exLoc b hb).1,fun x c e=>(exLoc b hb).2 x c (hcl1 x c e)⟩,I3.bs,Nat.le_trans I2.ok.bsz I3.sz,fun b o e hb=>?_,fun b hb=>?_,I3.stack,I3.stkFree⟩
  ·show h3.objs.size<=C
   lia
  ·obtain ⟨y,hy,e1,e2⟩:=Zbt S.cells hx
   obtain ⟨c,q⟩:=hcl2 y hy e2
   exact ⟨c,e1 ▸ q⟩
  ·rcases List.mem_cons.mp hb with z | hb
   ·exact absurd z (Nat.ne_of_lt (by have:=aLt (I2.bk b o e);lia))
   ·rcases (f2 b hb).2.2.2.1 with z | z
    ·exact I2.ok.noex b o e z
    ·have h1:@LT.lt Nat _ b X.base.objs.size:=aLt e
     have h2:@LE.le Nat _ X.base.objs.size X.s₀.heap.objs.size:=I2.ok.bsz
     have h3:@LE.le Nat _ X.s₀.heap.objs.size b:=z
     lia
  ·intro hz
   have hz':=I2.stkSub b hz
   rcases List.mem_cons.mp hb with e | hb
   ·subst e
    rcases List.mem_cons.mp hz' with z | z
    ·exact DL z
    ·exact I2.nofs (by lia) z
   ·rcases List.mem_cons.mp hz' with z | z
    ·exact (f2 b hb).2.1 z
    ·exact (f2 b hb).2.2.1 z
 obtain ⟨m2,hn2,hl2⟩:=id I2.loc
 have cap:∀(i:Nat) (x:Str) (v:V),(Ls++Fs)[i]? = some x->(Zcf Ls.length fi σ)[i]? = some (some v) -> ∃u c,RelV v u/\((relabel scope X.env).names.lookup x=some .cell∨(relabel scope X.env).names.lookup x=some .free) /\
   cl.lookup x=some c/\X.env.cells.lookup x=some c/\s2.heap.IsCell c (some u):=by
  intro i x v e1 e2
  unfold Zcf at e2
  by_cases hi:i<Ls.length
  ·rw [List.getElem?_append_left (by simpa using hi),List.getElem?_replicate,if_pos hi] at e2
   cases e2
  ·have hi':Ls.length<=i:=Nat.le_of_not_lt hi
   rw [List.getElem?_append_right hi'] at e1
   rw [List.getElem?_append_right (by simpa using hi'),List.length_replicate,List.getElem?_map] at e2
   cases e3:fi[i-Ls.length]? with
   | none=>rw [e3] at e2;cases e2
   | some j=>
    rw [e3] at e2
    have e4:σ.getD j none=some v:=Option.some.inj e2
    have e5:X.N[j]? = some x:=by
     have q:=congrArg (fun l=>l[i-Ls.length]?) S.ix
     simp only [List.getElem?_map,e3,e1,Option.map_some] at q
     exact Option.some.inj q
    have e6:σ[j]? = some (some v):=by
     rw [List.getD_eq_getElem?_getD] at e4
     cases e7:σ[j]? with
     | none=>rw [e7] at e4;cases e4
     | some z=>rw [e7] at e4;exact congrArg some e4
    have fx:=S.fre x (List.mem_of_getElem? e1)
    have al:=S.all (x,.free) (PySem.mem_of_lookup fx) rfl
    have vis:Vis X.env.scope x:=by
     rcases al with z | z
     ·exact .inr (.inl z)
     ·exact .inr (.inr z)
    obtain ⟨u,ru,lk⟩:=hl2 j x v e5 e6 vis
    rcases lk with ⟨k,_⟩ | ⟨k,c,ec,hcell⟩
    ·have k':X.env.scope.names.lookup x=some .local:=k
     rcases al with z | z
     ·rw [show X.env.scope.names.lookup x=some .cell from z] at k';cases k'
     ·rw [show X.env.scope.names.lookup x=some .free from z] at k';cases k'
    ·obtain ⟨c',ec'⟩:=hcl2 (x,.free) (PySem.mem_of_lookup fx) rfl
     have:c'=c:=Option.some.inj ((hcl1 x c' ec').symm.trans ec)
     subst this
     exact ⟨u,c',ru,Za1 fx,ec',ec,hcell⟩
 have capLen:(Zcf Ls.length fi σ).length=(Ls++Fs).length:=by
  unfold Zcf
  have q:=congrArg List.length S.ix
  simp only [List.length_map] at q
  rw [List.length_append,List.length_replicate,List.length_map,List.length_append,q]
 have re:∀{ps:List (Addr×Obj)} {σ':St}{H':Hp}{s':Shared},Inv (blk X scope (Ls++Fs) cl C { s2 with heap:=h3 } H2 (D::fp)) ps σ' H' s'->Inv (blk X scope (Ls++Fs) cl C { s2 with heap:=h3 } H2 (D::fp)) ps (Zcf Ls.length fi σ) H' s':=by
  intro ps σ' H' s' J'
  refine ⟨J'.ok,J'.os,J'.bare,J'.base,?_,J'.cell,J'.free,J'.freeC,J'.pin,J'.hok,capLen⟩
  obtain ⟨m,hn,_⟩:=J'.loc
  refine ⟨m,hn,fun i x v e1 e2 _=>?_⟩
  obtain ⟨u,c,ru,kk,ec,ec2,o,ho,hd⟩:=cap i x v e1 e2
  obtain ⟨sl,q⟩:=J'.base.any (k23 c o ho) (I2.freeC x c ec2) fun z=>(exLoc c z).2 x c ec2 rfl
  exact ⟨u,ru,.inr ⟨kk,c,ec,_,q,hd⟩⟩
 have I4:Inv (blk X scope (Ls++Fs) cl C { s2 with heap:=h3 } H2 (D::fp)) [(D,{ cls:=.type "list", data:=.seq ([]:List Value).toArray })] (Zcf Ls.length fi σ) H2 { s2 with heap:=h₁,toks:=s2.toks+([]:List (Str×Value)).length }:=by
  refine ⟨ok',rfl,I2.bare,Un.kept k34,⟨_,hns₁,fun i x v e1 e2 _=>?_⟩,fun x c e=>?_,frC,fun x c e=>I2.freeC x c (hcl1 x c e),fun p hp=>?_,I2.hok.kept fun b o e=>k34 b o (k23 b o e),capLen⟩
  ·obtain ⟨u,c,ru,kk,ec,ec2,o,ho,hd⟩:=cap i x v e1 e2
   exact ⟨u,ru,.inr ⟨kk,c,ec,o,k34 c o (k23 c o ho),hd⟩⟩
  ·obtain ⟨v,o,ho,hd⟩:=I2.cell x c (hcl1 x c e)
   exact ⟨v,o,k34 c o (k23 c o ho),hd⟩
  ·have hp':p=(D,{ cls:=.type "list", data:=.seq ([]:List Value).toArray }):=by
    have:p∈([]:List (Addr×Obj)) ++ [(D,{ cls:=.type "list", data:=.seq ([]:List Value).toArray })]:=hp
    simpa using this
   subst hp'
   refine ⟨k34 D _ hDo,frD,Nat.ne_of_lt (show @LT.lt Nat _ D C by lia),fun z=>?_,fun v z=>by cases z⟩
   rcases List.mem_cons.mp (I2.stkSub D z) with z | z
   ·exact DL z
   ·exact I2.nofs (by lia) z
 obtain ⟨hg,ht,he⟩:=hb C { s2 with heap:=h3 } H2 (D::fp)
 have back:∀{ps:List (Addr×Obj)} {σ':St}{H':Hp}{s':Shared}{ys:List V}{its:List Value}{n:Nat},Inv (blk X scope (Ls++Fs) cl C { s2 with heap:=h3 } H2 (D::fp)) ps σ' H' s'->s'.heap.get? D=some { cls:=.type "list", data:=.seq its.toArray n } ->
   H' D=none->Vals ys its->ys.length<=sizeLine->Inv X pins σ (upd H' D (.lst ys)) s'/\Zce X pins (upd H' D (.lst ys)) C:=by
  intro ps σ' H' s' ys its n J' hDs hDn rv hz
  have neD:∀b o,s2.heap.get? b=some o->b≠D:=fun b o e=>Nat.ne_of_lt (by have:=aLt e;lia)
  have nex:∀b,b∉fp->b≠D->b∉D::fp:=fun b h1 h2 z=>(List.mem_cons.mp z).elim h2 h1
  have U:Un (frs X.stack) fp H2 (upd H' D (.lst ys)) s2.heap s'.heap:=by
   refine ⟨fun b o e n hb hx=>J'.base.keep b o (k23 b o e) n hb (nex b hx (neD b o e)),fun b o e n hb hx=>J'.base.slot b o (k23 b o e) n hb (nex b hx (neD b o e)),fun b o e n hx=>?_,fun b o e hx=>J'.base.there b o (k23 b o e) (nex b hx (neD b o e)),fun b xs e=>?_,fun b o u e=>?_,fun b ps e=>?_⟩
   ·rw [Zh (neD b o e)]
    exact J'.base.free b o (k23 b o e) n (nex b hx (neD b o e))
   ·rw [Zh (Zf e frD)]
    exact J'.base.tups b xs e
   ·rw [Zh (Zf e frD)]
    exact J'.base.frzs b o u e
   ·obtain ⟨more,q⟩:=J'.base.tbls b ps e
    exact ⟨more,by rw [Zh (Zf e frD)];exact q⟩
  have hok':W0 X.prog X.w (upd H' D (.lst ys)) s'.heap:=fun b u q=>by
   by_cases hbD:b=D
   ·subst hbD
    rw [Zc] at q
    cases q
    exact ⟨hz,its,n,rv,hDs⟩
   ·rw [Zh hbD] at q
    exact (J'.hok b u q).stay (fun c v _ r=>r) (fun c r=>by rw [Zh (Zf r hDn)];exact r) fun c xs r=>by rw [Zh (Zf r hDn)];exact r
  refine ⟨I2.call' J'.os U hok' J'.bare fun b hb=>⟨(f2 b hb).2.2.2.1,(f2 b hb).2.1,(f2 b hb).2.2.2.2.1,(f2 b hb).2.2.2.2.2⟩,?_⟩
  refine ⟨by rw [Zh (Nat.ne_of_gt (by lia))];exact J'.free,CL,I2.nofs (by lia),.inr (by have:=I2.sz;lia),fun x c e=>Nat.ne_of_lt (by have:=cellLt x c e;lia),fun p hp=>?_⟩
  have:=aLt (I2.pin p hp).1
  exact Nat.ne_of_lt (by lia)
 have loop:codeAny (model X.prog X.w) X.A (.compLoop (.ListComp elt [⟨tg,iter,ifs,0⟩] scope pos) 0 (.ref it) (.ref D) (compEnvC scope cl C X.env)) (RR (.ref D) C) { s2 with heap:=h₁,toks:=s2.toks+([]:List (Str×Value)).length }:=by
  refine Zh0 (fun n s'=>∃(i:Nat) (ys:List V) (H':Hp) (its:List Value) (k:Nat),Inv (blk X scope (Ls++Fs) cl C { s2 with heap:=h3 } H2 (D::fp)) [(D,{ cls:=.type "list", data:=.seq its.toArray k })] (Zcf Ls.length fi σ) H' s' /\
   Vals ys its/\tn i s'.heap/\(∀b∈fp,H' b=none)/\W i n ys H') ?_ m0 ⟨0,[],H2,[],0,I4,.nil,T.keep _ _ _ st2 fun b _ o e=>k34 b o (k23 b o e),fun b hb=>(f2 b hb).1,w0⟩
  rintro n s5 ⟨i,ys,H5,its,k,I5,rv,st5,fr5,w5⟩
  have stat:∀{H':Hp}{its':List Value}{k':Nat},(∀b∈fp,H' b=none) -> ∀b∈fp,Zce (blk X scope (Ls++Fs) cl C { s2 with heap:=h3 } H2 (D::fp)) [(D,{ cls:=.type "list", data:=.seq its'.toArray k' })] H' b:=fun hn b hb=>by
   refine ⟨hn b hb,(exLoc b (List.mem_cons_of_mem _ hb)).1,fun z=>ok'.exfs b (List.mem_cons_of_mem _ hb) z,.inl (List.mem_cons_of_mem _ hb),fun x c e=>(exLoc b (List.mem_cons_of_mem _ hb)).2 x c (hcl1 x c e),fun p hp=>?_⟩
   have hp':p=_:=List.mem_singleton.mp hp
   rw [hp']
   have:=fpLt b hb
   show D≠b
   exact Nat.ne_of_gt this
  have pinD:=I5.pin (D,{ cls:=.type "list", data:=.seq its.toArray k }) (List.mem_singleton.mpr rfl)
  rcases turn i n ys H5 w5 with ⟨stop,hz,qn⟩ | ⟨go,hz,N,hN,step⟩
  ·refine wpAny_mono (T.done i _ s5 _ H5 _ I5 (stat fr5) st5 stop) (fun r s6 ⟨hr,I6⟩=>?_) fun _ _ h=>h
   subst hr
   have pin6:=I6.pin (D,{ cls:=.type "list", data:=.seq its.toArray k }) (List.mem_singleton.mpr rfl)
   obtain ⟨b1,b2⟩:=back I6 pin6.1 pin6.2.1 rv hz
   obtain ⟨m,hn,_⟩:=I6.loc
   exact fin D C _ s6 m b1 (qn D pin6.2.1) hn b2
  ·refine wpAny_mono (T.item i _ s5 _ H5 _ I5 (stat fr5) st5 go) (fun r s6 ⟨u,hr,h6⟩=>?_) fun _ _ h=>h
   subst hr
   refine wpAny_mono h6 (fun _ s7 ⟨x,H7,I7,r7,y7,st7,fr7⟩=>?_) fun _ _ h=>h
   have I7':=I7.pinned (stat fr7) (T.obj _ _ st7)
   refine wpAny_mono (hg _ s7 _ H7 x u _ I7' r7 (step x H7 y7)) (fun _ s8 ⟨σ8,H8,I8,q8⟩=>?_) fun _ _ h=>h
   refine wpAny_mono (ht _ s8 σ8 H8 _ I8 q8) (fun ok s9 ⟨H9,I9,q9⟩=>?_) fun _ _ h=>h
   have keepT:∀{σ':St}{H':Hp}{s':Shared},Inv (blk X scope (Ls++Fs) cl C { s2 with heap:=h3 } H2 (D::fp)) ([(D,{ cls:=.type "list", data:=.seq its.toArray k })]++Zdi fp s7.heap) σ' H' s'->tn (i+1) s'.heap /\ ∀b∈fp,H' b=none:=by
    intro σ' H' s' J'
    refine ⟨T.keep _ _ _ st7 fun b hb o e=>(J'.pin (b,o) (List.mem_append_right _ (List.mem_append_right _ (Uj hb e)))).1,fun b hb=>?_⟩
    obtain ⟨o,e,d⟩:=T.obj _ _ st7 b hb
    exact (J'.pin (b,o) (List.mem_append_right _ (List.mem_append_right _ (Uj hb e)))).2.1
   cases ok with
   | false=>
    rw [if_neg Bool.false_ne_true] at q9 ⊢
    obtain ⟨m',hm,w'⟩:=hN _ _ q9
    exact ⟨m',hm,i+1,ys,H9,its,k,re I9.unpinned,rv,(keepT I9).1,(keepT I9).2,w'⟩
   | true=>
    rw [if_pos rfl] at q9 ⊢
    refine wpAny_mono (he _ s9 σ8 H9 _ I9 q9) (fun v s10 ⟨y,H10,I10,r10,q10⟩=>?_) fun _ _ h=>h
    obtain ⟨m',hm,w'⟩:=hN _ _ q10
    obtain ⟨k10,f10⟩:=keepT I10
    have I11:Inv (blk X scope (Ls++Fs) cl C { s2 with heap:=h3 } H2 (D::fp)) [(D,{ cls:=.type "list", data:=.seq its.toArray k })] (Zcf Ls.length fi σ) H10 s10:=re I10.unpinned
    have pin11:=I11.pin (D,{ cls:=.type "list", data:=.seq its.toArray k }) (List.mem_singleton.mpr rfl)
    refine wpAny_list_append_plain ⟨k,pin11.1⟩ (fun h' hp' sb=>?_) (by rw [List.size_toArray,<- rv.length];exact hz)
    obtain ⟨k',hk'⟩:=hp'
    have e1:its.toArray.push v=(its ++ [v]).toArray:=by simp
    rw [e1] at hk'
    have I12:Inv (blk X scope (Ls++Fs) cl C { s2 with heap:=h3 } H2 (D::fp)) [] (Zcf Ls.length fi σ) H10 { s10 with heap:=h',toks:=s10.toks }:=
     (I11.pins_of (pins':=[]) fun p hp=>(nomatch hp)).turned (it:=D) (fun b o hb e=>(sb.2 b hb).trans e) pin11.2.1 pin11.2.2.1 (.inl List.mem_cons_self) (fun x c e=>(exLoc D List.mem_cons_self).2 x c (hcl1 x c e)) fun p hp=>(nomatch hp)
    have I13:Inv (blk X scope (Ls++Fs) cl C { s2 with heap:=h3 } H2 (D::fp)) [(D,{ cls:=.type "list", data:=.seq (its ++ [v]).toArray k' })] (Zcf Ls.length fi σ) H10 { s10 with heap:=h',toks:=s10.toks }:=I12.pins_of fun p hp=>by
     have hp':p=_:=List.mem_singleton.mp hp
     subst hp'
     exact ⟨hk',pin11.2.1,pin11.2.2.1,pin11.2.2.2.1,fun v z=>by cases z⟩
    refine ⟨m',hm,i+1,ys ++ [y],H10,its ++ [v],k',I13,rv.append (.cons r10 .nil),?_,f10,w'⟩
    exact T.keep _ _ _ k10 fun b hb o e=>(sb.2 b (Nat.ne_of_lt (fpLt b hb))).trans e
 exact codeAny_compStart_list loop (T.self _ 0 _ _ _ (T.keep _ _ _ st2 fun b _ o e=>k34 b o (k23 b o e)) loop)
theorem UL {wi:TI} (S:Yi X.N X.env.scope scope Ls Fs fi) (hc:X.calm=true) (hi:PI X tg iter wi)
  (hb:∀cl C s3 H3 ex,PG (blk X scope (Ls++Fs) cl C s3 H3 ex) tg g/\PTs (blk X scope (Ls++Fs) cl C s3 H3 ex) ifs tc/\PE (blk X scope (Ls++Fs) cl C s3 H3 ex) elt te)
  (hs:∀x,foldedSetIterable iter X.env x=pure x:=by intro _;rfl):PE X (.ListComp elt [⟨tg,iter,ifs,0⟩] scope pos) (tLc Ls.length fi wi g tc te):=by
 intro pins s σ H Q I h
 rw [eval_ListComp]
 obtain ⟨cl,hcl,hcl1,hcl2⟩:=Zg3 (scope:=scope) (env:=X.env) fun y hy hf=>I.ok.has y.1 (S.all y hy hf)
 refine wpAny_comprehension_free (use:=none) rfl hs hcl S.kind S.names (wpAny_mono (hi pins s σ H _ I h) (fun v s1 h1=>wpAny_mono h1 (fun itv s2 h2=>?_) fun _ _ e=>e) fun _ _ e=>e)
 obtain ⟨it,fp,tn,J,H2,e,I2,T,st2,f2,hW⟩:=h2
 subst e
 refine Ze3 (RR:=fun acc C=>compPost (model X.prog X.w) X.A X.xe none (EP X pins σ Q) acc C) S (hb cl) hcl1 hcl2 I2 (fun C s3 H3 ex=>Turn.at (X:=blk X scope (Ls++Fs) cl C s3 H3 ex) T hc) st2 f2 hW fun D C H' s' m I' q hn f=>?_
 obtain ⟨f0,f1,f2,f3,f4,f5⟩:=f
 exact ⟨m,hn,fun h' hs'=>⟨.ref D,H',I'.turned (it:=C) (t':=s'.toks) (fun b o hb e=>(hs'.2 b hb).trans e) f0 f1 f3 f4 f5,rfl,q⟩⟩
theorem ZdE {wi:TI}{i:Nat}{x:Str}{pos' spos:Pos} (hN:X.N.Nodup) (hi':X.N[i]? = some x) (hx:Loc X.env.scope x) (S:Yi X.N X.env.scope scope Ls Fs fi) (hc:X.calm=true) (hi:PI X tg iter wi)
  (hb:∀cl C s3 H3 ex,PG (blk X scope (Ls++Fs) cl C s3 H3 ex) tg g/\PTs (blk X scope (Ls++Fs) cl C s3 H3 ex) ifs tc/\PE (blk X scope (Ls++Fs) cl C s3 H3 ex) elt te)
  (hsw:swapsWith (.ListComp elt [⟨tg,iter,ifs,0⟩] scope pos) (some (.Name x pos')) spos.line X.env=pure true:=by rfl)
  (hs:∀x,foldedSetIterable iter X.env x=pure x:=by intro _;rfl) (hf:X.fn x=true∨X.env.scope.names.lookup x=some .local:=by first | exact .inl rfl | exact .inr rfl | assumption):
  PS X (.Assign [.Name x pos'] (.ListComp elt [⟨tg,iter,ifs,0⟩] scope pos) spos) (UT (tLc Ls.length fi wi g tc te) (Ju i)):=by
 intro pins s σ H D' I h
 rw [exec_Assign_Name_used _ _ _ _ hsw]
 obtain ⟨cl,hcl,hcl1,hcl2⟩:=Zg3 (scope:=scope) (env:=X.env) fun y hy hf=>I.ok.has y.1 (S.all y hy hf)
 refine wpAny_bind (wpAny_standAt (wpAny_bind ?_))
 show wpAny _ X.A (do let _ <- comprehension (.ListComp elt [⟨tg,iter,ifs,0⟩] scope pos) scope X.env _ (newList []) false (eval iter X.env) (some (assign (.Name x pos') X.env))) _ _ s
 refine wpAny_bind (wpAny_mono (wpAny_comprehension_free (use:=some (assign (.Name x pos') X.env)) (Q:=fun _ s'=>SP X pins D' .next s') rfl hs hcl S.kind S.names
  (wpAny_mono (hi pins s σ H _ I h) (fun v s1 h1=>wpAny_mono h1 (fun itv s2 h2=>?_) fun _ _ e=>e) fun _ _ e=>e)) (fun _ s' hq=>wpAny_pure (wpAny_pure hq)) fun _ _ e=>e)
 obtain ⟨it,fp,tn,J,H2,e,I2,T,st2,f2,hW⟩:=h2
 subst e
 refine Ze3 (RR:=fun acc C=>compPost (model X.prog X.w) X.A X.xe (some (assign (.Name x pos') X.env)) (fun _ s'=>SP X pins D' .next s') acc C) (Q:=fun x H1=>Ju i x σ H1 D'.nx) S (hb cl) hcl1 hcl2 I2 (fun C s3 H3 ex=>Turn.at (X:=blk X scope (Ls++Fs) cl C s3 H3 ex) T hc) st2 f2 hW fun D C H' s' m I' q hn f=>?_
 obtain ⟨f0,f1,f2,f3,f4,f5⟩:=f
 show wpAny _ X.A (assign (.Name x pos') X.env (.ref D)) _ _ _
 refine wpAny_assign_Name (ZdS I' hN hi' hx (v:=.ref D) rfl (fun s'' I'' hch=>?_) hf)
 obtain ⟨a,sb,ha⟩:=hch
 have hCa:C≠a:=by
  rcases ha with z | z
  ·rw [z];exact f1
  ·exact (f4 x a z).symm
 exact ⟨m,hn.sameBut sb hCa,fun h' hs'=>⟨_,H',I''.turned (it:=C) (t':=s''.toks) (fun b o hb e=>(hs'.2 b hb).trans e) f0 f1 f3 f4 f5,q⟩⟩
end
end L2
namespace L2
open PySem PySem.Spec PyProof.Rows PyProof.V
def Ite (K:PySem.W.Frag) (a:Addr):It:=
 ⟨fun i H=>∃xs x,Zw K H a xs/\xs[i]? = some x,fun i H v H'=>∃p x,v = .ref p/\H p=none/\H'=upd H p (.tup [.int i,x]) /\ ∀xs,Zw K H a xs->xs[i]? = some x,fun i H=>∃xs,Zw K H a xs/\xs.length<=i⟩
theorem Zib {P:Program}{w:World}{K:PySem.W.Frag}{es:List Expr}{k:Nat}{pos:Pos} (a e it:Addr) (hei:e≠it):
  Turn P w K (.Tuple es k pos) (Ite K a) [e,it] e (fun i h=>(∃old,IsEnum h e it i old)/\h.IsListIter it a i) where
 mem:=by simp
 obj:=fun i h st b hb=>by
  obtain ⟨⟨old,he⟩,o,ho,c,d⟩:=st
  rcases List.mem_cons.mp hb with z | z
  ·subst z
   exact ⟨_,he,fun v z=>by
    have z':Data.fields _=Data.cell v:=z
    cases z'⟩
  ·have z':b=it:=by simpa using z
   subst z'
   exact ⟨o,ho,fun v z=>by rw [d] at z;cases z⟩
 keep:=fun i h h' st k=>by
  obtain ⟨⟨old,he⟩,hi⟩:=st
  exact ⟨⟨old,k e (by simp) _ he⟩,hi.at fun o x=>k it (by simp) o x⟩
 item:=by
  intro X hP hw hK hc i pins s σ H E I hf st hg
  subst hP hw hK
  obtain ⟨xs,x,hq,hx⟩:=hg
  obtain ⟨its,rv,p,hz⟩:=I.list hq
  obtain ⟨u,hu,ru⟩:=rv.get hx
  obtain ⟨⟨old,he⟩,hi⟩:=st
  obtain ⟨e0,e1,e2,e3,e4,e5⟩:=hf e (by simp)
  obtain ⟨f0,f1,f2,f3,f4,f5⟩:=hf it (by simp)
  refine wpAny_pyNext_enum_item he hi p.isList (x:=u) (by simpa using hu) hei fun h' ho hit ht hsz kk=>⟨_,rfl,?_⟩
  refine wpAny_letOwnedTupleGo_enum (s:={ s with heap:=h',toks:=s.toks+1 }) ho fun h'' he'' hs''=>?_
  have Tn:@LT.lt Nat _ e s.heap.objs.size:=aLt he
  have kk2:∀b o,b≠e->b≠it->s.heap.get? b=some o->h''.get? b=some o:=fun b o h1 h2 q=>(hs''.2 b h1).trans (kk b o h1 h2 q)
  have nne:∀b u,H b=some u->b≠e/\b≠it:=fun b u q=>⟨fun z=>by (rw [z,e0] at q;cases q),fun z=>by (rw [z,f0] at q;cases q)⟩
  have fr:H s.heap.objs.size=none:=I.hok.fresh (Nat.le_refl _)
  have hT:h''.get? s.heap.objs.size=some { cls:=.type "tuple", data:=.seq #[.int i s.toks,u] }:=(hs''.2 _ (Nat.ne_of_gt Tn)).trans ht
  have nT:∀b o,s.heap.get? b=some o->b≠s.heap.objs.size:=fun b o q=>Nat.ne_of_lt (aLt q)
  have ok':W0 X.prog X.w (upd H s.heap.objs.size (.tup [.int i,x])) h'':=fun b o q=>by
   by_cases hb:b=s.heap.objs.size
   ·subst hb
    rw [Zc] at q
    cases q
    exact ⟨show 2<=sizeLine by decide,[.int i s.toks,u],.cons ⟨_,rfl⟩ (.cons ru .nil),⟨_,hT,rfl,_,rfl⟩⟩
   ·rw [Zh hb] at q
    refine (I.hok b o q).stay (fun c v hc r=>?_) (fun c r=>by rw [Zh (Zf r fr)];exact r) fun c xs r=>by rw [Zh (Zf r fr)];exact r
    rcases hc with z | z
    ·subst z
     exact kk2 c v (nne c o q).1 (nne c o q).2 r
    ·exact kk2 c v (nne c _ z).1 (nne c _ z).2 r
  have I1:Inv X pins σ (upd H s.heap.objs.size (.tup [.int i,x])) { s with heap:=h'',gens:=s.gens,drawn:=s.drawn,toks:=s.toks+1 }:=by
   refine I.step (ch:=[e,it]) (fun b hb=>?_) (fun b o _ _ hc q _=>kk2 b o (fun z=>hc (by simp [z])) (fun z=>hc (by simp [z])) q) (fun b o _ _ hc q _=>⟨o.slots,kk2 b o (fun z=>hc (by simp [z])) (fun z=>hc (by simp [z])) q⟩)
    (fun b o _ q n=>by rw [Zh (nT b o q)];exact n) (fun b o hc q=>⟨o,kk2 b o (fun z=>hc (by simp [z])) (fun z=>hc (by simp [z])) q⟩) (fun b xs q=>by rw [Zh (Zf q fr)];exact q) (fun b o u q=>by rw [Zh (Zf q fr)];exact q)
    (fun b ps q=>⟨#[],by rw [Zh (Zf q fr),q];simp⟩) (fun m hm=>?_) ok' I.bare
   ·rcases List.mem_cons.mp hb with z | z
    ·subst z;exact ⟨e3,e1,e4,e5⟩
    ·have z':b=it:=by simpa using z
     subst z';exact ⟨f3,f1,f4,f5⟩
   ·obtain ⟨o,es,ep,ho,r⟩:=hm
    exact ⟨o,es,ep,kk2 _ o (Ne.symm e1) (Ne.symm f1) ho,r⟩
  refine ⟨.ref s.heap.objs.size,_,I1,rfl,⟨s.heap.objs.size,x,rfl,fr,rfl,fun ys hy=>by rw [I.list_inj hy hq];exact hx⟩,⟨⟨_,by simpa using he''⟩,hit.at fun o q=>(hs''.2 it (Ne.symm hei)).trans q⟩,fun b hb=>?_⟩
  have hbo:∃o,s.heap.get? b=some o:=by
   rcases List.mem_cons.mp hb with z | z
   ·subst z;exact ⟨_,he⟩
   ·have z':b=it:=by simpa using z
    subst z'
    obtain ⟨o,ho,_⟩:=hi
    exact ⟨o,ho⟩
  obtain ⟨o,hbo⟩:=hbo
  rw [Zh (nT b o hbo)]
  exact (hf b hb).1
 done:=by
  intro X hP hw hK hc i pins s σ H E I hf st hg
  subst hP hw hK
  obtain ⟨xs,hq,hx⟩:=hg
  obtain ⟨its,rv,p,hz⟩:=I.list hq
  obtain ⟨⟨old,he⟩,hi⟩:=st
  obtain ⟨f0,f1,f2,f3,f4,f5⟩:=hf it (by simp)
  have hl:=rv.length
  exact wpAny_pyNext_enum_end (I.ok.hd hc) he hi p.isList (by simp;lia) fun h' eb=>⟨rfl,I.turned (t':=s.toks) (fun b o hb e=>eb b o hb e) f0 f1 f3 f4 f5⟩
 self:=fun _ _ _ _ _ st h=>by
  obtain ⟨⟨old,he⟩,_⟩:=st
  exact wpAny_pyIter_enum he h
section
variable {X:Cx}
def ZlJ (K:PySem.W.Frag) (ta:TA):TI:=fun σ H R=>ta σ H fun vs H1=>∃a,vs = [.ref a]/\(∃xs,Zw K H1 a xs)/\R (Ite K a) H1
theorem Zlv {a:Expr}{ta:TA}{p pos tpos:Pos}{es:List Expr}{k:Nat} (hg:Gl X "enumerate") (hm:X.mg "enumerate" = none) (ha:PA X [a] ta) (hs:starEach [a] X.env = [(false,eval a X.env)]:=by rfl):
  PI X (.Tuple es k tpos) (.Call (.Name "enumerate" p) [a] [] pos) (ZlJ X.K ta):=by
 intro pins s σ H R I h
 refine Call_ (GN I hg hm boot_enumerate (PyProof.Rows.callWith_type1 (Yq (ha pos pins s σ H _ I h) fun us s1 ⟨vs,H1,I1,r1,q1⟩=>?_) hs rfl))
 obtain ⟨l,e,⟨xs,hq⟩,q⟩:=q1
 subst e
 cases r1 with
 | cons r rr=>
  cases rr
  cases r
  obtain ⟨its,rv,pl,hz⟩:=I1.list hq
  refine call_enumerate_list pl.isList fun h' he hi hsz kk=>?_
  have I2:Inv X pins σ H1 { s1 with heap:=h' }:=I1.kept (t':=s1.toks) kk
  refine wpAny_pyIter_enum (s:={ s1 with heap:=h' }) he ?_
  refine ⟨_,[s1.heap.objs.size+1,s1.heap.objs.size],_,_,H1,rfl,I2,Zib l _ _ (Nat.succ_ne_self _),⟨⟨_,he⟩,hi⟩,fun b hb=>?_,q⟩
  have hb':s1.heap.objs.size<=b:=by
   rcases List.mem_cons.mp hb with z | z
   ·subst z;exact Nat.le_succ _
   ·have z':b=s1.heap.objs.size:=by simpa using z
    subst z';exact Nat.le_refl _
  exact I1.fpOk hb' (I1.hok.fresh hb')
end
section
variable {X:Cx}
theorem Ze7:Jw X (.builtin "isinstance") (fun xs H Q=>∃x T t b,xs = [x,.ty T]/\Za2 X.K H x t/\PySem.W.kitOne X.K t (.type T)=some b/\Q (.bl b) H):=by
 intro pins s σ H xs us Q I r h
 obtain ⟨x,T,t,b,rfl,ty,e,q⟩:=h
 obtain ⟨u,v,rfl,ru,rv⟩:=r.two
 cases rv
 exact ZhZ I ru ty e fun tk=>⟨.bl b,H,I.tok _,rfl,q⟩
theorem WD:∀{ns:List Int}{vs:List Value},Vals (ns.map V.int) vs->IntsAre vs ns
 | [],_,r=>by cases r;exact .nil
 | n::ns,_,r=>by
  cases r with
  | cons r rr=>
   obtain ⟨t,rfl⟩:=r
   exact .cons n t (WD rr)
theorem Zfg:Jw X (.builtin "sorted") (fun xs H Q=>∃(p:Addr) (ns:List Int),xs = [.ref p]/\Zw X.K H p (ns.map V.int)/\ns.length<64 /\ ∀(l:Addr) (ns':List Int),H l=none->ns'.Perm ns->ns'.Pairwise (· <= ·)->Q (.ref l) (upd H l (.lst (ns'.map V.int)))):=by
 intro pins s σ H xs us Q I r h
 obtain ⟨p,ns,rfl,hq,h64,q⟩:=h
 obtain ⟨u,rfl,ru⟩:=r.one
 cases ru
 obtain ⟨its,rv,pl,hz⟩:=I.list hq
 have hlen:ns.length=its.length:=by simpa using rv.length
 refine sorted_ints pl.isList (WD rv) (by lia) fun out ns' a1 a2 a3=>?_
 obtain ⟨e,he⟩:=sortedAll_at s.heap its out
 have fr:H (s.heap.objs.size+1)=none:=I.hok.fresh (Nat.le_succ _)
 have hl':ns'.length=ns.length:=a2.length_eq
 refine ⟨.ref (s.heap.objs.size+1),_,I.laid (a:=s.heap.objs.size+1) (o:=.lst (ns'.map V.int)) (t':=s.toks) (fun b o q=>sortedAll_old q) (Nat.le_succ _) ⟨?_,out.toList,e,Zab a1,?_⟩,rfl,q _ _ fr a2 a3⟩
 ·rw [List.length_map]
  have:(ns.map V.int).length<=sizeLine:=hz
  rw [List.length_map] at this
  lia
 ·simpa [seqObj] using he
def ZiM (K:PySem.W.Frag):V->List V->Hp->VK->Prop:=fun x vs H Q=>∃(l:Addr) (xs:List V) (y:V),x = .ref l/\vs = [y]/\Zw K H l xs/\Wt y=true/\xs.all Wt=true/\Q (.int (xs.countP fun z=>eqV z y)) H
theorem Zc0 {x:V}:∀{xs:List V}{us:List Value},Vals xs us->xs.all Wt=true->us.countP (eqU x)=xs.countP fun y=>eqV y x
 | _,_,.nil,_=>rfl
 | _,_,.cons r rr,h=>by
  rw [List.all_cons,Bool.and_eq_true] at h
  rw [List.countP_cons,List.countP_cons,Zc0 rr h.2,Zge r h.1]
theorem Zjq:MtM X "list.count" (ZiM X.K):=by
 intro pins s σ H x vs v us Q I rx rv h
 obtain ⟨l,xs,y,rfl,rfl,hq,fy,fx,q⟩:=h
 cases rx
 obtain ⟨u,rfl,ru⟩:=rv.one
 obtain ⟨its,r,pl,hz⟩:=I.list hq
 obtain ⟨⟨c,dd,dt,sl⟩,ho,hc,n,hd⟩:=pl.isList
 simp only at hc hd
 subst hc hd
 refine call_meets F.slot_list_count ⟨_,ho,rfl⟩ F.entry_list_count (F.args_list_count_2 _ _) (SeqAt.list_countAt l its.toArray n dd sl u (eqU y)) ⟨ho,fun w hw=>ZaU ru fy r fx w (by simpa using hw),?_⟩
 refine ⟨.int _,H,I.tok _,⟨_,rfl⟩,?_⟩
 rw [show its.toArray.toList=its by simp,Zc0 r fx]
 exact q
end
inductive Eqv (K:PySem.W.Frag) (H:Hp):Nat->V->V->Prop
 | flat {n:Nat}{x:V}:Wt x=true->Eqv K H n x x
 | same {n:Nat}{a:Addr}:Eqv K H n (.ref a) (.ref a)
 | lst {n:Nat}{a b:Addr}{xs ys:List V}:Zw K H a xs->Zw K H b ys->xs.length=ys.length->(∀(i:Nat) (x y:V),xs[i]? = some x->ys[i]? = some y->Eqv K H n x y)->Eqv K H (n+1) (.ref a) (.ref b)
 | tup {n:Nat}{a b:Addr}{xs ys:List V}:YB K H a xs->YB K H b ys->xs.length=ys.length->(∀(i:Nat) (x y:V),xs[i]? = some x->ys[i]? = some y->Eqv K H n x y)->Eqv K H (n+1) (.ref a) (.ref b)
theorem all_true (n:Nat):((List.range n).all fun _=>true)=true:=by rw [List.all_eq_true];intro _ _;rfl
theorem ZiP {x:V} (h:Wt x=true):eqV x x=true:=by
 cases x<;>simp_all [eqV,Wt]
theorem Eqv.at {X:Cx}{pins:List (Addr×Obj)} {σ:St}{H:Hp}{s:Shared} (I:Inv X pins σ H s):∀{n:Nat}{x y:V}{u v:Value}{A:Around},Eqv X.K H n x y->RelV x u->RelV y v->A.units+n<cLine->SeqAt.EqAt A s u v true:=by
 intro n x y u v A h
 induction h generalizing u v A with
 | flat f=>
  intro ru rv _
  have:=ZiL (A:=A) (s:=s) ru rv f f
  rw [ZiP f] at this
  exact this
 | same=>
  intro ru rv _
  cases ru
  cases rv
  exact SeqAt.EqAt.same _
 | @lst n a b xs ys ha hb hl _ ih=>
  intro ru rv hu
  cases ru
  cases rv
  by_cases e:a=b
  ·subst e;exact SeqAt.EqAt.same _
  ·obtain ⟨its,r1,p1,_⟩:=I.list ha
   obtain ⟨its2,r2,p2,_⟩:=I.list hb
   have l1:=r1.length
   have l2:=r2.length
   refine SeqAt.EqAt.of_refs e ?_
   have q:=SeqAt.RcAt.lists (A:=A) (e:=fun _=>true) p1.isList p2.isList (by simp only [List.size_toArray];lia) (by lia) fun j h1 h2=>by
    simp only [List.size_toArray] at h1 h2
    obtain ⟨u1,e1,s1⟩:=r1.get (i:=j) (x:=xs[j]'(by lia)) (by simp)
    obtain ⟨u2,e2,s2⟩:=r2.get (i:=j) (x:=ys[j]'(by lia)) (by simp)
    have z1:its.toArray[j]=u1:=by
     have:its[j]? = some its[j]:=by simp [h1]
     rw [this] at e1
     simpa using Option.some.inj e1
    have z2:its2.toArray[j]=u2:=by
     have:its2[j]? = some its2[j]:=by simp [h2]
     rw [this] at e2
     simpa using Option.some.inj e2
    rw [z1,z2]
    exact ih j _ _ (by simp) (by simp) s1 s2 (by show A.units+1+n<cLine;lia)
   rw [all_true] at q
   exact q
 | @tup n a b xs ys ha hb hl _ ih=>
  intro ru rv hu
  cases ru
  cases rv
  by_cases e:a=b
  ·subst e;exact SeqAt.EqAt.same _
  ·obtain ⟨its,r1,p1,_⟩:=I.tuple ha
   obtain ⟨its2,r2,p2,_⟩:=I.tuple hb
   have l1:=r1.length
   have l2:=r2.length
   refine SeqAt.EqAt.of_refs e ?_
   have q:=SeqAt.RcAt.tuples (A:=A) (s:=s) (l:=a) (b:=b) (items:=its.toArray) (items2:=its2.toArray) (e:=fun _=>true) p1 p2 (by lia) fun j h1 h2=>by
    simp only [List.size_toArray] at h1 h2
    obtain ⟨u1,e1,s1⟩:=r1.get (i:=j) (x:=xs[j]'(by lia)) (by simp)
    obtain ⟨u2,e2,s2⟩:=r2.get (i:=j) (x:=ys[j]'(by lia)) (by simp)
    have z1:its.toArray[j]=u1:=by
     have:its[j]? = some its[j]:=by simp [h1]
     rw [this] at e1
     simpa using Option.some.inj e1
    have z2:its2.toArray[j]=u2:=by
     have:its2[j]? = some its2[j]:=by simp [h2]
     rw [this] at e2
     simpa using Option.some.inj e2
    rw [z1,z2]
    exact ih j _ _ (by simp) (by simp) s1 s2 (by show A.units+1+n<cLine;lia)
   have e3:(its.toArray.size==its2.toArray.size)=true:=by
    rw [beq_iff_eq];simp only [List.size_toArray];lia
   rw [e3,all_true] at q
   exact q
section
variable {X:Cx}
def Znx (K:PySem.W.Frag) (b:Bool):R2:=fun x y H Q=>∃(p q:Addr) (xs ys:List V),x = .ref p/\y = .ref q/\Zw K H p xs/\Zw K H q ys/\xs.length=ys.length/\(∀(i:Nat) (x y:V),xs[i]? = some x->ys[i]? = some y->Eqv K H 60 x y)/\Q (.bl b) H
theorem Zir {pins:List (Addr×Obj)} {σ:St}{H:Hp}{s:Shared}{xs ys:List V}{its its2:List Value}{A:Around} (I:Inv X pins σ H s) (r1:Vals xs its) (r2:Vals ys its2) (hl:xs.length=ys.length) (h:∀(i:Nat) (x y:V),xs[i]? = some x->ys[i]? = some y->Eqv X.K H 60 x y) (hu:A.units+62<cLine):
  ∀j (h1:j<its.toArray.size) (h2:j<its2.toArray.size),SeqAt.EqAt A.in1 s its.toArray[j] its2.toArray[j] ((fun _=>true) j):=fun j h1 h2=>by
 have l1:=r1.length
 have l2:=r2.length
 simp only [List.size_toArray] at h1 h2
 obtain ⟨u1,e1,s1⟩:=r1.get (i:=j) (x:=xs[j]'(by lia)) (by simp)
 obtain ⟨u2,e2,s2⟩:=r2.get (i:=j) (x:=ys[j]'(by lia)) (by simp)
 have z1:its.toArray[j]=u1:=by
  have:its[j]? = some its[j]:=by simp [h1]
  rw [this] at e1
  simpa using Option.some.inj e1
 have z2:its2.toArray[j]=u2:=by
  have:its2[j]? = some its2[j]:=by simp [h2]
  rw [this] at e2
  simpa using Option.some.inj e2
 rw [z1,z2]
 exact Eqv.at I (h j _ _ (by simp) (by simp)) s1 s2 (by show A.units+1+60<cLine;lia)
theorem ZmB (hu:X.A.units+64<cLine):Uy X (compareOp .NotEq) (Znx X.K false):=by
 intro pins s σ H x y v u Q I rx ry h
 obtain ⟨p,q,xs,ys,rfl,rfl,hp,hq,hl,he,hQ⟩:=h
 cases rx
 cases ry
 obtain ⟨its,r1,p1,_⟩:=I.list hp
 obtain ⟨its2,r2,p2,_⟩:=I.list hq
 have l1:=r1.length
 have l2:=r2.length
 refine SeqAt.RcNeAt.lists (e:=fun _=>true) p1.isList p2.isList (by simp only [List.size_toArray];lia) (by lia) (Zir I r1 r2 hl he (by lia)) X.prog X.w _ _ ⟨.bl false,H,I,?_,hQ⟩
 show Value.bool _=Value.bool false
 simp
theorem Zs {K:PySem.W.Frag} (h:X.K=K):IxR X (Znr K):=h ▸ Zk4
theorem ZK {K:PySem.W.Frag} (h:X.K=K):IxR X (Zdm K):=h ▸ Zl2
theorem Ji {K:PySem.W.Frag} (h:X.K=K):SlR X (Zn3 K):=h ▸ Zk0
theorem Zad {K:PySem.W.Frag} (h:X.K=K):MtM X "list.count" (ZiM K):=h ▸ Zjq
theorem Zlz {K:PySem.W.Frag} (h:X.K=K) (hu:X.A.units+64<cLine):Uy X (compareOp .NotEq) (Znx K false):=h ▸ ZmB hu
theorem YH {K:PySem.W.Frag} (h:X.K=K):Jw X (.builtin "len") (fun xs H Q=>∃p ys,xs = [.ref p]/\(Zw K H p ys∨YB K H p ys)/\Q (.int ys.length) H):=h ▸ Zes
theorem Za5 {K:PySem.W.Frag} (h:X.K=K):Jw X (.builtin "isinstance") (fun xs H Q=>∃x T t b,xs = [x,.ty T]/\Za2 K H x t/\PySem.W.kitOne K t (.type T)=some b/\Q (.bl b) H):=h ▸ Ze7
theorem Zbr {K:PySem.W.Frag} (h:X.K=K):Jw X (.builtin "sorted") (fun xs H Q=>∃(p:Addr) (ns:List Int),xs = [.ref p]/\Zw K H p (ns.map V.int)/\ns.length<64 /\ ∀(l:Addr) (ns':List Int),H l=none->ns'.Perm ns->ns'.Pairwise (· <= ·)->Q (.ref l) (upd H l (.lst (ns'.map V.int)))):=h ▸ Zfg
theorem JB {K:PySem.W.Frag} (h:X.K=K):Jw X (.type "list") (fun xs H Q=>∃p ys,xs = [.ref p]/\(Zw K H p ys∨YB K H p ys) /\ ∀l,H l=none->Q (.ref l) (upd H l (.lst ys))):=h ▸ Zeb
theorem ZU {K:PySem.W.Frag}{es:List Expr}{k:Nat}{t:TGs}{n:Nat}{pos:Pos} (hk:X.K=K) (hc:X.calm=true) (h:PGs X es t) (hn:(assignEach es X.env).length=n:=by rfl) (hst:(assignEach es X.env).findIdx? (·.1)=none:=by rfl):PG X (.Tuple es k pos) (Zi8 K n t):=hk ▸ ZmZ hc h hn hst
theorem Yg {K:PySem.W.Frag}{T:String}{name:Str}{r:V->List V->Hp->VK->Prop}{o e:Expr}{es:List Expr}{to:TE}{t:TA}{apos pos:Pos} (hk:X.K=K) (h:PE X (.Call (.Attribute o name apos) (e::es) [] pos) (tBM X.K T r to t)):PE X (.Call (.Attribute o name apos) (e::es) [] pos) (tBM K T r to t):=hk ▸ h
theorem Yk {K:PySem.W.Frag}{l tg:Expr}{tl:TE} (hk:X.K=K) (hl:PE X l tl):PI X tg l (ZlF K tl):=hk ▸ ZkD hl
theorem WM {K:PySem.W.Frag}{a:Expr}{ta:TA}{p pos tpos:Pos}{es:List Expr}{k:Nat} (hk:X.K=K) (hg:Gl X "enumerate") (hm:X.mg "enumerate" = none) (ha:PA X [a] ta) (hs:starEach [a] X.env = [(false,eval a X.env)]:=by rfl):
  PI X (.Tuple es k tpos) (.Call (.Name "enumerate" p) [a] [] pos) (ZlJ K ta):=hk ▸ Zlv hg hm ha hs
end
section
variable {g:TG}{tc:TT}{te:TE} {σ:St}{H:Hp}{Q:VK}{K:PySem.W.Frag}{a:Addr}{xs:List V}
theorem ZcQ {J:It}{n:Nat} (hn:n<=sizeLine) (Pv:Nat->List V->Hp->Prop) (h0:Pv 0 [] H) (hlen:∀i ys H,Pv i ys H->ys.length<=i) (go:∀i ys H,i<n->Pv i ys H->J.go i H) (stop:∀ys H,Pv n ys H->J.stop n H)
  (hs:∀i ys H,i<n->Pv i ys H -> ∀x H',J.yld i H x H'->g x σ H' fun σ2 H2=>tc σ2 H2 fun b H3=>if b=true then te σ2 H3 fun y H4=>Pv (i+1) (ys ++ [y]) H4 else Pv (i+1) ys H3)
  (hd:∀ys H,Pv n ys H -> ∀D,H D=none->Q (.ref D) (upd H D (.lst ys))):LcW J σ g tc te H Q:=by
 unfold LcW
 refine ⟨fun i m ys H=>m=n-i/\i<=n/\Pv i ys H,⟨n,by simp,Nat.zero_le _,h0⟩,?_⟩
 rintro i m ys H ⟨rfl,hi,p⟩
 have hy:=hlen i ys H p
 by_cases hlt:i<n
 ·exact .inr ⟨go i ys H hlt p,by lia,Pv (i+1),fun ys' H' h2=>⟨n-(i+1),by lia,rfl,hlt,h2⟩,fun x H' y=>hs i ys H hlt p x H' y⟩
 ·have e:i=n:=by lia
  subst e
  exact .inl ⟨stop ys H p,by lia,hd ys H p⟩
theorem WA (hn:xs.length<=sizeLine) (Pv:Nat->List V->Hp->Prop) (h0:Pv 0 [] H) (hlen:∀i ys H,Pv i ys H->ys.length<=i) (hS:∀i ys H,Pv i ys H->Zw K H a xs)
  (hs:∀i x ys H,xs[i]? = some x->Pv i ys H->g x σ H fun σ2 H2=>tc σ2 H2 fun b H3=>if b=true then te σ2 H3 fun y H4=>Pv (i+1) (ys ++ [y]) H4 else Pv (i+1) ys H3)
  (hd:∀ys H,Pv xs.length ys H -> ∀D,H D=none->Q (.ref D) (upd H D (.lst ys))):LcW (Itl K a) σ g tc te H Q:=
 ZcQ hn Pv h0 hlen (fun i ys H hi p=>⟨xs,xs[i],hS i ys H p,by simp [hi]⟩) (fun ys H p=>⟨xs,hS _ ys H p,Nat.le_refl _⟩) (fun i ys H hi p x H' y=>by
  obtain ⟨e,y⟩:=y
  subst e
  exact hs i x ys _ (y xs (hS i ys _ p)) p) hd
theorem Zgi {lo:Int}{n:Nat} (hn:n<=sizeLine) (Pv:Nat->List V->Hp->Prop) (h0:Pv 0 [] H) (hlen:∀i ys H,Pv i ys H->ys.length<=i)
  (hs:∀i ys H,i<n->Pv i ys H->g (.int (lo+i)) σ H fun σ2 H2=>tc σ2 H2 fun b H3=>if b=true then te σ2 H3 fun y H4=>Pv (i+1) (ys ++ [y]) H4 else Pv (i+1) ys H3)
  (hd:∀ys H,Pv n ys H -> ∀D,H D=none->Q (.ref D) (upd H D (.lst ys))):LcW (Itr lo n) σ g tc te H Q:=
 ZcQ hn Pv h0 hlen (fun i ys H hi p=>hi) (fun ys H p=>Nat.le_refl _) (fun i ys H hi p x H' y=>by
  obtain ⟨e,y⟩:=y
  subst e y
  exact hs i ys _ hi p) hd
theorem Zi2 (hn:xs.length<=sizeLine) (Pv:Nat->List V->Hp->Prop) (h0:Pv 0 [] H) (hlen:∀i ys H,Pv i ys H->ys.length<=i) (hS:∀i ys H,Pv i ys H->Zw K H a xs)
  (hs:∀i x p ys H,xs[i]? = some x->Pv i ys H->H p=none->g (.ref p) σ (upd H p (.tup [.int i,x])) fun σ2 H2=>tc σ2 H2 fun b H3=>if b=true then te σ2 H3 fun y H4=>Pv (i+1) (ys ++ [y]) H4 else Pv (i+1) ys H3)
  (hd:∀ys H,Pv xs.length ys H -> ∀D,H D=none->Q (.ref D) (upd H D (.lst ys))):LcW (Ite K a) σ g tc te H Q:=
 ZcQ hn Pv h0 hlen (fun i ys H hi p=>⟨xs,xs[i],hS i ys H p,by simp [hi]⟩) (fun ys H p=>⟨xs,hS _ ys H p,Nat.le_refl _⟩) (fun i ys H hi p x H' y=>by
  obtain ⟨q,z,e1,e2,e3,y⟩:=y
  subst e1 e3
  exact hs i z q ys _ (y xs (hS i ys _ p)) p e2) hd
end
def YT (N:List Str) (osc scope:Scope) (Fs:List Str) (fi:List Nat):Bool:=
 (scope.kind == .function)&&scope.names.all (fun y=>y.2 != .cell)&&scope.names.all (fun y=>y.2 != .local||scope.names.lookup y.1==some .local)&&Fs.all (fun x=>scope.names.lookup x==some .free) &&
  scope.names.all (fun y=>y.2 != .free||osc.names.lookup y.1==some .cell||osc.names.lookup y.1==some .free)&&(fi.map (fun i=>N[i]?)==Fs.map some)
theorem Yi.of {N:List Str}{osc scope:Scope}{Ls Fs:List Str}{fi:List Nat} (h:YT N osc scope Fs fi=true):Yi N osc scope Ls Fs fi:=by
 simp only [YT,Bool.and_eq_true,List.all_eq_true,Bool.or_eq_true,bne_iff_ne,beq_iff_eq] at h
 obtain ⟨⟨⟨⟨⟨h1,h2⟩,h3⟩,h4⟩,h5⟩,h6⟩:=h
 refine ⟨h1,h2,fun y hy hl=>(h3 y hy).elim (fun z=>absurd hl z) id,h4,fun y hy hf=>?_,h6⟩
 rcases h5 y hy with (z | z) | z
 ·exact absurd hf z
 ·exact .inl z
 ·exact .inr z
def Yr (P:Program) (w:World) (K:PySem.W.Frag) (mg:Str->Option Value) (base:Heap) (k:Nat) (x:Str) (ps:List Str) (sp:Sp):Prop:=
 ∃(f:Addr) (fd:FuncData),Yj P w K mg base Wy k f fd ps sp/\mg x=some (.ref f)/\PySem.W.keepIn K (.ref f)=true/\Binds K fd ps []
theorem Zq {X:Cx}{j k:Nat}{x:Str}{ps:List Str}{sp:Sp}{p pos:Pos}{e:Expr}{es:List Expr}{t:TA} (h:Yr X.prog X.w X.K X.mg X.base j x ps sp) (hr:W4 k X.A) (ha:PA X (e::es) t) (hj:j<=k:=by decide) (hg:Gl X x:=by rfl) (hdb:(x==("__debug__" : Str))=false:=by decide)
  (he:starEach (e::es) X.env=(false,eval e X.env)::starEach es X.env:=by rfl) (hpl:(backTo pos (starEach es X.env)).any (·.1)=false:=by rfl):PE X (.Call (.Name x p) (e::es) [] pos) (Zd4 sp [] E0 t):=by
 obtain ⟨f,fd,G,hm,hk,hb⟩:=h
 exact Zhe G (hr.mono hj) hg hm hk hb .nil Znz ha hdb he hpl
def YC (b:Addr) (H H':Hp):Prop:=∀c o,H c=some o->c≠b->H' c=some o
theorem YC.refl (b:Addr) (H:Hp):YC b H H:=fun _ _ h _=>h
theorem YC.trans {b:Addr}{H H1 H2:Hp} (x:YC b H H1) (y:YC b H1 H2):YC b H H2:=fun c o h n=>y c o (x c o h n) n
theorem Zi.frm {b:Addr}{H H':Hp} (x:Zi H H'):YC b H H':=fun c o h _=>x c o h
theorem Zi.laid {H:Hp}{p:Addr}{o:HO} (h:H p=none):Zi H (upd H p o):=fun c u e=>by rw [Zh (Zf e h)];exact e
theorem Zi.step {H H':Hp}{p:Addr}{o:HO} (s:Zi H H') (h:H' p=none):Zi H (upd H' p o):=s.trans (.laid h)
theorem YC.upd {b:Addr}{H:Hp}{o:HO}:YC b H (upd H b o):=fun c u e n=>by rw [Zh n];exact e
theorem YC.new {b p:Addr}{H H':Hp}{o:HO} (s:YC b H H') (h:H' p=none):YC b H (L2.upd H' p o):=s.trans (Zi.laid h).frm
theorem Zi.put {H H':Hp}{p:Addr}{o:HO} (s:Zi H H') (h:H p=none):Zi H (upd H' p o):=fun c u e=>by rw [Zh (Zf e h)];exact s c u e
def Bag (H:Hp) (b:Addr):Prop:=∃g r:Int,0<=g/\H b=some (.lst [.int g,.int r])
theorem YC.free {b:Addr}{H H':Hp} (f:YC b H H') (hb:Bag H' b) {p:Addr} (h:H' p=none):H p=none:=by
 cases q:H p with
 | none=>rfl
 | some o=>
  by_cases e:p=b
  ·subst e
   obtain ⟨g,r,_,z⟩:=hb
   rw [h] at z;cases z
  ·rw [f p o q e] at h;cases h
def ZC (H:Hp) (xs:List V) (ls:List (Str×Int)):Prop:=Paired (fun x (p:Str×Int)=>∃t,x=V.ref t/\H t=some (.tup [.str p.1,.int p.2])) xs ls
theorem ZC.mono {H H':Hp} (h:∀t p,H t=some (.tup p)->H' t=some (.tup p)):∀{xs:List V}{ls:List (Str×Int)},ZC H xs ls->ZC H' xs ls
 | _,_,.nil=>.nil
 | _,_,.cons ⟨t,e,q⟩ r=>.cons ⟨t,e,h t _ q⟩ (ZC.mono h r)
theorem ZC.same {H H':Hp} (s:Zi H H') {xs:List V}{ls:List (Str×Int)} (h:ZC H xs ls):ZC H' xs ls:=h.mono fun t p e=>s t _ e
theorem ZC.frm {b:Addr}{H H':Hp} (s:YC b H H') (hb:Bag H b) {xs:List V}{ls:List (Str×Int)} (h:ZC H xs ls):ZC H' xs ls:=h.mono fun t p e=>s t _ e (fun z=>by
 obtain ⟨g,r,_,q⟩:=hb
 rw [z,q] at e;cases e)
theorem ZC.len {H:Hp}{xs:List V}{ls:List (Str×Int)} (h:ZC H xs ls):xs.length=ls.length:=Paired.length h
theorem ZC.get {H:Hp}:∀{xs:List V}{ls:List (Str×Int)}{i:Nat}{x:V},ZC H xs ls->xs[i]? = some x -> ∃p t,ls[i]? = some p/\x = .ref t/\H t=some (.tup [.str p.1,.int p.2])
 | _,_,_,_,.nil,e=>by simp at e
 | _,_,0,_,.cons ⟨t,e1,q⟩ _,e=>by simp at e;subst e;exact ⟨_,t,rfl,e1,q⟩
 | _,_,i+1,x,.cons _ r,e=>by
  obtain ⟨p,t,h1,h2⟩:=ZC.get (i:=i) (x:=x) r (by simpa using e)
  exact ⟨p,t,by simpa using h1,h2⟩
theorem ZC.snoc {H:Hp}{xs:List V}{ls:List (Str×Int)}{t:Addr}{x:Str}{k:Int} (h:ZC H xs ls) (e:H t=some (.tup [.str x,.int k])):ZC H (xs ++ [.ref t]) (ls ++ [(x,k)]):=Paired.snoc h ⟨t,rfl,e⟩
theorem ZC.append {H:Hp}:∀{xs ys:List V}{ls ms:List (Str×Int)},ZC H xs ls->ZC H ys ms->ZC H (xs++ys) (ls++ms)
 | _,_,_,_,.nil,s=>s
 | _,_,_,_,.cons r t,s=>.cons r (ZC.append t s)
inductive Wk:List (Str×Int)->Int->Prop
 | nil:Wk [] 0
 | born {ls:List (Str×Int)}{n k:Int}:Wk ls n->0<=k->k<=n->Wk (ls ++ [((("born" : Str),k):Str×Int)]) (n+2)
 | cross {ls:List (Str×Int)}{n k:Int}:Wk ls n->0<=k->k+1<n->Wk (ls ++ [((("cross" : Str),k):Str×Int)]) n
 | fin {ls:List (Str×Int)}{n k:Int}:Wk ls n->0<=k->k+1<n->Wk (ls ++ [((("end" : Str),k):Str×Int)]) (n-2)
def Kd (x:Str):Prop:=x = "born" ∨ x = "cross" ∨ x = "end"
theorem Wk.kd {ls:List (Str×Int)}{n:Int} (h:Wk ls n):∀p∈ls,Kd p.1:=by
 induction h with
 | nil=>intro p hp;cases hp
 | born _ _ _ ih=>intro p hp;rcases List.mem_append.mp hp with z | z;exact ih p z;rw [List.mem_singleton.mp z];exact .inl rfl
 | cross _ _ _ ih=>intro p hp;rcases List.mem_append.mp hp with z | z;exact ih p z;rw [List.mem_singleton.mp z];exact .inr (.inl rfl)
 | fin _ _ _ ih=>intro p hp;rcases List.mem_append.mp hp with z | z;exact ih p z;rw [List.mem_singleton.mp z];exact .inr (.inr rfl)
def Drw (H:Hp) (l:Addr) (ls:List (Str×Int)):Prop:=∃xs,H l=some (.lst xs)/\ZC H xs ls/\Wk ls 0/\ls.length<=60
def Ev (t:TT) (σ:St) (H:Hp) (β:Bool):Prop:=∀Q:Bool->Hp->Prop,Q β H->t σ H Q
theorem ZeW {t u:TT} {σ:St}{H:Hp} {β γ:Bool} (h1:Ev t σ H β) (h2:β = true->Ev u σ H γ):Ev (ZkN t u) σ H (β && γ):=fun Q q=>h1 _ (by
 cases β with
 | true=>rw [if_pos rfl];exact h2 rfl _ q
 | false=>rw [if_neg Bool.false_ne_true];exact q)
theorem ZnT {t u:TT} {σ:St}{H:Hp} {β γ:Bool} (h1:Ev t σ H β) (h2:β = false->Ev u σ H γ):Ev (tOr t u) σ H (β || γ):=fun Q q=>h1 _ (by
 cases β with
 | true=>rw [if_pos rfl];exact q
 | false=>rw [if_neg Bool.false_ne_true];exact h2 rfl _ q)
theorem Znu {t:TT} {σ:St}{H:Hp} {β:Bool}{T U:Hp->Prop} (h:Ev t σ H β) (h1:β = true->T H) (h2:β = false->U H):t σ H fun b H1=>if b=true then T H1 else U H1:=h _ (by
 cases β with
 | true=>rw [if_pos rfl];exact h1 rfl
 | false=>rw [if_neg Bool.false_ne_true];exact h2 rfl)
theorem ZgD {tc:TT}{t u:TS}{D:Ends} {σ:St}{H:Hp} {β:Bool} (h:Ev tc σ H β) (h1:β = true->t D σ H) (h2:β = false->u D σ H):Zew tc t u D σ H:=Znu h h1 h2
theorem lcT {σ:St}{H:Hp}{A B:Hp->Prop} (h:A H):Zhl σ H fun b H3=>if b=true then A H3 else B H3:=by
 show if true=true then A H else B H
 exact Za9 h
theorem Wb {H H1 H2:Hp}{b l t:Addr}{xs:List V}{ls:List (Str×Int)} (x:Str) (k:Int) (f0:YC b H H1) (hb1:Bag H1 b) (hl:H1 l=some (.lst xs)) (hL:ZC H1 xs ls) (hlb:l≠b) (hlf:H l=none) (f2:YC b H1 H2) (bag2:Bag H2 b) (ht:H2 t=none):
  (upd H2 t (.tup [.str x,.int k])) l=some (.lst xs)/\Bag (upd (upd H2 t (.tup [.str x,.int k])) l (.lst (xs ++ [.ref t]))) b/\YC b H (upd (upd H2 t (.tup [.str x,.int k])) l (.lst (xs ++ [.ref t]))) /\
   (upd (upd H2 t (.tup [.str x,.int k])) l (.lst (xs ++ [.ref t]))) l=some (.lst (xs ++ [.ref t]))/\ZC (upd (upd H2 t (.tup [.str x,.int k])) l (.lst (xs ++ [.ref t]))) (xs ++ [.ref t]) (ls ++ [(x,k)]):=by
 have hl2:H2 l=some (.lst xs):=f2 l _ hl hlb
 have hlt:l≠t:=Zf hl2 ht
 have hbt:b≠t:=by
  obtain ⟨g,r,_,e⟩:=bag2
  exact Zf e ht
 refine ⟨by rw [Zh hlt];exact hl2,?_,fun c o e n=>?_,Zc,?_⟩
 ·obtain ⟨g,r,h0,e⟩:=bag2
  exact ⟨g,r,h0,by rw [Zh (Ne.symm hlb),Zh hbt];exact e⟩
 ·have e2:=f2 c o (f0 c o e n) n
  rw [Zh (Zf e hlf),Zh (Zf e2 ht)]
  exact e2
 ·refine ZC.snoc ?_ (by rw [Zh (Ne.symm hlt)];exact Zc)
  refine (hL.frm f2 hb1).mono fun t' p e=>?_
  rw [Zh (ZaZ e hl2 (by intro z;cases z)),Zh (Zf e ht)]
  exact e
theorem Wk.nil0:Wk [] (2*((0:Nat):Int)):=Wk.nil
theorem Zci {ls:List (Str×Int)}:∀(n:Nat),Wk ls (2*(n:Int)) -> ∀m,m<=n->Wk (ls++List.replicate m ((("end" : Str),0):Str×Int)) (2*((n-m:Nat):Int))
 | n,h,0,_=>by simpa using h
 | n,h,m+1,hm=>by
  have ih:=Zci n h m (by lia)
  rw [List.replicate_succ',<- List.append_assoc]
  have e:(2*((n-(m+1):Nat):Int))=2*((n-m:Nat):Int)-2:=by lia
  rw [e]
  exact Wk.fin ih (by decide) (by lia)
theorem ZdG:∀(n:Nat),Wk ((List.range n).map fun (k:Nat)=>((("born" : Str),2*(k:Int)):Str×Int)) (2*(n:Int))
 | 0=>by simpa using Wk.nil
 | n+1=>by
  rw [List.range_succ,List.map_append]
  have e:(2*((n+1:Nat):Int))=2*(n:Int)+2:=by lia
  rw [e]
  exact Wk.born (ZdG n) (by lia) (by lia)
theorem lcG {i:Nat}{v:V} {σ:St}{H:Hp}{A B:St->Hp->Prop} (h:A (σ.set i (some v)) H):Ju i v σ H fun σ2 H2=>Zhl σ2 H2 fun b H3=>if b=true then A σ2 H3 else B σ2 H3:=by
 show if true=true then A (σ.set i (some v)) H else B (σ.set i (some v)) H
 exact Za9 h
def Uu (ls:List (Str×Int)) (pr:Str->Bool) (i:Nat):Bool:=((ls[i]?).map fun q=>pr q.1)==some true
def Ya (ls:List (Str×Int)) (pr:Str->Bool) (n:Nat):List Int:=(List.range n).filterMap fun i=>if Uu ls pr i=true then some (i:Int) else none
theorem WJ (ls:List (Str×Int)) (pr:Str->Bool) (n:Nat):Ya ls pr (n+1)=Ya ls pr n++(if Uu ls pr n=true then [(n:Int)] else []):=by
 unfold Ya
 rw [List.range_succ,List.filterMap_append]
 by_cases h:Uu ls pr n=true<;>simp [h]
theorem Zfc {ls:List (Str×Int)}{pr:Str->Bool}{n:Nat}{q:Str×Int} (h:ls[n]? = some q) (hp:pr q.1=true):(Ya ls pr n).map V.int ++ [V.int n]=(Ya ls pr (n+1)).map V.int:=by
 have:Uu ls pr n=true:=by unfold Uu;rw [h];simp [hp]
 rw [WJ,this]
 simp
theorem Zg4 {ls:List (Str×Int)}{pr:Str->Bool}{n:Nat}{q:Str×Int} (h:ls[n]? = some q) (hp:pr q.1=false):(Ya ls pr n).map V.int=(Ya ls pr (n+1)).map V.int:=by
 have:Uu ls pr n=false:=by unfold Uu;rw [h];simp [hp]
 rw [WJ,this]
 simp
theorem J8 (ls:List (Str×Int)) (pr:Str->Bool) (n:Nat):(Ya ls pr n).length<=n:=by
 unfold Ya
 exact Nat.le_trans (List.length_filterMap_le _ _) (by simp)
theorem Zay:∀{a b:List Int},a.Perm b->a.Pairwise (· <= ·)->b.Pairwise (· <= ·)->a=b
 | [],b,p,_,_=>(List.nil_perm.mp p).symm
 | x::a,[],p,_,_=>absurd p.length_eq (by simp)
 | x::a,y::b,p,ha,hb=>by
  have hx:x∈y::b:=p.mem_iff.mp List.mem_cons_self
  have hy:y∈x::a:=p.mem_iff.mpr List.mem_cons_self
  have h1:y<=x:=by
   rcases List.mem_cons.mp hx with e | h
   ·lia
   ·exact (List.pairwise_cons.mp hb).1 x h
  have h2:x<=y:=by
   rcases List.mem_cons.mp hy with e | h
   ·lia
   ·exact (List.pairwise_cons.mp ha).1 y h
  have e:x=y:=by lia
  subst e
  rw [Zay (List.perm_cons x |>.mp p) (List.pairwise_cons.mp ha).2 (List.pairwise_cons.mp hb).2]
def Zio (x:Str):Int:=if x = "born" then 2 else if x = "end" then -2 else 0
def ZcE (ls:List (Str×Int)):Int:=(ls.map fun p=>Zio p.1).sum
theorem ZbN (ls:List (Str×Int)) (p:Str×Int):ZcE (ls ++ [p])=ZcE ls+Zio p.1:=by
 unfold ZcE
 simp
theorem Zkf {xs:List V}{t:Nat} (h:t<=xs.length):Gg xs none (some (t:Int))=xs.take t:=by
 have e1:HT.Jj xs.length 0 none=0:=by unfold HT.Jj;rfl
 have e2:HT.Jj xs.length xs.length (some (t:Int))=t:=by
  have h0:¬((t:Int)<0):=by lia
  unfold HT.Jj
  simp [h0]
  lia
 unfold Gg
 rw [e1,e2]
 simp
theorem Zd7 (ns:List Int):(ns.map V.int).all Wt=true:=by
 rw [List.all_eq_true]
 intro x hx
 obtain ⟨n,_,rfl⟩:=List.mem_map.mp hx
 rfl
section
variable {X:Cx}
theorem ZfS {v:Value}{a:Int} (h:IsPart v (some a)):RelV (.int a) v:=by
 cases h with
 | int _ t=>exact ⟨t,rfl⟩
def ZoG (to:TE) (tl th:TO):TG:=fun v σ H Q=>to σ H fun x H1=>tl σ H1 fun lo H2=>th σ H2 fun hi H3=>∃(l b:Addr) (xs ys:List V) (a c:Int),x = .ref l/\v = .ref b/\lo=some a/\hi=some c/\H3 l=some (.lst xs)/\H3 b=some (.lst ys)/\l≠b /\
 0<=a/\a<=c/\c<=xs.length/\xs.length+ys.length<=sizeLine/\Q σ (upd H3 l (.lst (xs.take a.toNat++ys++xs.drop c.toNat)))
theorem ZmA {o:Expr}{lo hi:Option Expr}{to:TE}{tl th:TO}{p2 pos:Pos} (ho:PE X o to) (hl:PO X lo tl) (hu:PO X hi th):PG X (.Subscript o (.Slice lo hi none p2) pos) (ZoG to tl th):=by
 intro pins s σ H v u Q I r h
 show wpAny _ _ (do
   let ov <- holding [u] (eval o X.env)
   let iv <- holding [u,ov] (eval (.Slice lo hi none p2) X.env)
   standAt pos
   holding [u,ov,iv] (setItem ov iv u)
   release [iv,u,ov] []) _ _ s
 refine wpAny_bind (wpAny_holding (Yq (ho pins s σ H _ I h) fun ov s1 ⟨x,H1,I1,r1,q1⟩=>?_))
 refine wpAny_bind (wpAny_holding (wpAny_Slice (Yq (hl pins s1 σ H1 _ I1 q1) fun vl s2 ⟨l',H2,I2,pl,q2⟩=>Yq (hu pins s2 σ H2 _ I2 q2) fun vu s3 ⟨u',H3,I3,pu,q3⟩=>?_)))
 rw [evalPart_none]
 refine wpAny_pure ?_
 have I4:Inv X pins σ H3 { s3 with heap:=s3.heap.push { cls:=.type "slice", data:=.fields #[vl,vu,.none] } }:=I3.kept (t':=s3.toks) fun b ob q=>Heap.get?_push_of_some _ q
 obtain ⟨l,b,xs,ys,a,c,rfl,rfl,rfl,rfl,hx,hy,hne,h0,hac,hc,hz,q⟩:=q3
 cases r1
 cases r
 refine wpAny_bind (wpAny_standAt (wpAny_bind (wpAny_holding (Zh1 I4 hx hy hne (Heap.IsSliceOf.new ..) (ZfS pl) (ZfS pu) h0 hac hc hz fun s5 I5=>?_))))
 exact wpAny_release ⟨σ,_,I5,q⟩
def Zlt:V->List V->Hp->VK->Prop:=fun x vs H Q=>∃(l:Addr) (xs:List V) (i:Int) (y:V),x = .ref l/\vs = [.int i,y]/\H l=some (.lst xs)/\0<=i/\i<=xs.length/\xs.length<sizeLine/\xs.length<2 ^ 62/\Q .non (upd H l (.lst (xs.take i.toNat++y::xs.drop i.toNat)))
theorem ZdO:MtM X "list.insert" Zlt:=by
 intro pins s σ H x vs v us Q I rx rv h
 obtain ⟨l,xs,i,y,rfl,rfl,hH,h0,h1,hz,hb,q⟩:=h
 cases rx
 obtain ⟨u1,u,rfl,ri,ru⟩:=rv.two
 obtain ⟨t,rfl⟩:=ri
 obtain ⟨z,its,n,r,hl,e⟩:=I.lstM hH
 have hfit:¬(!Builtin.List.listFitsIndex i)=true:=by
  unfold Builtin.List.listFitsIndex
  simp
  lia
 refine call_meets F.slot_list_insert ⟨_,e,rfl⟩ F.entry_list_insert (F.args_list_insert_3 _ _ _) (AutoSeq1.list_insert_list_int_val_1 l its.toArray n i t u hfit (by rw [List.size_toArray];lia)) ⟨e,?_⟩
 refine ⟨.non,_,I.lset (its':=its.take i.toNat++u::its.drop i.toNat) hH e ?_ (Vals.append (r.take _) (.cons ru (r.drop _))) ?_,rfl,q⟩
 ·have hi:¬i<0:=by lia
  have hm:min i.toNat its.toArray.size=i.toNat:=by rw [List.size_toArray];lia
  simp only [if_neg hi,hm]
  simp
  rw [List.take_of_length_le (by simp)]
 ·rw [List.length_append,List.length_cons,List.length_take,List.length_drop]
  lia
end
theorem Zg5 (a c:Nat) (hac:a<=c):∀(its:List Value) (i:Nat),((its.zipIdx i).filterMap fun (p:Value×Nat)=>if (a<=p.2/\p.2<c) then none else some p.1)=its.take (a-i)++its.drop (c-i)
 | [],i=>by simp
 | x::r,i=>by
  have ih:=Zg5 a c hac r (i+1)
  rw [List.zipIdx_cons,List.filterMap_cons]
  by_cases h1:i<a
  ·have e1:a-i=(a-(i+1))+1:=by lia
   have e2:c-i=(c-(i+1))+1:=by lia
   rw [if_neg (show ¬(a<=(x,i).2/\(x,i).2<c) by show ¬(a<=i/\i<c);lia)]
   simp only [ih]
   rw [e1,e2]
   simp
  ·by_cases h2:i<c
   ·have e1:a-i=0:=by lia
    have e1':a-(i+1)=0:=by lia
    have e2:c-i=(c-(i+1))+1:=by lia
    rw [if_pos (show (a<=(x,i).2/\(x,i).2<c) by show (a<=i/\i<c);lia)]
    simp only [ih]
    rw [e1,e1',e2]
    simp
   ·have e1:a-i=0:=by lia
    have e1':a-(i+1)=0:=by lia
    have e2:c-i=0:=by lia
    have e2':c-(i+1)=0:=by lia
    rw [if_neg (show ¬(a<=(x,i).2/\(x,i).2<c) by show ¬(a<=i/\i<c);lia)]
    simp only [ih]
    rw [e1,e1',e2,e2']
    simp
section
variable {prog:Program}{w:World}{A:Around}{E:Value->Shared->Prop}{s:Shared}
theorem Zdw {l sl:Addr}{its:List Value}{n:Nat}{vl vu:Value}{a c:Nat}{Q:Unit->Shared->Prop}
  (e:s.heap.get? l=some { cls:=.type "list", data:=.seq its.toArray n }) (hs:s.heap.IsSliceOf sl vl vu .none) (pl:IsPart vl (some (a:Int))) (pu:IsPart vu (some (c:Int))) (hac:a<=c) (hc:c<=its.length)
  (hsz:its.length<=sizeLine) (h:∀f:Array Value->Array Value,f its.toArray=(its.take a++its.drop c).toArray->Q () { s with heap:=s.heap.update l (Obj.mapSeq f) }):
  wpAny (model prog w) A (delItem (.ref l) (.ref sl)) Q E s:=by
 have hl:s.heap.IsList l its.toArray:=PySem.IsL.isList e
 obtain ⟨os,hos,hcs,hds⟩:=id hs
 have hTs:s.TypeIs (.ref sl) "slice" := ⟨os,hos,hcs⟩
 have hstep:¬((rawPart none==rawInt 0)=true):=Bool.false_ne_true
 refine wpAny_delItem_slot hl.typeIs (by decide) F.slot_list_delitem (wpAny_call_entry F.slot_list_delitem hl.typeIs F.entry_list_delitem ?_ (F.args_list_delitem_2 _ _))
 show wpAny _ _ (Builtin.List.listSubscript? (.ref sl) >>= _) _ _ s
 refine wpAny_bind ?_
 unfold Builtin.List.listSubscript?
 refine wpAny_bind (wpAny_specialOf hTs slice_no_index ?_)
 simp only [Option.isNone_none,if_true]
 refine wpAny_pure ?_
 show wpAny _ _ (typeOf (.ref sl) >>= _) _ _ s
 refine wpAny_bind (wpAny_typeOf hTs ?_)
 first
  | rw [if_neg (by decide)]
  | refine PySem.W.KFB.if_not (by decide) ?_
 rw [listSliceParts_eq]
 refine wpAny_bind (wpAny_bind (wpAny_field hos hds (x:=.none) rfl (wpAny_bind (wpAny_listPart .none ?_))))
 rw [if_neg hstep]
 refine wpAny_bind (wpAny_field hos hds (x:=vl) rfl (wpAny_bind (wpAny_listPart pl ?_)))
 refine wpAny_bind (wpAny_field hos hds (x:=vu) rfl (wpAny_bind (wpAny_listPart pu (wpAny_pure ?_))))
 unfold Builtin.List.listItems
 refine wpAny_bind (wpAny_bind (wpAny_seqItems e rfl (wpAny_pure ?_)))
 refine wpAny_bind (wpAny_of_eq ((sliceIndices_raw (some (a:Int)) (some (c:Int)) none its.toArray.size (by simp)).trans (congrArg (pure:Int×Int×Int->Sem (Int×Int×Int)) (Zdj hac (by rw [List.size_toArray];exact hc)))) ?_)
 refine wpAny_bind (wpAny_rule ?_)
 have key:∀(F:Array Value->Array Value),F its.toArray=(its.take a++its.drop c).toArray -> ∀(g:Sem Fin),(∀s',Q () s'->wpAny (model prog w) A.in1 g (fun fin s'=>∃v,fin = .done (.ret v)/\Q () s') E s') ->
   wpAny (model prog w) A.in1 (Builtin.List.listUpdate (.ref l) F >>= fun _=>g) (fun fin s'=>∃v,fin = .done (.ret v)/\Q () s') E s:=fun F hF g hg=>by
  show wpAny (model prog w) A.in1 (updateSeq l F >>= fun _=>g) _ E s
  refine wpAny_bind (wpAny_updateSeq (hz:=by rw [List.size_toArray];exact hsz) (_hz':=?_) e rfl (hg _ (h F hF)))
  rw [hF,List.size_toArray,List.length_append,List.length_take,List.length_drop]
  lia
 refine key _ ?_ _ ?_
 ·refine congrArg List.toArray ((congrArg (fun f=>List.filterMap f its.zipIdx) (funext fun p=>?_)).trans (Zg5 a c hac its 0))
  obtain ⟨x,k⟩:=p
  show (if (if (1:Int)>0 then decide ((a:Int)<=(k:Int))&&decide ((k:Int)<(c:Int))&&(((k:Int)-(a:Int)) % 1==0) else _)=true then none else some x)=if (a<=k/\k<c) then none else some x
  rw [if_pos (show (1:Int)>0 by decide)]
  have e0:((k:Int)-(a:Int)) % 1=0:=Int.emod_one _
  by_cases h1:a<=k/\k<c
  ·rw [if_pos h1,if_pos (by rw [e0];simp;lia)]
  ·rw [if_neg h1,if_neg (by rw [e0];simp;lia)]
 ·intro s' hq
  exact wpAny_bind (wpAny_letGo (wpAny_pure ⟨.none,rfl,hq⟩))
end
section
variable {X:Cx}
def Zmi (to:TE) (tl th:TO):TS:=fun D σ H=>to σ H fun x H1=>tl σ H1 fun lo H2=>th σ H2 fun hi H3=>∃(l:Addr) (xs:List V) (a c:Int),x = .ref l/\lo=some a/\hi=some c/\H3 l=some (.lst xs)/\0<=a/\a<=c/\c<=xs.length/\D.nx σ (upd H3 l (.lst (xs.take a.toNat++xs.drop c.toNat)))
theorem Zkc {o:Expr}{lo hi:Option Expr}{to:TE}{tl th:TO}{p2 p3 pos:Pos} (ho:PE X o to) (hl:PO X lo tl) (hu:PO X hi th):PS X (.Delete [.Subscript o (.Slice lo hi none p2) p3] pos) (Zmi to tl th):=by
 intro pins s σ H D I h
 refine wpAny_Delete (wpAny_deleteEach_cons ?_)
 rw [arm_delete_Subscript]
 refine wpAny_bind (Yq (ho pins s σ H _ I h) fun ov s1 ⟨x,H1,I1,r1,q1⟩=>?_)
 refine wpAny_bind (wpAny_holding (wpAny_Slice (Yq (hl pins s1 σ H1 _ I1 q1) fun vl s2 ⟨l',H2,I2,pl,q2⟩=>Yq (hu pins s2 σ H2 _ I2 q2) fun vu s3 ⟨u',H3,I3,pu,q3⟩=>?_)))
 rw [evalPart_none]
 refine wpAny_pure ?_
 have I4:Inv X pins σ H3 { s3 with heap:=s3.heap.push { cls:=.type "slice", data:=.fields #[vl,vu,.none] } }:=I3.kept (t':=s3.toks) fun b ob q=>Heap.get?_push_of_some _ q
 obtain ⟨l,xs,a,c,rfl,rfl,rfl,hx,h0,hac,hc,q⟩:=q3
 cases r1
 obtain ⟨z,its,n,r,hlen,e⟩:=I4.lstM hx
 obtain ⟨a',rfl⟩:=Int.eq_ofNat_of_zero_le h0
 obtain ⟨c',rfl⟩:=Int.eq_ofNat_of_zero_le (Int.le_trans h0 hac)
 simp only [Int.toNat_natCast] at q
 refine wpAny_bind (wpAny_standAt (wpAny_bind (wpAny_holding (Zdw (a:=a') (c:=c') e (Heap.IsSliceOf.new ..) pl pu (by lia) (by lia) (by lia) fun f hf=>?_))))
 refine wpAny_release (wpAny_deleteEach_nil ?_)
 refine ⟨σ,_,I4.lset (its':=its.take a'++its.drop c') (t':=s3.toks) hx e hf (Vals.append (r.take _) (r.drop _)) ?_,q⟩
 rw [List.length_append,List.length_take,List.length_drop]
 lia
end
theorem ZaY {K:PySem.W.Frag}{a:Addr}{xs:List V}{g:TG}{tb:TS}{D:Ends} {σ:St}{H:Hp} (Pv:Nat->St->Hp->Prop) (h0:Pv 0 σ H) (hl:∀i σ H,i<=xs.length->Pv i σ H->Zw K H a xs)
  (hs:∀i x p σ H,xs[i]? = some x->Pv i σ H->H p=none->g (.ref p) σ (upd H p (.tup [.int i,x])) fun σ2 H2=>tb { D with nx:=Pv (i+1),ct:=Pv (i+1),bk:=D.nx } σ2 H2) (hd:∀ σ H,Pv xs.length σ H->D.nx σ H):
  ∃W:Nat->Nat->St->Hp->Prop,(∃m,W 0 m σ H) /\ ∀i m σ H,W i m σ H ->
   ((Ite K a).stop i H/\D.nx σ H)∨((Ite K a).go i H /\ ∃N:St->Hp->Prop,(∀ σ' H',N σ' H' -> ∃m',m'<m/\W (i+1) m' σ' H') /\ ∀x H',(Ite K a).yld i H x H'->g x σ H' fun σ2 H2=>tb { D with nx:=N,ct:=N,bk:=D.nx } σ2 H2):=by
 refine ⟨fun i m σ H=>m=xs.length-i/\i<=xs.length/\Pv i σ H,⟨xs.length,by simp,Nat.zero_le _,h0⟩,?_⟩
 rintro i m σ H ⟨rfl,hi,p⟩
 have q:=hl i σ H hi p
 by_cases hlt:i<xs.length
 ·refine .inr ⟨⟨xs,xs[i],q,by simp [hlt]⟩,Pv (i+1),fun σ' H' p'=>⟨xs.length-(i+1),by lia,rfl,hlt,p'⟩,fun x H' y=>?_⟩
  obtain ⟨r,z,e1,e2,e3,y⟩:=y
  subst e1 e3
  exact hs i z r σ _ (y xs q) p e2
 ·have e:i=xs.length:=by lia
  subst e
  exact .inl ⟨⟨xs,q,Nat.le_refl _⟩,hd σ H p⟩
def Ga (r:List Int) (k:Nat):List Int:=(r.set k (r.getD (k+1) 0)).set (k+1) (r.getD k 0)
def stp (s:List Int×Int) (p:Str×Int):List Int×Int:=
 if p.1 = "born" then (s.1.take p.2.toNat ++ [s.2,s.2+1]++s.1.drop p.2.toNat,s.2+2) else if p.1 = "cross" then (Ga s.1 p.2.toNat,s.2) else (s.1.take p.2.toNat++s.1.drop (p.2.toNat+2),s.2)
def rb (ls:List (Str×Int)):List Int×Int:=ls.foldl stp ([],0)
theorem YD (ls:List (Str×Int)) (p:Str×Int):rb (ls ++ [p])=stp (rb ls) p:=by
 unfold rb
 rw [List.foldl_append]
 rfl
theorem Wd {s:List Int×Int}{k:Int}:stp s ("born", k)=(s.1.take k.toNat ++ [s.2,s.2+1]++s.1.drop k.toNat,s.2+2):=if_pos rfl
theorem nb1:¬(("cross" : Str) = "born"):=by decide +kernel
theorem nb2:¬(("end" : Str) = "born"):=by decide +kernel
theorem nb3:¬(("end" : Str) = "cross"):=by decide +kernel
theorem JF {s:List Int×Int}{k:Int}:stp s ("cross", k)=(Ga s.1 k.toNat,s.2):=(if_neg nb1).trans (if_pos rfl)
theorem W9 {s:List Int×Int}{k:Int}:stp s ("end", k)=(s.1.take k.toNat++s.1.drop (k.toNat+2),s.2):=(if_neg nb2).trans (if_neg nb3)
theorem U5 {ls:List (Str×Int)}{n:Int} (h:Wk ls n):((rb ls).1.length:Int)=n:=by
 induction h with
 | nil=>rfl
 | born h h0 h1 ih=>
  rw [YD,Wd]
  simp only [List.length_append,List.length_take,List.length_drop,List.length_cons,List.length_nil]
  lia
 | cross h h0 h1 ih=>
  rw [YD,JF]
  simp only [Ga,List.length_set]
  exact ih
 | fin h h0 h1 ih=>
  rw [YD,W9]
  simp only [List.length_append,List.length_take,List.length_drop]
  lia
theorem GH {α:Type}{a b:List α}{x y:α} (h:a ++ [x]=b ++ [y]):a=b/\x=y:=by
 have h1:=List.append_inj' h rfl
 exact ⟨h1.1,by simpa using h1.2⟩
theorem ZmU {l:List (Str×Int)}{p:Str×Int}{m:Int} (h:Wk (l ++ [p]) m):∃n,Wk l n/\((p.1 = "born" /\ 0<=p.2/\p.2<=n)∨(p.1 = "cross" /\ 0<=p.2/\p.2+1<n)∨(p.1 = "end" /\ 0<=p.2/\p.2+1<n)):=by
 generalize hq:l ++ [p]=q at h
 cases h with
 | nil=>exact absurd hq (by simp)
 | born h h0 h1=>obtain ⟨rfl,rfl⟩:=GH hq;exact ⟨_,h,.inl ⟨rfl,h0,h1⟩⟩
 | cross h h0 h1=>obtain ⟨rfl,rfl⟩:=GH hq;exact ⟨_,h,.inr (.inl ⟨rfl,h0,h1⟩)⟩
 | fin h h0 h1=>obtain ⟨rfl,rfl⟩:=GH hq;exact ⟨_,h,.inr (.inr ⟨rfl,h0,h1⟩)⟩
theorem GQ {ls:List (Str×Int)}{n:Int} (h:Wk ls n):∀i,∃m,Wk (ls.take i) m:=by
 induction h with
 | nil=>intro i;exact ⟨0,by simpa using Wk.nil⟩
 | @born l n k h h0 h1 ih=>
  intro i
  by_cases hi:i<=l.length
  ·rw [List.take_append_of_le_length hi];exact ih i
  ·rw [List.take_of_length_le (by rw [List.length_append,List.length_singleton];lia)];exact ⟨_,Wk.born h h0 h1⟩
 | @cross l n k h h0 h1 ih=>
  intro i
  by_cases hi:i<=l.length
  ·rw [List.take_append_of_le_length hi];exact ih i
  ·rw [List.take_of_length_le (by rw [List.length_append,List.length_singleton];lia)];exact ⟨_,Wk.cross h h0 h1⟩
 | @fin l n k h h0 h1 ih=>
  intro i
  by_cases hi:i<=l.length
  ·rw [List.take_append_of_le_length hi];exact ih i
  ·rw [List.take_of_length_le (by rw [List.length_append,List.length_singleton];lia)];exact ⟨_,Wk.fin h h0 h1⟩
theorem ZdF {ls:List (Str×Int)}{n:Int} (h:Wk ls n) {i:Nat}{p:Str×Int} (hp:ls[i]? = some p):
  ls.take (i+1)=ls.take i ++ [p]/\((p.1 = "born" /\ 0<=p.2/\p.2<=((rb (ls.take i)).1.length:Int))∨(p.1 = "cross" /\ 0<=p.2/\p.2+1<((rb (ls.take i)).1.length:Int))∨(p.1 = "end" /\ 0<=p.2/\p.2+1<((rb (ls.take i)).1.length:Int))):=by
 have e:ls.take (i+1)=ls.take i ++ [p]:=by rw [List.take_add_one,hp];rfl
 refine ⟨e,?_⟩
 obtain ⟨m,hm⟩:=GQ h (i+1)
 rw [e] at hm
 obtain ⟨n',hn,c⟩:=ZmU hm
 rw [U5 hn]
 exact c
def YK (H:Hp) (xs:List V) (rs:List (List Int)):Prop:=Paired (fun x (r:List Int)=>∃t,x=V.ref t/\H t=some (.lst (r.map V.int))) xs rs
theorem YK.mono {H H':Hp} (h:∀t o,V.ref t∈xs->H t=some o->H' t=some o) {rs:List (List Int)} (r:YK H xs rs):YK H' xs rs:=by
 unfold YK at *
 induction r with
 | nil=>exact .nil
 | cons a t ih=>
  obtain ⟨q,e,hq⟩:=a
  subst e
  exact .cons ⟨q,rfl,h q _ List.mem_cons_self hq⟩ (ih fun t o ht=>h t o (List.mem_cons_of_mem _ ht))
def rowsOf (ls:List (Str×Int)) (i:Nat):List (List Int):=(List.range i).map fun j=>(rb (ls.take j)).1
theorem UE (ls:List (Str×Int)) (i:Nat):rowsOf ls (i+1)=rowsOf ls i ++ [(rb (ls.take i)).1]:=by
 unfold rowsOf
 rw [List.range_succ,List.map_append]
 rfl
theorem YK.mem {H:Hp}{xs:List V}{rs:List (List Int)} (r:YK H xs rs) {t:Addr} (h:V.ref t∈xs):∃q:List Int,H t=some (.lst (q.map V.int)):=by
 unfold YK at r
 induction r with
 | nil=>cases h
 | cons a _ ih=>
  obtain ⟨q,e,hq⟩:=a
  rcases List.mem_cons.mp h with z | z
  ·rw [e] at z
   have:t=q:=V.ref.inj z
   subst this
   exact ⟨_,hq⟩
  ·exact ih z
theorem YK.last {H:Hp}{rs:List (List Int)}{r:List Int}:∀{xs:List V} , YK H xs (rs ++ [r]) -> ∃ys t,xs=ys ++ [V.ref t]/\H t=some (.lst (r.map V.int)):=by
 induction rs with
 | nil=>
  intro xs h
  cases h with
  | cons a b=>
   cases b
   obtain ⟨t,e,q⟩:=a
   exact ⟨[],t,by rw [e];rfl,q⟩
 | cons q rs ih=>
  intro xs h
  cases h with
  | @cons x _ l _ a b=>
   obtain ⟨ys,t,e,q⟩:=ih b
   exact ⟨x::ys,t,by rw [e];rfl,q⟩
theorem YK.snoc {H:Hp}{xs:List V}{rs:List (List Int)}{t:Addr}{r:List Int} (h:YK H xs rs) (e:H t=some (.lst (r.map V.int))):YK H (xs ++ [.ref t]) (rs ++ [r]):=Paired.snoc h ⟨t,rfl,e⟩
theorem YK.len {H:Hp}{xs:List V}{rs:List (List Int)} (h:YK H xs rs):xs.length=rs.length:=Paired.length h
theorem WH {H H' G:Hp}{R w:Addr}{ys:List V}{ls:List (Str×Int)}{i:Nat} (hR:H R=none) (sm:Zi H H') (rv:YK H' ys (rowsOf ls (i+1))) (ap:∀t,V.ref t∈ys->H t=none/\t≠R) (nd:ys.Nodup) (hw:H' w=none) (hwR:w≠R)
  (k:∀c o,H' c=some o->c≠R->G c=some o) (gw:G w=some (.lst ((rb (ls.take (i+1))).1.map V.int))):
  Zi H G/\YK G (ys ++ [.ref w]) (rowsOf ls (i+2))/\(∀t,V.ref t∈ys ++ [V.ref w]->H t=none/\t≠R)/\(ys ++ [V.ref w]).Nodup:=by
 refine ⟨fun c o e=>k c o (sm c o e) (Zf e hR),?_,fun t ht=>?_,?_⟩
 ·rw [UE]
  exact YK.snoc (rv.mono fun t o ht e=>k t o e (ap t ht).2) gw
 ·rcases List.mem_append.mp ht with z | z
  ·exact ap t z
  ·have:t=w:=V.ref.inj (List.mem_singleton.mp z)
   subst this
   exact ⟨sm.free hw,hwR⟩
 ·rw [List.nodup_append]
  refine ⟨nd,by simp,fun a ha b hb=>?_⟩
  rw [List.mem_singleton.mp hb]
  intro z
  subst z
  obtain ⟨q,e⟩:=rv.mem ha
  rw [hw] at e
  cases e
theorem ZaX {ls:List (Str×Int)}{n:Int} (h:Wk ls n):n<=2*(ls.length:Int):=by
 induction h with
 | nil=>decide
 | born _ _ _ ih=>rw [List.length_append,List.length_singleton];lia
 | cross _ _ _ ih=>rw [List.length_append,List.length_singleton];lia
 | fin _ _ _ ih=>rw [List.length_append,List.length_singleton];lia
theorem YR {n j:Nat} (h:j<n):ixN n (j:Int)=some j:=by
 unfold ixN
 rw [if_pos (by lia),if_pos (by lia)]
 simp
theorem Zhk (r:List Int) (k:Nat):((r.map V.int).set k (V.int (r.getD (k+1) 0))).set (k+1) (V.int (r.getD k 0))=(Ga r k).map V.int:=by
 unfold Ga
 rw [List.map_set,List.map_set]
theorem map_getD (r:List Int) {k:Nat} (h:k<r.length):(r.map V.int)[k]? = some (V.int (r.getD k 0)):=by
 rw [List.getElem?_map]
 simp [h]
def U8:Sp:=fun vs H Q _=>∃(l:Addr) (xs:List V) (ls:List (Str×Int)),vs = [.ref l]/\H l=some (.lst xs)/\ZC H xs ls/\ls.length<=60/\Wk ls 0 /\ ∀(p:Addr) (H':Hp) (ys:List V),H p=none->Zi H H'->H' p=some (.lst ys)->YK H' ys (rowsOf ls (ls.length+1))->(∀t,V.ref t∈ys->H t=none/\t≠p)->ys.Nodup->Q (.ref p) H'
theorem ZkK {α:Type} (r:List α) (k:Nat) (x y:α) (h:k<=r.length):(r.take k++y::r.drop k).take k++x::(r.take k++y::r.drop k).drop k=r.take k ++ [x,y]++r.drop k:=by
 have hl:(r.take k).length=k:=by rw [List.length_take];lia
 have e1:(r.take k++y::r.drop k).take k=r.take k:=by
  have:=List.take_left' (l₂:=y::r.drop k) hl
  exact this
 have e2:(r.take k++y::r.drop k).drop k=y::r.drop k:=List.drop_left' hl
 rw [e1,e2]
 simp
theorem ZlD {α:Type} (r:List α) (k:Nat):(r.eraseIdx k).eraseIdx k=r.take k++r.drop (k+2):=by
 induction r generalizing k with
 | nil=>simp
 | cons x r ih=>
  cases k with
  | zero=>cases r<;>simp
  | succ k=>
   rw [List.eraseIdx_cons_succ,List.eraseIdx_cons_succ,ih]
   simp
theorem ZdI {n j:Nat} (h:j<n):seqIndex? (j:Int) n=some j:=by
 unfold seqIndex?
 have h0:¬((j:Int)<0):=by lia
 simp [h0,h]
section
variable {κ:Type} [DecidableEq κ]
def Y5 (kvs:List (κ × V)) (k:κ):Option V:=(kvs.find? fun kv=>decide (kv.1=k)).map (·.2)
def putK (kvs:List (κ × V)) (k:κ) (v:V):List (κ × V):=
 if (kvs.any fun kv=>decide (kv.1=k))=true then kvs.map (fun kv=>if kv.1=k then (kv.1,v) else kv) else kvs ++ [(k,v)]
theorem Yy {p:κ × V}{r:List (κ × V)}{k:κ} (e:p.1=k):Y5 (p::r) k=some p.2:=by simp [Y5,List.find?_cons,e]
theorem Yz {p:κ × V}{r:List (κ × V)}{k:κ} (e:¬p.1=k):Y5 (p::r) k=Y5 r k:=by simp [Y5,List.find?_cons,e]
theorem Zbq (k:κ):∀kvs:List (κ × V),(kvs.any fun kv=>decide (kv.1=k))=(Y5 kvs k).isSome
 | []=>rfl
 | p::r=>by
  rw [List.any_cons]
  by_cases e:p.1=k
  ·simp only [Yy e,decide_eq_true e,Bool.true_or,Option.isSome_some]
  ·rw [Yz e,decide_eq_false e,Bool.false_or];exact Zbq k r
theorem ZfI (k j:κ) (y:V):∀kvs:List (κ × V),Y5 (kvs.map fun kv=>if kv.1=k then (kv.1,y) else kv) j=(Y5 kvs j).map fun x=>if j=k then y else x
 | []=>rfl
 | p::r=>by
  have ih:=ZfI k j y r
  rw [List.map_cons]
  by_cases h:p.1=k
  ·rw [if_pos h]
   by_cases e:p.1=j
   ·rw [Yy (p:=(p.1,y)) e,Yy e,Option.map_some,if_pos (e.symm.trans h)]
   ·rw [Yz (p:=(p.1,y)) e,Yz e,ih]
  ·rw [if_neg h]
   by_cases e:p.1=j
   ·rw [Yy (p:=p) e,Yy e,Option.map_some,if_neg (fun z=>h (e.trans z))]
   ·rw [Yz (p:=p) e,Yz e,ih]
theorem Zd0 (k j:κ) (y:V):∀kvs:List (κ × V),Y5 kvs k=none->Y5 (kvs ++ [(k,y)]) j=if j=k then some y else Y5 kvs j
 | [],_=>by
  by_cases e:k=j
  ·rw [if_pos e.symm];exact Yy (p:=(k,y)) e
  ·rw [if_neg (fun z=>e z.symm)];exact Yz (p:=(k,y)) e
 | p::r,hn=>by
  rw [List.cons_append]
  have hk:¬p.1=k:=fun z=>by rw [Yy z] at hn;cases hn
  rw [Yz hk] at hn
  have ih:=Zd0 k j y r hn
  by_cases e:p.1=j
  ·rw [Yy e,Yy e,if_neg (fun z=>hk (e.trans z))]
  ·rw [Yz e,Yz e,ih]
theorem Zdd (kvs:List (κ × V)) (k j:κ) (y:V):Y5 (putK kvs k y) j=if j=k then some y else Y5 kvs j:=by
 unfold putK
 by_cases a:(kvs.any fun kv=>decide (kv.1=k))=true
 ·rw [if_pos a,ZfI]
  rw [Zbq] at a
  by_cases e:j=k
  ·obtain ⟨x,hx⟩:=Option.isSome_iff_exists.mp a
   rw [if_pos e,e,hx,Option.map_some,if_pos rfl]
  ·rw [if_neg e]
   cases Y5 kvs j with
   | none=>rfl
   | some x=>rw [Option.map_some,if_neg e]
 ·rw [if_neg a]
  refine Zd0 k j y kvs ?_
  rw [Zbq] at a
  cases q:Y5 kvs k with
  | none=>rfl
  | some x=>rw [q] at a;exact (a rfl).elim
theorem J6 (kvs:List (κ × V)) (k:κ) (v:V):(putK kvs k v).length<=kvs.length+1:=by
 unfold putK
 split
 ·rw [List.length_map];lia
 ·rw [List.length_append,List.length_cons,List.length_nil];lia
theorem Zbv.isSome_eq {o:Option V}{u:Option Value} (r:Zbv o u):o.isSome=u.isSome:=by
 cases o with
 | none=>cases u with
  | none=>rfl
  | some _=>exact (show False from r).elim
 | some _=>cases u with
  | none=>exact (show False from r).elim
  | some _=>rfl
theorem Zbv.getD {o:Option V}{u:Option Value}{d:V}{d':Value} (r:Zbv o u) (rd:RelV d d'):RelV (o.getD d) (u.getD d'):=by
 cases o with
 | none=>cases u with
  | none=>exact rd
  | some _=>exact (show False from r).elim
 | some _=>cases u with
  | none=>exact (show False from r).elim
  | some _=>exact r
theorem KV.val {kvs:List (κ × V)}{vs:List (κ × Value)} (r:KV kvs vs) (k:κ):Zbv (Y5 kvs k) (valueAt vs k):=by
 unfold KV at r
 induction r with
 | nil=>exact True.intro
 | @cons p q ps qs h t ih=>
  obtain ⟨h1,h2⟩:=h
  by_cases e:p.1=k
  ·have e':q.1=k:=h1.symm.trans e
   have b:valueAt (q::qs) k=some q.2:=by simp [valueAt,List.find?_cons,e']
   rw [Yy e,b];exact h2
  ·have e':¬q.1=k:=fun z=>e (h1.trans z)
   have b:valueAt (q::qs) k=valueAt qs k:=by simp [valueAt,List.find?_cons,e']
   rw [Yz e,b];exact ih
theorem KV.any {kvs:List (κ × V)}{vs:List (κ × Value)} (r:KV kvs vs) (k:κ):(kvs.any fun kv=>decide (kv.1=k))=vs.any fun kv=>decide (kv.1=k):=by
 unfold KV at r
 induction r with
 | nil=>rfl
 | cons h t ih=>rw [List.any_cons,List.any_cons,ih,h.1]
theorem KV.repl {kvs:List (κ × V)}{vs:List (κ × Value)} (r:KV kvs vs) (k:κ) {y:V}{u:Value} (ry:RelV y u):
  KV (kvs.map fun kv=>if kv.1=k then (kv.1,y) else kv) (vs.map fun kv=>if kv.1=k then (kv.1,u) else kv):=by
 unfold KV at r ⊢
 induction r with
 | nil=>exact .nil
 | @cons p q ps qs h t ih=>
  rw [List.map_cons,List.map_cons]
  refine .cons ?_ ih
  obtain ⟨h1,h2⟩:=h
  by_cases e:p.1=k
  ·rw [if_pos e,if_pos (h1.symm.trans e)];exact ⟨h1,ry⟩
  ·rw [if_neg e,if_neg (fun z=>e (h1.trans z))];exact ⟨h1,h2⟩
theorem KV.put {kvs:List (κ × V)}{vs:List (κ × Value)} (r:KV kvs vs) (k:κ) {y:V}{u:Value} (ry:RelV y u):KV (putK kvs k y) (stored vs k u):=by
 unfold putK stored
 rw [r.any k]
 by_cases e:(vs.any fun kv=>decide (kv.1=k))=true
 ·rw [if_pos e,if_pos e];exact r.repl k ry
 ·rw [if_neg e,if_neg e];exact Paired.snoc r ⟨rfl,ry⟩
theorem KV.length {kvs:List (κ × V)}{vs:List (κ × Value)} (r:KV kvs vs):kvs.length=vs.length:=Paired.length r
end
theorem ZbU {P:Program}{w:World}{k:Key}{u:Value} (r:RelV (kV k) u):(ZH P w).is k u=true:=by
 cases k with
 | inl i=>obtain ⟨t,e⟩:=(show ∃t,u=Value.int i t from r);subst e;exact Zfo P w i t
 | inr x=>obtain ⟨t,e⟩:=(show ∃t,u=Value.str x t from r);subst e;exact ZfQ P w x t
theorem Zd5 {P:Program}{w:World}:∀{ks:List Key}{us:List Value},Vals (ks.map kV) us->ItemsAre (ZH P w) ks us
 | [],_,r=>by rw [List.map_nil] at r;cases r;exact .nil
 | k::ks,_,r=>by
  rw [List.map_cons] at r
  cases r with
  | cons h t=>exact .cons (ZbU h) (Zd5 t)
abbrev KT (H:Hp):List (List Key×V)->List (List Key×Addr×Value)->Prop:=Paired fun p q=>p.1=q.1/\H q.2.1=some (.tup (p.1.map kV))/\RelV p.2 q.2.2
theorem KT.val {H:Hp}{kvs:List (List Key×V)}{xs:List (List Key×Addr×Value)} (r:KT H kvs xs) (k:List Key):Zbv (Y5 kvs k) ((atKey xs k).map (·.2)):=by
 induction r with
 | nil=>exact True.intro
 | @cons p q ps qs h t ih=>
  obtain ⟨h1,_,h2⟩:=h
  by_cases e:p.1=k
  ·have e':q.1=k:=h1.symm.trans e
   have b:atKey (q::qs) k=some q.2:=by simp [atKey,List.find?_cons,e']
   rw [Yy e,b];exact h2
  ·have e':¬q.1=k:=fun z=>e (h1.trans z)
   have b:atKey (q::qs) k=atKey qs k:=by simp [atKey,List.find?_cons,e']
   rw [Yz e,b];exact ih
theorem KT.repl {H:Hp}{kvs:List (List Key×V)}{xs:List (List Key×Addr×Value)} (r:KT H kvs xs) (k:List Key) {y:V}{u:Value} (ry:RelV y u):
  KT H (kvs.map fun kv=>if kv.1=k then (kv.1,y) else kv) (xs.map (putAt k u)):=by
 induction r with
 | nil=>exact .nil
 | @cons p q ps qs h t ih=>
  rw [List.map_cons,List.map_cons]
  refine .cons ?_ ih
  obtain ⟨h1,h2,h3⟩:=h
  unfold putAt
  by_cases e:p.1=k
  ·rw [if_pos e,if_pos (h1.symm.trans e)];exact ⟨h1,h2,ry⟩
  ·rw [if_neg e,if_neg (fun z=>e (h1.trans z))];exact ⟨h1,h2,h3⟩
theorem KT.put {H:Hp}{kvs:List (List Key×V)}{xs:List (List Key×Addr×Value)} (r:KT H kvs xs) (k:List Key) {b:Addr}{y:V}{u:Value} (hb:H b=some (.tup (k.map kV))) (ry:RelV y u):
  KT H (putK kvs k y) (storedH xs k b u):=by
 have e:(kvs.any fun kv=>decide (kv.1=k))=(atKey xs k).isSome:=by
  rw [Zbq,(r.val k).isSome_eq,Option.isSome_map]
 unfold putK storedH
 rw [e]
 by_cases q:(atKey xs k).isSome=true
 ·rw [if_pos q,if_pos q];exact r.repl k ry
 ·rw [if_neg q,if_neg q];exact Paired.snoc r ⟨rfl,hb,ry⟩
theorem KT.keeps {H H':Hp}{kvs:List (List Key×V)}{xs:List (List Key×Addr×Value)} (r:KT H kvs xs) (ht:∀b ys,H b=some (.tup ys)->H' b=some (.tup ys)):KT H' kvs xs:=
 Paired.mapP r fun _ _ z=>⟨z.1,ht _ _ z.2.1,z.2.2⟩
section
variable {P:Program}{w:World}{H:Hp}{h:Heap}{a:Addr}
theorem ZiO {u:HO} (ok:W0 P w H h) (e:Rd H a u):ZV P w H h a u:=e.ok ok
theorem Zdc {kvs:List (Key×V)} (ok:W0 P w H h) (e:Rd H a (.dK kvs)):kvs.length<=sizeLine/\(a==sysModules)=false /\ ∃vs,KV kvs vs/\h.DictOf (ZH P w) a vs:=
 show ZV P w H h a (.dK kvs) from ZiO ok e
theorem Zg7 {kvs:List (Key×V)} (ok:W0 P w H h) (e:H a=some (.dK kvs)):kvs.length<=sizeLine/\(a==sysModules)=false /\ ∃vs,KV kvs vs/\h.DictOf (ZH P w) a vs:=Zdc ok (.inl e)
theorem UU {ks:List Key} (ok:W0 P w H h) (e:H a=some (.tup (ks.map kV))):(tupleKind (ZH P w)).is h ks a:=by
 obtain ⟨_,its,r,o,h1,h2,n,h3⟩:=(show ZV P w H h a (.tup (ks.map kV)) from ok a _ e)
 exact ⟨o,its.toArray,n,h1,h2,h3,by simpa using Zd5 r⟩
theorem Zc7 {kvs:List (List Key×V)} (ok:W0 P w H h) (e:Rd H a (.dT kvs)):kvs.length<=sizeLine/\(a==sysModules)=false /\
  ∃xs,KT H kvs xs/\h.DictOfH (tupleKind (ZH P w)) a xs:=by
 obtain ⟨z,y,xs,r,o,es,ep,h1,h2,h3,h4,h5⟩:=(show ZV P w H h a (.dT kvs) from ZiO ok e)
 refine ⟨z,y,xs,r,o,es,ep,h1,h2,h3,h4,fun x hx=>?_,h5⟩
 have all:∀{l:List (List Key×V)}{m:List (List Key×Addr×Value)},KT H l m -> ∀x∈m,(tupleKind (ZH P w)).is h x.1 x.2.1:=by
  intro l m q
  induction q with
  | nil=>intro x hx;exact nomatch hx
  | @cons p q ps qs hq t ih=>
   intro x hx
   rcases List.mem_cons.mp hx with e | hx
   ·subst e
    exact UU ok (by rw [<- hq.1];exact hq.2.1)
   ·exact ih x hx
 exact all r x hx
theorem ZlS {kvs:List (List Key×V)} (ok:W0 P w H h) (e:H a=some (.dT kvs)):kvs.length<=sizeLine/\(a==sysModules)=false /\
  ∃xs,KT H kvs xs/\h.DictOfH (tupleKind (ZH P w)) a xs:=Zc7 ok (.inl e)
end
def Uv (H:Hp) (a:Addr) (y:V) (r:Option V):Prop:=
 (∃kvs k,Rd H a (.dK kvs)/\y=kV k/\r=Y5 kvs k) ∨ ∃kvs k b,Rd H a (.dT kvs)/\y = .ref b/\H b=some (.tup (k.map kV))/\r=Y5 kvs k
def ZfF (H:Hp) (a:Addr) (y v:V) (H':Hp):Prop:=
 (∃kvs k,H a=some (.dK kvs)/\y=kV k/\kvs.length<sizeLine/\H'=upd H a (.dK (putK kvs k v))) ∨
 ∃kvs k b,H a=some (.dT kvs)/\y = .ref b/\H b=some (.tup (k.map kV))/\kvs.length<sizeLine/\H'=upd H a (.dT (putK kvs k v))
theorem Uv.k {H:Hp}{a:Addr}{kvs:List (Key×V)}{k:Key} (e:H a=some (.dK kvs)):Uv H a (kV k) (Y5 kvs k):=.inl ⟨kvs,k,.inl e,rfl,rfl⟩
theorem ZfF.k {H:Hp}{a:Addr}{kvs:List (Key×V)}{k:Key}{v:V} (e:H a=some (.dK kvs)) (hl:kvs.length<sizeLine):ZfF H a (kV k) v (upd H a (.dK (putK kvs k v))):=.inl ⟨kvs,k,e,rfl,hl,rfl⟩
section
variable {X:Cx}{pins:List (Addr×Obj)} {σ:St}{H:Hp}{s:Shared}{a:Addr}{y v:V}{u r:Value}{o:Option V}{A:Around}{E:Value->Shared->Prop}
theorem Inv.big (I:Inv X pins σ H s):sysModules<s.heap.objs.size:=by
 have h:mainGlobals<s.heap.objs.size:=(I.mod.glob.keeps I.bk).lt
 exact Nat.lt_trans (by decide) h
theorem ZhQ {Q:Value->Shared->Prop} (hu:A.units+1<cLine) (I:Inv X pins σ H s) (g:Uv H a y (some v)) (ry:RelV y u) (h:∀w' s',Inv X pins σ H s'->RelV v w'->Q w' s'):
  wpAny (model X.prog X.w) A (getItem (.ref a) u) Q E s:=by
 rcases g with ⟨kvs,k,e,ey,l⟩ | ⟨kvs,k,b,e,ey,eb,l⟩
 ·subst ey
  obtain ⟨z,hd,vs,rel,dd⟩:=Zdc I.hok e
  obtain ⟨w',hw,rw'⟩:=Zbv.some_of (v:=v) (o:=valueAt vs k) (by rw [l];exact rel.val k)
  exact wpAny_getItem_of (ZbU ry) dd.mapOf hw (h w' _ (I.tok _) rw')
 ·subst ey
  cases (show u=Value.ref b from ry)
  obtain ⟨z,hd,xs,rel,dd⟩:=Zc7 I.hok e
  obtain ⟨w',hw,rw'⟩:=Zbv.some_of (v:=v) (o:=(atKey xs k).map (·.2)) (by rw [l];exact rel.val k)
  obtain ⟨p,hp,hp2⟩:=Option.map_eq_some_iff.mp hw
  refine wpAny_getItem_heap (tupleKind_room_in1 hu) (UU I.hok eb) dd hp ?_
  rw [hp2]
  exact h w' _ (I.tok _) rw'
theorem Zom {Q:Value->Shared->Prop} (hu:A.units+1<cLine) (I:Inv X pins σ H s) (g:Uv H a y o) (ry:RelV y u) (h:∀s',Inv X pins σ H s'->Q (.bool o.isSome) s'):
  wpAny (model X.prog X.w) A (compareOp .In u (.ref a)) Q E s:=by
 rcases g with ⟨kvs,k,e,ey,l⟩ | ⟨kvs,k,b,e,ey,eb,l⟩
 ·subst ey
  obtain ⟨z,hd,vs,rel,dd⟩:=Zdc I.hok e
  refine wpAny_in_of (ZbU ry) hd dd.mapOf ?_
  rw [<- (rel.val k).isSome_eq,<- l]
  exact h _ (I.tok _)
 ·subst ey
  cases (show u=Value.ref b from ry)
  obtain ⟨z,hd,xs,rel,dd⟩:=Zc7 I.hok e
  refine wpAny_in_heap (tupleKind_room_in1 hu) (UU I.hok eb) hd dd ?_
  have q:=(rel.val k).isSome_eq
  rw [Option.isSome_map] at q
  rw [<- q,<- l]
  exact h _ (I.tok _)
theorem Zaf {h':Heap}{t':Nat}{ob:HO} (I:Inv X pins σ H s) (mu:Mut (H a)) (hs:Heap.SameBut a s.heap h') (he:∃q,h'.get? a=some q) (new:ZV X.prog X.w (upd H a ob) h' a ob):
  Inv X pins σ (upd H a ob) { s with heap:=h',toks:=t' }:=
 I.write (x:=a) (e:=a) mu (.inl rfl) (fun b q hb z=>(hs.2 b hb).trans z) he new
theorem Zgz {P:Program}{w:World}{H':Hp}{h':Heap}{kvs:List (Key×V)}{vs:List (Key×Value)} (z:kvs.length<=sizeLine) (hd:(a==sysModules)=false) (rel:KV kvs vs) (dd:h'.DictOf (ZH P w) a vs):
  ZV P w H' h' a (.dK kvs):=⟨z,hd,vs,rel,dd⟩
theorem ZhX {H':Hp}{Q:Unit->Shared->Prop} (hu:A.units+1<cLine) (I:Inv X pins σ H s) (g:ZfF H a y v H') (ry:RelV y u) (rv:RelV v r) (h:∀s',Inv X pins σ H' s'->Q () s'):
  wpAny (model X.prog X.w) A (setItem (.ref a) u r) Q E s:=by
 rcases g with ⟨kvs,k,e,ey,l,eH⟩ | ⟨kvs,k,b,e,ey,eb,l,eH⟩
 ·subst ey eH
  obtain ⟨z,hd,vs,rel,dd⟩:=Zg7 I.hok e
  have hz:vs.length<=sizeLine:=by rw [<- rel.length];exact z
  have hl:(putK kvs k v).length<=sizeLine:=by have:=J6 kvs k v;lia
  refine wpAny_setItem_pairs (hsz:=hz) (ZbU ry) dd fun h' dd' hs=>h _ ?_
  have he:∃q,h'.get? a=some q:=let ⟨q,_,_,hq,_⟩:=dd';⟨q,hq⟩
  exact Zaf I (by rw [e];exact True.intro) hs he (Zgz hl hd (rel.put k rv) dd')
 ·subst ey eH
  cases (show u=Value.ref b from ry)
  obtain ⟨z,hd,xs,rel,dd⟩:=ZlS I.hok e
  have hz:xs.length<=sizeLine:=by rw [<- Paired.length rel];exact z
  have hl:(putK kvs k v).length<=sizeLine:=by have:=J6 kvs k v;lia
  refine wpAny_setItem_heap (hsz:=hz) (tupleKind_room_in1 hu) (UU I.hok eb) dd fun h' dd' hs=>h _ ?_
  obtain ⟨q,es,ep,hq,h2,h3,h4,_,h5⟩:=dd'
  refine Zaf I (by rw [e];exact True.intro) hs ⟨q,hq⟩ ⟨hl,hd,_,(rel.put k eb rv).keeps fun c ys ec=>?_,q,es,ep,hq,h2,h3,h4,h5⟩
  rw [Zh (ZaZ ec e (fun z=>nomatch z))]
  exact ec
end
def ZnD (i:Expr):Prop:=∀ov iv,subscripted i false ov iv=operate [ov,iv] (getItem ov iv)
theorem ZkJ {prog:Program}{w:World}{A:Around}{E:Value->Shared->Prop}{s:Shared}{env:Env}{value slice:Expr}{pos:Pos}{T id:String}{Q:Value->Shared->Prop}
  (hl:typeLookup (.type T) "__getitem__" = pure (some (.builtin id))) (hs:ZnD slice)
  (h:wpAny (model prog w) A (eval value env) (fun o s₁=>wpAny (model prog w) A (eval slice env) (fun i s₂=>s₂.TypeIs o T/\wpAny (model prog w) A (getItem o i) Q E s₂) E s₁) E s):
  wpAny (model prog w) A (eval (.Subscript value slice pos) env) Q E s:=by
 refine Subscript_ (wpAny_mono h (fun o s₁ h₁=>wpAny_mono h₁ (fun i s₂ h₂=>?_) fun _ _ x=>x) fun _ _ x=>x)
 obtain ⟨hT,h₂⟩:=h₂
 unfold subscriptTail
 refine wpAny_bind ?_
 rw [getitemInPython_of_ne hT.not_modules]
 refine wpAny_bind (wpAny_specialOf hT hl ?_)
 have fin:wpAny (model prog w) A (subscripted slice false o i) (fun r s₃=>wpAny (model prog w) A (letTemporaryGo value o r >>= fun _=>pure r) Q E s₃) E s₂:=by
  rw [hs o i]
  exact wpAny_operating (wpAny_mono h₂ (fun r s₃ h₃=>wpAny_bind (wpAny_letTemporaryGo (wpAny_pure h₃))) fun _ _ x=>x)
 first
  | exact wpAny_pure (wpAny_bind fin)
  | exact wpAny_bind (wpAny_pure (wpAny_bind fin))
  | exact wpAny_bind fin
theorem ZfR {X:Cx}{pins:List (Addr×Obj)} {σ:St}{H:Hp}{s:Shared}{a:Addr}{y:V}{o:Option V} (I:Inv X pins σ H s) (g:Uv H a y o):s.TypeIs (.ref a) "dict" := by
 rcases g with ⟨kvs,k,e,_,_⟩ | ⟨kvs,k,b,e,_,_,_⟩
 ·obtain ⟨_,_,vs,_,dd⟩:=Zdc I.hok e
  exact dd.typeIs
 ·obtain ⟨_,_,xs,_,dd⟩:=Zc7 I.hok e
  exact dd.typeIs
def Ziv (ty td:TE):TE:=fun σ H Q=>ty σ H fun y H1=>td σ H1 fun x H2=>∃a o,x = .ref a/\Uv H2 a y o/\Q (.bl o.isSome) H2
section
variable {X:Cx}{o i e value:Expr}{pos pos' tpos:Pos}{td ty tv:TE}
theorem Zee (hu:X.A.units+1<cLine) (hi:PE X i ty) (ho:PE X o td):PC X .In i o (Ziv ty td):=by
 intro pins s σ H Q I h
 refine Yq (hi pins s σ H _ I h) fun iv s1 ⟨y,H1,I1,ry,q1⟩=>Yq (ho pins s1 σ H1 _ I1 q1) fun u s2 ⟨x,H2,I2,rx,a,ov,ex,g,q2⟩=>?_
 subst ex
 obtain rfl:u=Value.ref a:=rx
 exact Zom hu I2 g ry fun s3 I3=>⟨.bl ov.isSome,H2,I3,rfl,q2⟩
end
theorem ZfD {P:Program}{w:World}{H:Hp} (h:Heap) (hb:sysModules<h.objs.size):ZV P w H (h.push { cls:=.type "dict", data:=.dict #[] }) h.objs.size (.dK []):=
 ⟨Nat.zero_le _,beq_eq_false_iff_ne.mpr (Ne.symm (Nat.ne_of_lt hb)),[],.nil,Heap.DictOf.new h⟩
theorem Zfq {P:Program}{w:World}{H:Hp} (h:Heap) (hb:sysModules<h.objs.size):ZV P w H (h.push { cls:=.type "dict", data:=.dict #[] }) h.objs.size (.dT []):=
 ⟨Nat.zero_le _,beq_eq_false_iff_ne.mpr (Ne.symm (Nat.ne_of_lt hb)),[],.nil,_,#[],0,Heap.get?_push_size _ rfl,⟨rfl,rfl,rfl⟩,rfl,rfl,List.nodup_nil⟩
def Zka:TE:=fun _ H Q=>∀p,H p=none->Q (.ref p) (upd H p (.dK []))
def Zmp:TE:=fun _ H Q=>∀p,H p=none->Q (.ref p) (upd H p (.dT []))
section
variable {X:Cx}{pos:Pos}
theorem Zfn:PE X (.Dict [] [] pos) Zka:=fun pins s σ H Q I h=>
 wpAny_Dict_empty ⟨.ref s.heap.objs.size,_,I.laid (a:=s.heap.objs.size) (o:=.dK []) (t':=s.toks) (fun _ _ q=>Heap.get?_push_of_some _ q) (Nat.le_refl _) (ZfD s.heap I.big),rfl,h _ (I.hok.fresh (Nat.le_refl _))⟩
theorem ZiY:PE X (.Dict [] [] pos) Zmp:=fun pins s σ H Q I h=>
 wpAny_Dict_empty ⟨.ref s.heap.objs.size,_,I.laid (a:=s.heap.objs.size) (o:=.dT []) (t':=s.toks) (fun _ _ q=>Heap.get?_push_of_some _ q) (Nat.le_refl _) (Zfq s.heap I.big),rfl,h _ (I.hok.fresh (Nat.le_refl _))⟩
end
theorem ZV.there {P:Program}{w:World}{H:Hp}{h:Heap}{a:Addr}{o:HO} (x:ZV P w H h a o):∃ob,h.get? a=some ob:=by
 cases o with
 | lst xs=>obtain ⟨_,_,_,_,e⟩:=x;exact ⟨_,e⟩
 | tup xs=>obtain ⟨_,_,_,_,e,_⟩:=x;exact ⟨_,e⟩
 | dK kvs=>obtain ⟨_,_,_,_,o,_,_,e,_⟩:=x;exact ⟨_,e⟩
 | dT kvs=>obtain ⟨_,_,_,_,o,_,_,e,_⟩:=x;exact ⟨_,e⟩
 | set S n=>obtain ⟨o,_,_,_,e,_⟩:=x;exact ⟨_,e⟩
 | ins C dx fs=>obtain ⟨_,_,_,e,_⟩:=x;exact ⟨_,e⟩
 | own y=>obtain ⟨_,e⟩:=x;exact ⟨_,e⟩
 | xd fs=>obtain ⟨_,⟨_,_,_,e,_⟩,_⟩:=x;exact ⟨_,e⟩
 | rng lo hi=>obtain ⟨_,_,_,e⟩:=x;exact ⟨_,e⟩
 | frz ob u=>obtain ⟨e,_⟩:=x;exact ⟨_,e⟩
 | tbl ps=>exact ⟨_,x⟩
 | met f y=>exact ⟨_,x⟩
 | ext φ=>obtain ⟨_,⟨_,e⟩,_⟩:=x;exact ⟨_,e⟩
theorem Zkm {h:Heap}{a:Addr}{m m':Str->Option Value} (x:h.Ns a m) (y:h.Ns a m'):m=m':=by
 obtain ⟨o,es,ep,ho,hd,_,hm⟩:=x
 obtain ⟨o',es',ep',ho',hd',_,hm'⟩:=y
 rw [ho] at ho'
 cases ho'
 rw [hd] at hd'
 cases hd'
 exact funext fun n=>(hm n).symm.trans (hm' n)
section
variable {X:Cx}{pins:List (Addr×Obj)} {σ:St}{H:Hp}{s:Shared}
theorem Inv.laidN {h':Heap}{D:Addr}{o:HO}{t':Nat}{m:Str->Option Value} (I:Inv X pins σ H s) (F:Fr X.base X.env.locals s.heap m) (F':Fr X.base X.env.locals h' m)
  (N':News X.base X.env.locals h' (W5 X.base s.heap X.env.locals)) (hD:s.heap.get? D=none) (hn:H D=none) (new:ZV X.prog X.w (upd H D o) h' D o):Inv X pins σ (upd H D o) { s with heap:=h',toks:=t' }:=by
 have kp:∀b u,b≠X.env.locals->s.heap.get? b=some u->h'.get? b=some u:=fun b u hb e=>by
  cases q:X.base.get? b with
  | some v=>
   have e1:=F'.keep b v q
   have e2:=F.keep b v q
   rw [e] at e2
   cases e2
   exact e1
  | none=>exact (N' (b,u) (UA hb q e)).1
 have neL:∀b u,H b=some u->b≠X.env.locals:=fun b u e z=>by rw [z,I.free] at e;cases e
 refine I.step (g':=s.gens) (d':=s.drawn) (ch:=[]) (fun _ z=>nomatch z) (fun b ob hb _ _ e _=>kp b ob hb e) (fun b ob hb _ _ e _=>⟨ob.slots,kp b ob hb e⟩) (fun b ob _ e n=>?_) (fun b ob _ e=>?_) (fun b xs e=>?_) (fun b ob u e=>?_) (fun b ps e=>⟨#[],?_⟩) (fun m' hm=>?_) (fun b u e=>?_) I.bare
 ·rw [Zh (fun z=>by subst z;rw [hD] at e;cases e)]
  exact n
 ·by_cases hb:b=X.env.locals
  ·subst hb
   obtain ⟨ob',_,_,z,_⟩:=F'.ns
   exact ⟨ob',z⟩
  ·exact ⟨ob,kp b ob hb e⟩
 ·rw [Zh (Zf e hn)];exact e
 ·rw [Zh (Zf e hn)];exact e
 ·rw [Zh (Zf e hn),e];simp
 ·rw [Zkm hm F.ns];exact F'.ns
 ·by_cases hb:b=D
  ·subst hb;rw [Zc] at e;cases e;exact new
  ·rw [Zh hb] at e
   refine (I.hok b u e).stay (fun c v hc q=>kp c v ?_ q) (fun c q=>by rw [Zh (Zf q hn)];exact q) fun c xs q=>by rw [Zh (Zf q hn)];exact q
   rcases hc with z | z
   ·subst z;exact neL _ u e
   ·exact neL c _ z
end
section
variable {X:Cx}
theorem Zec (hc:X.calm=true):Jw X (.builtin "sorted") (fun xs H Q=>∃(p:Addr) (kvs:List (Key×V)) (ns:List Int),xs = [.ref p]/\H p=some (.dK kvs)/\kvs.map (·.1)=ns.map Sum.inl/\ns.length<64 /\
  ∀(l:Addr) (ns':List Int),H l=none->ns'.Perm ns->ns'.Pairwise (· <= ·)->Q (.ref l) (upd H l (.lst (ns'.map V.int)))):=by
 intro pins s σ H xs us Q I r h
 obtain ⟨p,kvs,ns,rfl,hp,hk,h64,q⟩:=h
 obtain ⟨u,rfl,ru⟩:=r.one
 cases ru
 obtain ⟨z,hsm,vs,rel,ob,es,ep,hd⟩:=Zg7 I.hok hp
 obtain ⟨m,fr⟩:=I.fr
 have lv:kvs.length=vs.length:=Paired.length rel
 have ln:kvs.length=ns.length:=by simpa using congrArg List.length hk
 refine W.kdu_sorted (W.kdl_dict (knd:=ZH X.prog X.w) (kvs:=vs) (ep:=ep) hsm) (I.ok.hd hc) fr (news:=W5 X.base s.heap X.env.locals) Zfy ⟨ob,es,hd⟩ (by lia) fun D h' tk ws fr' nw' lt' hlen hP=>?_
 have ia:IntsAre ws ns:=by
  have key:∀(ws:List Value) (ns:List Int),ws.length=ns.length->(∀(j:Nat) (v:Value) (n:Int),ws[j]? = some v->ns[j]? = some n -> ∃t,v = .int n t)->IntsAre ws ns:=by
   intro ws
   induction ws with
   | nil=>intro ns hl _;cases ns with
    | nil=>exact .nil
    | cons _ _=>cases hl
   | cons w ws ih=>
    intro ns hl h
    cases ns with
    | nil=>cases hl
    | cons n ns=>
     obtain ⟨t,rfl⟩:=h 0 w n rfl rfl
     exact .cons n t (ih ns (by simpa using hl) fun j v n' e1 e2=>h (j+1) v n' (by simpa using e1) (by simpa using e2))
  refine key ws ns (by lia) fun j v n e1 e2=>?_
  obtain ⟨k,x,e3,e4⟩:=hP j v e1
  have e5:(kvs.map (·.1))[j]? = some k:=by
   have hj:j<kvs.length:=by have:=(List.getElem?_eq_some_iff.mp e3).1;lia
   have key:∀(kvs:List (Key×V)) (vs:List (Key×Value)),KV kvs vs -> ∀j:Nat,(kvs.map (·.1))[j]? = (vs.map (·.1))[j]?:=by
    intro kvs vs rel
    unfold KV at rel
    induction rel with
    | nil=>intro j;rfl
    | cons a _ ih=>
     intro j
     cases j with
     | zero=>simp [a.1]
     | succ j=>simpa using ih j
   rw [key kvs vs rel j,List.getElem?_map,e3]
   rfl
  rw [hk,List.getElem?_map,e2] at e5
  cases e5
  rcases Yp (k:=Sum.inl n) (v:=v) e4 with ⟨i,t,z1,z2⟩ | ⟨x',t,z1,z2⟩
  ·cases z1;exact ⟨t,z2⟩
  ·cases z1
 refine W.ksk_lsort (vs:=ws) (its:=ws.toArray) (n:=0) fr' nw' (news':=fun o=>(D,o)::W5 X.base s.heap X.env.locals) (fun o=>.head fun q hq=>Nat.ne_of_lt (lt' q hq)) rfl ia h64 fun vs' ns' c h'' fr'' nw'' ia' hl' perm pw _=>?_
 have hD:s.heap.get? D=none:=by
  have nb:X.base.get? D=none:=(nw' (D,W.listOf ws.toArray 0) List.mem_cons_self).2.2
  have nL:D≠X.env.locals:=(nw' (D,W.listOf ws.toArray 0) List.mem_cons_self).2.1
  cases e:s.heap.get? D with
  | none=>rfl
  | some o=>exact absurd (lt' (D,o) (UA nL nb e)) (Nat.lt_irrefl _)
 have fresh:H D=none:=by
  cases e:H D with
  | none=>rfl
  | some o=>
   obtain ⟨ob,e2⟩:=(I.hok D o e).there
   rw [hD] at e2
   cases e2
 have I2:=I.laidN (o:=.lst (ns'.map V.int)) (D:=D) (h':=h'') (t':=tk) fr fr'' (fun q hq=>nw'' q (List.mem_cons_of_mem _ hq)) hD fresh ⟨by
  rw [List.length_map,hl']
  lia,vs',c,Zab ia',(nw'' _ List.mem_cons_self).1⟩
 exact ⟨.ref D,_,I2,rfl,q D ns' fresh perm pw⟩
def Znb:R2:=fun x y H Q=>∃a v,x = .ref a/\Uv H a y (some v)/\Q v H
theorem GU (hu:X.A.units+1<cLine):IxR X Znb:=by
 intro value slice pins s σ H x y v u Q I rx ry h hs
 obtain ⟨a,w,rfl,g,q⟩:=h
 cases rx
 exact tail_any (ops:=[.ref a,u]) (ZfR I g) PySem.F.slot_dict_getitem.lookup (ZhQ hu I g ry fun w' s3 I3 rw'=>⟨w,H,I3,rw',q⟩) hs
def ZfA:V->V->V->Hp->(Hp->Prop)->Prop:=fun o i v H Q=>∃a H',o = .ref a/\ZfF H a i v H'/\Q H'
theorem set_dict (hu:X.A.units+1<cLine):ZkX X ZfA:=by
 intro pins s σ H o i v ov iv u Q I ro ri rv h
 obtain ⟨a,H',rfl,g,q⟩:=h
 cases ro
 exact ZhX hu I g ri rv fun s' I'=>⟨H',I',q⟩
def ZnY (K:PySem.W.Frag) (n:Nat) (t:TGs):TG:=fun v σ H Q=>∃a xs,v = .ref a/\Zw K H a xs/\xs.length=n/\t xs σ H Q
theorem ZmS {es:List Expr}{k:Nat}{t:TGs}{n:Nat}{pos:Pos} (hc:X.calm=true) (h:PGs X es t)
  (hn:(assignEach es X.env).length=n:=by rfl) (hst:(assignEach es X.env).findIdx? (·.1)=none:=by rfl):PG X (.Tuple es k pos) (ZnY X.K n t):=by
 intro pins s σ H v u Q I r hw
 obtain ⟨a,xs,e1,hq,hl,hw⟩:=hw
 subst e1
 cases r
 obtain ⟨its,rv,p,hz⟩:=I.list hq
 rw [arm_assign_Tuple]
 refine wpAny_bind (wpAny_standAt ?_)
 unfold unpack
 rw [hst]
 refine wpAny_bind (wpAny_holding ?_)
 have e:(assignEach es X.env).length=its.toArray.size:=by rw [hn,<- hl,rv.length];simp
 rw [e]
 refine W.kun_itemsOf (I.ok.hd hc) p.isList fun h' hx=>?_
 have I1:Inv X pins σ H { s with heap:=h' }:=I.kept (t':=s.toks) fun b o e=>hx b o (Nat.ne_of_lt (Heap.lt_size e)) e
 exact h pins _ σ H xs _ Q I1 (by simpa using rv) hw
theorem Zch {K:PySem.W.Frag}{es:List Expr}{k:Nat}{t:TGs}{n:Nat}{pos:Pos} (hk:X.K=K) (hc:X.calm=true) (h:PGs X es t)
  (hn:(assignEach es X.env).length=n:=by rfl) (hst:(assignEach es X.env).findIdx? (·.1)=none:=by rfl):PG X (.Tuple es k pos) (ZnY K n t):=hk ▸ ZmS hc h hn hst
end
def bw (x:Int):Int:=if x % 2=0 then x+1 else x-1
theorem ZbX (x:Int):bw (bw x)=x:=by unfold bw;split<;>split<;>lia
theorem ZnV (x:Int):bw x≠x:=by unfold bw;split<;>lia
structure JG (m:Int->Int) (N:Int):Prop where
 lo:∀x,0<=x->x<N->0<=m x
 hi:∀x,0<=x->x<N->m x<N
 inv:∀x,0<=x->x<N->m (m x)=x
 ne:∀x,0<=x->x<N->m x≠x
 ev:N % 2=0
theorem Zi3 {N x:Int} (e:N % 2=0) (h0:0<=x) (h1:x<N):0<=bw x/\bw x<N:=by unfold bw;split<;>omega
def gt (m:Int->Int) (f:Int):Nat->Int
 | 0=>f
 | i+1=>bw (m (gt m f i))
def Wh (m:Int->Int) (f:Int):Nat->List Int
 | 0=>[]
 | i+1=>Wh m f i ++ [gt m f i,m (gt m f i)]
theorem J3 (m:Int->Int) (f:Int):∀i,(Wh m f i).length=2*i
 | 0=>rfl
 | i+1=>by
  simp only [Wh,List.length_append,J3 m f i,List.length_cons,List.length_nil]
  lia
theorem YQ {m:Int->Int}{f x:Int}:∀{i:Nat},x∈Wh m f i ↔ ∃j,j<i/\(x=gt m f j∨x=m (gt m f j))
 | 0=>by simp [Wh]
 | i+1=>by
  simp only [Wh,List.mem_append,YQ (i:=i),List.mem_cons,List.not_mem_nil,or_false]
  constructor
  ·rintro (⟨j,h,e⟩ | h)
   ·exact ⟨j,by lia,e⟩
   ·exact ⟨i,by lia,h⟩
  ·rintro ⟨j,h,e⟩
   by_cases hj:j=i
   ·subst hj;exact .inr e
   ·exact .inl ⟨j,by lia,e⟩
section
variable {m:Int->Int}{N f:Int}
theorem YF (M:JG m N) (h0:0<=f) (h1:f<N):∀i,0<=gt m f i/\gt m f i<N
 | 0=>⟨h0,h1⟩
 | i+1=>by
  obtain ⟨a,b⟩:=YF M h0 h1 i
  exact Zi3 M.ev (M.lo _ a b) (M.hi _ a b)
theorem Zkl (M:JG m N) (h0:0<=f) (h1:f<N):∀d j,gt m f (j+d)≠m (gt m f j)
 | 0,j=>fun e=>M.ne _ (YF M h0 h1 j).1 (YF M h0 h1 j).2 e.symm
 | 1,j=>ZnV _
 | d+2,j=>fun e=>by
  refine Zkl M h0 h1 d (j+1) ?_
  have e1:bw (m (gt m f (j+d+1)))=m (gt m f j):=e
  have e2:m (gt m f (j+d+1))=bw (m (gt m f j)):=by rw [<- e1,ZbX]
  have e3:gt m f (j+1)=m (gt m f (j+d+1)):=e2.symm
  have dm:=YF M h0 h1 (j+d+1)
  rw [e3,M.inv _ dm.1 dm.2]
  congr 1
  lia
theorem Zhf (M:JG m N) (h0:0<=f) (h1:f<N) (i j:Nat):gt m f i≠m (gt m f j):=by
 by_cases h:j<=i
 ·have:=Zkl M h0 h1 (i-j) j
  rwa [show j+(i-j)=i by lia] at this
 ·intro e
  refine Zkl M h0 h1 (j-i) i ?_
  rw [show i+(j-i)=j by lia,e]
  exact (M.inv _ (YF M h0 h1 j).1 (YF M h0 h1 j).2).symm
theorem ZlM (M:JG m N) {x y:Int} (hx:0<=x/\x<N) (hy:0<=y/\y<N) (e:m x=m y):x=y:=by
 rw [<- M.inv x hx.1 hx.2,e,M.inv y hy.1 hy.2]
theorem Zhc (M:JG m N) (h0:0<=f) (h1:f<N):∀j d,gt m f (j+d)=gt m f j->gt m f d=f
 | 0,d,e=>by simpa [gt] using e
 | j+1,d,e=>by
  refine Zhc M h0 h1 j d (ZlM M (YF M h0 h1 _) (YF M h0 h1 _) ?_)
  have e1:bw (m (gt m f (j+d)))=bw (m (gt m f j)):=by
   have:j+1+d=j+d+1:=by lia
   rw [this] at e
   exact e
  rw [<- ZbX (m (gt m f (j+d))),e1,ZbX]
theorem Zei (M:JG m N) (h0:0<=f) (h1:f<N) {i j:Nat} (hj:j<i) (e:gt m f i=gt m f j):gt m f (i-j)=f:=by
 refine Zhc M h0 h1 j (i-j) ?_
 rw [show j+(i-j)=i by lia]
 exact e
theorem Zbw (M:JG m N) (h0:0<=f) (h1:f<N):∀i,(∀j,1<=j->j<i->gt m f j≠f)->(Wh m f i).Nodup
 | 0,_=>by simp [Wh]
 | i+1,h=>by
  have ih:=Zbw M h0 h1 i fun j a b=>h j a (by lia)
  show (Wh m f i ++ [gt m f i,m (gt m f i)]).Nodup
  rw [List.nodup_append]
  refine ⟨ih,by simp [Zhf M h0 h1 i i],fun a ha b hb=>?_⟩
  obtain ⟨j,hj,e⟩:=YQ.mp ha
  have hb:b=gt m f i∨b=m (gt m f i):=by simpa using hb
  intro z
  subst z
  rcases e with e | e<;>rcases hb with z | z
  ·exact h (i-j) (by lia) (by lia) (Zei M h0 h1 hj (z.symm.trans e))
  ·exact Zhf M h0 h1 j i (e.symm.trans z)
  ·exact Zhf M h0 h1 i j (z.symm.trans e)
  ·exact h (i-j) (by lia) (by lia) (Zei M h0 h1 hj (ZlM M (YF M h0 h1 _) (YF M h0 h1 _) (z.symm.trans e)))
theorem ZhI (M:JG m N) (h0:0<=f) (h1:f<N) {i:Nat}{x:Int} (hx:x∈Wh m f i):0<=x/\x<N:=by
 obtain ⟨j,_,e | e⟩:=YQ.mp hx
 ·rw [e];exact YF M h0 h1 j
 ·rw [e];exact ⟨M.lo _ (YF M h0 h1 j).1 (YF M h0 h1 j).2,M.hi _ (YF M h0 h1 j).1 (YF M h0 h1 j).2⟩
theorem J7:∀(n:Nat) (l:List Int),l.Nodup->(∀x∈l,0<=x/\x<(n:Int))->l.length<=n
 | 0,l,_,h=>by
  cases l with
  | nil=>simp
  | cons x _=>have:=h x List.mem_cons_self;lia
 | n+1,l,nd,h=>by
  by_cases hn:(n:Int)∈l
  ·have h1:=J7 n (l.erase (n:Int)) (nd.erase _) fun x hx=>by
    have h2:=(nd.mem_erase_iff).mp hx
    have:=h x h2.2
    have:=h2.1
    lia
   rw [List.length_erase_of_mem hn] at h1
   lia
  ·have h1:=J7 n l nd fun x hx=>by
    have:=h x hx
    have h3:x≠(n:Int):=fun z=>hn (z ▸ hx)
    lia
   lia
theorem Gy (M:JG m N) (h0:0<=f) (h1:f<N) {i:Nat} (h:∀j,1<=j->j<i->gt m f j≠f):2*(i:Int)<=N:=by
 have:=J7 N.toNat (Wh m f i) (Zbw M h0 h1 i h) fun x hx=>by
  have:=ZhI M h0 h1 hx
  lia
 rw [J3] at this
 lia
theorem Zi5 (M:JG m N) (h0:0<=f) (h1:f<N) {i:Nat} (h:∀j,1<=j->j<i->gt m f j≠f):gt m f i∈Wh m f i ↔ (1<=i/\gt m f i=f):=by
 constructor
 ·intro hx
  obtain ⟨j,hj,e | e⟩:=YQ.mp hx
  ·have:=Zei M h0 h1 hj e
   by_cases z:j=0
   ·subst z;exact ⟨by lia,this⟩
   ·exact absurd this (h (i-j) (by lia) (by lia))
  ·exact absurd e (Zhf M h0 h1 i j)
 ·rintro ⟨a,e⟩
  exact YQ.mpr ⟨0,by lia,.inl e⟩
end
def Y6 (m:Int->Int) (f:Int) (T:List Int):Prop:=∃L,1<=L/\gt m f L=f/\(∀j,1<=j->j<L->gt m f j≠f)/\T=Wh m f L
theorem Y6.uniq {m:Int->Int}{f:Int}{T T':List Int} (a:Y6 m f T) (b:Y6 m f T'):T=T':=by
 obtain ⟨L,h1,e1,n1,rfl⟩:=a
 obtain ⟨L',h2,e2,n2,rfl⟩:=b
 have:L=L':=by
  rcases Nat.lt_trichotomy L L' with z | z | z
  ·exact absurd e1 (n2 L h1 z)
  ·exact z
  ·exact absurd e2 (n1 L' h2 z)
 rw [this]
theorem Y6.self {m:Int->Int}{f:Int}{T:List Int} (a:Y6 m f T):f∈T:=by
 obtain ⟨L,h1,e1,n1,rfl⟩:=a
 exact YQ.mpr ⟨0,by lia,.inl rfl⟩
theorem Y6.dom {m:Int->Int}{N f:Int}{T:List Int} (M:JG m N) (h0:0<=f) (h1:f<N) (a:Y6 m f T):∀x∈T,0<=x/\x<N:=by
 obtain ⟨L,_,_,_,rfl⟩:=a
 exact fun x hx=>ZhI M h0 h1 hx
theorem Y6.nodup {m:Int->Int}{N f:Int}{T:List Int} (M:JG m N) (h0:0<=f) (h1:f<N) (a:Y6 m f T):T.Nodup:=by
 obtain ⟨L,_,_,n,rfl⟩:=a
 exact Zbw M h0 h1 L n
theorem Y6.len {m:Int->Int}{N f:Int}{T:List Int} (M:JG m N) (h0:0<=f) (h1:f<N) (a:Y6 m f T):(T.length:Int)<=N:=by
 obtain ⟨L,_,_,n,rfl⟩:=a
 have:=Gy M h0 h1 n
 rw [J3]
 lia
theorem Y6.closed {m:Int->Int}{N f:Int}{T:List Int} (M:JG m N) (h0:0<=f) (h1:f<N) (a:Y6 m f T):∀x∈T,m x∈T/\bw x∈T:=by
 obtain ⟨L,hL,eL,n,rfl⟩:=a
 intro x hx
 obtain ⟨j,hj,e | e⟩:=YQ.mp hx
 ·subst e
  refine ⟨YQ.mpr ⟨j,hj,.inr rfl⟩,?_⟩
  cases j with
  | zero=>
   refine YQ.mpr ⟨L-1,by lia,.inr ?_⟩
   have:gt m f (L-1+1)=f:=by rw [show L-1+1=L by lia];exact eL
   have e2:bw (m (gt m f (L-1)))=f:=this
   show bw f=_
   rw [<- e2,ZbX,e2]
  | succ j=>exact YQ.mpr ⟨j,by lia,.inr (ZbX _)⟩
 ·subst e
  refine ⟨?_,?_⟩
  ·rw [M.inv _ (YF M h0 h1 j).1 (YF M h0 h1 j).2]
   exact YQ.mpr ⟨j,hj,.inl rfl⟩
  ·by_cases z:j+1=L
   ·refine YQ.mpr ⟨0,by lia,.inl ?_⟩
    show gt m f (j+1)=f
    rw [z,eL]
   ·exact YQ.mpr ⟨j+1,by lia,.inl rfl⟩
theorem ZbI {m:Int->Int}{N f:Int} (M:JG m N) (h0:0<=f) (h1:f<N) {S:List Int} (cl:∀x∈S,m x∈S/\bw x∈S) (hf:f∉S):∀i,gt m f i∉S/\m (gt m f i)∉S
 | 0=>⟨hf,fun h=>hf (by
  have:m (m f)∈S:=(cl _ h).1
  rwa [M.inv _ h0 h1] at this)⟩
 | i+1=>by
  have ih:=ZbI M h0 h1 cl hf i
  have a:gt m f (i+1)∉S:=fun h=>ih.2 (by
   have:=(cl _ h).2
   rwa [show bw (gt m f (i+1))=m (gt m f i) from ZbX _] at this)
  refine ⟨a,fun h=>a ?_⟩
  have:=(cl _ h).1
  rwa [M.inv _ (YF M h0 h1 (i+1)).1 (YF M h0 h1 (i+1)).2] at this
inductive Gp (m:Int->Int):Nat->List (List Int)->Prop
 | nil:Gp m 0 []
 | add {i:Nat}{ts:List (List Int)}{T:List Int}:Gp m i ts->(i:Int)∉ts.flatten->Y6 m (i:Int) T->Gp m (i+1) (ts ++ [T])
 | skip {i:Nat}{ts:List (List Int)}:Gp m i ts->(i:Int)∈ts.flatten->Gp m (i+1) ts
theorem Gp.uniq {m:Int->Int}{i:Nat}{ts:List (List Int)} (a:Gp m i ts):∀{ts':List (List Int)},Gp m i ts'->ts=ts':=by
 induction a with
 | nil=>intro ts' b;cases b;rfl
 | add a h t ih=>
  intro ts' b
  cases b with
  | add b h' t'=>rw [ih b,t.uniq t']
  | skip b h'=>rw [ih b] at h;exact absurd h' h
 | skip a h ih=>
  intro ts' b
  cases b with
  | add b h' t'=>rw [ih b] at h;exact absurd h h'
  | skip b h'=>exact ih b
theorem Gp.mem {m:Int->Int}{i:Nat}{ts:List (List Int)} (a:Gp m i ts):∀j:Nat,j<i->(j:Int)∈ts.flatten:=by
 induction a with
 | nil=>intro j hj;lia
 | @add i ts T a h t ih=>
  intro j hj
  rw [List.flatten_append,List.mem_append]
  by_cases e:j=i
  ·subst e;exact .inr (by simpa using t.self)
  ·exact .inl (ih j (by lia))
 | @skip i ts a h ih=>
  intro j hj
  by_cases e:j=i
  ·subst e;exact h
  ·exact ih j (by lia)
theorem Gp.good {m:Int->Int}{N:Int} (M:JG m N) {i:Nat}{ts:List (List Int)} (a:Gp m i ts) (hi:(i:Int)<=N):ts.flatten.Nodup/\(∀x∈ts.flatten,0<=x/\x<N)/\(∀x∈ts.flatten,m x∈ts.flatten/\bw x∈ts.flatten):=by
 induction a with
 | nil=>simp
 | @add i ts T a h t ih=>
  obtain ⟨n,d,c⟩:=ih (by lia)
  have h0:(0:Int)<=(i:Int):=by lia
  have h1:(i:Int)<N:=by lia
  rw [List.flatten_append]
  have e:[T].flatten=T:=by simp
  rw [e]
  refine ⟨?_,fun x hx=>?_,fun x hx=>?_⟩
  ·rw [List.nodup_append]
   refine ⟨n,t.nodup M h0 h1,fun a ha b hb z=>?_⟩
   subst z
   obtain ⟨L,_,_,_,rfl⟩:=t
   obtain ⟨j,_,e | e⟩:=YQ.mp hb
   ·exact (ZbI M h0 h1 c h j).1 (e ▸ ha)
   ·exact (ZbI M h0 h1 c h j).2 (e ▸ ha)
  ·rcases List.mem_append.mp hx with z | z
   ·exact d x z
   ·exact t.dom M h0 h1 x z
  ·rw [List.mem_append,List.mem_append]
   rcases List.mem_append.mp hx with z | z
   ·exact ⟨.inl (c x z).1,.inl (c x z).2⟩
   ·exact ⟨.inr (t.closed M h0 h1 x z).1,.inr (t.closed M h0 h1 x z).2⟩
 | skip a h ih=>exact ih (by lia)
theorem Gp.jump {m:Int->Int}{ts:List (List Int)}{i:Nat} (a:Gp m i ts):∀d:Nat,(∀j:Nat,i<=j->j<i+d->(j:Int)∈ts.flatten)->Gp m (i+d) ts
 | 0,_=>a
 | d+1,h=>by
  have:=Gp.jump a d fun j x y=>h j x (by lia)
  exact Gp.skip this (h (i+d) (by lia) (by lia))
theorem Gp.len {m:Int->Int}{N:Int} (M:JG m N) {i:Nat}{ts:List (List Int)} (a:Gp m i ts) (hi:(i:Int)<=N):ts.length<=i:=by
 induction a with
 | nil=>simp
 | add a h t ih=>have:=ih (by lia);simp;lia
 | skip a h ih=>have:=ih (by lia);lia
def rowAt (ls:List (Str×Int)) (t:Nat):List Int:=(rb (ls.take t)).1
def Y9 (ls:List (Str×Int)) (t:Nat):Int×Int:=((rowAt ls t).getD ((ls.getD t ("", 0)).2.toNat) 0,(rowAt ls t).getD ((ls.getD t ("", 0)).2.toNat+1) 0)
def Gq:Str->Bool:=fun x=>decide (x = "end")
def Jg (ls:List (Str×Int)) (i:Nat):List (Int×Int):=(Ya ls Gq i).map fun t=>Y9 ls t.toNat
def ZJ (ps:List (Int×Int)):List Int:=ps.flatMap fun p=>[p.1,p.2]
theorem YU (a b:List (Int×Int)):ZJ (a++b)=ZJ a++ZJ b:=by simp [ZJ]
theorem GI (ps:List (Int×Int)):(ZJ ps).length=2*ps.length:=by
 induction ps with
 | nil=>rfl
 | cons p r ih=>
  have:ZJ (p::r) = [p.1,p.2]++ZJ r:=by simp [ZJ]
  rw [this,List.length_append,ih]
  simp
  lia
theorem WI (ls:List (Str×Int)) (i:Nat):Jg ls (i+1)=Jg ls i++(if Uu ls Gq i=true then [Y9 ls i] else []):=by
 unfold Jg
 rw [WJ,List.map_append]
 by_cases h:Uu ls Gq i=true<;>simp [h]
def Ut (n:Nat):List Int:=(List.range n).map fun (x:Nat)=>(x:Int)
theorem ZjI (n:Nat):Ut (n+2)=Ut n ++ [(n:Int),(n:Int)+1]:=by
 unfold Ut
 rw [List.range_succ,List.range_succ]
 simp
theorem YJ {n:Nat}{x:Int}:x∈Ut n ↔ 0<=x/\x<(n:Int):=by
 unfold Ut
 rw [List.mem_map]
 constructor
 ·rintro ⟨a,h,rfl⟩
  have:=List.mem_range.mp h
  lia
 ·rintro ⟨h0,h1⟩
  exact ⟨x.toNat,List.mem_range.mpr (by lia),by lia⟩
theorem WK (n:Nat):(Ut n).Nodup:=by
 unfold Ut
 rw [List.nodup_iff_pairwise_ne,List.pairwise_map]
 exact (List.nodup_iff_pairwise_ne.mp List.nodup_range).imp fun h e=>h (by lia)
theorem Gx (n:Nat):(Ut n).length=n:=by simp [Ut]
theorem Zk8 (r:List Int) (k:Nat) (h:k+1<r.length):r=r.take k ++ [r.getD k 0,r.getD (k+1) 0]++r.drop (k+2):=by
 have e1:r.drop k=r[k]::r.drop (k+1):=List.drop_eq_getElem_cons (by lia)
 have e2:r.drop (k+1)=r[k+1]::r.drop (k+2):=List.drop_eq_getElem_cons h
 have e:r.take k++r.drop k=r:=List.take_append_drop k r
 rw [e1,e2] at e
 have h1:r.getD k 0=r[k]:=by simp [show k<r.length by lia]
 have h2:r.getD (k+1) 0=r[k+1]:=by simp [h]
 rw [h1,h2]
 simpa using e.symm
theorem Zlh (r:List Int) (k:Nat) (h:k+1<r.length):Ga r k=r.take k ++ [r.getD (k+1) 0,r.getD k 0]++r.drop (k+2):=by
 have hl:(r.take k).length=k:=by rw [List.length_take];lia
 unfold Ga
 generalize ha:r.getD k 0=a
 generalize hb:r.getD (k+1) 0=b
 have e:=Zk8 r k h
 rw [ha,hb] at e
 generalize r.take k=p at e hl ⊢
 generalize r.drop (k+2)=q at e ⊢
 subst e
 rw [List.append_assoc,List.set_append_right _ _ (by lia),hl,List.set_append_right _ _ (by lia),hl]
 simp
theorem ZaR {ls:List (Str×Int)} (hW:Wk ls 0):∀i,i<=ls.length->0<=(rb (ls.take i)).2/\(rb (ls.take i)).2 % 2=0/\(rowAt ls i++ZJ (Jg ls i)).Perm (Ut (rb (ls.take i)).2.toNat)
 | 0,_=>by
  refine ⟨Int.le_refl _,rfl,?_⟩
  exact List.Perm.refl _
 | i+1,hi=>by
  obtain ⟨ih0,ih1,ih⟩:=ZaR hW i (by omega)
  have hq:ls[i]? = some ls[i]:=by simp [show i<ls.length by omega]
  obtain ⟨tk,c⟩:=ZdF hW hq
  have gd:ls.getD i ("", 0)=ls[i]:=by simp [show i<ls.length by omega]
  unfold rowAt at ih ⊢
  generalize hp:ls[i]=p at *
  obtain ⟨px,pk⟩:=p
  rw [tk,YD,WI]
  have kk:∀pr:Str->Bool,Uu ls pr i=pr px:=fun pr=>by
   unfold Uu
   rw [hq]
   cases h:pr px<;>simp [h]
  rw [kk]
  rcases c with ⟨e,b0,b1⟩ | ⟨e,b0,b1⟩ | ⟨e,b0,b1⟩
  ·have e:px = "born" := e
   subst e
   rw [Wd]
   have hf:Gq "born" = false:=by unfold Gq;decide +kernel
   rw [hf]
   simp only [Bool.false_eq_true,if_false,List.append_nil]
   generalize hr:rb (ls.take i)=s at *
   obtain ⟨r,b⟩:=s
   refine ⟨by omega,by omega,?_⟩
   have e2:(b+2).toNat=b.toNat+2:=by omega
   rw [e2,ZjI]
   have e3:((b.toNat:Nat):Int)=b:=by omega
   rw [e3]
   have p1:(r.take pk.toNat ++ [b,b+1]++r.drop pk.toNat).Perm (r ++ [b,b+1]):=by
    rw [List.append_assoc]
    refine (List.Perm.append_left _ List.perm_append_comm).trans ?_
    rw [<- List.append_assoc,List.take_append_drop]
   refine (p1.append_right _).trans ?_
   rw [List.append_assoc]
   refine (List.Perm.append_left _ List.perm_append_comm).trans ?_
   rw [<- List.append_assoc]
   exact ih.append_right _
  ·have e:px = "cross" := e
   subst e
   rw [JF]
   have hf:Gq "cross" = false:=by unfold Gq;decide +kernel
   rw [hf]
   simp only [Bool.false_eq_true,if_false,List.append_nil]
   refine ⟨ih0,ih1,?_⟩
   have hk:pk.toNat+1<(rb (ls.take i)).1.length:=by
    have b1:pk+1<_:=b1
    have b0:0<=pk:=b0
    omega
   refine List.Perm.trans ?_ ih
   refine List.Perm.append_right _ ?_
   rw [Zlh _ _ hk]
   conv=>rhs;rw [Zk8 _ _ hk]
   exact List.Perm.append_right _ (List.Perm.append_left _ (List.Perm.swap _ _ _))
  ·have e:px = "end" := e
   subst e
   rw [W9]
   have hf:Gq "end" = true:=by unfold Gq;simp
   rw [hf]
   simp only [if_true]
   refine ⟨ih0,ih1,?_⟩
   have hk:pk.toNat+1<(rb (ls.take i)).1.length:=by
    have b1:pk+1<_:=b1
    have b0:0<=pk:=b0
    omega
   refine List.Perm.trans ?_ ih
   rw [YU]
   have pr:ZJ [Y9 ls i] = [(rb (ls.take i)).1.getD pk.toNat 0,(rb (ls.take i)).1.getD (pk.toNat+1) 0]:=by
    unfold Y9 rowAt
    rw [gd]
    simp [ZJ]
   rw [pr]
   conv=>rhs;rw [Zk8 _ _ hk]
   generalize (rb (ls.take i)).1.take pk.toNat=A
   generalize (rb (ls.take i)).1.drop (pk.toNat+2)=B
   generalize [(rb (ls.take i)).1.getD pk.toNat 0,(rb (ls.take i)).1.getD (pk.toNat+1) 0]=C
   generalize ZJ (Jg ls i)=F
   rw [List.append_assoc,List.append_assoc,List.append_assoc]
   refine List.Perm.append_left _ ?_
   rw [<- List.append_assoc]
   exact List.perm_append_comm
def YS (ls:List (Str×Int)):List (Int×Int):=Jg ls ls.length
def Y0 (ls:List (Str×Int)):Nat:=2*(YS ls).length
theorem Wc {ls:List (Str×Int)} (hW:Wk ls 0):(ZJ (YS ls)).Perm (Ut (Y0 ls)):=by
 obtain ⟨h0,h1,h2⟩:=ZaR hW ls.length (Nat.le_refl _)
 have e:rowAt ls ls.length = []:=by
  unfold rowAt
  rw [List.take_of_length_le (Nat.le_refl _)]
  have:=U5 hW
  exact List.length_eq_zero_iff.mp (by lia)
 rw [e,List.nil_append] at h2
 have hl:=h2.length_eq
 rw [Gx,GI] at hl
 show (ZJ (Jg ls ls.length)).Perm (Ut (2*(Jg ls ls.length).length))
 rw [hl]
 exact h2
def Jf:List (Int×Int)->Int->Int
 | [],_=>0
 | p::r,x=>if x=p.1 then p.2 else if x=p.2 then p.1 else Jf r x
theorem Zc5:∀{ps:List (Int×Int)}{u l:Int},(ZJ ps).Nodup->(u,l)∈ps->Jf ps u=l/\Jf ps l=u
 | [],_,_,_,h=>by cases h
 | p::r,u,l,nd,h=>by
  have e:ZJ (p::r)=p.1::p.2::ZJ r:=by simp [ZJ]
  rw [e] at nd
  obtain ⟨n1,nd2⟩:=List.nodup_cons.mp nd
  obtain ⟨n2,nd3⟩:=List.nodup_cons.mp nd2
  rcases List.mem_cons.mp h with z | z
  ·subst z
   refine ⟨by simp [Jf],?_⟩
   have:l≠u:=fun z=>n1 (by simp [z])
   simp [Jf,this]
  ·have m1:u∈ZJ r:=List.mem_flatMap.mpr ⟨(u,l),z,by simp⟩
   have m2:l∈ZJ r:=List.mem_flatMap.mpr ⟨(u,l),z,by simp⟩
   have ih:=Zc5 nd3 z
   have a1:u≠p.1:=fun z=>n1 (List.mem_cons_of_mem _ (z ▸ m1))
   have a2:u≠p.2:=fun z=>n2 (z ▸ m1)
   have a3:l≠p.1:=fun z=>n1 (List.mem_cons_of_mem _ (z ▸ m2))
   have a4:l≠p.2:=fun z=>n2 (z ▸ m2)
   simp only [Jf,a1,a2,a3,a4,if_false]
   exact ih
theorem ZaO {ps:List (Int×Int)} (nd:(ZJ ps).Nodup) {u l:Int} (h:(u,l)∈ps):u≠l:=by
 induction ps with
 | nil=>cases h
 | cons p r ih=>
  have e:ZJ (p::r)=p.1::p.2::ZJ r:=by simp [ZJ]
  rw [e] at nd
  obtain ⟨n1,nd2⟩:=List.nodup_cons.mp nd
  obtain ⟨n2,nd3⟩:=List.nodup_cons.mp nd2
  rcases List.mem_cons.mp h with z | z
  ·subst z;intro z;exact n1 (by simp [z])
  ·exact ih nd3 z
theorem JV {ls:List (Str×Int)} (hW:Wk ls 0):JG (Jf (YS ls)) (Y0 ls):=by
 have pm:=Wc hW
 have nd:(ZJ (YS ls)).Nodup:=pm.nodup_iff.mpr (WK _)
 have get:∀x:Int,0<=x->x<(Y0 ls:Int) -> ∃u l,(u,l)∈YS ls/\(x=u∨x=l):=fun x h0 h1=>by
  have:x∈ZJ (YS ls):=pm.mem_iff.mpr (YJ.mpr ⟨h0,h1⟩)
  obtain ⟨p,hp,hx⟩:=List.mem_flatMap.mp this
  exact ⟨p.1,p.2,hp,by simpa using hx⟩
 have dom:∀u l,(u,l)∈YS ls->(0<=u/\u<(Y0 ls:Int))/\(0<=l/\l<(Y0 ls:Int)):=fun u l h=>
  ⟨YJ.mp (pm.mem_iff.mp (List.mem_flatMap.mpr ⟨(u,l),h,by simp⟩)),YJ.mp (pm.mem_iff.mp (List.mem_flatMap.mpr ⟨(u,l),h,by simp⟩))⟩
 refine ⟨fun x h0 h1=>?_,fun x h0 h1=>?_,fun x h0 h1=>?_,fun x h0 h1=>?_,by unfold Y0;lia⟩
 all_goals
  obtain ⟨u,l,hm,rfl | rfl⟩:=get x h0 h1
  all_goals
   obtain ⟨a,b⟩:=Zc5 nd hm
   obtain ⟨d1,d2⟩:=dom _ _ hm
   have ne:=ZaO nd hm
   first
    | (rw [a];exact d2.1)
    | (rw [b];exact d1.1)
    | (rw [a];exact d2.2)
    | (rw [b];exact d1.2)
    | (rw [a,b])
    | (rw [b,a])
    | (rw [a];exact Ne.symm ne)
    | (rw [b];exact ne)
theorem Zml {x:Int} (h:0<=x):Builtin.bitXor x 1=bw x:=by
 obtain ⟨n,rfl⟩:=Int.eq_ofNat_of_zero_le h
 unfold bw
 have ho:Builtin.bitOr (n:Int) 1=((n ||| 1:Nat):Int):=by
  have e1:decide (0<=Builtin.bitNot (n:Int))=false:=by unfold Builtin.bitNot;rw [decide_eq_false_iff_not];omega
  have e2:decide (0<=Builtin.bitNot (1:Int))=false:=by decide
  have e3:(Builtin.bitNot (Builtin.bitNot (n:Int))).toNat=n:=by unfold Builtin.bitNot;omega
  have e4:(Builtin.bitNot (Builtin.bitNot (1:Int))).toNat=1:=by decide
  unfold Builtin.bitOr Builtin.bitAnd
  rw [e1,e2]
  simp only [e3,e4]
  unfold Builtin.bitNot
  omega
 have ha:Builtin.bitAnd (n:Int) 1=((n &&& 1:Nat):Int):=by
  unfold Builtin.bitAnd
  simp
 unfold Builtin.bitXor
 rw [ho,ha]
 have h1:n &&& 1=n % 2:=Nat.and_one_is_mod n
 have h2:n ||| 1=n+1-n % 2:=by
  have d:(n ||| 1) / 2=n / 2:=by rw [Nat.or_div_two];simp
  have m:(n ||| 1) % 2=1:=Nat.or_mod_two_eq_one.mpr (.inr rfl)
  omega
 rw [h1,h2]
 split<;>omega
section
variable {X:Cx}
def Zj3 (K:PySem.W.Frag):R2:=fun x y H Q=>∃(p q:Addr) (xs:List V),x = .ref p/\y = .ref q/\Zw K H p xs/\Zw K H q []/\Q (.bl (!xs.isEmpty)) H
theorem Zjx (hu:X.A.units+64<cLine):Uy X (compareOp .NotEq) (Zj3 X.K):=by
 intro pins s σ H x y v u Q I rx ry h
 obtain ⟨p,q,xs,rfl,rfl,hp,hq,hQ⟩:=h
 cases rx
 cases ry
 obtain ⟨its,r1,p1,_⟩:=I.list hp
 obtain ⟨its2,r2,p2,_⟩:=I.list hq
 have l1:=r1.length
 have l2:=r2.length
 cases xs with
 | nil=>
  refine SeqAt.RcNeAt.lists (e:=fun _=>true) p1.isList p2.isList (by simp only [List.size_toArray];lia) (by lia) (fun j h1 h2=>?_) X.prog X.w _ _ ⟨.bl false,H,I,?_,hQ⟩
  ·rw [List.size_toArray] at h1
   have:its.length=0:=by simpa using l1.symm
   lia
  ·show Value.bool _=Value.bool false
   simp
 | cons z zs=>
  refine SeqAt.RcNeAt.lists_lengths p1.isList p2.isList (by simp only [List.size_toArray];rw [bne_iff_ne];simp at l1 l2;lia) (by lia) X.prog X.w _ _ ⟨.bl true,H,I,rfl,hQ⟩
theorem Zh7 {K:PySem.W.Frag} (h:X.K=K) (hu:X.A.units+64<cLine):Uy X (compareOp .NotEq) (Zj3 K):=h ▸ Zjx hu
theorem Zax {K:PySem.W.Frag} (h:X.K=K):Uy X (compareOp .NotIn) (rIn K true):=h ▸ Zef
end
theorem Ze8 {x:Int}{ns:List Int}:inV (.int x) (ns.map V.int)=decide (x∈ns):=by
 unfold inV
 induction ns with
 | nil=>simp
 | cons n ns ih=>
  rw [List.map_cons,List.any_cons,ih]
  have e:eqV (V.int n) (V.int x)=decide (n=x):=by
   unfold eqV
   by_cases h:n=x<;>simp [h]
  rw [e,<- Bool.decide_or]
  exact decide_eq_decide.mpr (by rw [List.mem_cons];exact ⟨fun h=>h.imp Eq.symm id,fun h=>h.imp Eq.symm id⟩)
def Js (H:Hp) (ys:List V) (ps:List (Int×Int)):Prop:=Paired (fun v (p:Int×Int)=>∃a,v=V.ref a/\H a=some (.tup [.int p.1,.int p.2])) ys ps
theorem Js.mono {H H':Hp} (h:∀t p,H t=some (.tup p)->H' t=some (.tup p)):∀{xs:List V}{ps:List (Int×Int)},Js H xs ps->Js H' xs ps
 | _,_,.nil=>.nil
 | _,_,.cons ⟨t,e,q⟩ r=>.cons ⟨t,e,h t _ q⟩ (Js.mono h r)
theorem Js.len {H:Hp}{xs:List V}{ps:List (Int×Int)} (h:Js H xs ps):xs.length=ps.length:=Paired.length h
theorem Js.get {H:Hp}:∀{xs:List V}{ps:List (Int×Int)}{i:Nat}{x:V},Js H xs ps->xs[i]? = some x -> ∃p t,ps[i]? = some p/\x = .ref t/\H t=some (.tup [.int p.1,.int p.2])
 | _,_,_,_,.nil,e=>by simp at e
 | _,_,0,_,.cons ⟨t,e1,q⟩ _,e=>by simp at e;subst e;exact ⟨_,t,rfl,e1,q⟩
 | _,_,i+1,x,.cons _ r,e=>by
  obtain ⟨p,t,h1,h2⟩:=Js.get (i:=i) (x:=x) r (by simpa using e)
  exact ⟨p,t,by simpa using h1,h2⟩
theorem Js.snoc {H:Hp}{xs:List V}{ps:List (Int×Int)}{t:Addr}{p:Int×Int} (h:Js H xs ps) (e:H t=some (.tup [.int p.1,.int p.2])):Js H (xs ++ [.ref t]) (ps ++ [p]):=Paired.snoc h ⟨t,rfl,e⟩
theorem YK.at {H:Hp}:∀{xs:List V}{rs:List (List Int)}{i:Nat}{r:List Int},YK H xs rs->rs[i]? = some r -> ∃p,xs[i]? = some (.ref p)/\H p=some (.lst (r.map V.int))
 | _,_,_,_,.nil,e=>by simp at e
 | _,_,0,_,.cons ⟨t,e1,q⟩ _,e=>by simp at e;subst e;exact ⟨t,by simp [e1],q⟩
 | _,_,i+1,r,.cons _ rr,e=>by
  obtain ⟨p,h1,h2⟩:=YK.at (i:=i) (r:=r) rr (by simpa using e)
  exact ⟨p,by simpa using h1,h2⟩
theorem YK.atX {H:Hp}:∀{xs:List V}{rs:List (List Int)}{i:Nat}{x:V},YK H xs rs->xs[i]? = some x -> ∃(p:Addr) (r:List Int),rs[i]? = some r/\x = .ref p/\H p=some (.lst (r.map V.int))
 | _,_,_,_,.nil,e=>by simp at e
 | _,_,0,_,.cons ⟨t,e1,q⟩ _,e=>by simp at e;subst e;exact ⟨t,_,rfl,e1,q⟩
 | _,_,i+1,x,.cons _ r,e=>by
  obtain ⟨p,q,h1,h2⟩:=YK.atX (i:=i) (x:=x) r (by simpa using e)
  exact ⟨p,q,by simpa using h1,h2⟩
theorem U9 (ls:List (Str×Int)) {i n:Nat} (h:i<n):(rowsOf ls n)[i]? = some (rowAt ls i):=by
 unfold rowsOf rowAt
 rw [List.getElem?_map]
 simp [h]
theorem Zfk {ls:List (Str×Int)} (hW:Wk ls 0) {t:Nat}{q:Str×Int} (hq:ls[t]? = some q) (hb:q.1 ≠ "born"):0<=q.2/\q.2.toNat+1<(rowAt ls t).length/\Y9 ls t=((rowAt ls t).getD q.2.toNat 0,(rowAt ls t).getD (q.2.toNat+1) 0):=by
 obtain ⟨_,c⟩:=ZdF hW hq
 have gd:ls.getD t ("", 0)=q:=by simp [hq]
 have e:Y9 ls t=((rowAt ls t).getD q.2.toNat 0,(rowAt ls t).getD (q.2.toNat+1) 0):=by unfold Y9;rw [gd]
 rcases c with ⟨z,_⟩ | ⟨_,b0,b1⟩ | ⟨_,b0,b1⟩
 ·exact absurd z hb
 ·exact ⟨b0,by unfold rowAt;lia,e⟩
 ·exact ⟨b0,by unfold rowAt;lia,e⟩
theorem JY {ns:List Int}{i:Nat}{x:V} (h:(ns.map V.int)[i]? = some x):∃t,ns[i]? = some t/\x=V.int t:=by
 rw [List.getElem?_map] at h
 cases e:ns[i]? with
 | none=>rw [e] at h;cases h
 | some z=>rw [e] at h;exact ⟨z,rfl,(Option.some.inj h).symm⟩
theorem YZ {α β:Type}{ns:List α}{i:Nat}{t:α} (f:α -> β) (h:ns[i]? = some t):(ns.take (i+1)).map f=(ns.take i).map f ++ [f t]:=by
 rw [List.take_add_one,h]
 simp
theorem ZfT {ls:List (Str×Int)}{pr:Str->Bool}{n:Nat}{x:Int} (h:x∈Ya ls pr n):0<=x/\x.toNat<n /\ ∃q,ls[x.toNat]? = some q/\pr q.1=true:=by
 unfold Ya at h
 obtain ⟨i,hi,e⟩:=List.mem_filterMap.mp h
 have hi':=List.mem_range.mp hi
 by_cases hk:Uu ls pr i=true
 ·rw [if_pos hk] at e
  have e:(i:Int)=x:=Option.some.inj e
  subst e
  refine ⟨by lia,by simpa using hi',?_⟩
  unfold Uu at hk
  cases hq:ls[i]? with
  | none=>rw [hq] at hk;cases hk
  | some q=>
   rw [hq] at hk
   refine ⟨q,by simpa using hq,by simpa using hk⟩
 ·rw [if_neg hk] at e;cases e
theorem JU {ls:List (Str×Int)} (hl:ls.length<=60):Y0 ls<=120:=by
 unfold Y0 YS Jg
 rw [List.length_map]
 have:=J8 ls Gq ls.length
 lia
section
variable {X:Cx}{pins:List (Addr×Obj)} {σ:St}{H:Hp}{s:Shared}
theorem Inv.keptN {h':Heap}{t':Nat}{m:Str->Option Value} (I:Inv X pins σ H s) (F:Fr X.base X.env.locals s.heap m) (F':Fr X.base X.env.locals h' m)
  (N':News X.base X.env.locals h' (W5 X.base s.heap X.env.locals)):Inv X pins σ H { s with heap:=h',toks:=t' }:=by
 have kp:∀b u,b≠X.env.locals->s.heap.get? b=some u->h'.get? b=some u:=fun b u hb e=>by
  cases q:X.base.get? b with
  | some v=>
   have e1:=F'.keep b v q
   have e2:=F.keep b v q
   rw [e] at e2
   cases e2
   exact e1
  | none=>exact (N' (b,u) (UA hb q e)).1
 have neL:∀b u,H b=some u->b≠X.env.locals:=fun b u e z=>by rw [z,I.free] at e;cases e
 refine I.step (g':=s.gens) (d':=s.drawn) (ch:=[]) (fun _ z=>nomatch z) (fun b ob hb _ _ e _=>kp b ob hb e) (fun b ob hb _ _ e _=>⟨ob.slots,kp b ob hb e⟩) (fun b ob _ e n=>n) (fun b ob _ e=>?_) (fun b xs e=>e) (fun b ob u e=>e) (fun b ps e=>⟨#[],by rw [e];simp⟩) (fun m' hm=>?_) (fun b u e=>?_) I.bare
 ·by_cases hb:b=X.env.locals
  ·subst hb
   obtain ⟨ob',_,_,z,_⟩:=F'.ns
   exact ⟨ob',z⟩
  ·exact ⟨ob,kp b ob hb e⟩
 ·rw [Zkm hm F.ns];exact F'.ns
 ·refine (I.hok b u e).stay (fun c v hc q=>kp c v ?_ q) (fun c q=>q) fun c xs q=>q
  rcases hc with z | z
  ·subst z;exact neL _ u e
  ·exact neL c _ z
end
section
variable {X:Cx}
theorem ZjA (hc:X.calm=true):Jw X (.builtin "sum") (fun xs H Q=>∃(p:Addr) (ns:List Int),xs = [.ref p]/\Zw X.K H p (ns.map V.int)/\Q (.int ns.sum) H):=by
 intro pins s σ H xs us Q I r h
 obtain ⟨p,ns,rfl,hq,q⟩:=h
 obtain ⟨u,rfl,ru⟩:=r.one
 cases ru
 obtain ⟨its,rv,pl,hz⟩:=I.list hq
 obtain ⟨m,fr⟩:=I.fr
 refine LSm.sum_ints fr (news:=W5 X.base s.heap X.env.locals) Zfy (I.ok.hd hc) pl.isList (WD rv) fun h' tk t' fr' nw'=>?_
 exact ⟨.int ns.sum,H,I.keptN fr fr' nw',⟨t',rfl⟩,q⟩
theorem Zbx {K:PySem.W.Frag} (h:X.K=K) (hc:X.calm=true):Jw X (.builtin "sum") (fun xs H Q=>∃(p:Addr) (ns:List Int),xs = [.ref p]/\Zw K H p (ns.map V.int)/\Q (.int ns.sum) H):=h ▸ ZjA hc
end
theorem ZkG {x:Int} (h:0<=x):Builtin.bitAnd x 1=x % 2:=by
 obtain ⟨n,rfl⟩:=Int.eq_ofNat_of_zero_le h
 have ha:Builtin.bitAnd (n:Int) 1=((n &&& 1:Nat):Int):=by
  unfold Builtin.bitAnd
  simp
 rw [ha,Nat.and_one_is_mod]
 omega
end L2
namespace L2
open PySem PySem.Spec PyProof.Rows PyProof.V
def Itz (K:PySem.W.Frag) (a b:Addr):It:=
  ⟨fun i H=>∃xs ys x y,Zw K H a xs/\Zw K H b ys/\xs[i]? = some x/\ys[i]? = some y,
   fun i H v H'=>∃p x y,v = .ref p/\H p=none/\H'=upd H p (.tup [x,y])/\(∀xs,Zw K H a xs->xs[i]? = some x)/\(∀ys,Zw K H b ys->ys[i]? = some y),
   fun i H=>∃xs ys,Zw K H a xs/\Zw K H b ys/\(xs.length<=i∨ys.length<=i)⟩
theorem ZiS {P:Program}{w:World}{K:PySem.W.Frag}{es:List Expr}{k:Nat}{pos:Pos} (a b z TI TO i1 i2:Addr) (ap:ZipApart z TI TO i1 i2 a b):
  Turn P w K (.Tuple es k pos) (Itz K a b) [z,TI,TO,i1,i2] z (fun i h=>IsZip h z TI TO .none/\IsPair h TI (.ref i1) (.ref i2)/\(∃u v,IsPair h TO u v)/\h.IsListIter i1 a i/\h.IsListIter i2 b i) where
 mem:=by simp
 obj:=fun i h st c hc=>by
  obtain ⟨h1,h2,⟨u,v,h3⟩,⟨o1,ho1,c1,d1⟩,⟨o2,ho2,c2,d2⟩⟩:=st
  simp only [List.mem_cons,List.not_mem_nil,or_false] at hc
  rcases hc with e | e | e | e | e
  ·subst e;exact ⟨_,h1,fun v z=>by have z':Data.fields _=Data.cell v:=z;cases z'⟩
  ·subst e;exact ⟨_,h2,fun v z=>by have z':Data.seq _ _=Data.cell v:=z;cases z'⟩
  ·subst e;exact ⟨_,h3,fun v z=>by have z':Data.seq _ _=Data.cell v:=z;cases z'⟩
  ·subst e;exact ⟨o1,ho1,fun v z=>by rw [d1] at z;cases z⟩
  ·subst e;exact ⟨o2,ho2,fun v z=>by rw [d2] at z;cases z⟩
 keep:=fun i h h' st k=>by
  obtain ⟨h1,h2,⟨u,v,h3⟩,h4,h5⟩:=st
  exact ⟨k z (by simp) _ h1,k TI (by simp) _ h2,⟨u,v,k TO (by simp) _ h3⟩,h4.at fun o x=>k i1 (by simp) o x,h5.at fun o x=>k i2 (by simp) o x⟩
 item:=by
  intro X hP hw hK hc i pins s σ H E I hf st hg
  subst hP hw hK
  obtain ⟨xs,ys,x,y,hq1,hq2,hx,hy⟩:=hg
  obtain ⟨its1,rv1,p1,hz1⟩:=I.list hq1
  obtain ⟨its2,rv2,p2,hz2⟩:=I.list hq2
  obtain ⟨u,hu,ru⟩:=rv1.get hx
  obtain ⟨v,hv,rv⟩:=rv2.get hy
  obtain ⟨h1,h2,⟨oa,ob,h3⟩,h4,h5⟩:=st
  refine wpAny_pyNext_zip_item ap h1 h2 h3 h4 h5 p1.isList p2.isList (x:=u) (y:=v) (by simpa using hu) (by simpa using hv) fun h' g1 g2 g3 g4 g5 hsz kk=>⟨_,rfl,?_⟩
  refine wpAny_letOwnedTupleGo_zip (s:={ s with heap:=h' }) g1 fun h'' e1 hs''=>?_
  have lt:∀c ∈ [z,TI,TO,i1,i2],@LT.lt Nat _ c s.heap.objs.size:=fun c hc=>by
   simp only [List.mem_cons,List.not_mem_nil,or_false] at hc
   rcases hc with e | e | e | e | e
   ·subst e;exact aLt h1
   ·subst e;exact aLt h2
   ·subst e;exact aLt h3
   ·subst e;obtain ⟨o,ho,_⟩:=h4;exact aLt ho
   ·subst e;obtain ⟨o,ho,_⟩:=h5;exact aLt ho
  have kk2:∀c o,c≠z->c≠TO->c≠i1->c≠i2->s.heap.get? c=some o->h''.get? c=some o:=fun c o n1 n2 n3 n4 q=>(hs''.2 c n1).trans (kk c o n1 n2 n3 n4 q)
  have nne:∀c o,H c=some o->c≠z/\c≠TO/\c≠i1/\c≠i2:=fun c o q=>by
   refine ⟨fun e=>?_,fun e=>?_,fun e=>?_,fun e=>?_⟩
   ·rw [e,(hf z (by simp)).1] at q;cases q
   ·rw [e,(hf TO (by simp)).1] at q;cases q
   ·rw [e,(hf i1 (by simp)).1] at q;cases q
   ·rw [e,(hf i2 (by simp)).1] at q;cases q
  have fr:H s.heap.objs.size=none:=I.hok.fresh (Nat.le_refl _)
  have hT:h''.get? s.heap.objs.size=some { cls:=.type "tuple", data:=.seq #[u,v] }:=(hs''.2 _ (Nat.ne_of_gt (lt z (by simp)))).trans g5
  have nT:∀c o,s.heap.get? c=some o->c≠s.heap.objs.size:=fun c o q=>Nat.ne_of_lt (aLt q)
  have ok':W0 X.prog X.w (upd H s.heap.objs.size (.tup [x,y])) h'':=fun c o q=>by
   by_cases hb:c=s.heap.objs.size
   ·subst hb
    rw [Zc] at q
    cases q
    exact ⟨show 2<=sizeLine by decide,[u,v],.cons ru (.cons rv .nil),⟨_,hT,rfl,_,rfl⟩⟩
   ·rw [Zh hb] at q
    refine (I.hok c o q).stay (fun d v hd r=>?_) (fun d r=>by rw [Zh (Zf r fr)];exact r) fun d xs r=>by rw [Zh (Zf r fr)];exact r
    rcases hd with e | e
    ·subst e
     obtain ⟨n1,n2,n3,n4⟩:=nne d o q
     exact kk2 d v n1 n2 n3 n4 r
    ·obtain ⟨n1,n2,n3,n4⟩:=nne d _ e
     exact kk2 d v n1 n2 n3 n4 r
  have notin:∀c,c ∉ [z,TI,TO,i1,i2]->c≠z/\c≠TO/\c≠i1/\c≠i2:=fun c hc=>by
   simp only [List.mem_cons,List.not_mem_nil,or_false,not_or] at hc
   exact ⟨hc.1,hc.2.2.1,hc.2.2.2.1,hc.2.2.2.2⟩
  have I1:Inv X pins σ (upd H s.heap.objs.size (.tup [x,y])) { s with heap:=h'',gens:=s.gens,drawn:=s.drawn,toks:=s.toks }:=by
   refine I.step (ch:=[z,TI,TO,i1,i2]) (fun c hc=>?_) (fun c o _ _ hc q _=>?_) (fun c o _ _ hc q _=>⟨o.slots,?_⟩)
    (fun c o _ q n=>by rw [Zh (nT c o q)];exact n) (fun c o hc q=>⟨o,?_⟩) (fun c xs q=>by rw [Zh (Zf q fr)];exact q) (fun c o u q=>by rw [Zh (Zf q fr)];exact q)
    (fun c ps q=>⟨#[],by rw [Zh (Zf q fr),q];simp⟩) (fun m hm=>?_) ok' I.bare
   ·obtain ⟨f0,f1,f2,f3,f4,f5⟩:=hf c hc
    exact ⟨f3,f1,f4,f5⟩
   ·obtain ⟨n1,n2,n3,n4⟩:=notin c hc;exact kk2 c o n1 n2 n3 n4 q
   ·obtain ⟨n1,n2,n3,n4⟩:=notin c hc;exact kk2 c o n1 n2 n3 n4 q
   ·obtain ⟨n1,n2,n3,n4⟩:=notin c hc;exact kk2 c o n1 n2 n3 n4 q
   ·obtain ⟨o,es,ep,ho,r⟩:=hm
    exact ⟨o,es,ep,kk2 _ o (Ne.symm (hf z (by simp)).2.1) (Ne.symm (hf TO (by simp)).2.1) (Ne.symm (hf i1 (by simp)).2.1) (Ne.symm (hf i2 (by simp)).2.1) ho,r⟩
  refine ⟨.ref s.heap.objs.size,_,I1,rfl,⟨s.heap.objs.size,x,y,rfl,fr,rfl,fun zs hz=>by rw [I.list_inj hz hq1];exact hx,fun zs hz=>by rw [I.list_inj hz hq2];exact hy⟩,
   ⟨e1,kk2 TI _ ap.TIz ap.TITO ap.TIi1 ap.TIi2 h2,⟨u,v,(hs''.2 TO ap.TOz).trans g2⟩,g3.at fun o q=>(hs''.2 i1 ap.i1z).trans q,g4.at fun o q=>(hs''.2 i2 ap.i2z).trans q⟩,fun c hc=>?_⟩
  rw [Zh (Nat.ne_of_lt (lt c hc))]
  exact (hf c hc).1
 done:=by
  intro X hP hw hK hc i pins s σ H E I hf st hg
  subst hP hw hK
  obtain ⟨xs,ys,hq1,hq2,hx⟩:=hg
  obtain ⟨its1,rv1,p1,hz1⟩:=I.list hq1
  obtain ⟨its2,rv2,p2,hz2⟩:=I.list hq2
  obtain ⟨h1,h2,⟨oa,ob,h3⟩,h4,h5⟩:=st
  have l1:=rv1.length
  have l2:=rv2.length
  refine wpAny_pyNext_zip_end (I.ok.hd hc) ap h1 h2 h3 h4 h5 p1.isList p2.isList (by rcases hx with e | e;exact .inl (by simp;lia);exact .inr (by simp;lia)) fun h' kk=>⟨rfl,?_⟩
  have nne:∀c o,H c=some o->c≠z/\c≠TO/\c≠i1/\c≠i2:=fun c o q=>by
   refine ⟨fun e=>?_,fun e=>?_,fun e=>?_,fun e=>?_⟩
   ·rw [e,(hf z (by simp)).1] at q;cases q
   ·rw [e,(hf TO (by simp)).1] at q;cases q
   ·rw [e,(hf i1 (by simp)).1] at q;cases q
   ·rw [e,(hf i2 (by simp)).1] at q;cases q
  have notin:∀c,c ∉ [z,TI,TO,i1,i2]->c≠z/\c≠TO/\c≠i1/\c≠i2:=fun c hc=>by
   simp only [List.mem_cons,List.not_mem_nil,or_false,not_or] at hc
   exact ⟨hc.1,hc.2.2.1,hc.2.2.2.1,hc.2.2.2.2⟩
  have ok':W0 X.prog X.w H h':=fun c o q=>by
   refine (I.hok c o q).stay (fun d v hd r=>?_) (fun d r=>r) fun d xs r=>r
   rcases hd with e | e
   ·subst e
    obtain ⟨n1,n2,n3,n4⟩:=nne d o q
    exact kk d v n1 n2 n3 n4 r
   ·obtain ⟨n1,n2,n3,n4⟩:=nne d _ e
    exact kk d v n1 n2 n3 n4 r
  refine I.step (g':=s.gens) (d':=s.drawn) (t':=s.toks) (ch:=[z,TI,TO,i1,i2]) (fun c hc=>?_) (fun c o _ _ hc q _=>?_) (fun c o _ _ hc q _=>⟨o.slots,?_⟩)
    (fun c o _ q n=>n) (fun c o hc q=>⟨o,?_⟩) (fun c xs q=>q) (fun c o u q=>q) (fun c ps q=>⟨#[],by rw [q];simp⟩) (fun m hm=>?_) ok' I.bare
  ·obtain ⟨f0,f1,f2,f3,f4,f5⟩:=hf c hc
   exact ⟨f3,f1,f4,f5⟩
  ·obtain ⟨n1,n2,n3,n4⟩:=notin c hc;exact kk c o n1 n2 n3 n4 q
  ·obtain ⟨n1,n2,n3,n4⟩:=notin c hc;exact kk c o n1 n2 n3 n4 q
  ·obtain ⟨n1,n2,n3,n4⟩:=notin c hc;exact kk c o n1 n2 n3 n4 q
  ·obtain ⟨o,es,ep,ho,r⟩:=hm
   exact ⟨o,es,ep,kk _ o (Ne.symm (hf z (by simp)).2.1) (Ne.symm (hf TO (by simp)).2.1) (Ne.symm (hf i1 (by simp)).2.1) (Ne.symm (hf i2 (by simp)).2.1) ho,r⟩
 self:=fun _ _ _ _ _ st h=>wpAny_pyIter_zip st.1 h
section
variable {X:Cx}
def Zmq (K:PySem.W.Frag) (ta:TA):TI:=fun σ H R=>ta σ H fun vs H1=>∃a b,vs = [.ref a,.ref b]/\(∃xs,Zw K H1 a xs)/\(∃ys,Zw K H1 b ys)/\R (Itz K a b) H1
theorem Zmt {a b:Expr}{ta:TA}{p pos tpos:Pos}{es:List Expr}{k:Nat} (hg:Gl X "zip") (hm:X.mg "zip" = none) (ha:PA X [a,b] ta) (hs:starEach [a,b] X.env = [(false,eval a X.env),(false,eval b X.env)]:=by rfl) (hs2:starEach [b] X.env = [(false,eval b X.env)]:=by rfl):
  PI X (.Tuple es k tpos) (.Call (.Name "zip" p) [a,b] [] pos) (Zmq X.K ta):=by
 intro pins s σ H R I h
 refine Call_ (GN I hg hm boot_zip (PyProof.Rows.callWith_type1 (Yq (ha pos pins s σ H _ I h) fun us s1 ⟨vs,H1,I1,r1,q1⟩=>?_) (by rw [hs,hs2]) (by rw [hs2];rfl)))
 obtain ⟨l1,l2,e,⟨xs,hq1⟩,⟨ys,hq2⟩,q⟩:=q1
 subst e
 obtain ⟨u,v,rfl,ru,rv⟩:=r1.two
 cases ru
 cases rv
 obtain ⟨its1,rv1,p1,hz1⟩:=I1.list hq1
 obtain ⟨its2,rv2,p2,hz2⟩:=I1.list hq2
 have L1:@LT.lt Nat _ l1 s1.heap.objs.size:=by obtain ⟨o,ho,_⟩:=p1.isList;exact aLt ho
 have L2:@LT.lt Nat _ l2 s1.heap.objs.size:=by obtain ⟨o,ho,_⟩:=p2.isList;exact aLt ho
 refine call_zip_2 p1.isList p2.isList fun h' g1 g2 g3 g4 g5 hsz kk=>?_
 have I2:Inv X pins σ H1 { s1 with heap:=h' }:=I1.kept (t':=s1.toks) kk
 refine wpAny_pyIter_zip (s:={ s1 with heap:=h' }) g1 ?_
 have ap:ZipApart (s1.heap.objs.size+4) (s1.heap.objs.size+2) (s1.heap.objs.size+3) s1.heap.objs.size (s1.heap.objs.size+1) l1 l2:=by
  constructor<;>(intro e;have e':@Eq Nat _ _:=e;lia)
 refine ⟨_,[s1.heap.objs.size+4,s1.heap.objs.size+2,s1.heap.objs.size+3,s1.heap.objs.size,s1.heap.objs.size+1],_,_,H1,rfl,I2,ZiS l1 l2 _ _ _ _ _ ap,⟨g1,g2,⟨_,_,g3⟩,g4,g5⟩,fun c hc=>?_,q⟩
 have hb':@LE.le Nat _ s1.heap.objs.size c:=by
  simp only [List.mem_cons,List.not_mem_nil,or_false] at hc
  rcases hc with e | e | e | e | e<;>(subst e;first | exact Nat.le_refl _ | exact Nat.le_add_right _ _)
 exact I1.fpOk hb' (I1.hok.fresh hb')
theorem ZgX {K:PySem.W.Frag}{a b:Expr}{ta:TA}{p pos tpos:Pos}{es:List Expr}{k:Nat} (hk:X.K=K) (hg:Gl X "zip") (hm:X.mg "zip" = none) (ha:PA X [a,b] ta) (hs:starEach [a,b] X.env = [(false,eval a X.env),(false,eval b X.env)]:=by rfl) (hs2:starEach [b] X.env = [(false,eval b X.env)]:=by rfl):
  PI X (.Tuple es k tpos) (.Call (.Name "zip" p) [a,b] [] pos) (Zmq K ta):=hk ▸ Zmt hg hm ha hs hs2
end
end L2
namespace L2
open PySem PySem.Spec PyProof.Rows PyProof.V
section
variable {X:Cx}{st:Stmt}{rest:List Stmt}{t u:TS}
def Zou (t u:TS):TS:=fun D σ H=>∃I:St->Hp->Prop,t { D with nx:=I } σ H /\ ∀ σ' H',I σ' H'->u D σ' H'
theorem Zk6 (h1:PS X st t) (h2:PSs X rest u):PSs X (st::rest) (Zou t u):=by
 intro pins s σ H D I h
 obtain ⟨W,a,b⟩:=h
 have c:PSs X (st::rest) (Ux (fun D' σ' H'=>σ' = σ /\ H'=H/\D' = { D with nx:=u D } /\ t { D with nx:=W } σ H) u):=by
  refine Ze (fun pins s σ' H' D' I' q=>?_) h2
  obtain ⟨rfl,rfl,rfl,q⟩:=q
  refine Yq (h1 pins s σ' H' _ I' q) fun f s' z=>?_
  cases f with
  | next=>obtain ⟨σ2,H2,I2,q2⟩:=z;exact ⟨σ2,H2,I2,b σ2 H2 q2⟩
  | _=>exact z
 exact c pins s σ H D I ⟨rfl,rfl,rfl,a⟩
end
def Exc (h:Heap) (a T:Addr) (C:Value):Prop:=
 ∃oe vs oT ts,h.get? a=some oe/\oe.cls=C/\oe.data = .fields vs/\vs[1]? = some (.ref T)/\h.get? T=some oT/\oT.data = .fields ts/\ts[3]? = some .none/\T≠a/\vs[2]? = some .none
section
variable {M:Model}{A:Around}{E:Value->Shared->Prop}{s:Shared}{env:Env}{outer:List Env}{L a T:Addr}{C:Value}{base h:Heap}{Q:Unit->Shared->Prop}
theorem ZkE {o:Obj}{vs:Array Value}{k:Nat}{x:Value} (ho:s.heap.get? a=some o) (hd:o.data = .fields vs) (hk:k<vs.size)
  (h:∀h',(∃o',h'.get? a=some o'/\o'.cls=o.cls/\o'.data = .fields (vs.setIfInBounds k x))->Heap.SameBut a s.heap h'->Q () { s with heap:=h' }):wpAny M A (setField (.ref a) k x) Q E s:=
 wpAny_setField ho hd hk (h _ ⟨_,Heap.get?_update_self _ ho (Obj.isFreed_of_fields (Obj.data_mapFields hd _)),Obj.cls_mapFields ..,Obj.data_mapFields hd _⟩ (Heap.SameBut.update ..))
theorem Zha {oe:Obj}{vs:Array Value}{T:Option Addr} (hfr:A.frames=some (env::outer)) (hf:env.frame=some L) (hl:s.heap.FunFrames base (env::outer)) (ha:s.heap.get? a=some oe) (hv:oe.data = .fields vs) (h1:vs[1]? = some (T.elim .none .ref)) (h2:vs[2]? = some .none)
  (hT:∀t,T=some t->t≠a /\ ∃oT ts,s.heap.get? t=some oT/\oT.data = .fields ts/\ts[3]? = some .none)
  (hQ:∀h' T',(∀b o,s.heap.get? b=some o->b∉frs (env::outer)->b≠a->T≠some b->h'.get? b=some o)->(∀b o,s.heap.get? b=some o->b∈frs (env::outer) -> ∃sl,h'.get? b=some { o with slots:=sl }) ->
   Exc h' a T' oe.cls->s.heap.get? T'=none->Q () { s with heap:=h' }):wpAny M A (noteFrame (.ref a) env) (fun _ s₂=>wpAny M A (setFlight (.ref a) none) Q E s₂) E s:=by
 have nf:∀b o,s.heap.get? b=some o->(∃ws,o.data = .fields ws)->b∉frs (env::outer):=fun b o e ⟨ws,d⟩ hb=>by
  obtain ⟨_,o',e',n⟩:=hl.mem hb
  rw [e] at e';cases e'
  exact n ws d
 have sz:2<vs.size:=(Array.getElem?_eq_some_iff.mp h2).1
 have entry:∀(head:Value) (nx:Bool) (h0:Heap),(∀b o,s.heap.get? b=some o->T≠some b->h0.get? b=some o)->(∀b o,s.heap.get? b=some o -> ∃o',h0.get? b=some o')->h0.FunFrames base (env::outer) ->
   wpAny M A (do let f <- frameOf env;let pl <- entryPlaceOf L nx;let b <- EntryCells.newEntry head f .none (rawInt L) .none pl;setField (.ref a) 1 b) (fun _ s₂=>wpAny M A (setFlight (.ref a) none) Q E s₂) E { s with heap:=h0 }:=by
  intro head nx h0 k0 n0 hl0
  have a0:h0.get? a=some oe:=k0 a oe ha fun z=>(hT a z).1 rfl
  refine wpAny_bind (wpAny_frameOf_fun hfr hl0 hf fun h₁ so=>wpAny_bind (wpAny_entryPlaceOf fun pl hpl=>?_))
  unfold EntryCells.newEntry newFields
  refine wpAny_bind (wpAny_newObj_type ?_ (hpl.sizeOk5 _ _ _ _ _))
  generalize hob:([head,Value.ref L,.none,rawInt L,.none]++(if pl.isEmpty then List.replicate 6 Value.none else pl)).toArray=ts
  have t3:3<ts.size:=by rw [<- hob];simp only [List.size_toArray,List.length_append,List.length_cons,List.length_nil];lia
  have a1:h₁.get? a=some oe:=(so.2.1 a (nf a oe ha ⟨vs,hv⟩)).trans a0
  have ne:h₁.objs.size≠a:=Nat.ne_of_gt (Heap.lt_size a1)
  refine ZkE (Heap.get?_push_of_some _ a1) hv (by lia) fun g2 ⟨o2,e2,c2,d2⟩ sb2=>?_
  have eT:g2.get? h₁.objs.size=some _:=(sb2.2 _ ne).trans (Heap.get?_push_size h₁ rfl)
  unfold setFlight
  refine wpAny_bind (wpAny_field (x:=.ref h₁.objs.size) e2 d2 (by simp [show 1<vs.size by lia]) ?_)
  rw [if_pos (by simp)]
  refine ZkE eT rfl t3 fun h3 ⟨o3,e3,c3,d3⟩ sb3=>?_
  have old:∀b o,h₁.get? b=some o->b≠a->h3.get? b=some o:=fun b o e z=>(sb3.2 b (Nat.ne_of_lt (Heap.lt_size e))).trans ((sb2.2 b z).trans (Heap.get?_push_of_some _ e))
  have fresh:s.heap.get? h₁.objs.size=none:=by
   cases q:s.heap.get? h₁.objs.size with
   | none=>rfl
   | some o=>
    exfalso
    obtain ⟨o',z⟩:=n0 _ o q
    obtain ⟨sl,y⟩:=so.2.2 _ _ z
    exact Nat.lt_irrefl _ (Heap.lt_size y)
  refine hQ h3 h₁.objs.size (fun b o e n na nt=>old b o ((so.2.1 b n).trans (k0 b o e nt)) na) (fun b o e hb=>?_) ⟨o2,_,o3,_,(sb3.2 a (Ne.symm ne)).trans e2,c2,d2,by simp [show 1<vs.size by lia],e3,d3,by simp [t3],ne,by rw [Array.getElem?_setIfInBounds_ne (by decide)];exact h2⟩ fresh
  obtain ⟨_,o',e',n⟩:=hl.mem hb
  rw [e] at e';cases e'
  obtain ⟨sl,y⟩:=so.2.2 b o (k0 b o e fun z=>by obtain ⟨_,oT,ts,q,d,_⟩:=hT b z;rw [e] at q;cases q;exact n _ d)
  exact ⟨sl,old b _ y fun z=>by rw [z,ha] at e;cases e;exact n _ hv⟩
 unfold noteFrame
 simp only [hf]
 refine wpAny_bind (wpAny_field ha hv h1 ?_)
 cases T with
 | none=>
  rw [if_neg (by decide)]
  exact entry _ _ s.heap (fun b o e _=>e) (fun b o e=>⟨o,e⟩) hl
 | some t=>
  obtain ⟨nt,oT,ts,eT,dT,f3⟩:=hT t rfl
  show wpAny M A (if (Value.ref t != Value.none)=true then _ else _) _ _ s
  rw [if_pos (by simp)]
  refine wpAny_bind (wpAny_field eT dT f3 ?_)
  rw [if_neg (by simp [rawInt])]
  refine wpAny_bind (ZkE eT dT (Array.getElem?_eq_some_iff.mp f3).1 fun h' ⟨o1,g1,_⟩ sb=>?_)
  refine entry _ _ h' (fun b o e n=>(sb.2 b fun z=>n (by rw [z])).trans e) (fun b o e=>by
   by_cases z:b=t
   ·exact ⟨o1,by rw [z];exact g1⟩
   ·exact ⟨o,(sb.2 b z).trans e⟩) (hl.of_keeps fun b o e n=>⟨o,(sb.2 b fun z=>?_).trans e,rfl⟩)
  rw [z,eT] at e;cases e
  exact n _ dT
theorem ZgN {args:List Value} (hfr:A.frames=some (env::outer)) (hf:env.frame=some L) (hl:h.FunFrames base (env::outer)) (hx:Heap.MadeExcOf h s.heap a C args)
  (hQ:∀h' T,(∀b o,h.get? b=some o->b∉frs (env::outer)->h'.get? b=some o)->(∀b o,h.get? b=some o->b∈frs (env::outer) -> ∃sl,h'.get? b=some { o with slots:=sl }) ->
   Exc h' a T C->h.get? a=none->h.get? T=none->Q () { s with heap:=h' }):wpAny M A (leaving env (.ref a)) Q E s:=by
 obtain ⟨t,ha,_⟩:=hx.there
 have was:∀b,s.heap.get? b=none->h.get? b=none:=fun b e=>by
  cases q:h.get? b with
  | none=>rfl
  | some o=>rw [hx.keeps b o q] at e;cases e
 exact wpAny_bind (Zha (T:=none) hfr hf (hl.of_keeps fun b o e _=>⟨o,hx.keeps b o e,rfl⟩) ha rfl rfl rfl (fun _ z=>nomatch z) fun h' T' k1 k2 ex nT=>
  hQ h' T' (fun b o e n=>k1 b o (hx.keeps b o e) n (fun z=>by rw [z,hx.new] at e;cases e) (fun z=>nomatch z)) (fun b o e hb=>k2 b o (hx.keeps b o e) hb) ex hx.new (was _ nT))
theorem looked (hfr:A.frames=some (env::outer)) (hf:env.frame=some L) (hl:s.heap.FunFrames base (env::outer)) (hx:Exc s.heap a T C)
  (hQ:∀h' T',(∀b o,s.heap.get? b=some o->b∉frs (env::outer)->b≠a->b≠T->h'.get? b=some o)->(∀b o,s.heap.get? b=some o->b∈frs (env::outer) -> ∃sl,h'.get? b=some { o with slots:=sl }) ->
   Exc h' a T' C->(T'=T∨s.heap.get? T'=none)->Q () { s with heap:=h' }):wpAny M A (noteFrame (.ref a) env) (fun _ s₂=>wpAny M A (setFlight (.ref a) none) Q E s₂) E s:=by
 obtain ⟨oe,vs,oT,ts,p1,rfl,p3,p4,p5,p6,p7,p8,p9⟩:=hx
 exact Zha (T:=some T) hfr hf hl p1 p3 p4 p9 (fun t z=>by cases z;exact ⟨p8,oT,ts,p5,p6,p7⟩) fun h' T' k1 k2 ex nT=>hQ h' T' (fun b o e n na nt=>k1 b o e n na fun z=>nt (Option.some.inj z).symm) k2 ex (.inr nT)
theorem Zki (hfr:A.frames=some (env::outer)) (hf:env.frame=some L) (hl:s.heap.FunFrames base (env::outer)) (hx:Exc s.heap a T C)
  (hQ:∀h' T',(∀b o,s.heap.get? b=some o->b∉frs (env::outer)->b≠a->b≠T->h'.get? b=some o)->(∀b o,s.heap.get? b=some o->b∈frs (env::outer) -> ∃sl,h'.get? b=some { o with slots:=sl }) ->
   Exc h' a T' C->(T'=T∨s.heap.get? T'=none)->Q () { s with heap:=h' }):wpAny M A (leaving env (.ref a)) Q E s:=wpAny_bind (looked hfr hf hl hx hQ)
end
def CX1 (P:Program) (w:World):CXT:=fun outer H s E e s'=>∃(a T C:Addr) (H':Hp),e = .ref a/\s'.os=s.os/\AllBare s'.gens/\Un (frs outer) [] H H' s.heap s'.heap/\W0 P w H' s'.heap /\
 Exc s'.heap a T (.ref C)/\s.heap.get? a=none/\s.heap.get? T=none/\H' a=none/\H' T=none/\E (.ref C) none H'
section
variable {P:Program}{w:World}{K:PySem.W.Frag}{mg:Str->Option Value}{base:Heap}{N:List Str}{qual:Str}{scope:Scope}{f:Addr}{cd:Value}{A:Around}{outer:List Env}{s₀ s:Shared}{H₀ H:Hp}{E:XK}{CX:CXT}{pins:List (Addr×Obj)} {σ:L2.St}
theorem ZdC {h:Heap}{b:Addr}{o:HO} (ok:W0 P w H h) (e:H b=some o):∃ob,h.get? b=some ob:=(ok b o e).there
theorem JP {h:Heap}{b:Addr} (ok:W0 P w H h) (e:h.get? b=none):H b=none:=by
 cases q:H b with
 | none=>rfl
 | some o=>
  obtain ⟨ob,z⟩:=ZdC ok q
  rw [e] at z
  cases z
theorem ZdX {a T:Addr}{h':Heap} (I:Inv (Wz CX P w K mg base N qual scope f cd A outer s₀ H₀ E) pins σ H s)
  (na:H a=none/\s₀.heap.get? a=none) (nT:H T=none/\s₀.heap.get? T=none)
  (keep:∀b o,s.heap.get? b=some o->b∉frs (Wz CX P w K mg base N qual scope f cd A outer s₀ H₀ E).stack->b≠a->b≠T->h'.get? b=some o)
  (slot:∀b o,s.heap.get? b=some o->b∈frs (Wz CX P w K mg base N qual scope f cd A outer s₀ H₀ E).stack -> ∃sl,h'.get? b=some { o with slots:=sl }):
  Un (frs outer) [] H₀ H s₀.heap h'/\W0 P w H h':=by
 have B:Un (frs outer) [] H₀ H s₀.heap s.heap:=I.base
 have neL:∀b o,s₀.heap.get? b=some o->b∉frs outer->b∉frs (Wz CX P w K mg base N qual scope f cd A outer s₀ H₀ E).stack:=fun b o e nb hb=>by
  rcases List.mem_cons.mp (I.stkSub b hb) with z | z
  ·exact absurd (Nat.lt_of_lt_of_le (Heap.lt_size e) I.ok.above) (by rw [z];exact Nat.lt_irrefl _)
  ·exact nb z
 have nea:∀b o,s₀.heap.get? b=some o->b≠a/\b≠T:=fun b o e=>⟨(fun z=>by rw [z,na.2] at e;cases e),(fun z=>by rw [z,nT.2] at e;cases e)⟩
 have any:∀b o,s.heap.get? b=some o->b≠a->b≠T -> ∃o',h'.get? b=some o':=fun b o e z1 z2=>by
  by_cases hb:b∈frs (Wz CX P w K mg base N qual scope f cd A outer s₀ H₀ E).stack
  ·obtain ⟨sl,q⟩:=slot b o e hb
   exact ⟨_,q⟩
  ·exact ⟨o,keep b o e hb z1 z2⟩
 refine ⟨⟨fun b o e n hb hx=>keep b o (B.keep b o e n hb hx) (neL b o e hb) (nea b o e).1 (nea b o e).2,fun b o e n hb hx=>?_,B.free,fun b o e hx=>?_,B.tups,B.frzs,B.tbls⟩,fun b u e=>?_⟩
 ·obtain ⟨sl,q⟩:=B.slot b o e n hb hx
  obtain ⟨sl',q'⟩:=slot b _ q (by
   show b∈frs (envOfC qual scope s₀.heap.objs.size f cd::outer)
   unfold frs
   rw [List.filterMap_cons]
   exact List.mem_cons_of_mem _ hb)
  exact ⟨sl',q'⟩
 ·obtain ⟨o',q⟩:=B.there b o e hx
  exact any b o' q (nea b o e).1 (nea b o e).2
 ·refine (I.hok b u e).stay (fun c v hc q=>?_) (fun _ q=>q) fun _ _ q=>q
  have hH:H c≠none:=by
   rcases hc with rfl | z
   ·rw [e];exact fun z=>nomatch z
   ·rw [z];exact fun z=>nomatch z
  exact keep c v q (fun z=>hH (I.stkFree c z)) (fun z=>hH (by rw [z];exact na.1)) (fun z=>hH (by rw [z];exact nT.1))
theorem JN {b:Addr} (I:Inv (Wz CX P w K mg base N qual scope f cd A outer s₀ H₀ E) pins σ H s) (e:s.heap.get? b=none):s₀.heap.get? b=none:=by
 cases q:s₀.heap.get? b with
 | none=>rfl
 | some o=>
  obtain ⟨o',z⟩:=I.base.there b o q (fun y=>nomatch y)
  rw [e] at z
  cases z
theorem Zlm {a C:Addr}{args:List Value}{h':Heap}{tk:Nat} (I:Inv (Wz (CX1 P w) P w K mg base N qual scope f cd A outer s₀ H₀ E) pins σ H s) (hx:Heap.MadeExcOf s.heap h' a (.ref C) args) (hE:E (.ref C) none H):
  (Wz (CX1 P w) P w K mg base N qual scope f cd A outer s₀ H₀ E).xe (.ref a) { s with heap:=h',toks:=tk }:=by
 refine ZgN (L:=s₀.heap.objs.size) I.ok.frames rfl I.stack (s:={ s with heap:=h',toks:=tk }) hx fun h2 T keep slot ex na nT=>?_
 obtain ⟨u,ok⟩:=ZdX I ⟨JP I.hok na,JN I na⟩ ⟨JP I.hok nT,JN I nT⟩ (fun b o e n _ _=>keep b o e n) slot
 exact ⟨a,T,C,H,rfl,I.os,I.bare,u,ok,ex,JN I na,JN I nT,JP I.hok na,JP I.hok nT,hE⟩
theorem Zn0:Passes (CX1 P w) (Wz (CX1 P w) P w K mg base N qual scope f cd A outer s₀ H₀ E) E:=by
 intro pins σ H s e s' I c
 obtain ⟨a,T,C,H',rfl,os,bare,un,ok,ex,na,nT,ha,hT,hE⟩:=c
 have I':Inv (Wz (CX1 P w) P w K mg base N qual scope f cd A outer s₀ H₀ E) pins σ H' s':=I.call' os un ok bare (fun b z=>nomatch z)
 refine Zki (L:=s₀.heap.objs.size) I'.ok.frames rfl I'.stack ex fun h2 T' keep slot ex' oT=>?_
 obtain ⟨u,ok'⟩:=ZdX I' ⟨ha,JN I na⟩ ⟨hT,JN I nT⟩ keep slot
 refine ⟨a,T',C,H',rfl,I'.os,I'.bare,u,ok',ex',JN I na,?_,ha,?_,hE⟩
 ·rcases oT with z | z
  ·rw [z];exact JN I nT
  ·exact JN I' z
 ·rcases oT with z | z
  ·rw [z];exact hT
  ·exact JP I'.hok z
end
theorem Zmh {K:PySem.W.Frag}{C:Addr}{bmB:List Value}{newId:String}{h:Heap} (KI:K.In h) (hq:PySem.W.excIn K C bmB newId=true):
  ∃bm N nm qn bs hd sn sub ab col dd k0 k1 k2 k3 k5 mN,h.get? C=some (excClassObj nm qn C N bs bm hd sn sub ab col dd k0 k1 k2 k3 k5 newId)/\h.Ns N mN/\mN "__init__" = none/\OwnTail h bmB bm:=by
 unfold PySem.W.excIn at hq
 split at hq
 ·rename_i dd dat slots hob
  split at hq
  ·rename_i C2 tail k0 k1 k2 k3 nid k5 hmro hsl
   simp only [Bool.and_eq_true,Bool.not_eq_true',beq_iff_eq] at hq
   obtain ⟨⟨⟨⟨⟨e1,e2⟩,e3⟩,e4⟩,e5⟩,e6⟩:=hq
   subst e1
   subst e2
   obtain ⟨nm,bs,mro,ns,qn,hd,sn,sub,ab,col,del⟩:=dat
   simp only at hmro e3 e5 e6
   subst hmro
   subst e3
   obtain ⟨sl⟩:=slots
   simp only at hsl
   subst hsl
   exact ⟨tail,ns,nm,qn,bs,hd,sn,sub,ab,col,dd,k0,k1,k2,k3,k5,_,KI _ _ hob,.of_isNs (PySem.W.isNs_of_in KI e5),PySem.W.nsMap_none_of_in KI e5 e6,PySem.W.tail_of_in KI e4⟩
  ·exact nomatch hq
 ·exact nomatch hq
def bmV:List Value:=[.type "ValueError", .type "Exception", .type "BaseException", .type "object"]
def Zm0 (C:Addr) (E:XK) (ta:TA):TS:=fun _ σ H=>ta σ H fun vs H1=>vs.length<=sizeLine/\E (.ref C) none H1
section
variable {P:Program}{w:World}{K:PySem.W.Frag}{mg:Str->Option Value}{base:Heap}{N:List Str}{qual:Str}{scope:Scope}{f:Addr}{cd:Value}{A:Around}{outer:List Env}{s₀:Shared}{H₀:Hp}{E:XK}
theorem Zi7 {x:Str}{C:Addr}{e:Expr}{es:List Expr}{ta:TA}{np cpos pos:Pos} (hg:Gl (Wz (CX1 P w) P w K mg base N qual scope f cd A outer s₀ H₀ E) x) (hm:mg x=some (.ref C)) (hc:PySem.W.excIn K C bmV "ValueError.__new__" = true)
  (ha:PA (Wz (CX1 P w) P w K mg base N qual scope f cd A outer s₀ H₀ E) (e::es) ta)
  (he:starEach (e::es) (Wz (CX1 P w) P w K mg base N qual scope f cd A outer s₀ H₀ E).env=(false,eval e (Wz (CX1 P w) P w K mg base N qual scope f cd A outer s₀ H₀ E).env)::starEach es (Wz (CX1 P w) P w K mg base N qual scope f cd A outer s₀ H₀ E).env:=by rfl)
  (hp:(backTo cpos (starEach es (Wz (CX1 P w) P w K mg base N qual scope f cd A outer s₀ H₀ E).env)).any (·.1)=false:=by rfl) (hd:(x==("__debug__" : Str))=false:=by decide):
  PS (Wz (CX1 P w) P w K mg base N qual scope f cd A outer s₀ H₀ E) (.Raise (some (.Call (.Name x np) (e::es) [] cpos)) none pos) (Zm0 C E ta):=by
 intro pins s σ H D I h
 obtain ⟨bm,NN,nm,qn,bs,hdc,sn,sub,ab,col,dd,k0,k1,k2,k3,k5,mN,hC,hN,hni,T⟩:=Zmh I.mod.kin hc
 have hb:bmV.contains (.type "BaseException")=true:=PySem.F.excBase_ValueError.hasBase
 refine wpAny_Raise_call_subT (C:=C) (nm:=nm) (q:=qn) (N:=NN) (bs:=bs) (bm:=bm) (bmB:=bmV) (hdct:=hdc) (sn:=sn) (sub:=sub) (ab:=ab) (col:=col) (dd:=dd) (k0:=k0) (k1:=k1) (k2:=k2) (k3:=k3) (k5:=k5)
  (newId := "ValueError.__new__") PySem.F.excBase_ValueError (mN:=mN) (T.hasType hb) (I.ok.hd rfl) (by rw [he];show (false||(backTo cpos (starEach es _)).any (·.1))=false;rw [hp];rfl) hni (ZhF I hg hm ⟨rfl,?_⟩ hd)
 have hz:=ha cpos pins s σ H _ I h
 rw [he] at hz ⊢
 refine Calls.evalArgs_plain (wpAny_mono hz (fun us s2 ⟨vs,H2,I2,rv,hl,hE⟩=>?_) fun _ _ y=>y)
 refine ⟨rfl,by rw [<- rv.length];exact hl,I2.bk _ _ hC,hN.keeps I2.bk,T.keeps I2.bk,fun h' a mk=>?_⟩
 exact Zlm (tk:=s2.toks) I2 mk hE
end
section
variable {P:Program}{w:World}{K:PySem.W.Frag}{mg:Str->Option Value}{base:Heap}
theorem YE.okX {x qual:Str}{st:Stmt}{f:Addr}{fd:FuncData}{N ps:List Str}{k:Nat}{sp:Sp} (F:YE K x qual st f fd) (S:Zz N ps (Zj st)) (len:∀vs H Q E,sp vs H Q E->vs.length=ps.length)
  (hbody:∀(cdv:Value) (A:Around) (outer:List Env) (s:Shared) (H:Hp) (vs:List V) (Q:VK) (E:XK),W4 k (A.deeper (envOfC qual (Zj st) s.heap.objs.size f cdv))->sp vs H Q E ->
   ∃t,PSs (Wz (CX1 P w) P w K mg base N qual (Zj st) f cdv A outer s H E) (GY st) t/\t { nx:=fun _ H'=>Q .non H',rt:=Q } (start N vs) H):Yj P w K mg base (CX1 P w) (k+1) f fd ps sp:=by
 obtain ⟨oc,od,kV,doc,pm,an,cdv,ct,osl,rfl,lk,hcd⟩:=F.ex
 exact ZlR lk hcd S len fun A outer s H vs Q E hr hsp=>hbody cdv A outer s H vs Q E hr hsp
def ZhW (P:Program) (w:World) (K:PySem.W.Frag) (mg:Str->Option Value) (base:Heap) (k:Nat) (x:Str) (ps:List Str) (sp:Sp):Prop:=
 ∃(f:Addr) (fd:FuncData),Yj P w K mg base (CX1 P w) k f fd ps sp/\mg x=some (.ref f)/\PySem.W.keepIn K (.ref f)=true/\Binds K fd ps []
theorem ZhE {X:Cx}{k:Nat}{x:Str}{ps:List Str}{sp:Sp}{p pos:Pos}{e:Expr}{es:List Expr}{t:TA}{E:XK} (h:ZhW X.prog X.w X.K X.mg X.base k x ps sp) (hr:W4 k X.A) (hx:Passes (CX1 X.prog X.w) X E) (ha:PA X (e::es) t) (hg:Gl X x:=by rfl) (hdb:(x==("__debug__" : Str))=false:=by decide)
  (he:starEach (e::es) X.env=(false,eval e X.env)::starEach es X.env:=by rfl) (hpl:(backTo pos (starEach es X.env)).any (·.1)=false:=by rfl):PE X (.Call (.Name x p) (e::es) [] pos) (Zd4 sp [] E t):=by
 obtain ⟨f,fd,G,hm,hk,hb⟩:=h
 exact Zhe G hr hg hm hk hb .nil hx ha hdb he hpl
end
def ZgH:List (TE×TE)->St->Hp->(List (V×V)->Hp->Prop)->Prop
 | [],_,H,Q=>Q [] H
 | (tk,tv)::r,σ,H,Q=>tk σ H fun x H1=>tv σ H1 fun y H2=>ZgH r σ H2 fun ps H3=>Q ((x,y)::ps) H3
abbrev VV:List (V×V)->List (Value×Value)->Prop:=Paired fun p q=>RelV p.1 q.1/\RelV p.2 q.2
def PPs (X:Cx) (pos:Pos) (keys:List (Option Expr)) (values:List Expr) (trs:List (TE×TE)):Prop:=
 ∀(pins:List (Addr×Obj)) (s:Shared) (σ:St) (H:Hp) (Q:List (V×V)->Hp->Prop),Inv X pins σ H s->ZgH trs σ H Q ->
  wpAny (model X.prog X.w) X.A (evalPairs (pairTrees keys values X.env pos)) (fun vs s'=>∃ps H',Inv X pins σ H' s'/\VV ps vs/\Q ps H') X.xe s
theorem ZkY {X:Cx}{pos:Pos}:PPs X pos [] [] []:=fun pins s σ H Q I h=>pairTrees_nil_walk ⟨[],H,I,.nil,h⟩
theorem ZfM {X:Cx}{pos:Pos}{k v:Expr}{ks:List (Option Expr)}{vs:List Expr}{tk tv:TE}{trs:List (TE×TE)} (hk:PE X k tk) (hv:PE X v tv) (hr:PPs X pos ks vs trs):
  PPs X pos (some k::ks) (v::vs) ((tk,tv)::trs):=fun pins s σ H Q I h=>
 pairTrees_cons_walk (Yq (hk pins s σ H _ I h) fun u s1 ⟨x,H1,I1,rx,q1⟩=>Yq (hv pins s1 σ H1 _ I1 q1) fun w2 s2 ⟨y,H2,I2,ry,q2⟩=>
  Yq (hr pins s2 σ H2 _ I2 q2) fun ws s3 ⟨ps,H3,I3,rel,q3⟩=>⟨(x,y)::ps,H3,I3,.cons ⟨rx,ry⟩ rel,q3⟩)
def ZbB (kvs more:List (Key×V)):List (Key×V):=more.foldl (fun acc kv=>putK acc kv.1 kv.2) kvs
theorem KV.merge:∀{more:List (Key×V)}{rs:List (Key×Value)}{kvs:List (Key×V)}{vs:List (Key×Value)},KV more rs->KV kvs vs->KV (ZbB kvs more) (merged vs rs):=by
 intro more rs kvs vs r
 unfold KV at r
 induction r generalizing kvs vs with
 | nil=>intro q;exact q
 | @cons p q ps qs h t ih=>
  intro r0
  have e:KV (putK kvs p.1 p.2) (stored vs q.1 q.2):=by
   have:=r0.put p.1 h.2
   rw [<- h.1];exact this
  exact ih e
theorem Zao:∀(more kvs:List (Key×V)),(ZbB kvs more).length<=kvs.length+more.length
 | [],kvs=>by show kvs.length<=kvs.length+0;lia
 | p::r,kvs=>by
  have h1:=Zao r (putK kvs p.1 p.2)
  have h2:=J6 kvs p.1 p.2
  show (ZbB (putK kvs p.1 p.2) r).length<=_
  rw [List.length_cons];lia
theorem ZcU {P:Program}{w:World}:∀{kvs:List (Key×V)}{ws:List (Value×Value)},VV (kvs.map fun kv=>(kV kv.1,kv.2)) ws -> ∃rs,Carries (ZH P w) ws rs/\KV kvs rs
 | [],_,r=>by rw [List.map_nil] at r;cases r;exact ⟨[],True.intro,.nil⟩
 | p::kvs,_,r=>by
  rw [List.map_cons] at r
  cases r with
  | @cons a b as bs h t=>
   obtain ⟨rs,c,q⟩:=ZcU (P:=P) (w:=w) t
   obtain ⟨b1,b2⟩:=b
   exact ⟨(p.1,b2)::rs,⟨ZbU h.1,rfl,c⟩,.cons ⟨rfl,h.2⟩ q⟩
def ZnA (trs:List (TE×TE)):TE:=fun σ H Q=>∀p,H p=none->ZgH trs σ (upd H p (.dK [])) fun ps H2=>H2 p=some (.dK []) /\ ∃kvs:List (Key×V),ps=kvs.map (fun kv=>(kV kv.1,kv.2))/\kvs.length<=15/\Q (.ref p) (upd H2 p (.dK (ZbB [] kvs)))
theorem Zkr {X:Cx}{pos:Pos}{keys:List (Option Expr)}{values:List Expr}{trs:List (TE×TE)} (h:PPs X pos keys values trs) (hall:keys.all (·.isSome)=true) (hl:keys.length=values.length) (h0:keys ≠ [])
  (h15:keys.length<=15):PE X (.Dict keys values pos) (ZnA trs):=by
 intro pins s σ H Q I q
 have hn:=I.hok.fresh (Nat.le_refl s.heap.objs.size)
 have I1:=I.laid (a:=s.heap.objs.size) (o:=.dK []) (h':=s.heap.push { cls:=.type "dict", data:=.dict #[] }) (t':=s.toks) (fun _ _ q=>Heap.get?_push_of_some _ q) (Nat.le_refl _) (ZfD s.heap I.big)
 refine wpAny_Dict_walk (knd:=ZH X.prog X.w) hall hl h0 h15 (Yq (h pins _ σ _ _ I1 (q _ hn)) fun ws s2 ⟨ps,H2,I2,rel,e,kvs,ep,lk,q2⟩=>?_)
 subst ep
 obtain ⟨rs,c,rk⟩:=ZcU (P:=X.prog) (w:=X.w) rel
 obtain ⟨z,hd,vs0,r0,dd⟩:=Zg7 I2.hok e
 cases r0
 refine ⟨rs,c,dd,fun h' dd' hs=>⟨.ref s.heap.objs.size,_,?_,rfl,q2⟩⟩
 have hz:(ZbB [] kvs).length<=sizeLine:=by
  have h1:=Zao kvs []
  rw [List.length_nil] at h1
  rw [sizeLine_eq];lia
 have he:∃q,h'.get? s.heap.objs.size=some q:=let ⟨q,_,_,hq,_⟩:=dd';⟨q,hq⟩
 exact Zaf I2 (by rw [e];exact True.intro) hs he (Zgz hz hd (rk.merge .nil) dd')
def ZjT (lo:Int) (n:Nat):It:=⟨fun i _=>i<n,fun i H x H'=>H'=H/\x = .int (lo+i*2),fun i _=>n<=i⟩
theorem ZfX {P:Program}{w:World}{K:PySem.W.Frag}{tg:Expr} (it:Addr) (lo:Int) (n:Nat):Turn P w K tg (ZjT lo n) [it] it (fun i h=>IsRangeIter h it (lo+(i:Nat)*2) ((n:Int)-(i:Nat)) 2) where
 mem:=by simp
 obj:=fun i h st b hb=>by
  have e:b=it:=by simpa using hb
  subst e
  exact ⟨_,st,fun v z=>by
   have z':Data.fields _=Data.cell v:=z
   cases z'⟩
 keep:=fun i h h' st k=>k it (by simp) _ st
 item:=by
  intro X hP hw hK hc i pins s σ H E I hf st hg
  subst hP hw hK
  obtain ⟨f0,f1,f2,f3,f4,f5⟩:=hf it (by simp)
  have W:=Walks.range (prog:=X.prog) (w:=X.w) (I.ok.hd hc) it lo 2 n
  refine W.item i s _ _ hg st fun v h' tk hv st' kk=>?_
  obtain ⟨t,rfl⟩:=hv
  have I1:Inv X pins σ H { s with heap:=h',toks:=tk }:=I.turned (fun b o hb e=>kk b o (by simpa using hb) e) f0 f1 f3 f4 f5
  exact ⟨_,rfl,Zfs (s:={ s with heap:=h',toks:=tk }) (n := "range_iterator") st' rfl rfl (by decide) ⟨.int (lo+i*2),H,I1,⟨t,rfl⟩,⟨rfl,rfl⟩,st',fun b hb=>(hf b hb).1⟩⟩
 done:=by
  intro X hP hw hK hc i pins s σ H E I hf st hg
  subst hP hw hK
  obtain ⟨f0,f1,f2,f3,f4,f5⟩:=hf it (by simp)
  exact wpAny_pyNext_range_end (I.ok.hd hc) st (by have:n<=i:=hg;lia) fun h' eb=>⟨rfl,I.turned (t':=s.toks) (fun b o hb e=>eb b o hb e) f0 f1 f3 f4 f5⟩
 self:=fun _ _ _ _ _ st h=>wpAny_pyIter_rangeiter st h
section
variable {X:Cx}{tg:Expr}
def ZnM (ta:TA):TI:=fun σ H R=>ta σ H fun vs H1=>∃n:Nat,vs = [.int 0,.int (2*n),.int 2]/\n<100000/\R (ZjT 0 n) H1
theorem Zfw (n:Nat):Builtin.Range.rangeSize 0 (2*(n:Int)) 2=n:=by
 unfold Builtin.Range.rangeSize
 rw [if_pos (by decide)]
 split<;>lia
theorem WR {i:Int} (h0 : -1<=i) (h1:i<1000000):Builtin.Range.rangeFitsLong i=true:=by
 unfold Builtin.Range.rangeFitsLong
 rw [Bool.and_eq_true]
 exact ⟨decide_eq_true (by lia),decide_eq_true (by lia)⟩
theorem Zh4 {n:Nat} (h:n<100000):Builtin.Range.small 0 (2*(n:Int)) 2=true:=by
 unfold Builtin.Range.small
 rw [Zfw]
 rw [if_pos (by decide),WR (i:=0) (by lia) (by lia),WR (i:=2*(n:Int)) (by lia) (by lia),WR (i:=2) (by lia) (by lia),WR (i:=(n:Int)) (by lia) (by lia),WR (i:=2*(n:Int)+(2-1)) (by lia) (by lia)]
 simp
theorem Zii {a b c:Expr}{ta:TA}{p pos:Pos} (hg:Gl X "range") (hm:X.mg "range" = none) (ha:PA X [a,b,c] ta) (hs:starEach [a,b,c] X.env = [(false,eval a X.env),(false,eval b X.env),(false,eval c X.env)]:=by rfl) (hs2:starEach [b,c] X.env = [(false,eval b X.env),(false,eval c X.env)]:=by rfl):
  PI X tg (.Call (.Name "range" p) [a,b,c] [] pos) (ZnM ta):=by
 intro pins s σ H R I h
 refine Call_ (GN I hg hm boot_range (PyProof.Rows.callWith_type1 (Yq (ha pos pins s σ H _ I h) fun us s1 ⟨vs,H1,I1,r1,q1⟩=>?_) (by rw [hs,hs2]) (by rw [hs2];rfl)))
 obtain ⟨n,e,hn,q⟩:=q1
 subst e
 cases r1 with
 | cons r rr=>
  cases rr with
  | cons r' rr=>
   cases rr with
   | cons r2 rr=>
    cases rr
    obtain ⟨t,rfl⟩:=r
    obtain ⟨t',rfl⟩:=r'
    obtain ⟨t2,rfl⟩:=r2
    refine call_range_3 (by decide) ?_ (Or.inl (PyProof.noPylong_small (by lia)))
    refine wpAny_pyIter_range (IsRange.new ..) (Zh4 hn) ?_
    have I2:Inv X pins σ H1 { s1 with heap:=s1.heap.push { cls:=.type "range", data:=.fields #[.int 0 t,.int (2*(n:Int)) t',.int 2 t2] } }:=I1.kept (t':=s1.toks) fun b o e=>Heap.get?_push_of_some _ e
    refine ⟨(s1.heap.push { cls:=.type "range", data:=.fields #[.int 0 t,.int (2*(n:Int)) t',.int 2 t2] }).objs.size,[(s1.heap.push { cls:=.type "range", data:=.fields #[.int 0 t,.int (2*(n:Int)) t',.int 2 t2] }).objs.size],_,_,H1,rfl,
     I2.kept (t':=s1.toks) fun b o e=>Heap.get?_push_of_some _ e,ZfX _ 0 n,?_,fun b hb=>?_,q⟩
    ·have e1:(0:Int)+((0:Nat):Int)*2=0:=by simp
     have e2:((n:Nat):Int)-((0:Nat):Int)=Builtin.Range.rangeSize 0 (2*(n:Int)) 2:=by rw [Zfw];simp
     show IsRangeIter _ _ ((0:Int)+((0:Nat):Int)*2) (((n:Nat):Int)-((0:Nat):Int)) 2
     rw [e1,e2]
     exact Heap.get?_push_size _ rfl
    ·have e:b=(s1.heap.push { cls:=.type "range", data:=.fields #[.int 0 t,.int (2*(n:Int)) t',.int 2 t2] }).objs.size:=by simpa using hb
     subst e
     exact I2.fpOk (Nat.le_refl _) (I2.hok.fresh (Nat.le_refl _))
end
theorem ZgK {lo:Int}{n:Nat}{g:TG}{tb:TS}{D:Ends} {σ:L2.St}{H:Hp} (Pv:Nat->L2.St->Hp->Prop) (h0:Pv 0 σ H)
  (hs:∀i σ H,i<n->Pv i σ H->g (.int (lo+i*2)) σ H fun σ2 H2=>tb { D with nx:=Pv (i+1),ct:=Pv (i+1),bk:=D.nx } σ2 H2) (hd:∀ σ H,Pv n σ H->D.nx σ H):
  ∃W:Nat->Nat->L2.St->Hp->Prop,(∃m,W 0 m σ H) /\ ∀i m σ H,W i m σ H ->
   ((ZjT lo n).stop i H/\D.nx σ H)∨((ZjT lo n).go i H /\ ∃N:L2.St->Hp->Prop,(∀ σ' H',N σ' H' -> ∃m',m'<m/\W (i+1) m' σ' H') /\ ∀x H',(ZjT lo n).yld i H x H'->g x σ H' fun σ2 H2=>tb { D with nx:=N,ct:=N,bk:=D.nx } σ2 H2):=by
 refine ⟨fun i m σ H=>m=n-i/\i<=n/\Pv i σ H,⟨n,by simp,Nat.zero_le _,h0⟩,?_⟩
 rintro i m σ H ⟨rfl,hi,p⟩
 by_cases hlt:i<n
 ·refine .inr ⟨hlt,Pv (i+1),fun σ' H' p'=>⟨n-(i+1),by lia,rfl,hlt,p'⟩,fun x H' y=>?_⟩
  obtain ⟨rfl,rfl⟩:=y
  exact hs i σ _ hlt p
 ·exact .inl ⟨by show n<=i;lia,hd σ H ((show i=n by lia) ▸ p)⟩
theorem ZhG {K:PySem.W.Frag}{a b:Addr}{xs ys:List V}{g:TG}{tb:TS}{D:Ends} {σ:L2.St}{H:Hp} (hl:xs.length=ys.length) (Pv:Nat->L2.St->Hp->Prop) (h0:Pv 0 σ H) (hS:∀i σ H,Pv i σ H->Zw K H a xs/\Zw K H b ys)
  (hs:∀i x y p σ H,xs[i]? = some x->ys[i]? = some y->Pv i σ H->H p=none->g (.ref p) σ (upd H p (.tup [x,y])) fun σ2 H2=>tb { D with nx:=Pv (i+1),ct:=Pv (i+1),bk:=D.nx } σ2 H2) (hd:∀ σ H,Pv xs.length σ H->D.nx σ H):
  ∃W:Nat->Nat->L2.St->Hp->Prop,(∃m,W 0 m σ H) /\ ∀i m σ H,W i m σ H ->
   ((Itz K a b).stop i H/\D.nx σ H)∨((Itz K a b).go i H /\ ∃N:L2.St->Hp->Prop,(∀ σ' H',N σ' H' -> ∃m',m'<m/\W (i+1) m' σ' H') /\ ∀x H',(Itz K a b).yld i H x H'->g x σ H' fun σ2 H2=>tb { D with nx:=N,ct:=N,bk:=D.nx } σ2 H2):=by
 refine ⟨fun i m σ H=>m=xs.length-i/\i<=xs.length/\Pv i σ H,⟨xs.length,by simp,Nat.zero_le _,h0⟩,?_⟩
 rintro i m σ H ⟨rfl,hi,p⟩
 obtain ⟨s1,s2⟩:=hS i σ H p
 by_cases hlt:i<xs.length
 ·refine .inr ⟨⟨xs,ys,xs[i],ys[i]'(by lia),s1,s2,by simp [hlt],by simp [show i<ys.length by lia]⟩,Pv (i+1),fun σ' H' p'=>⟨xs.length-(i+1),by lia,rfl,hlt,p'⟩,fun x H' y=>?_⟩
  obtain ⟨q,u,v,e1,e2,e3,y1,y2⟩:=y
  subst e1 e3
  exact hs i u v q σ _ (y1 xs s1) (y2 ys s2) p e2
 ·exact .inl ⟨⟨xs,ys,s1,s2,.inl (by lia)⟩,hd σ H ((show i=xs.length by lia) ▸ p)⟩
end L2
namespace L2
open PySem PySem.Spec PyProof.Rows PyProof.V
section
variable {X:Cx}
def ZnC (K:PySem.W.Frag):R2:=fun x y H Q=>∃(p q:Addr) (ns ms:List Int),x = .ref p/\y = .ref q/\Zw K H p (ns.map V.int)/\Zw K H q (ms.map V.int)/\Q (.bl (decide (ns=ms))) H
theorem Zg1 {ns:List Int}{its:List Value} (r:Vals (ns.map V.int) its) {j:Nat} (h:j<its.toArray.size):∃t,its.toArray[j] = .int (ns.getD j 0) t:=by
 have l:=r.length
 rw [List.length_map] at l
 have hj:j<ns.length:=by simp only [List.size_toArray] at h;lia
 obtain ⟨u,e,ru⟩:=r.get (i:=j) (x:=V.int ns[j]) (by simp [hj])
 obtain ⟨t,q⟩:=(show ∃t,u=Value.int ns[j] t from ru)
 have hi:j<its.length:=by lia
 refine ⟨t,?_⟩
 have:its[j]? = some its[j]:=by simp [hi]
 rw [this] at e
 have e2:=Option.some.inj e
 simp [hj]
 rw [e2,q]
theorem Zl8 (hu:X.A.units+64<cLine):Uy X (compareOp .Eq) (ZnC X.K):=by
 intro pins s σ H x y v u Q I rx ry h
 obtain ⟨p,q,ns,ms,rfl,rfl,hp,hq,hQ⟩:=h
 cases rx
 cases ry
 obtain ⟨its,r1,p1,_⟩:=I.list hp
 obtain ⟨its2,r2,p2,_⟩:=I.list hq
 have l1:=r1.length
 have l2:=r2.length
 rw [List.length_map] at l1 l2
 by_cases hl:ns.length=ms.length
 ·refine SeqAt.eq_listAt (e:=fun j=>ns.getD j 0==ms.getD j 0) p1.isList p2.isList (by simp only [List.size_toArray];lia) (by lia) (fun j h1 h2=>?_) ⟨.bl (decide (ns=ms)),H,I,?_,hQ⟩
  ·obtain ⟨t1,e1⟩:=Zg1 r1 h1
   obtain ⟨t2,e2⟩:=Zg1 r2 h2
   rw [e1,e2]
   exact SeqAt.EqAt.int_int _ _ _ _
  ·show Value.bool _=Value.bool _
   congr 1
   rw [Bool.eq_iff_iff,List.all_eq_true,decide_eq_true_iff]
   constructor
   ·intro z
    refine List.ext_getElem hl fun i h1 h2=>?_
    have:=z i (List.mem_range.mpr (by simp only [List.size_toArray];lia))
    simpa [h1,h2] using this
   ·intro z i _
    rw [z]
    simp
 ·refine SeqAt.eq_list_lengthsAt p1.isList p2.isList (by simp only [List.size_toArray];rw [bne_iff_ne];lia) (by lia) ⟨.bl (decide (ns=ms)),H,I,?_,hQ⟩
  rw [decide_eq_false (fun z=>hl (by rw [z]))]
  rfl
theorem ZkC {K:PySem.W.Frag} (h:X.K=K) (hu:X.A.units+64<cLine):Uy X (compareOp .Eq) (ZnC K):=h ▸ Zl8 hu
end
structure Wo (lt:Keyed->Keyed->Bool):Prop where
 irr:∀p,lt p p=false
 asym:∀p q,lt p q=true->lt q p=false
 neg:∀p q r,lt p r=true->lt p q=true∨lt q r=true
structure Cmp (prog:Program) (w:World) (A:Around) (E:Value->Shared->Prop) (s:Shared) (kd:SortKind) (D:Keyed->Prop) (lt:Keyed->Keyed->Bool):Prop where
 cmp:∀(p q:Keyed) (st:SortSt) (Q:Option Bool->SortSt->Prop),D p->D q->kindOf st=kd->Q (some (lt p q)) st->wpS (model prog w) A E s (lt' p q) Q st
 wo:Wo lt
section
variable {prog:Program}{w:World}{A:Around}{E:Value->Shared->Prop}{s:Shared}{kd:SortKind}{D:Keyed->Prop}{lt:Keyed->Keyed->Bool}
def Srt (lt:Keyed->Keyed->Bool) (l:List Keyed):Prop:=l.Pairwise fun p q=>lt q p=false
theorem ZlY {arr:Array Keyed}{i:Nat}{x:Keyed}{st:SortSt}{Q:Keyed->SortSt->Prop}{M:Model} (e:arr[i]? = some x) (h:Q x st):wpS M A E s (elem' arr i) Q st:=by
 rw [elem'_eq,e];exact wpS_pure h
end
def Zil:Nat->Nat->StateT SortSt Sem (Option Nat):=sortPriv% PySem.Builtin.countRun
def Zai:StateT SortSt Sem Unit:=sortPriv% PySem.Builtin.sortRuns
section
variable {prog:Program}{w:World}{A:Around}{E:Value->Shared->Prop}{s:Shared}{kd:SortKind}{D:Keyed->Prop}{lt:Keyed->Keyed->Bool}
theorem ZmJ {M:Model}{i j:Nat}{st:SortSt}{Q:Unit->SortSt->Prop} (h:Q () (setArr st (mirror (arrOf st) i j ((j-i) / 2)))):wpS M A E s (reverseSlice' i j) Q st:=by
 rw [reverseSlice'_eq];exact wpS_modify h
end
section
variable {prog:Program}{w:World}{A:Around}{E:Value->Shared->Prop}{s:Shared}{kd:SortKind}{D:Keyed->Prop}{lt:Keyed->Keyed->Bool}
theorem Zju {β:Type}{M:Model}{st:SortSt}{Q:β -> SortSt->Prop}{k n:Nat}{X Y:StateT SortSt Sem β} (h1:k<n->wpS M A E s X Q st) (h2:n<=k->wpS M A E s Y Q st):wpS M A E s (if k<n then X else Y) Q st:=by
 by_cases h:k<n
 ·rw [if_pos h];exact h1 h
 ·rw [if_neg h];exact h2 (by lia)
end
def lexLt:List Int->List Int->Bool
 | [],[]=>false
 | [],_::_=>true
 | _::_,[]=>false
 | a::as,b::bs=>if a=b then lexLt as bs else decide (a<b)
theorem Zic:∀{xs ys:List Int}{i:Nat},(xs.length<=i∨ys.length<=i)->lexLt (xs.drop i) (ys.drop i)=decide (xs.length-i<ys.length-i):=fun {xs ys i} h=>by
 rcases Nat.lt_or_ge i xs.length with h1 | h1
 ·rw [List.drop_eq_getElem_cons h1,show ys.drop i = [] from List.drop_eq_nil_of_le (by lia)]
  simp [lexLt];lia
 ·rw [List.drop_eq_nil_of_le h1]
  rcases Nat.lt_or_ge i ys.length with h2 | h2
  ·rw [List.drop_eq_getElem_cons h2]
   simp [lexLt];lia
  ·rw [List.drop_eq_nil_of_le h2]
   simp [lexLt];lia
theorem Zjt {xs ys:List Int}{i:Nat} (h1:i<xs.length) (h2:i<ys.length):lexLt (xs.drop i) (ys.drop i)=if xs[i]=ys[i] then lexLt (xs.drop (i+1)) (ys.drop (i+1)) else decide (xs[i]<ys[i]):=by
 conv=>lhs;rw [List.drop_eq_getElem_cons h1,List.drop_eq_getElem_cons h2]
 rfl
theorem ints_get:∀{vs:List Value}{ns:List Int},IntsAre vs ns -> ∀(i:Nat) (h:i<vs.length) (h':i<ns.length),∃t,vs[i] = .int ns[i] t
 | _,_,.cons n t hr,0,_,_=>⟨t,rfl⟩
 | _,_,.cons n t hr,i+1,h,h'=>by
  obtain ⟨t',e⟩:=ints_get hr i (by simpa using h) (by simpa using h')
  exact ⟨t',by simpa using e⟩
open PySem.SeqAt AutoSeq1 in
theorem Zhj:∀xs:List Int,lexLt xs xs=false
 | []=>rfl
 | a::as=>by rw [lexLt,if_pos rfl];exact Zhj as
theorem Zhx:∀(xs ys zs:List Int),lexLt xs zs=true->lexLt xs ys=true∨lexLt ys zs=true
 | [],[],[],h=>by simp [lexLt] at h
 | [],[],_::_,h=>.inr rfl
 | [],_::_,_,h=>.inl rfl
 | _::_,_,[],h=>by simp [lexLt] at h
 | _::_,[],_::_,h=>.inr rfl
 | a::as,b::bs,c::cs,h=>by
  simp only [lexLt] at h ⊢
  by_cases e1:a=c
  ·subst e1
   rw [if_pos rfl] at h
   by_cases e2:a=b
   ·subst e2
    rw [if_pos rfl,if_pos rfl]
    exact Zhx as bs cs h
   ·rw [if_neg e2,if_neg (Ne.symm e2),decide_eq_true_eq,decide_eq_true_eq]
    lia
  ·rw [if_neg e1,decide_eq_true_eq] at h
   by_cases e2:a=b
   ·subst e2
    rw [if_neg e1]
    exact .inr (decide_eq_true h)
   ·rw [if_neg e2]
    by_cases e3:b=c
    ·subst e3
     exact .inl (decide_eq_true h)
    ·rw [if_neg e3,decide_eq_true_eq,decide_eq_true_eq]
     lia
theorem ZfE:∀(xs ys:List Int),lexLt xs ys=true->lexLt ys xs=false
 | [],[],h=>by simp [lexLt] at h
 | [],_::_,_=>rfl
 | _::_,[],h=>by simp [lexLt] at h
 | a::as,b::bs,h=>by
  simp only [lexLt] at h ⊢
  by_cases e:a=b
  ·subst e
   rw [if_pos rfl] at h ⊢
   exact ZfE as bs h
  ·rw [if_neg e,decide_eq_true_eq] at h
   rw [if_neg (Ne.symm e)]
   exact decide_eq_false (by lia)
section
variable {prog:Program}{w:World}{A:Around}{E:Value->Shared->Prop}{s:Shared}{a b:Addr}{xs ys:List Int}
def Gi (T:String) (h:Heap) (a:Addr) (ks:List Int):Prop:=∃(vs:Array Value) (dd:Option Addr) (n:Nat) (sl:Array (Option Value)),h.get? a=some { cls:=.type T,dict:=dd,data:=.seq vs n,slots:=sl } /\ IntsAre vs.toList ks
end
section
variable {prog:Program}{w:World}{A:Around}{E:Value->Shared->Prop}{s:Shared}{a b:Addr}{xs ys:List Int}
def Ze6 (h:Heap):Value->List Int
 | .ref a=>match h.get? a with
  | some o=>match o.data with
   | .seq vs _=>vs.toList.map numOf
   | _=>[]
  | none=>[]
 | _=>[]
theorem Gi.key {T:String}{h:Heap} (x:Gi T h a xs):Ze6 h (.ref a)=xs:=by
 obtain ⟨vs,dd,n,sl,e,i⟩:=x
 show (match h.get? a with | some o=>_ | none=>_)=_
 rw [e]
 exact i.nums
theorem Gi.kept {T:String}{h h':Heap} (x:Gi T h a xs) (k:∀o,h.get? a=some o->h'.get? a=some o):Gi T h' a xs:=
 let ⟨vs,dd,n,sl,e,i⟩:=x;⟨vs,dd,n,sl,k _ e,i⟩
def DS (T:String) (s:Shared) (p:Keyed):Prop:=∃a ks,p.1 = .ref a/\Gi T s.heap a ks
def ltW (s:Shared) (p q:Keyed):Bool:=lexLt (Ze6 s.heap p.1) (Ze6 s.heap q.1)
def Zkh (h:Heap) (l:List Value):Prop:=l.Pairwise fun u v=>lexLt (Ze6 h v) (Ze6 h u)=false
theorem ZhL {M:Model} {α β:Type}{c:Prop} [Decidable c] {m n:Sem α}{f:α -> Sem β}{Q:β -> Shared->Prop} (R:α -> Prop) (h1:c -> ∀Q':α -> Shared->Prop,(∀x,R x->Q' x s)->wpAny M A m Q' E s) (h2:¬c -> ∀Q':α -> Shared->Prop,(∀x,R x->Q' x s)->wpAny M A n Q' E s)
  (h:∀x,R x->wpAny M A (f x) Q E s):wpAny M A (if c then m >>= f else n >>= f) Q E s:=by
 split
 ·exact wpAny_bind (h1 (by assumption) _ h)
 ·exact wpAny_bind (h2 (by assumption) _ h)
end
def DAt (h:Heap) (d:Addr) (es:Array DictEntry) (ep:Nat):Prop:=∃o,h.get? d=some o/\o.ExactDict/\o.data = .dict es ep
section
variable {prog:Program}{w:World}{A:Around}{E:Value->Shared->Prop}{s:Shared}{d it:Addr}{es:Array DictEntry}{ep i:Nat}
theorem DAt.typeIs (x:DAt s.heap d es ep):s.TypeIs (.ref d) "dict" := let ⟨o,e,c,_⟩:=x;⟨o,e,c.1⟩
theorem ZmF {Q:Value->Shared->Prop} (hd:(d==sysModules)=false) (x:DAt s.heap d es ep)
  (hQ:Q (.ref s.heap.objs.size) { s with heap:=s.heap.push { cls:=.type "dict_keyiterator", data:=.fields #[.ref d,.int 0 0,.int es.size 0,.int ep 0] } }):wpAny (model prog w) A (pyIter (.ref d)) Q E s:=by
 obtain ⟨o,g1,g2,g3⟩:=id x
 have ty:=x.typeIs
 refine wpAny_pyIter_slot ty F.slot_dict_iter (wpAny_call_entry F.slot_dict_iter ty F.entry_dict_iter ?_ (F.args_dict_iter_1 _))
 unfold Builtin.«dict.__iter__» Builtin.Dict.dictSlotNone Builtin.Dict.showsAll
 wp_walk using wpAny_notOrdered_dict ty,wpAny_ite_false hd,wpAny_dictEntries g1 g3,wpAny_dictEpoch g1 g3,wpAny_newObj_type
 ·exact ⟨_,rfl,_,_,⟨_,Heap.get?_push_size _ rfl,rfl⟩,F.slot_dict_keyiterator_next.lookup,hQ⟩
 ·size_fits
theorem Zc3 {α:Type}{Q:α -> Shared->Prop} (hh:A.handled=none) (h:∀h' a,(∀b o,s.heap.get? b=some o->h'.get? b=some o)->Shared.TypeIs { s with heap:=h' } (.ref a) "StopIteration" -> E (.ref a) { s with heap:=h' }):
  wpAny (model prog w) A ((newExc (.type "StopIteration") [] >>= raiseNew:Sem α)) Q E s:=by
 wp_walk using wpAny_newObj_type,wpAny_raiseNew_none hh
 ·exact h _ _ (fun b o e=>Heap.get?_push_of_some _ (Heap.get?_push_of_some _ e)) ⟨_,Heap.get?_push_size _ rfl,rfl⟩
 all_goals size_fits
theorem Zjz {Q:Option Value->Shared->Prop} (hit:s.heap.IsKeyIter it d i es.size ep) (hm:DAt s.heap d es ep)
  (hQ:∀e,es[i]? = some e -> ∀h',h'.IsKeyIter it d (i+1) es.size ep->Heap.SameBut it s.heap h'->Q (some e.key) { s with heap:=h' })
  (hE:es.size<=i->A.handled=none /\ ∀h',Heap.ExtBut it s.heap h'->Q none { s with heap:=h' }):wpAny (model prog w) A (pyNext (.ref it)) Q E s:=by
 obtain ⟨hp,g,dr,tk,os⟩:=s
 obtain ⟨o1,f1,f2,f3⟩:=id hit
 obtain ⟨o2,k1,k2,k3⟩:=hm
 have ty:=hit.typeIs
 unfold pyNext
 refine wpAny_bind (wpAny_attempt (wpAny_callSpecial?_slot (name:=Str.ofString "__next__") ty F.slot_dict_keyiterator_next (wpAny_call_entry F.slot_dict_keyiterator_next ty F.entry_dict_keyiterator_next ?_ (F.args_dict_keyiterator_next_1 _))))
 wp_walk using wpAny_dictEntries k1 k3,wpAny_dictEpoch k1 k3,wpAny_typeNameOfWhole_keyiter ty,wpAny_fieldsOf f1 f3
 rw [if_neg (by lia),Int.toNat_natCast]
 cases hx:es[i]? with
 | some e=>
  wp_walk using wpAny_typeNameOfWhole_keyiter ty,wpAny_isOneOf_keyiter ty,ZkE f1 f3
  ·show 1<4
   decide
  rintro h1 ⟨o3,n1,n2,n3⟩ sb
  have n:h1.IsKeyIter it d (i+1) es.size ep:=⟨o3,n1,n2.trans f2,n3⟩
  have ty1:Shared.TypeIs ⟨h1,g,dr,tk,os⟩ (.ref it) "dict_keyiterator" := n.typeIs
  wp_walk using wpAny_isOneOf_keyiter ty1
  exact ⟨_,rfl,wpAny_pure (hQ e hx _ n sb)⟩
 | none=>
  obtain ⟨hh,hE⟩:=hE (by simpa using hx)
  wp_walk using wpAny_typeNameOfWhole_keyiter ty,wpAny_setField f1 f3
  ·show 0<4
   decide
  refine Zc3 hh fun h' a k ty=>?_
  wp_walk using wpAny_isInstance (T := "StopIteration") (b:=true) ty isSubtype_stop
  exact hE h' fun b o hb e=>k b o ((Heap.get?_update_other _ _ (Ne.symm hb)).trans e)
end
def Jc (H:Hp) (v:V) (ks:List Int):Prop:=∃a,v = .ref a/\H a=some (.tup (ks.map V.int))
theorem Paired.Zho {α β:Type}{F:α -> β -> Prop}{l:List α}{m m':List β} (p:m.Perm m'):Paired F l m -> ∃l',l.Perm l'/\Paired F l' m':=by
 induction p generalizing l with
 | nil=>intro r;cases r;exact ⟨[],.nil,.nil⟩
 | cons x _ ih=>intro r;cases r with | cons h t=>obtain ⟨l',a,b⟩:=ih t;exact ⟨_::l',a.cons _,.cons h b⟩
 | swap x y t=>intro r;cases r with | cons h t=>cases t with | cons h2 t=>exact ⟨_,.swap _ _ _,.cons h2 (.cons h t)⟩
 | trans _ _ i1 i2=>intro r;obtain ⟨l1,a,b⟩:=i1 r;obtain ⟨l2,c,d⟩:=i2 b;exact ⟨l2,a.trans c,d⟩
theorem Paired.flip {α β:Type}{F:α -> β -> Prop}:∀{l:List α}{m:List β},Paired F l m->Paired (fun b a=>F a b) m l
 | _,_,.nil=>.nil
 | _,_,.cons h t=>.cons h (Paired.flip t)
theorem Paired.mem1 {α β:Type}{F:α -> β -> Prop}:∀{l:List α}{m:List β},Paired F l m -> ∀a∈l,∃b∈m,F a b
 | _,_,.nil,a,h=>by cases h
 | _,_,.cons r t,a,h=>by
  rcases List.mem_cons.mp h with rfl | h
  ·exact ⟨_,List.mem_cons_self,r⟩
  ·obtain ⟨b,hb,f⟩:=Paired.mem1 t a h
   exact ⟨b,List.mem_cons_of_mem _ hb,f⟩
def ZmI (ws:List (List Int)):Prop:=ws.Pairwise fun u v=>lexLt v u=false
section
variable {X:Cx}{pins:List (Addr×Obj)} {σ:St}{H:Hp}{s:Shared}
theorem ZjS {T:String}{F:V->List Int->Prop}{h h1:Heap} (hF:∀{v u ks},F v ks->RelV v u -> ∃a,u = .ref a/\Gi T h a ks) {xs:List V}{us out:List Value}{ws:List (List Int)} (r:Vals xs us) (x:Paired F xs ws) (hp:out.Perm us)
  (hk:∀a ks,Gi T h a ks->Gi T h1 a ks) (hr:Zkh h1 out):∃ys vs,Vals ys out/\Paired F ys vs/\ys.Perm xs/\vs.Perm ws/\ZmI vs:=by
 obtain ⟨ys,p1,r1⟩:=Paired.Zho hp.symm r
 obtain ⟨vs,p2,r2⟩:=Paired.Zho p1 (Paired.flip x)
 have x2:Paired F ys vs:=Paired.flip r2
 refine ⟨ys,vs,r1,x2,p1.symm,p2.symm,?_⟩
 have key:∀{ys:List V}{out:List Value}{vs:List (List Int)},Vals ys out->Paired F ys vs->out.map (Ze6 h1)=vs:=by
  intro ys out vs a b
  induction a generalizing vs with
  | nil=>cases b;rfl
  | cons r _ ih=>
   cases b with
   | cons f t=>
    obtain ⟨q,e1,e3⟩:=hF f r
    rw [List.map_cons,ih t,e1,(hk _ _ e3).key]
 rw [<- key r1 x2]
 unfold ZmI
 rw [List.pairwise_map]
 exact hr
end
def kW (ks:List Int):List Key:=ks.map Sum.inl
theorem Zkj (ks:List Int):(kW ks).map kV=ks.map V.int:=by unfold kW;rw [List.map_map];rfl
theorem ZeK {a b:List Int} (h:kW a=kW b):a=b:=(List.map_inj_right (fun x y h=>by injection h)).mp h
section
variable {X:Cx}
def ZlT:R2:=fun x y H Q=>∃a b:List Int,Jc H x a/\Jc H y b/\a.length+b.length<=sizeLine /\
 (a = []->Q y H)/\(b = []->Q x H)/\(∀p,H p=none->Q (.ref p) (upd H p (.tup ((a++b).map V.int))))
theorem ZeY:Uy X (binaryOp .Add) ZlT:=by
 intro pins s σ H x y v u Q I rx ry h
 obtain ⟨a,b,⟨p,rfl,hp⟩,⟨r,rfl,hr⟩,hz,q1,q2,q3⟩:=h
 cases rx
 cases ry
 obtain ⟨_,its,r1,p1⟩:=(show ZV X.prog X.w H s.heap p (.tup (a.map V.int)) from I.hok p _ hp)
 obtain ⟨_,its2,r2,p2⟩:=(show ZV X.prog X.w H s.heap r (.tup (b.map V.int)) from I.hok r _ hr)
 have l1:a.length=its.length:=by simpa using r1.length
 have l2:b.length=its2.length:=by simpa using r2.length
 by_cases e:its = []
 ·obtain ⟨⟨cls,dd,data,sl⟩,ho,hc,n,hd⟩:=id p1
  obtain ⟨⟨cls2,dd2,data2,sl2⟩,ho2,hc2,n2,hd2⟩:=id p2
  simp only at hc hd hc2 hd2
  subst hc hd hc2 hd2
  have ea:a = []:=by rw [e] at l1;exact List.length_eq_zero_iff.mp l1
  exact concat_meets ⟨_,ho,rfl⟩ ⟨_,ho2,rfl⟩ noFill_tuple_add seq_tuple_add PySem.F.slot_tuple_add PySem.F.entry_tuple_add (PySem.F.args_tuple_add_2 _ _)
   (tuple_addW0 p r its.toArray its2.toArray n n2 dd dd2 sl sl2 (by simp [e])) ⟨ho,ho2,⟨.ref r,H,I,rfl,q1 ea⟩⟩
 ·refine HT.Zly p1 p2 e (fun z=>⟨.ref p,H,I,rfl,q2 (by rw [z] at l2;exact List.length_eq_zero_iff.mp l2)⟩) (fun z=>?_) (by rw [<- l1,<- l2];exact hz)
  refine ⟨.ref s.heap.objs.size,_,I.laid (t':=s.toks) (o:=.tup ((a++b).map V.int)) (fun b ob q=>Heap.get?_push_of_some _ q) (Nat.le_refl _) ?_,rfl,q3 _ (I.hok.fresh (Nat.le_refl _))⟩
  exact ⟨by rw [List.length_map,List.length_append];exact hz,_,by rw [List.map_append];exact r1.append r2,IsTup.new _ _⟩
end
end L2
namespace L2
open PySem PySem.Spec PyProof.Rows PyProof.V
section
variable {X:Cx}
theorem Zht {K:PySem.W.Frag}{l tg:Expr}{tl:TE} (hk:X.K=K) (hl:PE X l tl):PI X tg l (Znw K tl):=hk ▸ ZmK hl
end
section
variable {g:TG}{tc:TT}{te:TE} {σ:St}{H:Hp}{Q:VK}{K:PySem.W.Frag}{a b:Addr}{xs ys:List V}
theorem Zjm (hn:xs.length<=sizeLine) (Pv:Nat->List V->Hp->Prop) (h0:Pv 0 [] H) (hlen:∀i ys H,Pv i ys H->ys.length<=i) (hS:∀i ys H,Pv i ys H->YB K H a xs)
  (hs:∀i x ys H,xs[i]? = some x->Pv i ys H->g x σ H fun σ2 H2=>tc σ2 H2 fun b H3=>if b=true then te σ2 H3 fun y H4=>Pv (i+1) (ys ++ [y]) H4 else Pv (i+1) ys H3)
  (hd:∀ys H,Pv xs.length ys H -> ∀D,H D=none->Q (.ref D) (upd H D (.lst ys))):LcW (Itt K a) σ g tc te H Q:=
 ZcQ hn Pv h0 hlen (fun i ys H hi p=>⟨xs,xs[i],hS i ys H p,by simp [hi]⟩) (fun ys H p=>⟨xs,hS _ ys H p,Nat.le_refl _⟩) (fun i ys H hi p x H' y=>by
  obtain ⟨e,y⟩:=y
  subst e
  exact hs i x ys _ (y xs (hS i ys _ p)) p) hd
end
theorem Jc.mono {H H':Hp}{v:V}{w:List Int} (k:∀t p,H t=some (.tup p)->H' t=some (.tup p)) (x:Jc H v w):Jc H' v w:=let ⟨a,e,q⟩:=x;⟨a,e,k _ _ q⟩
theorem Jc.same {H H':Hp}{v:V}{w:List Int} (s:Zi H H') (x:Jc H v w):Jc H' v w:=Jc.mono (fun t p e=>s t _ e) x
section
variable {X:Cx}
theorem Wa:Jw X (.type "tuple") (fun xs H Q=>∃p ys,xs = [.ref p]/\H p=some (.lst ys) /\ ∀l,H l=none->Q (.ref l) (upd H l (.tup ys))):=by
 intro pins s σ H xs us Q I r ⟨p,ys,e,hp,q⟩
 exact Zdx pins s σ H xs us Q I r ⟨p,ys,e,.inl ⟨Zw.of hp,q⟩⟩
end
end L2
namespace L2
open PySem PySem.Spec PyProof.Rows PyProof.V
theorem Zje:entryFor table "zip.__getattribute__" = some Builtin.«object.__getattribute__»:=entryFor_alias (id' := "object.__getattribute__") (by kernel_rfl) (by decide +kernel) (by decide +kernel) (by kernel_rfl)
theorem ZkF:typeLookup (.type "zip") "__getattr__" = pure none:=by rw [typeLookup_type,builtinLookup_eq_fast];kernel_rfl
theorem Zgp:typeLookup (.type "zip") "keys" = pure none:=by rw [typeLookup_type,builtinLookup_eq_fast];kernel_rfl
abbrev ZiN (f0 f1:Value) (TI TO:Addr):Obj:={ cls:=.type "zip", dict:=none,data:=.fields #[f0,f1,.bool false,.ref TI,.ref TO],slots:=#[] }
theorem Zk7 (a TI TO:Addr) (f0 f1:Value) (u:Tok):Meets (Builtin.«object.__getattribute__» ⟨[.ref a,.str "keys" u],[]⟩) (fun A R s=>s.heap.get? a=some (ZiN f0 f1 TI TO)/\raisesAttr (.ref a) "keys" A R s):=
 .of_wp fun prog w A R ⟨hp,g,d,tk,os⟩ ⟨hx,hn,hr⟩=>by
  have ty:Shared.TypeIs ⟨hp,g,d,tk,os⟩ (.ref a) "zip" := ⟨_,hx,rfl⟩
  have no:=Zgp
  wp_walk
  exact wpAny_raiseAttrError hn hr (attrMsg_fits (by decide +kernel) (by decide))
theorem Zlb {prog:Program}{w:World}{A:Around}{E:Value->Shared->Prop}{s:Shared}{a TI TO:Addr}{f0 f1:Value}{Q:Option Value->Shared->Prop} (hx:s.heap.get? a=some (ZiN f0 f1 TI TO)) (hA:A.handled=none)
  (h:∀h' tk,(∀b o,s.heap.get? b=some o->h'.get? b=some o)->Q none { s with heap:=h',toks:=tk }):wpAny (model prog w) A (getAttr? (.ref a) "keys") Q E s:=by
 obtain ⟨hp,g,d,tk,os⟩:=s
 have ty:∀t,Shared.TypeIs ⟨hp,g,d,t,os⟩ (.ref a) "zip" := fun _=>⟨_,hx,rfl⟩
 have kind:=sub_AttributeError
 have own:=F.slot_zip_getattribute.lookup
 have bound:=F.slot_zip_getattribute.bind (.ref a)
 have hook:=ZkF
 have said:∀{A':Around}{R:Result->Shared->Prop} (t:Nat) (u:Tok),A'.handled=none->(∀h' tk e,Heap.NewAttrErr hp h' e (.ref a) "keys" -> R (.error (.ref e)) ⟨h',g,d,tk,os⟩)->codeAny (model prog w) A' (.call (.builtin "zip.__getattribute__") ⟨[.ref a,.str "keys" u],[]⟩) R ⟨hp,g,d,t,os⟩:=
  fun {A' R} t u hA' k=>codeAny_call_builtin F.slot_zip_getattribute.plain Zje (F.slot_zip_getattribute.check _ _ _ _ _ _ _ _ (ty t) (F.args_zip_getattribute_2 _ _) (Zk7 a TI TO f0 f1 u _ _ A' R _ ⟨hx,hA',k⟩))
 unfold getAttr? getAttrBy? getAttrBy
 wp_walk
 refine said _ _ hA fun h' tk' e new=>?_
 obtain ⟨t',u',there⟩:=new.there
 unfold getattributeRaised
 wp_walk
 exact h _ _ new.1
section
variable {prog:Program}{w:World}{A:Around}{E:Value->Shared->Prop}{s:Shared}
theorem Zfx {a:Addr}{Q:Option Obj->Shared->Prop} (h:Q (s.heap.get? a) s):wpAny (model prog w) A (loadIfAlive a) Q E s:=fun Γ p _=>by
 unfold loadIfAlive
 rw [Sem.wp_loadIfAlive]
 exact h
abbrev Zda (h:Heap) (z TI TO T:Addr) (b:Bool):Prop:=
 h.get? z=some { cls:=.type "zip", dict:=none,data:=.fields #[rawInt T,.bool b,.bool false,.ref TI,.ref TO],slots:=#[] }
theorem Zf7 {z TI TO T:Addr}{bb:Bool}{oT:Obj}{Q:Bool->Shared->Prop} (hz:Zda s.heap z TI TO T bb) (hT:s.heap.get? T=some oT)
  (h:∀h₁,Zda h₁ z TI TO T true->Heap.SameBut z s.heap h₁->Q false { s with heap:=h₁ }):wpAny (model prog w) A (Builtin.SmallTypes.ownedTupleIsFree (.ref z)) Q E s:=by
 unfold Builtin.SmallTypes.ownedTupleIsFree
 wp_walk using Zfx,wpAny_field hz rfl rfl
 cases bb with
 | true=>exact wpAny_pure (h s.heap hz ⟨rfl,fun _ _=>rfl⟩)
 | false=>exact wpAny_bind (wpAny_setField_rec hz (by simp) fun h₁ a b=>wpAny_pure (h h₁ a b))
theorem ZjD {z TI TO T i1 i2 l1 l2:Addr}{k:Nat}{bb:Bool}{oT:Obj}{xs ys:Array Value}{R:Fin->Shared->Prop} (D:ZipApart z TI TO i1 i2 l1 l2)
  (hz:Zda s.heap z TI TO T bb) (hT:s.heap.get? T=some oT) (hTI:IsPair s.heap TI (.ref i1) (.ref i2))
  (h1:s.heap.IsListIter i1 l1 k) (h2:s.heap.IsListIter i2 l2 k) (hl1:s.heap.IsList l1 xs) (hl2:s.heap.IsList l2 ys)
  (more:∀x y h',xs[k]? = some x->ys[k]? = some y->Zda h' z TI TO T true->h'.IsListIter i1 l1 (k+1)->h'.IsListIter i2 l2 (k+1)->IsPair h' s.heap.objs.size x y->h'.objs.size=s.heap.objs.size+1 ->
   (∀c o,c≠z->c≠i1->c≠i2->s.heap.get? c=some o->h'.get? c=some o)->R (.done (.ret (.ref s.heap.objs.size))) { s with heap:=h' })
  (over:xs[k]? = none->A.handled=none /\ ∀h' e,(∀c o,c≠z->c≠i1->s.heap.get? c=some o->h'.get? c=some o)->(∃o,h'.get? e=some o/\o.cls = .type "StopIteration")->E (.ref e) { s with heap:=h' })
  (even:∀x,xs[k]? = some x -> ∃y,ys[k]? = some y):
  wpAny (model prog w) A (Builtin.«zip.__next__» ⟨[.ref z],[]⟩) R E s:=by
 unfold Builtin.«zip.__next__»
 refine wpAny_bind (show wpAny _ _ (pure (Value.ref z,[])) _ _ _ from wpAny_pure ?_)
 dsimp only
 refine wpAny_bind (wpAny_field hz rfl rfl (wpAny_bind (wpAny_field hz rfl rfl (wpAny_bind (wpAny_seqItems hTI rfl ?_)))))
 refine wpAny_bind (Zf7 hz hT fun h₁ hz₁ hs₁=>?_)
 simp only [Bool.false_eq_true,if_false,List.forIn_toArray,List.forIn_cons,List.forIn_nil]
 have b1:=h1.extBut hs₁.extBut D.i1z
 have b2:=hl1.extBut hs₁.extBut D.l1z
 refine wpAny_bind (wpAny_bind (wpAny_bind (wpAny_holding ?_)))
 show wpAny _ _ (Builtin.SmallTypes.nextOf (.ref i1) >>= fun v=>pure (some v)) _ _ _
 cases hx:xs[k]? with
 | none=>
  obtain ⟨hh,fin⟩:=over hx
  exact wpAny_bind (wpAny_nextOf_list_end hh b1 b2 hx fun h₂ e keep stop=>fin h₂ e (fun c o n1 n2 g=>keep c o n2 (hs₁.extBut c o n1 g)) stop)
 | some x=>
  obtain ⟨y,hy⟩:=even x hx
  refine wpAny_bind (wpAny_nextOf_list_item b1 b2 hx fun h₂ c1 hs₂=>wpAny_pure (wpAny_pure ?_))
  refine wpAny_bind (wpAny_bind (wpAny_holding ?_))
  show wpAny _ _ (Builtin.SmallTypes.nextOf (.ref i2) >>= fun v=>pure (some v)) _ _ _
  refine wpAny_bind (wpAny_nextOf_list_item ((h2.extBut hs₁.extBut D.i2z).extBut hs₂.extBut D.i12.symm) ((hl2.extBut hs₁.extBut D.l2z).extBut hs₂.extBut D.l2i1) hy fun h₃ c2 hs₃=>wpAny_pure (wpAny_pure (wpAny_pure ?_)))
  show wpAny _ _ (newTuple [x,y] >>= ret) _ _ _
  have size:h₃.objs.size=s.heap.objs.size:=hs₃.1.trans (hs₂.1.trans hs₁.1)
  refine wpAny_bind (wpAny_newTuple (wpAny_pure ?_))
  show R (.done (.ret (.ref h₃.objs.size))) _
  rw [size]
  have lay:∀c o,h₃.get? c=some o->(h₃.push { cls:=.type "tuple", data:=.seq #[x,y] }).get? c=some o:=fun c o=>Heap.get?_push_of_some _
  refine more x y _ hx hy (lay _ _ (hs₃.extBut _ _ D.i2z.symm (hs₂.extBut _ _ D.i1z.symm hz₁))) ((c1.extBut hs₃.extBut D.i12).at fun o=>lay _ o) (c2.at fun o=>lay _ o) ?_ (by rw [Heap.size_push,size]) fun c o n1 n2 n3 g=>lay _ _ (hs₃.extBut _ _ n3 (hs₂.extBut _ _ n2 (hs₁.extBut _ _ n1 g)))
  rw [<- size]
  exact Heap.get?_push_size _ rfl
theorem Zhr {z:Addr}{Q:Option Value->Shared->Prop} (ty:s.TypeIs (.ref z) "zip")
  (h:∀E',(∀e s',(∃o,s'.heap.get? e=some o/\o.cls = .type "StopIteration")->Q none s'->E' (.ref e) s') -> ∀A',A'.handled=A.handled->wpAny (model prog w) A' (Builtin.«zip.__next__» ⟨[.ref z],[]⟩) (fun fin s'=>∃v,fin = .done (.ret v)/\wpAny (model prog w) A (pure (some v)) Q E s') E' s):wpAny (model prog w) A (pyNext (.ref z)) Q E s:=by
 unfold pyNext
 refine wpAny_bind (wpAny_attempt (wpAny_callSpecial?_slot (name:=Str.ofString "__next__") ty F.slot_zip_next (wpAny_call_entry F.slot_zip_next ty F.entry_zip_next (h _ (fun e s' ⟨o,g,c⟩ q=>?_) _ rfl) (F.args_zip_next_1 _))))
 exact wpAny_bind (wpAny_isInstance (T := "StopIteration") (b:=true) ⟨o,g,c⟩ isSubtype_stop (wpAny_pure q))
structure ZS (h:Heap) (z TI TO i1 i2 l1 l2:Addr) (k:Nat):Prop where
 zp:(IsZip h z TI TO .none /\ ∃a b,IsPair h TO a b) ∨ ∃T b o,Zda h z TI TO T b/\h.get? T=some o/\o.cls = .type "tuple" /\ T≠z/\T≠TO/\T≠i1/\T≠i2
 ti:IsPair h TI (.ref i1) (.ref i2)
 j1:h.IsListIter i1 l1 k
 j2:h.IsListIter i2 l2 k
theorem ZS.keep {h h':Heap}{z TI TO i1 i2 l1 l2:Addr}{k:Nat} (x:ZS h z TI TO i1 i2 l1 l2 k) (kk:∀c o,h.get? c=some o->o.cls ≠ .type "dict" -> h'.get? c=some o):ZS h' z TI TO i1 i2 l1 l2 k:=by
 refine ⟨?_,kk _ _ x.ti (by show Value.type "tuple" ≠ _;decide),?_,?_⟩
 ·rcases x.zp with ⟨a,p,q,b⟩ | ⟨T,b,o,a,c,d,e⟩
  ·exact .inl ⟨kk _ _ a (by show Value.type "zip" ≠ _;decide),p,q,kk _ _ b (by show Value.type "tuple" ≠ _;decide)⟩
  ·exact .inr ⟨T,b,o,kk _ _ a (by show Value.type "zip" ≠ _;decide),kk _ _ c (by rw [d];decide),d,e⟩
 ·obtain ⟨o,ho,hc,r⟩:=x.j1
  exact ⟨o,kk _ _ ho (by rw [hc];decide),hc,r⟩
 ·obtain ⟨o,ho,hc,r⟩:=x.j2
  exact ⟨o,kk _ _ ho (by rw [hc];decide),hc,r⟩
theorem Zkx {z TI TO i1 i2 l1 l2:Addr}{k:Nat}{xs ys:Array Value}{x y:Value}{Q:Option Value->Shared->Prop} (D:ZipApart z TI TO i1 i2 l1 l2) (Z:ZS s.heap z TI TO i1 i2 l1 l2 k)
  (hl1:s.heap.IsList l1 xs) (hl2:s.heap.IsList l2 ys) (hx:xs[k]? = some x) (hy:ys[k]? = some y)
  (hQ:∀h',ZS h' z TI TO i1 i2 l1 l2 (k+1)->IsPair h' s.heap.objs.size x y->h'.objs.size=s.heap.objs.size+1->(∀c o,c≠z->c≠TO->c≠i1->c≠i2->s.heap.get? c=some o->h'.get? c=some o)->Q (some (.ref s.heap.objs.size)) { s with heap:=h' }):
  wpAny (model prog w) A (pyNext (.ref z)) Q E s:=by
 have lt:∀{c:Addr}{o:Obj},s.heap.get? c=some o->s.heap.objs.size≠c:=fun e=>Ne.symm (Nat.ne_of_lt (Heap.lt_size e))
 have n1:s.heap.objs.size≠i1:=by obtain ⟨o,ho,_⟩:=Z.j1;exact lt ho
 have n2:s.heap.objs.size≠i2:=by obtain ⟨o,ho,_⟩:=Z.j2;exact lt ho
 rcases Z.zp with ⟨hz,a,b,hTO⟩ | ⟨T,b,o,hz,hT,hc,t1,t2,t3,t4⟩
 ·exact wpAny_pyNext_zip_item D hz Z.ti hTO Z.j1 Z.j2 hl1 hl2 hx hy fun h' a1 a2 a3 a4 a5 a6 a7=>
   hQ h' ⟨.inr ⟨s.heap.objs.size,false,_,a1,a5,rfl,lt hz,lt hTO,n1,n2⟩,a7 _ _ D.TIz D.TITO D.TIi1 D.TIi2 Z.ti,a3,a4⟩ a5 a6 a7
 ·refine Zhr ⟨_,hz,rfl⟩ fun E' _ A' _=>ZjD D hz hT Z.ti Z.j1 Z.j2 hl1 hl2 (fun x' y' h' e1 e2 a1 a3 a4 a5 a6 a7=>⟨_,rfl,wpAny_pure ?_⟩) (fun e=>by rw [hx] at e;cases e) (fun _ _=>⟨y,hy⟩)
  rw [hx] at e1
  rw [hy] at e2
  cases e1
  cases e2
  exact hQ h' ⟨.inr ⟨T,true,o,a1,a7 _ _ t1 t3 t4 hT,hc,t1,t2,t3,t4⟩,a7 _ _ D.TIz D.TIi1 D.TIi2 Z.ti,a3,a4⟩ a5 a6 fun c o c1 _ c3 c4 e=>a7 c o c1 c3 c4 e
theorem Znc {z TI TO i1 i2 l1 l2:Addr}{k:Nat}{xs ys:Array Value}{Q:Option Value->Shared->Prop} (hh:A.handled=none) (D:ZipApart z TI TO i1 i2 l1 l2) (Z:ZS s.heap z TI TO i1 i2 l1 l2 k)
  (hl1:s.heap.IsList l1 xs) (hl2:s.heap.IsList l2 ys) (hx:xs[k]? = none)
  (hQ:∀h',(∀c o,c≠z->c≠TO->c≠i1->c≠i2->s.heap.get? c=some o->h'.get? c=some o)->Q none { s with heap:=h' }):
  wpAny (model prog w) A (pyNext (.ref z)) Q E s:=by
 rcases Z.zp with ⟨hz,a,b,hTO⟩ | ⟨T,b,o,hz,hT,hc,t1,t2,t3,t4⟩
 ·exact wpAny_pyNext_zip_end hh D hz Z.ti hTO Z.j1 Z.j2 hl1 hl2 (.inl hx) hQ
 ·exact Zhr ⟨_,hz,rfl⟩ fun E' out A' hA=>ZjD D hz hT Z.ti Z.j1 Z.j2 hl1 hl2 (fun x' y' h' e1=>by rw [hx] at e1;cases e1) (fun _=>⟨hA.trans hh,fun h' e keep stop=>out e _ stop (hQ h' fun c o c1 _ c3 _ g=>keep c o c1 c3 g)⟩) (fun x' e=>by rw [hx] at e;cases e)
end
theorem Zft:entryFor table "dict.update.loop" = some Builtin.«dict.update.loop»:=entryFor_of_tree (by kernel_rfl)
theorem Zbs:plainId "dict.update.loop" = true:=by decide +kernel
def Zko (kvs:List (Key×Value)) (ps:List (Key×Value)):List (Key×Value):=ps.foldl (fun a p=>stored a p.1 p.2) kvs
section
variable {prog:Program}{w:World}{A:Around}{R:Result->Shared->Prop}
theorem Zl9 {E:Value->Shared->Prop}{s:Shared}{d:Addr}{kvs:List (Key×Value)}{k:Int}{t:Tok}{v:Value}{Q:Unit->Shared->Prop} (hm:s.heap.DictOf (ZH prog w) d kvs) (hsz:kvs.length<=sizeLine)
  (hQ:∀h',h'.DictOf (ZH prog w) d (stored kvs (Sum.inl k) v)->Heap.SameBut d s.heap h'->Q () { s with heap:=h',toks:=s.toks+1 }):wpAny (model prog w) A (dictSet d (.int k t) v) Q E s:=by
 unfold dictSet
 try with_reducible refine wpAny_holding ?_
 refine wpAny_bind (wpAny_pyHash_int ?_)
 exact wpAny_dictSetHashed_pairs (knd:=ZH prog w) (k:=Sum.inl k) (by show Value.isInt k (.int k t)=true;simp [Value.isInt]) (s:={ s with toks:=s.toks+1 }) hm hQ hsz
theorem Zkv {z TI TO i1 i2 l1 l2 d:Addr}{xs ys:Array Value}{ps:List (Key×Value)} (D:ZipApart z TI TO i1 i2 l1 l2) (hh:A.handled=none) (hn:xs.size=ys.size) (hz:xs.size<=100000)
  (hp:ps.length=xs.size) (hps:∀(i:Nat) (k:Key) (v:Value),ps[i]? = some (k,v) -> ∃(a:Int) (t:Tok),k=Sum.inl a/\xs[i]? = some (Value.int a t)/\ys[i]? = some v)
  (dz:d≠z/\d≠TO/\d≠i1/\d≠i2/\l1≠d/\l2≠d):
  ∀(m k:Nat) (s:Shared) (kvs:List (Key×Value)),m+k=xs.size->ZS s.heap z TI TO i1 i2 l1 l2 k->s.heap.IsList l1 xs->s.heap.IsList l2 ys->s.heap.DictOf (ZH prog w) d kvs->kvs.length<=k ->
   (∀h' tk,h'.DictOf (ZH prog w) d (Zko kvs (ps.drop k))->(∀c o,c≠z->c≠TO->c≠i1->c≠i2->c≠d->s.heap.get? c=some o->h'.get? c=some o)->R (.ok (.ret .none)) { s with heap:=h',toks:=tk }) ->
   codeAny (model prog w) A (.builtin "dict.update.loop" ⟨[.ref d,.ref z,rawInt (k:Int),.none],[]⟩) R s:=by
 intro m
 induction m with
 | zero=>
  intro k s kvs hk Z hl1 hl2 hd hlen fin
  refine codeAny_builtin Zft ?_
  rw [Around.under_plainId Zbs _]
  show wpAny _ A.in1 (pyNext (.ref z) >>= _) _ _ s
  refine wpAny_bind (Znc (A:=A.in1) hh D Z hl1 hl2 (by rw [Array.getElem?_eq_none];lia) fun h' kk=>?_)
  refine wpAny_pure ?_
  have e:ps.drop k = []:=List.drop_eq_nil_of_le (by lia)
  rw [e] at fin
  refine fin h' s.toks ?_ fun c o c1 c2 c3 c4 _ x=>kk c o c1 c2 c3 c4 x
  obtain ⟨o,es,ep,ho,r⟩:=hd
  exact ⟨o,es,ep,kk _ _ dz.1 dz.2.1 dz.2.2.1 dz.2.2.2.1 ho,r⟩
 | succ m ih=>
  intro k s kvs hk Z hl1 hl2 hd hlen fin
  refine codeAny_builtin Zft ?_
  rw [Around.under_plainId Zbs _]
  show wpAny _ A.in1 (pyNext (.ref z) >>= _) _ _ s
  obtain ⟨⟨pk,pv⟩,hpk⟩:∃p,ps[k]? = some p:=⟨ps[k]'(by lia),by simp⟩
  obtain ⟨a,t,rfl,hx,hy⟩:=hps k pk pv hpk
  refine wpAny_bind (Zkx (A:=A.in1) D Z hl1 hl2 hx hy fun h' Z' hpair hsz kk=>?_)
  refine wpAny_bind (wpAny_holding ?_)
  refine wpAny_bind (wpAny_tryCatch ?_)
  unfold Builtin.Dict.pairItems
  refine wpAny_bind (wpAny_typeOf (T := "tuple") ⟨_,hpair,rfl⟩ ?_)
  refine wpAny_ite ?_
  rw [if_pos (by decide)]
  refine wpAny_bind (wpAny_seqItems hpair rfl ?_)
  refine wpAny_pure ?_
  show wpAny _ _ (holding [.int a t,pv] (dictSet d (.int a t) pv)) _ _ _
  have hd':h'.DictOf (ZH prog w) d kvs:=by
   obtain ⟨o,es,ep,ho,r⟩:=hd
   exact ⟨o,es,ep,kk _ _ dz.1 dz.2.1 dz.2.2.1 dz.2.2.2.1 ho,r⟩
  have lst:∀{h h2:Heap}{l:Addr}{zs:Array Value},h.IsList l zs->(∀o,h.get? l=some o->h2.get? l=some o)->h2.IsList l zs:=fun {h h2 l zs} q k=>by
   obtain ⟨o,ho,r⟩:=q
   exact ⟨o,k o ho,r⟩
  refine wpAny_holding (Zl9 (s:={ s with heap:=h' }) hd' (by rw [sizeLine_eq];lia) fun h2 hd2 sb=>?_)
  refine wpAny_pure ⟨plainId_quiet Zbs _,?_⟩
  have hk2:∀c o,c≠z->c≠TO->c≠i1->c≠i2->c≠d->s.heap.get? c=some o->h2.get? c=some o:=fun c o c1 c2 c3 c4 c5 e=>sb.extBut _ _ c5 (kk c o c1 c2 c3 c4 e)
  have e:((k:Int)+1)=((k+1:Nat):Int):=by lia
  rw [e]
  have e2:ps.drop k=(Sum.inl a,pv)::ps.drop (k+1):=by
   obtain ⟨h1,h3⟩:=List.getElem?_eq_some_iff.mp hpk
   rw [<- h3]
   exact List.drop_eq_getElem_cons h1
  refine ih (k+1) { s with heap:=h2,toks:=s.toks+1 } _ (by lia) (Z'.keep fun c o e nd=>sb.extBut _ _ (fun q=>?_) e) (lst hl1 fun o e=>hk2 _ o D.l1z D.l1TO D.l1i1 D.l1i2 dz.2.2.2.2.1 e) (lst hl2 fun o e=>hk2 _ o D.l2z D.l2TO D.l2i1 D.l2i2 dz.2.2.2.2.2 e) hd2 ?_ fun h3 tk hd3 k3=>?_
  ·obtain ⟨o',es,ep,ho,hc,_⟩:=hd'
   rw [q,ho] at e
   cases e
   exact nd hc.1
  ·have:=stored_length_le kvs (Sum.inl a:Key) pv
   lia
  ·refine fin h3 tk ?_ fun c o c1 c2 c3 c4 c5 e=>k3 c o c1 c2 c3 c4 c5 (hk2 c o c1 c2 c3 c4 c5 e)
   rw [e2]
   exact hd3
theorem Zlk {z TI TO i1 i2 l1 l2:Addr}{E:Value->Shared->Prop}{s:Shared}{xs ys:Array Value}{ps:List (Key×Value)}{Q:Value->Shared->Prop} (D:ZipApart z TI TO i1 i2 l1 l2) (hh:A.handled=none) (hn:xs.size=ys.size) (hz:xs.size<=100000)
  (hp:ps.length=xs.size) (hps:∀(i:Nat) (k:Key) (v:Value),ps[i]? = some (k,v) -> ∃(a:Int) (t:Tok),k=Sum.inl a/\xs[i]? = some (Value.int a t)/\ys[i]? = some v)
  (hzp:IsZip s.heap z TI TO .none) (hTI:IsPair s.heap TI (.ref i1) (.ref i2)) (hTO:∃a b,IsPair s.heap TO a b) (h1:s.heap.IsListIter i1 l1 0) (h2:s.heap.IsListIter i2 l2 0) (hl1:s.heap.IsList l1 xs) (hl2:s.heap.IsList l2 ys)
  (h:∀h' tk,h'.DictOf (ZH prog w) s.heap.objs.size (Zko [] ps)->(∀c o,c≠z->c≠TO->c≠i1->c≠i2->s.heap.get? c=some o->h'.get? c=some o)->Q (.ref s.heap.objs.size) { s with heap:=h',toks:=tk }):
  wpAny (model prog w) A (call (.type "dict") [.ref z]) Q E s:=by
 refine callType_codes (Q₁:=fun obj s₁=>obj = .ref s.heap.objs.size/\s₁ = { s with heap:=s.heap.push { cls:=.type "dict", data:=.dict #[] } }) F.kt_called_dict (F.kt_typeCall_dict_1 _) F.entry_dict_init (kt_code_dict_new _ ⟨rfl,rfl⟩) ?_
 rintro obj s₁ ⟨rfl,rfl⟩
 have hnew:(s.heap.push { cls:=.type "dict", data:=.dict #[] }).DictOf (ZH prog w) s.heap.objs.size []:=Heap.DictOf.new s.heap
 have up:∀c o,s.heap.get? c=some o->(s.heap.push { cls:=.type "dict", data:=.dict #[] }).get? c=some o:=fun c o e=>Heap.get?_push_of_some _ e
 refine ⟨hnew.typeIs,F.args_dict_init_2 _ _,?_⟩
 unfold Builtin.«dict.__init__»
 refine wpAny_bind ?_
 unfold Builtin.Dict.selfAndRest
 refine wpAny_bind (wpAny_notOrdered_dict hnew.typeIs ?_)
 show wpAny _ _ (pure (s.heap.objs.size,[Value.ref z])) _ _ _
 refine wpAny_pure ?_
 show wpAny _ _ (Builtin.Dict.updateFrom "dict.__init__" s.heap.objs.size (.ref z) [] .none) _ _ _
 unfold Builtin.Dict.updateFrom
 refine wpAny_bind (wpAny_typeOf (T := "zip") ⟨_,up _ _ hzp,rfl⟩ ?_)
 rw [if_pos (by decide)]
 refine wpAny_bind (Zlb (up _ _ hzp) hh fun h' tk kk=>?_)
 rw [if_pos (by rfl)]
 refine wpAny_bind (wpAny_rule ?_)
 refine wpAny_bind (wpAny_pyIter_zip (kk _ _ (up _ _ hzp)) ?_)
 have U:∀c o,s.heap.get? c=some o->h'.get? c=some o:=fun c o e=>kk c o (up c o e)
 have lt:∀{c:Addr}{o:Obj},s.heap.get? c=some o->s.heap.objs.size≠c:=fun e=>Ne.symm (Nat.ne_of_lt (Heap.lt_size e))
 obtain ⟨ta,tb,hto⟩:=hTO
 have n1:s.heap.objs.size≠i1:=by obtain ⟨o,ho,_⟩:=h1;exact lt ho
 have n2:s.heap.objs.size≠i2:=by obtain ⟨o,ho,_⟩:=h2;exact lt ho
 have n3:l1≠s.heap.objs.size:=by obtain ⟨o,ho,_⟩:=hl1;exact (lt ho).symm
 have n4:l2≠s.heap.objs.size:=by obtain ⟨o,ho,_⟩:=hl2;exact (lt ho).symm
 have cp:∀{l:Addr}{zs:Array Value},s.heap.IsList l zs->h'.IsList l zs:=fun {l zs} q=>by obtain ⟨o,ho,r⟩:=q;exact ⟨o,U _ _ ho,r⟩
 have ci:∀{i l:Addr}{k:Nat},s.heap.IsListIter i l k->h'.IsListIter i l k:=fun {i l k} q=>by obtain ⟨o,ho,r⟩:=q;exact ⟨o,U _ _ ho,r⟩
 have hd':h'.DictOf (ZH prog w) s.heap.objs.size []:=by
  obtain ⟨o,es,ep,ho,r⟩:=hnew
  exact ⟨o,es,ep,kk _ _ ho,r⟩
 refine wpAny_pure ⟨plainId_quiet Zbs _,?_⟩
 refine Zkv (A:=A.in1) D hh hn hz hp hps ⟨lt hzp,lt hto,n1,n2,n3,n4⟩ xs.size 0 _ [] rfl ⟨.inl ⟨U _ _ hzp,ta,tb,U _ _ hto⟩,U _ _ hTI,ci h1,ci h2⟩ (cp hl1) (cp hl2) hd' (Nat.le_refl _) fun h3 tk3 d3 k3=>?_
 exact ⟨rfl,h h3 tk3 d3 fun c o c1 c2 c3 c4 e=>k3 c o c1 c2 c3 c4 (lt e).symm (U c o e)⟩
end
def UC (acc:List (Key×V)) (ps:List (Int×V)):List (Key×V):=ps.foldl (fun a p=>putK a (Sum.inl p.1) p.2) acc
def tDz (K:PySem.W.Frag) (ta:TA):TE:=fun σ H Q=>ta σ H fun vs H1=>∃(a b:Addr) (ns:List Int) (ys:List V),vs = [.ref a,.ref b]/\Zw K H1 a (ns.map V.int)/\Zw K H1 b ys/\ns.length=ys.length/\ns.length<=100000 /\ ∀D,H1 D=none->Q (.ref D) (upd H1 D (.dK (UC [] (ns.zip ys))))
theorem ZgZ:∀{ns:List Int}{ys:List V}{us vs:List Value}{acc:List (Key×V)}{acc':List (Key×Value)},Vals (ns.map V.int) us->Vals ys vs->KV acc acc'->KV (UC acc (ns.zip ys)) (Zko acc' ((ns.map fun n=>(Sum.inl n:Key)).zip vs))
 | [],_,_,_,_,_,_,_,r=>r
 | n::ns,[],_,_,_,_,_,h,r=>by cases h;exact r
 | n::ns,y::ys,_,_,_,_,h1,h2,r=>by
  cases h1 with
  | cons a1 t1=>
   cases h2 with
   | cons a2 t2=>exact ZgZ (ns:=ns) (ys:=ys) t1 t2 (r.put (Sum.inl n) a2)
theorem ZdR:∀(ps:List (Int×V)) (acc:List (Key×V)),(UC acc ps).length<=acc.length+ps.length
 | [],acc=>Nat.le_refl _
 | p::ps,acc=>by
  have h1:=ZdR ps (putK acc (Sum.inl p.1) p.2)
  have h2:=J6 acc (Sum.inl p.1:Key) p.2
  show (UC (putK acc (Sum.inl p.1) p.2) ps).length<=_
  rw [List.length_cons];lia
section
variable {X:Cx}
theorem ZdY:∀{xs:List V}{us:List Value}{i:Nat}{x:V},Vals xs us->xs[i]? = some x -> ∃u,us[i]? = some u/\RelV x u
 | _,_,_,_,.nil,h=>by simp at h
 | _,_,0,_,.cons r _,h=>by simp at h;subst h;exact ⟨_,rfl,r⟩
 | _,_,i+1,x,.cons _ t,h=>by
  obtain ⟨b,h1,h2⟩:=ZdY (i:=i) (x:=x) t (by simpa using h)
  exact ⟨b,by simpa using h1,h2⟩
theorem ZgA {K:PySem.W.Frag}{a b:Expr}{ta:TA}{p p2 pos pos2:Pos} (hK:X.K=K) (hc:X.calm=true) (hgd:Gl X "dict") (hmd:X.mg "dict" = none) (hgz:Gl X "zip") (hmz:X.mg "zip" = none) (ha:PA X [a,b] ta)
  (hs:starEach [a,b] X.env = [(false,eval a X.env),(false,eval b X.env)]:=by rfl) (hs2:starEach [b] X.env = [(false,eval b X.env)]:=by rfl)
  (he:starEach [Expr.Call (.Name "zip" p2) [a,b] [] pos2] X.env=(false,eval (Expr.Call (.Name "zip" p2) [a,b] [] pos2) X.env)::starEach [] X.env:=by rfl) (hpl:(backTo pos (starEach [] X.env)).any (·.1)=false:=by rfl):
  PE X (.Call (.Name "dict" p) [.Call (.Name "zip" p2) [a,b] [] pos2] [] pos) (tDz K ta):=by
 subst hK
 intro pins s σ H Q I h
 refine wpAny_Call_Name_kw (GN I hgd hmd boot_dict ?_ (by decide) (by decide))
 refine PyProof.Rows.callWith_type1 ?_ he hpl
 rw [he]
 show wpAny _ _ (spliced ((false,eval (Expr.Call (.Name "zip" p2) [a,b] [] pos2) X.env)::backTo pos (starEach [] X.env))) _ _ s
 refine Calls.spliced_cons ?_
 refine Call_ (GN I hgz hmz boot_zip (PyProof.Rows.callWith_type1 (Yq (ha pos2 pins s σ H _ I h) fun us s1 ⟨vs,H1,I1,r1,q1⟩=>?_) (by rw [hs,hs2]) (by rw [hs2];rfl)))
 obtain ⟨l1,l2,ns,ys,e,hq1,hq2,hl,hz,q⟩:=q1
 subst e
 obtain ⟨u,v,rfl,ru,rv⟩:=r1.two
 cases ru
 cases rv
 obtain ⟨its1,rv1,p1,hz1⟩:=I1.list hq1
 obtain ⟨its2,rv2,p2',hz2⟩:=I1.list hq2
 have L1:@LT.lt Nat _ l1 s1.heap.objs.size:=by obtain ⟨o,ho,_⟩:=p1.isList;exact aLt ho
 have L2:@LT.lt Nat _ l2 s1.heap.objs.size:=by obtain ⟨o,ho,_⟩:=p2'.isList;exact aLt ho
 refine call_zip_2 p1.isList p2'.isList fun h' g1 g2 g3 g4 g5 hsz kk=>?_
 have ap:ZipApart (s1.heap.objs.size+4) (s1.heap.objs.size+2) (s1.heap.objs.size+3) s1.heap.objs.size (s1.heap.objs.size+1) l1 l2:=by
  constructor<;>(intro e;have e':@Eq Nat _ _:=e;lia)
 refine Calls.spliced_nil ?_
 have le1:its1.length=ns.length:=by rw [<- rv1.length,List.length_map]
 have le2:its2.length=ys.length:=rv2.length.symm
 have hb:@LT.lt Nat _ sysModules h'.objs.size:=by have:@LT.lt Nat _ sysModules s1.heap.objs.size:=I1.big;rw [hsz];lia
 have cp:∀{l:Addr}{zs:Array Value},s1.heap.IsList l zs->h'.IsList l zs:=fun {l zs} q=>by obtain ⟨o,ho,r⟩:=q;exact ⟨o,kk _ _ ho,r⟩
 refine Zlk (s:={ s1 with heap:=h' }) (ps:=(ns.map fun n=>(Sum.inl n:Key)).zip its2) ap (I1.ok.hd hc) (by simp;lia) (by simp;lia) (by simp;lia) (fun i k v hi=>?_) g1 g2 ⟨_,_,g3⟩ g4 g5 (cp p1.isList) (cp p2'.isList) fun h2 tk hd k2=>?_
 ·obtain ⟨e1,e2⟩:=List.getElem?_zip_eq_some.mp hi
  rw [List.getElem?_map] at e1
  obtain ⟨a,ha',rfl⟩:=Option.map_eq_some_iff.mp e1
  obtain ⟨u,hu,t,rfl⟩:=ZdY rv1 (i:=i) (x:=.int a) (by rw [List.getElem?_map,ha'];rfl)
  exact ⟨a,t,rfl,by simpa using hu,by simpa using e2⟩
 ·have keep:∀c o,s1.heap.get? c=some o->h2.get? c=some o:=fun c o e=>by
   have lt:@LT.lt Nat _ c s1.heap.objs.size:=aLt e
   refine k2 c o ?_ ?_ ?_ ?_ (kk c o e)<;>(intro e;have e':@Eq Nat _ _:=e;lia)
  have le:@LE.le Nat _ s1.heap.objs.size h'.objs.size:=by rw [hsz];lia
  refine ⟨.ref h'.objs.size,_,I1.laid (a:=h'.objs.size) (o:=.dK (UC [] (ns.zip ys))) (h':=h2) (t':=tk) keep le (Zgz ?_ (beq_eq_false_iff_ne.mpr (Ne.symm (Nat.ne_of_lt hb))) (ZgZ rv1 rv2 .nil) hd),rfl,q _ (I1.hok.fresh le)⟩
  have:=ZdR (ns.zip ys) []
  rw [List.length_zip,List.length_nil] at this
  rw [sizeLine_eq];lia
end
open AutoSeq1 (wpAny_loadPart') in
theorem Zcp (xs:List V) (k:Nat):Gg xs none (some (k:Int))=xs.take k:=by
 unfold Gg
 rw [HT.ZcO,HT.Zbb,List.drop_zero,Nat.sub_zero,List.take_eq_take_iff]
 lia
theorem Zcn (xs:List V) (k:Nat):Gg xs (some (k:Int)) none=xs.drop k:=by
 unfold Gg
 rw [HT.ZcO,HT.Zbb]
 by_cases h:k<=xs.length
 ·rw [Nat.min_eq_left h,List.take_of_length_le (by rw [List.length_drop];lia)]
 ·rw [Nat.min_eq_right (by lia),List.drop_eq_nil_of_le (Nat.le_refl _),List.drop_eq_nil_of_le (by lia),List.take_nil]
end L2
namespace L2
open PySem PySem.Spec PyProof.Rows HT
section
variable {prog:Program}{w:World}{A:Around}{E:Value->Shared->Prop}{s:Shared}
set_option maxHeartbeats 6400000 in
end
end L2
namespace L2
open PySem PyProof.Rows
open PySem PySem.Spec PyProof.Rows
end L2
namespace L2
open PySem PySem.Spec PyProof.Rows MeetsSeq3
section
variable {l b:Addr}{us vs:Array Value}{m n:Nat}{p q:Option Addr}{sl st:Array (Option Value)}{xs ys:List Int}
theorem ZjF (hx:IntsAre us.toList xs) (hy:IntsAre vs.toList ys):∀k i:Nat,i+k=min xs.length ys.length->Meets (Builtin.«list.__eq__.loop» ⟨[.ref l,.ref b,rawInt i,rawInt 0],[]⟩)
  (fun A R s=>(s.heap.get? l=some ⟨.type "list", p,.seq us m,sl⟩/\s.heap.get? b=some ⟨.type "list", q,.seq vs n,st⟩)/\R (.ok (.ret (.bool (lexLt (xs.drop i) (ys.drop i))))) s):=by
 have lu:us.size=xs.length:=Array.length_toList.symm.trans (IntsAre.length hx)
 have lv:vs.size=ys.length:=Array.length_toList.symm.trans (IntsAre.length hy)
 intro k
 induction k with
 | zero=>
  rintro i hi prog w A R ⟨hp,g,d,tk,os⟩ ⟨⟨hl,hb⟩,h⟩
  rw [Zic (by lia),show decide (xs.length-i<ys.length-i)=decide (us.size<vs.size) from decide_eq_decide.mpr ⟨fun z=>by lia,fun z=>by lia⟩] at h
  wp_walk
  have no:us[((i:Nat):Int).toNat]? = none∨vs[((i:Nat):Int).toNat]? = none:=by simp;lia
  cases e1:us[((i:Nat):Int).toNat]? with
  | none=>
   wp_walk
   exact h
  | some _=>
   cases e2:vs[((i:Nat):Int).toNat]? with
   | none=>
    wp_walk
    exact h
   | some _=>
    rw [e1,e2] at no
    rcases no with no | no<;>cases no
 | succ k ih=>
  rintro i hi prog w A R ⟨hp,g,d,tk,os⟩ ⟨⟨hl,hb⟩,h⟩
  have i1:i<us.size:=by lia
  have i2:i<vs.size:=by lia
  obtain ⟨t1,e1⟩:=ints_get hx i (by simpa using i1) (by lia)
  obtain ⟨t2,e2⟩:=ints_get hy i (by simpa using i2) (by lia)
  have g1:us[((i:Nat):Int).toNat]? = some (.int (xs[i]'(by lia)) t1):=by rw [<- e1];simp [i1]
  have g2:vs[((i:Nat):Int).toNat]? = some (.int (ys[i]'(by lia)) t2):=by rw [<- e2];simp [i2]
  rw [Zjt (by lia) (by lia)] at h
  wp_walk
  rw [g1,g2]
  refine wpAny_bind (wpAny_eqBool_int ?_)
  by_cases z:xs[i]'(by lia)=ys[i]'(by lia)
  ·rw [if_pos z] at h
   rw [beq_iff_eq.mpr z]
   wp_walk
   refine ⟨plainId_quiet plain_eq_loop _,codeAny_builtin entry_eq_loop ?_⟩
   rw [Around.under_plainId plain_eq_loop _]
   exact ih (i+1) (by lia) prog w A R _ ⟨⟨hl,hb⟩,h⟩
  ·rw [if_neg z] at h
   rw [beq_eq_false_iff_ne.mpr z]
   wp_walk
   rw [g1,g2]
   refine wpAny_bind (wpAny_lt_int ?_)
   wp_walk
   exact h
theorem ZdJ (hx:IntsAre us.toList xs) (hy:IntsAre vs.toList ys):Meets (Builtin.«list.__lt__» ⟨[.ref l,.ref b],[]⟩)
  (fun A R s=>(s.heap.get? l=some ⟨.type "list", p,.seq us m,sl⟩/\s.heap.get? b=some ⟨.type "list", q,.seq vs n,st⟩)/\R (.ok (.ret (.bool (lexLt xs ys)))) s):=by
 rintro prog w A R ⟨hp,g,d,tk,os⟩ ⟨⟨hl,hb⟩,h⟩
 have su:=AutoSeq1.sub_list_list
 wp_walk
 refine ⟨plainId_quiet plain_eq_loop _,codeAny_builtin entry_eq_loop ?_⟩
 rw [Around.under_plainId plain_eq_loop _]
 exact ZjF hx hy _ 0 (Nat.zero_add _) prog w A R _ ⟨⟨hl,hb⟩,h⟩
end
section
variable {prog:Program}{w:World}{A:Around}{E:Value->Shared->Prop}{s:Shared}{a b:Addr}{xs ys:List Int}
theorem ZfG {c:Bool}{Q:Bool->Shared->Prop} (ha:Gi "list" s.heap a xs) (hb:Gi "list" s.heap b ys) (hu:A.units<cLine) (h:Q (lexLt xs ys) s):wpAny (model prog w) A (oneLt' c (.ref a) (.ref b)) Q E s:=by
 obtain ⟨_,_,_,_,e,i⟩:=ha
 obtain ⟨_,_,_,_,e2,i2⟩:=hb
 rw [oneLt'_eq]
 cases c with
 | false=>exact wpAny_bind (richCompare_meets_room (op:=.Lt) ⟨_,e,rfl⟩ ⟨_,e2,rfl⟩ F.slot_list_lt F.entry_list_lt (F.args_list_lt_2 _ _) (ZdJ i i2) ⟨⟨e,e2⟩,⟨(fun x=>nomatch x),wpAny_truthy_bool h⟩⟩ hu)
 | true=>exact wpAny_bind (wpAny_cRoomFor hu (wpAny_bind (wpAny_callSpecialIfBound?_slot (T := "list") ⟨_,e,rfl⟩ F.slot_list_lt (call_meets F.slot_list_lt ⟨_,e,rfl⟩ F.entry_list_lt (F.args_list_lt_2 _ _) (ZdJ i i2) ⟨⟨e,e2⟩,wpAny_bind (wpAny_truthy_bool (wpAny_pure h))⟩))))
def Kd2 (kd:SortKind):Prop:=kd=general'∨kd=oneType'
theorem Zim {kd:SortKind} (hkd:Kd2 kd) (hu:A.units<cLine):Cmp prog w A E s kd (DS "list" s) (ltW s) where
 wo:=⟨fun p=>Zhj _,fun p q h=>ZfE _ _ h,fun p q r h=>Zhx _ _ _ h⟩
 cmp:=fun p q st Q ⟨a,ks,e1,h1⟩ ⟨b,js,e2,h2⟩ hk h=>by
  unfold ltW at h
  rw [e1,e2,h1.key,h2.key] at h
  rw [lt'_eq]
  refine wpS_bind (wpS_get ?_)
  rw [hk,e1,e2]
  refine wpS_bind (wpS_lift (wpAny_attempt ?_))
  rcases hkd with rfl | rfl
  ·exact ZfG (c:=false) h1 h2 hu (by exact ⟨rfl,wpS_pure h⟩)
  ·exact ZfG (c:=true) h1 h2 hu (by exact ⟨rfl,wpS_pure h⟩)
theorem ZbW {M:Model}:∀(vs:List Value) {Q:List (Option Value)->Shared->Prop},(∀v∈vs,∃a ks,v = .ref a/\Gi "list" s.heap a ks)->(∀fs:List (Option Value),(∀f∈fs,f=none)->fs.length=vs.length->Q fs s)->wpAny M A (vs.mapM firstOfTuple') Q E s
 | [],Q,_,h=>by rw [List.mapM_nil];exact wpAny_pure (h [] (fun f hf=>by cases hf) rfl)
 | v::vs,Q,hv,h=>by
  obtain ⟨a,ks,rfl,ws,dd,n,sl,e,i⟩:=hv v List.mem_cons_self
  rw [List.mapM_cons]
  refine wpAny_bind ?_
  rw [W.kas_first_eq]
  refine wpAny_bind (wpAny_typeOf (T := "list") ⟨_,e,rfl⟩ ?_)
  rw [if_pos (by first | decide | simp)]
  refine wpAny_pure ?_
  refine wpAny_bind (ZbW vs (fun v hv'=>hv v (List.mem_cons_of_mem _ hv')) fun fs hfs hl=>wpAny_pure (h _ (fun f hf=>?_) (by simp [hl])))
  rcases List.mem_cons.mp hf with rfl | hf
  ·rfl
  ·exact hfs f hf
theorem Zga {M:Model}{vs:List Value}{Q:SortKind->Shared->Prop} (hne:vs ≠ []) (hv:∀v∈vs,∃a ks,v = .ref a/\Gi "list" s.heap a ks) (h:∀kd,Kd2 kd->Q kd s):wpAny M A (keyKind' vs.toArray) Q E s:=by
 rw [kat_kind_eq,List.mapM_toArray,map_eq_pure_bind]
 refine wpAny_bind (wpAny_bind (ZbW vs hv fun fs hfs hfl=>wpAny_pure ?_))
 have n0:∃rest,fs=none::rest:=by
  cases fs with
  | nil=>exact absurd (List.eq_nil_of_length_eq_zero hfl.symm) hne
  | cons f r=>exact ⟨r,by rw [hfs f List.mem_cons_self]⟩
 obtain ⟨rest,rfl⟩:=n0
 refine wpAny_ite_split (fun q=>?_) (fun _=>wpAny_ite_split (fun _=>wpAny_pure (h _ (.inl rfl))) fun _=>?_)
 ·exfalso
  simp at q
 ·rw [oneTypeOnly'_eq,List.mapM_toArray,map_eq_pure_bind]
  refine wpAny_bind (wpAny_bind (wpAny_bind (W.kas_mapM (r:=.type "list") _ (fun v hv' Q' hq=>?_) (wpAny_pure ?_))))
  ·obtain ⟨a,ks,rfl,ws,dd,n,sl,e,i⟩:=hv v hv'
   exact wpAny_typeOf (T := "list") ⟨_,e,rfl⟩ hq
  ·split
   ·refine wpAny_pure (wpAny_pure (h _ ?_))
    split
    ·exact .inr rfl
    ·exact .inl rfl
   ·exact wpAny_pure (wpAny_pure (h _ (.inl rfl)))
end
def ZnE (H:Hp) (v:V) (ks:List Int):Prop:=∃a,v = .ref a/\H a=some (.lst (ks.map V.int))
abbrev ZlW (H:Hp):List V->List (List Int)->Prop:=Paired (ZnE H)
theorem ZfB {H:Hp}{P:Program}{w:World}{h:Heap}{v:V}{u:Value}{ks:List Int} (ok:W0 P w H h) (x:ZnE H v ks) (r:RelV v u):∃a,u = .ref a/\H a=some (.lst (ks.map V.int))/\Gi "list" h a ks:=by
 obtain ⟨a,rfl,e⟩:=x
 obtain ⟨_,its,n,r',h1⟩:=(show ZV P w H h a (.lst (ks.map V.int)) from ok a _ e)
 exact ⟨a,r,e,its.toArray,_,n,_,h1,by simpa using WD r'⟩
end L2
namespace HT
open PySem PySem.Spec PyProof.Rows
section
variable {prog:Program}{w:World}{A:Around}{E:Value->Shared->Prop}{s:Shared}
theorem Zan {t sl:Addr}{items:Array Value}{vl vu:Value}{lo hi:Option Int}{Q:Value->Shared->Prop} (ht:IsTup s.heap t items) (hs:s.heap.IsSliceOf sl vl vu .none) (pl:IsPart vl lo) (pu:IsPart vu hi)
  (hw:Jj items.size 0 lo=0/\Jj items.size items.size hi=items.size) (h:Q (.ref t) s):wpAny (model prog w) A (getItem (.ref t) (.ref sl)) Q E s:=by
 obtain ⟨os,hos,hcs,hds⟩:=id hs
 have hTs:s.TypeIs (.ref sl) "slice" := ⟨os,hos,hcs⟩
 unfold getItem
 try with_reducible refine wpAny_holding ?_
 first | refine wpAny_bind (wpAny_pure ?_) | skip
 refine wpAny_bind (wpAny_sequenceKey ht.typeIs (by decide) ?_)
 refine wpAny_bind (wpAny_callSpecial?_slot (name:=Str.ofString "__getitem__") ht.typeIs PyProof.Rows.slot_tuple_getitem
  (wpAny_call_entry PyProof.Rows.slot_tuple_getitem ht.typeIs entry_tuple_getitem ?_ (args_tuple_getitem _ _)))
 show wpAny _ _ (Builtin.Tuple.tupleItemsOf (.ref t) >>= _) _ _ s
 refine wpAny_bind (tupleItemsOf_ ht ?_)
 refine wpAny_bind (wpAny_typeOf hTs ?_)
 rw [if_pos (by decide)]
 refine wpAny_bind (Gw hs pl pu ?_)
 have hyes:((((Jj items.size 0 lo:Nat):Int)==0&&(1:Int)==1&&(Jj items.size items.size hi-Jj items.size 0 lo)==items.size)=true):=by
  rw [hw.1,hw.2];simp
 show wpAny _ _ (if (((Jj items.size 0 lo:Nat):Int)==0&&(1:Int)==1&&(Jj items.size items.size hi-Jj items.size 0 lo)==items.size)=true then _ else _) _ _ s
 rw [if_pos hyes]
 refine wpAny_bind (m:=Builtin.Tuple.tupleIsExact _) (wpAny_bind (wpAny_typeOf ht.typeIs (wpAny_pure ?_)))
 rw [if_pos (by decide)]
 exact wpAny_bind (wpAny_rule (wpAny_pure ⟨_,rfl,wpAny_pure h⟩))
end
end HT
namespace L2
open PySem PySem.Spec PyProof.Rows
def ZkM (K:PySem.W.Frag):V->Option Int->Option Int->Hp->VK->Prop:=fun x lo hi H Q=>∃a xs,x = .ref a/\YB K H a xs/\(Gg xs lo hi=xs->Q x H) /\ ∀p,H p=none->Q (.ref p) (upd H p (.tup (Gg xs lo hi)))
theorem Zkt {X:Cx}:SlR X (ZkM X.K):=by
 intro pins s σ H x v vl vu lo hi sl Q I rx hs pl pu h
 obtain ⟨a,xs,rfl,hx,h1,q⟩:=h
 by_cases hw:HT.Jj xs.length 0 lo=0/\HT.Jj xs.length xs.length hi=xs.length
 ·have e:Gg xs lo hi=xs:=by unfold Gg;rw [hw.1,hw.2,List.drop_zero,Nat.sub_zero,List.take_length]
  cases rx
  obtain ⟨its,r,ht,hz⟩:=I.tuple hx
  have hlen:its.toArray.size=xs.length:=by rw [List.size_toArray];exact r.length.symm
  refine ⟨"tuple", _,PyProof.Rows.slot_tuple_getitem.lookup,ht.typeIs,?_⟩
  exact HT.Zan ht hs pl pu (by rw [hlen];exact hw) ⟨.ref a,H,I,rfl,h1 e⟩
 ·exact Zmg pins s σ H _ v vl vu lo hi sl Q I rx hs pl pu ⟨a,xs,rfl,hx,hw,q⟩
theorem Zbk {X:Cx}{K:PySem.W.Frag} (h:X.K=K):SlR X (ZkM K):=h ▸ Zkt
theorem Zjy {K:PySem.W.Frag}{G:Hp}{x:V}{w:List Int}{k:Nat}{Q:VK} (hx:Jc G x w) (q:∀v G',Zi G G'->Jc G' v (w.take k)->Q v G'):ZkM K x none (some (k:Int)) G Q:=by
 obtain ⟨a,rfl,ha⟩:=hx
 refine ⟨a,_,rfl,YB.of ha,fun z=>q _ _ (Zi.refl _) ⟨a,rfl,?_⟩,fun p hp=>q _ _ (Zi.laid hp) ⟨p,rfl,?_⟩⟩
 ·rw [ha,<- z,Zcp,List.map_take]
 ·rw [Zc,Zcp,List.map_take]
theorem Zj4 {K:PySem.W.Frag}{G:Hp}{x:V}{w:List Int}{k:Nat}{i:Int}{Q:VK} (hi:i=(k:Int)) (hx:Jc G x w) (q:∀v G',Zi G G'->Jc G' v (w.drop k)->Q v G'):ZkM K x (some i) none G Q:=by
 subst hi
 obtain ⟨a,rfl,ha⟩:=hx
 refine ⟨a,_,rfl,YB.of ha,fun z=>q _ _ (Zi.refl _) ⟨a,rfl,?_⟩,fun p hp=>q _ _ (Zi.laid hp) ⟨p,rfl,?_⟩⟩
 ·rw [ha,<- z,Zcn,List.map_drop]
 ·rw [Zc,Zcn,List.map_drop]
theorem ZcA {G:Hp}{x y:V}{a b:List Int}{Q:VK} (hx:Jc G x a) (hy:Jc G y b) (hz:a.length+b.length<=sizeLine) (k:∀v G',Zi G G'->Jc G' v (a++b)->Q v G'):ZlT x y G Q:=
 ⟨a,b,hx,hy,hz,fun e=>k y G (Zi.refl _) (by rw [e];exact hy),fun e=>k x G (Zi.refl _) (by rw [e,List.append_nil];exact hx),fun p fp=>k _ _ (Zi.laid fp) ⟨p,rfl,Zc⟩⟩
section
variable {prog:Program}{w:World}{A:Around}{E:Value->Shared->Prop}{s:Shared}{v d it:Addr}{es:Array DictEntry}{ep i:Nat}{ok ov:Value}
theorem ZjK {Q:Value->Shared->Prop} (hv:s.heap.IsItemsView v d) (hm:DAt s.heap d es ep)
  (hQ:Q (.ref s.heap.objs.size) { s with heap:=s.heap.push { cls:=.type "dict_itemiterator", data:=.fields #[.none,.bool false,.ref d,.int 0 0,.int es.size 0,.int ep 0,.none,.none] } }):
  wpAny (model prog w) A (pyIter (.ref v)) Q E s:=by
 obtain ⟨o1,g1,g2,g3⟩:=id hv
 obtain ⟨o2,k1,k2,k3⟩:=hm
 refine wpAny_pyIter_slot hv.typeIs F.slot_dict_items_iter (wpAny_call_entry F.slot_dict_items_iter hv.typeIs F.entry_dict_items_iter ?_ (F.args_dict_items_iter_1 _))
 unfold Builtin.«dict_items.__iter__» Builtin.Dict_items.dictOf Builtin.Dict_items.newIterator newFields
 wp_walk using wpAny_field g1 g3 (x:=.ref d) rfl,wpAny_dictEntries k1 k3,wpAny_dictEpoch k1 k3,wpAny_newObj_type
 ·exact ⟨_,rfl,_,_,⟨_,Heap.get?_push_size _ rfl,rfl⟩,F.slot_dict_itemiterator_next.lookup,hQ⟩
 ·simp [sizeOk,Builtin.Dict_items.ownsTuple,Builtin.Dict_items.ownedTupleFields,sizeLine_eq]
theorem Ze5 {Q:Option Value->Shared->Prop} (hit:IsItemIter s.heap it d i es.size ep ok ov) (hm:DAt s.heap d es ep)
  (hQ:∀e,es[i]? = some e -> ∀h',IsItemIterOut h' it d (i+1) es.size ep e.key e.val s.heap.objs.size->h'.get? s.heap.objs.size=some { cls:=.type "tuple", data:=.seq #[e.key,e.val] } ->
   (∀b o,b≠it->s.heap.get? b=some o->h'.get? b=some o)->Q (some (.ref s.heap.objs.size)) { s with heap:=h' })
  (hE:es.size<=i->A.handled=none /\ ∀h',(∀b o,b≠it->s.heap.get? b=some o->h'.get? b=some o)->Q none { s with heap:=h' }):wpAny (model prog w) A (pyNext (.ref it)) Q E s:=by
 obtain ⟨hp,g,dr,tk,os⟩:=s
 obtain ⟨o2,k1,k2,k3⟩:=hm
 have hT:Shared.TypeIs ⟨hp,g,dr,tk,os⟩ (.ref it) "dict_itemiterator" := ⟨_,hit,rfl⟩
 unfold pyNext
 refine wpAny_bind (wpAny_attempt (wpAny_callSpecial?_slot (name:=Str.ofString "__next__") hT F.slot_dict_itemiterator_next (wpAny_call_entry F.slot_dict_itemiterator_next hT F.entry_dict_itemiterator_next ?_ (F.args_dict_itemiterator_next_1 _))))
 wp_walk using wpAny_dictEntries k1 k3,wpAny_dictEpoch k1 k3,wpAny_typeNameOfWhole_itemiter hT,wpAny_fieldsOf hit rfl,wpAny_isOneOf_itemiter hT
 rw [if_neg (by lia),Int.toNat_natCast]
 cases hx:es[i]? with
 | some e=>
  wp_walk using wpAny_typeNameOfWhole_itemiter hT,wpAny_isOneOf_itemiter hT,wpAny_setField_rec hit
  ·show 3<8
   decide
  intro h1 e1 s1
  have e1:IsItemIter h1 it d (i+1) es.size ep ok ov:=e1
  have hT1:Shared.TypeIs ⟨h1,g,dr,tk,os⟩ (.ref it) "dict_itemiterator" := ⟨_,e1,rfl⟩
  have e2:=Heap.get?_push_of_some { cls:=.type "tuple", data:=.seq #[e.key,e.val] } e1
  wp_walk using wpAny_isOneOf_itemiter hT1,wpAny_newTuple,wpAny_field e2 rfl (x:=.none) rfl
  ·have z:=s1.1
   have il:it≠hp.objs.size:=Nat.ne_of_lt (Heap.lt_size hit)
   obtain ⟨up,eu⟩:∃up,up=fun (h:Heap) k x=>h.update it (Obj.mapFields fun y=>y.setIfInBounds k x):=⟨_,rfl⟩
   have uo:∀h k x b,b≠it->(up h k x).get? b=h.get? b:=fun h k x b n=>by rw [eu];exact Heap.get?_update_other _ _ (Ne.symm n)
   have us:∀h k x vs,h.get? it=some { cls:=.type "dict_itemiterator", dict:=none,data:=.fields vs,slots:=#[] } -> (up h k x).get? it=some { cls:=.type "dict_itemiterator", dict:=none,data:=.fields (vs.setIfInBounds k x),slots:=#[] }:=fun h k x vs e=>by rw [eu];exact Heap.get?_update_self _ e rfl
   refine ⟨_,rfl,wpAny_pure ?_⟩
   show Q (some (.ref h1.objs.size)) ⟨_,g,dr,tk,os⟩
   rw [z]
   refine hQ e hx _ ?_ ?_ fun b o n q=>?_
   ·have:=us _ 1 (.bool false) _ (us _ 0 (rawInt h1.objs.size) _ (us _ 7 e.val _ (us _ 6 e.key _ e2)))
    rw [eu,z] at this
    exact this
   ·have:=(uo (up (up (up (h1.push { cls:=.type "tuple", data:=.seq #[e.key,e.val] }) 6 e.key) 7 e.val) 0 (rawInt h1.objs.size)) 1 (.bool false) _ il.symm).trans ((uo _ _ _ _ il.symm).trans ((uo _ _ _ _ il.symm).trans ((uo _ _ _ _ il.symm).trans (show (h1.push { cls:=.type "tuple", data:=.seq #[e.key,e.val] }).get? hp.objs.size=some { cls:=.type "tuple", data:=.seq #[e.key,e.val] } from z ▸ Heap.get?_push_size _ rfl))))
    rw [eu,z] at this
    exact this
   ·have:=(uo (up (up (up (h1.push { cls:=.type "tuple", data:=.seq #[e.key,e.val] }) 6 e.key) 7 e.val) 0 (rawInt h1.objs.size)) 1 (.bool false) _ n).trans ((uo _ _ _ _ n).trans ((uo _ _ _ _ n).trans ((uo _ _ _ _ n).trans (Heap.get?_push_of_some _ ((s1.2 b n).trans q)))))
    rw [eu,z] at this
    exact this
  ·size_fits
 | none=>
  obtain ⟨hh,hE⟩:=hE (by simpa using hx)
  wp_walk using wpAny_typeNameOfWhole_itemiter hT,wpAny_setField hit rfl
  ·show 2<8
   decide
  refine Zc3 hh fun h' a k ty=>?_
  wp_walk using wpAny_isInstance (T := "StopIteration") (b:=true) ty isSubtype_stop
  exact hE h' fun b o hb e=>k b o ((Heap.get?_update_other _ _ (Ne.symm hb)).trans e)
end
section
variable {X:Cx}{pins:List (Addr×Obj)} {σ:St}{H:Hp}{s:Shared}{d:Addr}{kvs:List (List Key×V)}{o:Obj}
theorem Inv.froze (I:Inv X pins σ H s) (e:H d=some (.dT kvs)) (eo:s.heap.get? d=some o):Inv X pins σ (upd H d (.frz o (.dT kvs))) s:=by
 have nd:∀b u,H b=some u->u ≠ .dT kvs->b≠d:=fun b u q n z=>n (by rw [z,e] at q;exact (Option.some.inj q).symm)
 have hok:W0 X.prog X.w (upd H d (.frz o (.dT kvs))) s.heap:=fun b u q=>by
  have st:∀{c:Addr}{v:HO},ZV X.prog X.w H s.heap c v->ZV X.prog X.w (upd H d (.frz o (.dT kvs))) s.heap c v:=fun x=>
   x.stay (fun _ _ _ q=>q) (fun c q=>by rw [Zh (nd c _ q (by intro z;cases z))];exact q) fun c xs q=>by rw [Zh (nd c _ q (by intro z;cases z))];exact q
  by_cases hb:b=d
  ·subst hb
   rw [Zc] at q
   cases q
   exact ⟨eo,st (I.hok b _ e)⟩
  ·rw [Zh hb] at q
   exact st (I.hok b u q)
 exact I.step (h':=s.heap) (g':=s.gens) (d':=s.drawn) (t':=s.toks) (ch:=[]) (fun _ z=>nomatch z) (fun b o _ _ _ q _=>q) (fun b o _ _ _ q _=>⟨o.slots,q⟩)
  (fun b o _ _ n=>by rw [Zh (fun z=>by rw [z,e] at n;cases n)];exact n) (fun b o _ q=>⟨o,q⟩) (fun b xs q=>by rw [Zh (nd b _ q (by intro z;cases z))];exact q) (fun b o u q=>by rw [Zh (nd b _ q (by intro z;cases z))];exact q)
  (fun b ps q=>⟨#[],by rw [Zh (nd b _ q (by intro z;cases z)),q];simp⟩) (fun m hm=>hm) hok I.bare
end
def Itm (d:Addr) (o:Obj):It:=
  ⟨fun i H=>∃kvs p,H d=some (.frz o (.dT kvs))/\kvs[i]? = some p,
   fun i H v H'=>∃(t b:Addr) (kvs:List (List Key×V)) (k:List Key) (x:V),v = .ref t/\H t=none/\H d=some (.frz o (.dT kvs))/\kvs[i]? = some (k,x)/\H b=some (.tup (k.map kV))/\H'=upd H t (.tup [.ref b,x]),
   fun i H=>∃kvs,H d=some (.frz o (.dT kvs))/\kvs.length<=i⟩
theorem ZiK {H:Hp}:∀{kvs:List (List Key×V)}{xs:List (List Key×Addr×Value)}{i:Nat}{p:List Key×V},KT H kvs xs->kvs[i]? = some p -> ∃q,xs[i]? = some q/\H q.2.1=some (.tup (p.1.map kV))/\RelV p.2 q.2.2
 | _,_,_,_,.nil,e=>by simp at e
 | _,_,0,_,.cons r _,e=>by simp at e;subst e;exact ⟨_,rfl,r.2⟩
 | _,_,i+1,_,.cons _ t,e=>by
  obtain ⟨q,h1,h2⟩:=ZiK (i:=i) t (by simpa using e)
  exact ⟨q,by simpa using h1,h2⟩
theorem Zkg {H:Hp}:∀{kvs:List (List Key×V)}{xs:List (List Key×Addr×Value)},KT H kvs xs->kvs.length=xs.length
 | _,_,.nil=>rfl
 | _,_,.cons _ t=>congrArg (· + 1) (Zkg t)
theorem Zi1 {P:Program}{w:World}{K:PySem.W.Frag}{es:List Expr}{k:Nat}{pos:Pos} (d it:Addr) (o:Obj) (ents:Array DictEntry) (ep:Nat) (ho:o.data = .dict ents ep) (hne:d≠it):
  Turn P w K (.Tuple es k pos) (Itm d o) [it] it (fun i h=>∃ok ov,IsItemIter h it d i ents.size ep ok ov) where
 mem:=by simp
 obj:=fun i h st b hb=>by
  obtain ⟨ok,ov,he⟩:=st
  have z:b=it:=by simpa using hb
  subst z
  exact ⟨_,he,fun v z=>by
   have z':Data.fields _=Data.cell v:=z
   cases z'⟩
 keep:=fun i h h' st k=>by
  obtain ⟨ok,ov,he⟩:=st
  exact ⟨ok,ov,k it (by simp) _ he⟩
 item:=by
  intro X hP hw hK hc i pins s σ H E I hf st hg
  subst hP hw hK
  obtain ⟨kvs,⟨kk,x⟩,hd,hx⟩:=hg
  obtain ⟨hod,z,y,xs,r,o',es',ep',h1,h2,h3,h4,h5⟩:=(show ZV X.prog X.w H s.heap d (.frz o (.dT kvs)) from I.hok d _ hd)
  rw [hod] at h1
  cases h1
  rw [ho] at h3
  cases h3
  obtain ⟨ok,ov,he⟩:=st
  obtain ⟨e0,e1,e2,e3,e4,e5⟩:=hf it (by simp)
  obtain ⟨⟨k',b,v⟩,hq,hb,rv⟩:=ZiK r hx
  have hent:ents[i]? = some (entryOfKey (tupleKind (ZH X.prog X.w)) (k',b,v)):=by
   rw [<- Array.getElem?_toList,h4,List.getElem?_map,hq];rfl
  refine Ze5 he ⟨o,hod,h2,ho⟩ (fun e hx' h' ho' ht kp=>?_) (fun z=>by rw [Array.getElem?_eq_none z] at hent;cases hent)
  cases hent.symm.trans hx'
  refine ⟨_,rfl,?_⟩
  refine wpAny_letOwnedTupleGo_items (s:={ s with heap:=h' }) ho' fun h'' he'' hs''=>?_
  have Tn:@LT.lt Nat _ it s.heap.objs.size:=aLt he
  have kk2:∀b o,b≠it->s.heap.get? b=some o->h''.get? b=some o:=fun b o h1 q=>(hs''.2 b h1).trans (kp b o h1 q)
  have nne:∀b u,H b=some u->b≠it:=fun b u q z=>by rw [z,e0] at q;cases q
  have fr:H s.heap.objs.size=none:=I.hok.fresh (Nat.le_refl _)
  have hT:h''.get? s.heap.objs.size=some { cls:=.type "tuple", data:=.seq #[.ref b,v] }:=(hs''.2 _ (Nat.ne_of_gt Tn)).trans ht
  have nT:∀b o,s.heap.get? b=some o->b≠s.heap.objs.size:=fun b o q=>Nat.ne_of_lt (aLt q)
  have ok':W0 X.prog X.w (upd H s.heap.objs.size (.tup [.ref b,x])) h'':=fun c u q=>by
   by_cases hb':c=s.heap.objs.size
   ·subst hb'
    rw [Zc] at q
    cases q
    exact ⟨show 2<=sizeLine by decide,[.ref b,v],.cons rfl (.cons rv .nil),⟨_,hT,rfl,_,rfl⟩⟩
   ·rw [Zh hb'] at q
    refine (I.hok c u q).stay (fun c' v' hc' r'=>?_) (fun c' r'=>by rw [Zh (Zf r' fr)];exact r') fun c' xs' r'=>by rw [Zh (Zf r' fr)];exact r'
    rcases hc' with z | z
    ·subst z
     exact kk2 c' v' (nne c' u q) r'
    ·exact kk2 c' v' (nne c' _ z) r'
  have I1:Inv X pins σ (upd H s.heap.objs.size (.tup [.ref b,x])) { s with heap:=h'',gens:=s.gens,drawn:=s.drawn,toks:=s.toks }:=by
   refine I.step (ch:=[it]) (fun b hb=>?_) (fun b o _ _ hc q _=>kk2 b o (fun z=>hc (by simp [z])) q) (fun b o _ _ hc q _=>⟨o.slots,kk2 b o (fun z=>hc (by simp [z])) q⟩)
    (fun b o _ q n=>by rw [Zh (nT b o q)];exact n) (fun b o hc q=>⟨o,kk2 b o (fun z=>hc (by simp [z])) q⟩) (fun b xs q=>by rw [Zh (Zf q fr)];exact q) (fun b o u q=>by rw [Zh (Zf q fr)];exact q)
    (fun b ps q=>⟨#[],by rw [Zh (Zf q fr),q];simp⟩) (fun m hm=>?_) ok' I.bare
   ·have z':b=it:=by simpa using hb
    subst z';exact ⟨e3,e1,e4,e5⟩
   ·obtain ⟨o,es,ep,ho,r⟩:=hm
    exact ⟨o,es,ep,kk2 _ o (Ne.symm e1) ho,r⟩
  refine ⟨.ref s.heap.objs.size,_,I1,rfl,⟨s.heap.objs.size,b,kvs,kk,x,rfl,fr,hd,hx,hb,rfl⟩,⟨_,_,he''⟩,fun c hc'=>?_⟩
  have z:c=it:=by simpa using hc'
  subst z
  rw [Zh (nT c _ he)]
  exact e0
 done:=by
  intro X hP hw hK hc i pins s σ H E I hf st hg
  subst hP hw hK
  obtain ⟨kvs,hd,hx⟩:=hg
  obtain ⟨hod,z,y,xs,r,o',es',ep',h1,h2,h3,h4,h5⟩:=(show ZV X.prog X.w H s.heap d (.frz o (.dT kvs)) from I.hok d _ hd)
  rw [hod] at h1
  cases h1
  rw [ho] at h3
  cases h3
  obtain ⟨ok,ov,he⟩:=st
  obtain ⟨f0,f1,f2,f3,f4,f5⟩:=hf it (by simp)
  have hl:=Zkg r
  have hes:ents.size=kvs.length:=by rw [<- Array.length_toList,h4,List.length_map,hl]
  exact Ze5 he ⟨o,hod,h2,ho⟩ (fun e z=>by rw [Array.getElem?_eq_none (by lia)] at z;cases z) fun _=>⟨I.ok.hd hc,fun h' eb=>⟨rfl,I.turned (t':=s.toks) eb f0 f1 f3 f4 f5⟩⟩
 self:=fun _ _ _ _ _ st h=>by
  obtain ⟨ok,ov,he⟩:=st
  have hT:Shared.TypeIs _ (.ref it) "dict_itemiterator" := ⟨_,he,rfl⟩
  refine wpAny_pyIter_slot hT F.slot_dict_itemiterator_iter (wpAny_call_entry F.slot_dict_itemiterator_iter hT (entryFor_alias (b:=Builtin.«dict_keyiterator.__iter__») (id' := "dict_keyiterator.__iter__") (by kernel_rfl) rfl (by decide +kernel) (by kernel_rfl)) ?_ (F.args_dict_itemiterator_iter_1 _))
  show wpAny _ _ (ret (.ref it)) _ _ _
  exact wpAny_pure ⟨_,rfl, "dict_itemiterator", _,hT,F.slot_dict_itemiterator_next.lookup,h⟩
section
variable {X:Cx}
def Zm4 (td:TE):TI:=fun σ H R=>td σ H fun x H1=>∃d kvs,x = .ref d/\H1 d=some (.dT kvs) /\ ∀o,R (Itm d o) (upd H1 d (.frz o (.dT kvs)))
theorem Zi0 {o:Expr}{td:TE}{es:List Expr}{k:Nat}{apos cpos tpos:Pos} (ho:PE X o td)
  (hbase:attributeBase o "items" X.env (eval o X.env)=eval o X.env:=by rfl) (hline:(apos.endLine==cpos.line)=true:=by rfl):
  PI X (.Tuple es k tpos) (.Call (.Attribute o "items" apos) [] [] cpos) (Zm4 td):=by
 intro pins s σ H R I h
 refine wpAny_Call_method0_late hbase hline (Yq (ho pins s σ H _ I h) fun v s1 ⟨x,H1,I1,r1,d,kvs,ex,hd,q1⟩=>?_)
 subst ex
 cases (show v=Value.ref d from r1)
 obtain ⟨z,y,xs,r,ob,ents,ep,h1,h2,h3,h4,h5⟩:=(show ZV X.prog X.w H1 s1.heap d (.dT kvs) from I1.hok d _ hd)
 have ty:s1.TypeIs (.ref d) "dict" := ⟨ob,h1,h2.1⟩
 refine ⟨"dict", "dict.items", PySem.F.plainAttrs_dict,PySem.F.slot_dict_items,PySem.F.type_dict_items,ty,fun b q=>?_,?_⟩
 ·cases q
  exact ⟨ob,h1,h2.2.1⟩
 refine Calls.callWith_builtin rfl (PySem.evalArgs_none ?_)
 refine wpAny_call_entry F.slot_dict_items ty F.entry_dict_items ?_ (F.args_dict_items_1 _)
 unfold Builtin.«dict.items» Builtin.Dict.noArgs Builtin.Dict.showsAll
 wp_walk using wpAny_notOrdered_dict ty,wpAny_newObj_type,wpAny_ite_false y
 rotate_left
 ·size_fits
 refine ⟨_,rfl,?_⟩
 have I2:Inv X pins σ (upd H1 d (.frz ob (.dT kvs))) s1:=I1.froze hd h1
 have dl:d<s1.heap.objs.size:=Heap.lt_size h1
 refine ZjK (es:=ents) (ep:=ep) (d:=d) ⟨_,Heap.get?_push_size _ rfl,rfl,rfl⟩ ⟨ob,Heap.get?_push_of_some _ h1,h2,h3⟩ ?_
 obtain ⟨h8,eh8⟩:∃h8,h8=(s1.heap.push { cls:=.type "dict_items", data:=.fields #[.ref d] }).push { cls:=.type "dict_itemiterator", data:=.fields #[.none,.bool false,.ref d,.int 0 0,.int ents.size 0,.int ep 0,.none,.none] }:=⟨_,rfl⟩
 have I3:Inv X pins σ (upd H1 d (.frz ob (.dT kvs))) { s1 with heap:=h8 }:=I2.kept (t':=s1.toks) fun b o q=>by rw [eh8];exact Heap.get?_push_of_some _ (Heap.get?_push_of_some _ q)
 have sz:(s1.heap.push { cls:=.type "dict_items", data:=.fields #[.ref d] }).objs.size=s1.heap.objs.size+1:=Heap.size_push ..
 show PIE X pins σ _ R (.ref (s1.heap.push { cls:=.type "dict_items", data:=.fields #[.ref d] }).objs.size) { s1 with heap:=(s1.heap.push { cls:=.type "dict_items", data:=.fields #[.ref d] }).push { cls:=.type "dict_itemiterator", data:=.fields #[.none,.bool false,.ref d,.int 0 0,.int ents.size 0,.int ep 0,.none,.none] } }
 rw [<- eh8,sz]
 refine ⟨_,[s1.heap.objs.size+1],_,_,_,rfl,I3,Zi1 d _ ob ents ep h3 (Nat.ne_of_lt (Nat.lt_succ_of_lt dl)),⟨.none,.none,?_⟩,fun b hb=>?_,q1 ob⟩
 ·show h8.get? _=_
  rw [eh8,<- sz]
  exact Heap.get?_push_size _ rfl
 ·have z':b=s1.heap.objs.size+1:=by simpa using hb
  subst z'
  exact I2.fpOk (Nat.le_succ _) (I2.hok.fresh (Nat.le_succ _))
end
theorem ZhN {d:Addr}{o:Obj}{kvs:List (List Key×V)}{g:TG}{tb:TS}{D:Ends} {σ:St}{H:Hp} (Pv:Nat->St->Hp->Prop) (h0:Pv 0 σ H) (hl:∀i σ H,i<=kvs.length->Pv i σ H->H d=some (.frz o (.dT kvs)))
  (hs:∀i k x t b σ H,kvs[i]? = some (k,x)->Pv i σ H->H t=none->H b=some (.tup (k.map kV))->g (.ref t) σ (upd H t (.tup [.ref b,x])) fun σ2 H2=>tb { D with nx:=Pv (i+1),ct:=Pv (i+1),bk:=D.nx } σ2 H2) (hd:∀ σ H,Pv kvs.length σ H->D.nx σ H):
  ∃W:Nat->Nat->St->Hp->Prop,(∃m,W 0 m σ H) /\ ∀i m σ H,W i m σ H ->
   ((Itm d o).stop i H/\D.nx σ H)∨((Itm d o).go i H /\ ∃N:St->Hp->Prop,(∀ σ' H',N σ' H' -> ∃m',m'<m/\W (i+1) m' σ' H') /\ ∀x H',(Itm d o).yld i H x H'->g x σ H' fun σ2 H2=>tb { D with nx:=N,ct:=N,bk:=D.nx } σ2 H2):=by
 refine ⟨fun i m σ H=>m=kvs.length-i/\i<=kvs.length/\Pv i σ H,⟨kvs.length,by simp,Nat.zero_le _,h0⟩,?_⟩
 rintro i m σ H ⟨rfl,hi,p⟩
 have q:=hl i σ H hi p
 by_cases hlt:i<kvs.length
 ·refine .inr ⟨⟨kvs,kvs[i],q,by simp [hlt]⟩,Pv (i+1),fun σ' H' p'=>⟨kvs.length-(i+1),by lia,rfl,hlt,p'⟩,fun x H' y=>?_⟩
  obtain ⟨t,b,kvs',k,z,e1,e2,e3,e4,e5,e6⟩:=y
  rw [q] at e3
  injection e3 with e3
  injection e3 with _ e3
  injection e3 with e3
  subst e3 e1 e6
  exact hs i k z t b σ _ e4 p e2 e5
 ·have e:i=kvs.length:=by lia
  subst e
  exact .inl ⟨⟨kvs,q,Nat.le_refl _⟩,hd σ H p⟩
structure M1 (X:Cx) (o:Expr) (m:Str) (apos:Pos) (e:Expr) (cpos:Pos):Prop where
 base:attributeBase o m X.env (eval o X.env)=eval o X.env
 few:((backTo cpos (starEach [e] X.env)).all (fun x=>!x.1)&&(backToKw cpos (keywordEach [] X.env)).all (fun x=>x.1.isSome)
  && decide (([e]:List Expr).length+([]:List Keyword).length+(if ([]:List Keyword).isEmpty then 0 else 1)<30))=true
 line:(apos.endLine==cpos.line)=true
 trees:backTo cpos (starEach [e] X.env) = [(false,eval e X.env)]
structure M2 (X:Cx) (o:Expr) (m:Str) (apos:Pos) (e f:Expr) (cpos:Pos):Prop where
 base:attributeBase o m X.env (eval o X.env)=eval o X.env
 few:((backTo cpos (starEach [e,f] X.env)).all (fun x=>!x.1)&&(backToKw cpos (keywordEach [] X.env)).all (fun x=>x.1.isSome)
  && decide (([e,f]:List Expr).length+([]:List Keyword).length+(if ([]:List Keyword).isEmpty then 0 else 1)<30))=true
 line:(apos.endLine==cpos.line)=true
 trees:backTo cpos (starEach [e,f] X.env) = [(false,eval e X.env),(false,eval f X.env)]
def IsD (H:Hp) (a:Addr):Prop:=(∃kvs,Rd H a (.dK kvs)) ∨ ∃kvs,Rd H a (.dT kvs)
theorem Zi9 {X:Cx}{pins:List (Addr×Obj)} {σ:St}{H:Hp}{s:Shared}{a:Addr} (I:Inv X pins σ H s) (d:IsD H a):
  s.TypeIs (.ref a) "dict" /\ (∀b,Value.ref a = .ref b -> ∃ob,s.heap.get? b=some ob/\ob.dict=none)/\(a==sysModules)=false:=by
 rcases d with ⟨kvs,e⟩ | ⟨kvs,e⟩
 ·obtain ⟨_,hd,vs,_,dd⟩:=Zdc I.hok e
  refine ⟨dd.typeIs,fun b q=>?_,hd⟩
  cases q
  obtain ⟨ob,_,_,h1,h2,_⟩:=dd
  exact ⟨ob,h1,h2.2.1⟩
 ·obtain ⟨_,hd,xs,_,dd⟩:=Zc7 I.hok e
  refine ⟨dd.typeIs,fun b q=>?_,hd⟩
  cases q
  obtain ⟨ob,_,_,h1,h2,_⟩:=dd
  exact ⟨ob,h1,h2.2.1⟩
section
variable {X:Cx}{pins:List (Addr×Obj)} {σ:St}{H:Hp}{s:Shared}{a:Addr}{y d:V}{u r:Value}{o:Option V}{A:Around}{E:Value->Shared->Prop}
theorem ZmP {Q:Value->Shared->Prop} (hu:A.units+1<cLine) (I:Inv X pins σ H s) (g:Uv H a y o) (ry:RelV y u) (h:∀w' s',Inv X pins σ H s'->RelV (o.getD .non) w'->Q w' s'):
  wpAny (model X.prog X.w) A (call (.builtin "dict.get") [.ref a,u]) Q E s:=by
 rcases g with ⟨kvs,k,e,ey,l⟩ | ⟨kvs,k,b,e,ey,eb,l⟩
 ·subst ey
  obtain ⟨z,hd,vs,rel,dd⟩:=Zdc I.hok e
  refine call_meetsIn PySem.F.slot_dict_get dd.typeIs PySem.F.entry_dict_get (PySem.F.args_dict_get_2 _ _) (meets_dict_get (ZH X.prog X.w) a (ZbU ry) hd) ⟨_,dd.mapOf,h _ _ (I.tok _) ?_⟩
  rw [l]
  exact (rel.val k).getD rfl
 ·subst ey
  cases (show u=Value.ref b from ry)
  obtain ⟨z,hd,xs,rel,dd⟩:=Zc7 I.hok e
  refine call_meetsIn PySem.F.slot_dict_get dd.typeIs PySem.F.entry_dict_get (PySem.F.args_dict_get_2 _ _) (meetsH_dict_get (tupleKind (ZH X.prog X.w)) a b hd) ⟨tupleKind_room_in1 hu,k,xs,UU I.hok eb,dd,h _ _ (I.tok _) ?_⟩
  rw [l]
  exact (rel.val k).getD rfl
theorem Zl6 {Q:Value->Shared->Prop} (hu:A.units+1<cLine) (I:Inv X pins σ H s) (g:Uv H a y o) (ry:RelV y u) (rd:RelV d r) (h:∀w' s',Inv X pins σ H s'->RelV (o.getD d) w'->Q w' s'):
  wpAny (model X.prog X.w) A (call (.builtin "dict.get") [.ref a,u,r]) Q E s:=by
 rcases g with ⟨kvs,k,e,ey,l⟩ | ⟨kvs,k,b,e,ey,eb,l⟩
 ·subst ey
  obtain ⟨z,hd,vs,rel,dd⟩:=Zdc I.hok e
  refine call_meetsIn PySem.F.slot_dict_get dd.typeIs PySem.F.entry_dict_get (PySem.F.args_dict_get_3 _ _ _) (meets_dict_get_default (ZH X.prog X.w) a (ZbU ry) hd r) ⟨_,dd.mapOf,h _ _ (I.tok _) ?_⟩
  rw [l]
  exact (rel.val k).getD rd
 ·subst ey
  cases (show u=Value.ref b from ry)
  obtain ⟨z,hd,xs,rel,dd⟩:=Zc7 I.hok e
  refine call_meetsIn PySem.F.slot_dict_get dd.typeIs PySem.F.entry_dict_get (PySem.F.args_dict_get_3 _ _ _) (meetsH_dict_get_default (tupleKind (ZH X.prog X.w)) a b hd r) ⟨tupleKind_room_in1 hu,k,xs,UU I.hok eb,dd,h _ _ (I.tok _) ?_⟩
  rw [l]
  exact (rel.val k).getD rd
end
def Zmf (td ty:TE):TE:=fun σ H Q=>td σ H fun x H1=>∃a,x = .ref a/\IsD H1 a/\ty σ H1 fun y H2=>∃o,Uv H2 a y o/\Q (o.getD .non) H2
def Zi4 (td ty tx:TE):TE:=fun σ H Q=>td σ H fun x H1=>∃a,x = .ref a/\IsD H1 a/\ty σ H1 fun y H2=>tx σ H2 fun z H3=>∃o,Uv H3 a y o/\Q (o.getD z) H3
section
variable {X:Cx}{o e f:Expr}{apos cpos:Pos}{td ty tx:TE}
theorem ZfK (hu:X.A.units+1<cLine) (ho:PE X o td) (he:PE X e ty) (m:M1 X o "get" apos e cpos):PE X (.Call (.Attribute o "get" apos) [e] [] cpos) (Zmf td ty):=by
 intro pins s σ H Q I h
 refine wpAny_Call_method m.base m.few m.line PySem.F.plainAttrs_dict PySem.F.slot_dict_get PySem.F.type_dict_get (Yq (ho pins s σ H _ I h) fun u s1 ⟨x,H1,I1,rx,a,ex,d,q1⟩=>?_)
 subst ex
 obtain rfl:u=Value.ref a:=rx
 obtain ⟨t1,t2,_⟩:=Zi9 I1 d
 refine ⟨t1,t2,?_⟩
 rw [m.trees]
 refine Calls.callWith_builtin rfl (Calls.evalArgs_plain (Calls.spliced_cons (Yq (he pins s1 σ H1 _ I1 q1) fun iv s2 ⟨y,H2,I2,ry,ov,g,q2⟩=>Calls.spliced_nil ?_)))
 exact ZmP hu I2 g ry fun w' s3 I3 rw'=>⟨_,H2,I3,rw',q2⟩
theorem ZfO (hu:X.A.units+1<cLine) (ho:PE X o td) (he:PE X e ty) (hf:PE X f tx) (m:M2 X o "get" apos e f cpos):PE X (.Call (.Attribute o "get" apos) [e,f] [] cpos) (Zi4 td ty tx):=by
 intro pins s σ H Q I h
 refine wpAny_Call_method m.base m.few m.line PySem.F.plainAttrs_dict PySem.F.slot_dict_get PySem.F.type_dict_get (Yq (ho pins s σ H _ I h) fun u s1 ⟨x,H1,I1,rx,a,ex,d,q1⟩=>?_)
 subst ex
 obtain rfl:u=Value.ref a:=rx
 obtain ⟨t1,t2,_⟩:=Zi9 I1 d
 refine ⟨t1,t2,?_⟩
 rw [m.trees]
 refine Calls.callWith_builtin rfl (Calls.evalArgs_plain (Calls.spliced_cons (Yq (he pins s1 σ H1 _ I1 q1) fun iv s2 ⟨y,H2,I2,ry,q2⟩=>
  Calls.spliced_cons (Yq (hf pins s2 σ H2 _ I2 q2) fun fv s3 ⟨z,H3,I3,rz,ov,g,q3⟩=>Calls.spliced_nil ?_))))
 exact Zl6 hu I3 g ry rz fun w' s4 I4 rw'=>⟨_,H3,I4,rw',q3⟩
end
def Znf (tk tv:TE):TE:=fun σ H Q=>∀p,H p=none->tk σ (upd H p (.dT [])) fun x H1=>tv σ H1 fun y H2=>H2 p=some (.dT []) /\ ∃b ks,x = .ref b/\H2 b=some (.tup (ks.map kV))/\Q (.ref p) (upd H2 p (.dT [(ks,y)]))
theorem ZjQ {X:Cx}{pos:Pos}{k v:Expr}{tk tv:TE} (hu:X.A.units+1<cLine) (hk:PE X k tk) (hv:PE X v tv):PE X (.Dict [some k] [v] pos) (Znf tk tv):=by
 intro pins s σ H Q I q
 have hn:=I.hok.fresh (Nat.le_refl s.heap.objs.size)
 have I1:=I.laid (a:=s.heap.objs.size) (o:=.dT []) (h':=s.heap.push { cls:=.type "dict", data:=.dict #[] }) (t':=s.toks) (fun _ _ q=>Heap.get?_push_of_some _ q) (Nat.le_refl _) (Zfq s.heap I.big)
 rw [arm_eval_Dict,zip_pairTrees [some k] [v] X.env pos rfl rfl,dictDisplay_pairs _ (by intro z;cases z) (by show 1<17;decide)]
 refine wpAny_bind (wpAny_standAt (wpAny_bind ?_))
 unfold subDict
 refine wpAny_bind (wpAny_alloc ?_)
 refine wpAny_bind (wpAny_holding ?_)
 rw [if_pos (show (pairTrees [some k] [v] X.env pos).length<=15 from (by show 1<=15;decide))]
 refine wpAny_bind (pairTrees_cons_walk (Yq (hk pins _ σ _ _ I1 (q _ hn)) fun u s1 ⟨x,H1,I1',rx,q1⟩=>Yq (hv pins s1 σ H1 _ I1' q1) fun w2 s2 ⟨y,H2,I2,ry,e,b,ks,ex,eb,q2⟩=>pairTrees_nil_walk ?_))
 subst ex
 cases (show u=Value.ref b from rx)
 obtain ⟨z,hd,xs,rel,dd⟩:=ZlS I2.hok e
 cases rel
 refine wpAny_holding ?_
 rw [List.forIn_cons]
 refine wpAny_bind (wpAny_bind (wpAny_bind (wpAny_dictSet_heap (hsz:=by size_fits) (Nat.lt_of_succ_lt hu) (UU I2.hok eb) dd fun h' dd' hs=>wpAny_pure ?_)))
 dsimp only
 rw [List.forIn_nil]
 refine wpAny_pure (wpAny_pure (wpAny_pure (wpAny_pure ⟨.ref s.heap.objs.size,_,?_,rfl,q2⟩)))
 obtain ⟨q',es,ep,hq,h2,h3,h4,_,h5⟩:=dd'
 refine Zaf I2 (by rw [e];exact True.intro) hs ⟨q',hq⟩ ⟨(by show 1<=sizeLine;decide),hd,[(ks,b,w2)],.cons ⟨rfl,?_,ry⟩ .nil,q',es,ep,hq,h2,h3,h4,h5⟩
 rw [Zh (ZaZ eb e (fun z=>nomatch z))]
 exact eb
section
variable {prog:Program}{w:World}{A:Around}{E:Value->Shared->Prop}{s:Shared}{kd:SortKind}{D:Keyed->Prop}{lt:Keyed->Keyed->Bool}{x y:Keyed}{st:SortSt}
theorem Zl4 (C:Cmp prog w A E s kd D lt) (ha:arrOf st = #[x,y]) (hx:D x) (hy:D y) (hk:kindOf st=kd) {Q:Option Bool->SortSt->Prop} (h:Q (some (lt y x)) st):wpS (model prog w) A E s (ltAt' 1 0) Q st:=by
 rw [ltAt'_eq]
 refine wpS_bind (wpS_get ?_)
 show wpS _ _ _ _ (elem' (arrOf st) 1 >>= fun x=>elem' (arrOf st) 0 >>= fun y=>lt' x y) Q st
 rw [ha]
 exact wpS_bind (ZlY rfl (wpS_bind (ZlY rfl (C.cmp y x st Q hy hx hk h))))
theorem Zkw (C:Cmp prog w A E s kd D lt) (ha:arrOf st = #[x,y]) (hx:D x) (hy:D y) (hk:kindOf st=kd) {Q:Option Nat->SortSt->Prop} (h1:lt y x=false->Q (some 2) st) (h2:lt y x=true->Q (some 2) (setArr st #[y,x])):
  wpS (model prog w) A E s (Zil 0 2) Q st:=by
 refine wpS_bind (wpS_mono (wpS_forRange (a:=1) (b:=2) (I:=fun i c st'=>st'=st/\c=(none,i)/\(i=2->lt y x=false)) (Q:=fun c st'=>st'=st /\ ∃i,c=(none,i)/\i=if lt y x=true then 1 else 2) ?_ ?_ ⟨rfl,rfl,fun z=>nomatch z⟩) ?_)
 ·rintro i c st' a1 a2 ⟨rfl,rfl,_⟩
  obtain rfl:i=1:=by lia
  refine wpS_bind (Zl4 C ha hx hy hk ?_)
  cases e:lt y x with
  | true=>exact wpS_pure ⟨rfl,1,rfl,rfl⟩
  | false=>exact wpS_pure ⟨rfl,rfl,fun _=>rfl⟩
 ·rintro c st' ⟨rfl,rfl,e⟩
  exact ⟨rfl,2,rfl,by rw [e rfl];rfl⟩
 ·rintro c st' ⟨rfl,i,rfl,rfl⟩
  cases e:lt y x with
  | false=>exact wpS_pure (h1 e)
  | true=>
   refine wpS_bind (wpS_lift (wpAny_rule ⟨rfl,?_⟩))
   refine wpS_bind (wpS_mono (wpS_forRange (a:=2) (b:=2) (I:=fun i c st2=>st2=st'/\c=(none,2,0)) (Q:=fun c st2=>st2=st'/\c=(none,2,0)) (fun i c st2 a b _=>by lia) (fun c st2 z=>z) ⟨rfl,rfl⟩) ?_)
   rintro c st2 ⟨rfl,rfl⟩
   refine wpS_bind (ZmJ (i:=0) (j:=2) ?_)
   have em:mirror (arrOf st2) 0 2 ((2-0) / 2) = #[y,x]:=by rw [ha];rfl
   rw [em]
   refine wpS_bind (wpS_mono (wpS_forRange (a:=2) (b:=2) (I:=fun i c st3=>st3=setArr st2 #[y,x]/\c=(none,2)) (Q:=fun c st3=>st3=setArr st2 #[y,x]/\c=(none,2)) (fun i c st3 a b _=>by lia) (fun c st3 z=>z) ⟨rfl,rfl⟩) ?_)
   rintro c st3 ⟨rfl,rfl⟩
   exact wpS_pure (h2 e)
theorem ZjX (C:Cmp prog w A E s kd D lt) (ha:arrOf st = #[x,y]) (hx:D x) (hy:D y) (hk:kindOf st=kd) (hf:failedOf st=none) (hp:pendingOf st = #[]) {Q:Unit->SortSt->Prop}
  (h1:∀st',lt y x=false->arrOf st' = #[x,y]->failedOf st'=none->Q () st') (h2:∀st',lt y x=true->arrOf st' = #[y,x]->failedOf st'=none->Q () st'):wpS (model prog w) A E s Zai Q st:=by
 refine wpS_bind (wpS_get ?_)
 have hs:(arrOf st).size=2:=by rw [ha];rfl
 refine wpS_bind (wpS_mono (wpS_forRange (a:=0) (b:=(arrOf st).size) (I:=fun i c st'=>(i=0/\c=(none,0)/\st'=st)∨(c=(none,2)/\failedOf st'=none/\(pendingOf st').size=1/\((lt y x=false/\arrOf st' = #[x,y])∨(lt y x=true/\arrOf st' = #[y,x]))))
  (Q:=fun c st'=>c=(none,2)/\failedOf st'=none/\(pendingOf st').size=1/\((lt y x=false/\arrOf st' = #[x,y])∨(lt y x=true/\arrOf st' = #[y,x]))) ?_ ?_ (.inl ⟨rfl,rfl,rfl⟩)) ?_)
 ·rintro i c st' _ hi (⟨rfl,rfl,rfl⟩ | ⟨rfl,z⟩)
  ·show wpS _ _ _ _ (if 0>=(arrOf st').size then _ else _) _ _
   rw [if_neg (by lia)]
   rw [hs]
   refine wpS_bind (Zkw C ha hx hy hk (fun e=>?_) (fun e=>?_))
   ·show wpS _ _ _ _ (if 2<2 then _ else _) _ _
    refine Zju (fun c=>absurd c (by lia)) (fun _=>?_)
    refine wpS_bind (wpS_get ?_)
    have hb:(pendingOf st').back? = none:=by rw [hp];rfl
    generalize hbk:(pendingOf st').back? = bk at hb
    subst hb
    exact wpS_bind (wpS_modify (wpS_pure (.inr ⟨rfl,hf,by show ((pendingOf st').push _).size=1;rw [hp];rfl,.inl ⟨e,ha⟩⟩)))
   ·show wpS _ _ _ _ (if 2<2 then _ else _) _ _
    refine Zju (fun c=>absurd c (by lia)) (fun _=>?_)
    refine wpS_bind (wpS_get ?_)
    have hb:(pendingOf st').back? = none:=by rw [hp];rfl
    show wpS _ _ _ _ _ _ (setArr st' #[y,x])
    generalize hbk:(pendingOf (setArr st' #[y,x])).back? = bk
    rw [show (pendingOf (setArr st' #[y,x])).back? = (pendingOf st').back? from rfl,hb] at hbk
    subst hbk
    exact wpS_bind (wpS_modify (wpS_pure (.inr ⟨rfl,hf,by show ((pendingOf st').push _).size=1;rw [hp];rfl,.inr ⟨e,rfl⟩⟩)))
  ·show wpS _ _ _ _ (if 2>=(arrOf st).size then _ else _) _ _
   rw [if_pos (by lia)]
   exact wpS_pure ⟨rfl,z⟩
 ·rintro c st' (⟨z,_⟩ | z)
  ·rw [hs] at z;cases z
  ·exact z
 ·rintro c st' ⟨rfl,z1,z2,z3⟩
  refine wpS_bind (wpS_mono (wpS_forRange (a:=0) (b:=(arrOf st).size) (I:=fun i c st2=>c=(none,())/\st2=st') (Q:=fun c st2=>c=(none,())/\st2=st') ?_ (fun c st2 z=>z) ⟨rfl,rfl⟩) ?_)
  ·rintro i c st2 _ _ ⟨rfl,rfl⟩
   refine wpS_bind (wpS_get ?_)
   show wpS _ _ _ _ (if (pendingOf st2).size<=1 then _ else _) _ _
   rw [if_pos (by lia)]
   exact wpS_pure ⟨rfl,rfl⟩
  ·rintro c st2 ⟨rfl,rfl⟩
   refine wpS_pure ?_
   rcases z3 with ⟨e,a⟩ | ⟨e,a⟩
   ·exact h1 _ e a z1
   ·exact h2 _ e a z1
theorem ZhR {vs:List Value}{Dk:Keyed->Prop} (C:Cmp prog w A E s kd Dk lt) (h2:vs.length=2) (hd:∀p∈(pairsOf vs).toList,Dk p):
  wpS (model prog w) A E s Zai (fun _ st'=>(arrOf st').toList.Perm (pairsOf vs).toList/\Srt lt (arrOf st').toList/\failedOf st'=none) (SortSt.mk' kd (vs.toArray.zip vs.toArray) #[] 7 none):=by
 obtain ⟨u,v,rfl⟩:∃u v,vs = [u,v]:=by
  cases vs with
  | nil=>cases h2
  | cons u r=>
   cases r with
   | nil=>cases h2
   | cons v r=>
    cases r with
    | nil=>exact ⟨u,v,rfl⟩
    | cons _ _=>cases h2
 have ep:(pairsOf [u,v]).toList = [(u,u),(v,v)]:=by rw [pairsOf_toList];rfl
 rw [ep] at hd ⊢
 refine ZjX C (x:=(u,u)) (y:=(v,v)) (Array.toList_inj.mp ep) (hd _ (by simp)) (hd _ (by simp)) rfl rfl rfl (fun st' e a f=>⟨?_,?_,f⟩) (fun st' e a f=>⟨?_,?_,f⟩)
 ·rw [a]
 ·rw [a];exact List.Pairwise.cons (fun q hq=>by rw [List.mem_singleton.mp hq];exact e) (List.pairwise_singleton _ _)
 ·rw [a];exact List.Perm.swap _ _ _
 ·rw [a];exact List.Pairwise.cons (fun q hq=>by rw [List.mem_singleton.mp hq];exact C.wo.asym _ _ e) (List.pairwise_singleton _ _)
theorem Zgc {T:String} (kp:SortKind->Prop) {D:Addr}{vs:List Value}{n:Nat}{P:PySem.Fin->Shared->Prop} (sr:∀(s':Shared) (kd:SortKind),kp kd->(∀p∈(pairsOf vs).toList,DS T s' p) -> ¬vs.toArray.size<2->wpS (model prog w) A E s' Zai (fun _ st'=>(arrOf st').toList.Perm (pairsOf vs).toList/\Srt (ltW s') (arrOf st').toList/\failedOf st'=none) (SortSt.mk' kd (vs.toArray.zip vs.toArray) #[] 7 none))
  (kn:∀(s':Shared) (Q:SortKind->Shared->Prop),vs ≠ []->(∀v∈vs,∃a ks,v = .ref a/\Gi T s'.heap a ks)->(∀kd,kp kd->Q kd s')->wpAny (model prog w) A (keyKind' vs.toArray) Q E s')
  (ho:s.heap.get? D=some (seqObj "list" vs.toArray n)) (hv:∀v∈vs,∃a ks,v = .ref a/\a≠D/\Gi T s.heap a ks) (hz:vs.length<=sizeLine)
  (h:∀out:Array Value,out.toList.Perm vs->Zkh s.heap out.toList->P (.done (.ret .none)) { s with heap:=sortedHeap s.heap D vs out }):
  wpAny (model prog w) A (Builtin.«list.sort» ⟨[.ref D],[]⟩) P E s:=by
 rw [list_sort_plain]
 obtain ⟨ep,he⟩:∃ep,(s.heap.update D (Obj.mapSeq fun _=>#[])).get? D=some (seqObj "list" #[] ep):=⟨_,get?_update_seq ho fun _=>#[]⟩
 refine wpAny_bind (listItems_at ho rfl (wpAny_bind (listUpdate_at ho rfl (wpAny_bind (seqEpoch_at he rfl (wpAny_bind (wpAny_newTuple (wpAny_bind (wpAny_newList (wpAny_holding ?_))) (by simpa using hz))))) (by simpa using hz))))
 obtain ⟨u,eu⟩:∃u:Shared,u = { s with heap:=((s.heap.update D (Obj.mapSeq fun _=>#[])).push (seqObj "tuple" vs.toArray 0)).push (seqObj "list" #[] 0) }:=⟨_,rfl⟩
 have keep:∀b o,b≠D->s.heap.get? b=some o->u.heap.get? b=some o:=fun b o hb e=>by
  rw [eu]
  exact Heap.get?_push_of_some _ (Heap.get?_push_of_some _ ((Heap.get?_update_other _ _ (Ne.symm hb)).trans e))
 have hD:u.heap.get? D=some (seqObj "list" #[] ep):=by rw [eu];exact Heap.get?_push_of_some _ (Heap.get?_push_of_some _ he)
 have hu4:∀v∈vs,(∃a ks,v = .ref a/\Gi T u.heap a ks)/\Ze6 u.heap v=Ze6 s.heap v:=fun v hv'=>by
  obtain ⟨a,ks,rfl,ne,t⟩:=hv v hv'
  have t':=t.kept fun o q=>keep a o ne q
  exact ⟨⟨a,ks,rfl,t'⟩,by rw [t.key,t'.key]⟩
 show wpAny (model prog w) A _ P E { s with heap:=((s.heap.update D (Obj.mapSeq fun _=>#[])).push (seqObj "tuple" vs.toArray 0)).push (seqObj "list" #[] 0) }
 rw [<- eu]
 dsimp only
 refine ZhL (fun kd=>vs.toArray.size<2∨kp kd) (fun h2 Q' q=>wpAny_pure (q _ (.inl h2))) (fun h2 Q' q=>kn u Q' (fun z=>h2 (by rw [z];decide)) (fun v hv'=>(hu4 v hv').1) fun kd hk=>q kd (.inr hk)) fun kd hk=>?_
 refine wpAny_bind (wpAny_mono (Q:=fun r s''=>s''=u/\(arrOf r.2).toList.Perm (pairsOf vs).toList/\Srt (ltW u) (arrOf r.2).toList/\failedOf r.2=none) ?_ (fun r s'' hr=>?_) fun _ _ e=>e)
 ·by_cases h2:vs.toArray.size<2
  ·rw [if_pos h2,StateT.run_pure]
   refine wpAny_pure ⟨rfl,List.Perm.refl _,?_,rfl⟩
   have lp:(pairsOf vs).toList.length<2:=by rw [Array.length_toList,pairsOf_size];simpa using h2
   show Srt _ (pairsOf vs).toList
   generalize (pairsOf vs).toList=L at lp ⊢
   cases L with
   | nil=>exact .nil
   | cons x t=>
    cases t with
    | nil=>exact List.pairwise_singleton _ _
    | cons y t=>exact absurd lp (by simp)
  ·rw [if_neg h2]
   refine wpAny_mono (sr u kd (hk.resolve_left h2) (fun p hp=>?_) h2) (fun r s'' x=>x) fun _ _ e=>e
   have hp':p∈(pairsOf vs).toList:=hp
   rw [pairsOf_toList] at hp'
   exact (hu4 _ (mem_zip_self hp').2).1
 obtain ⟨rfl,hp,hs,hf⟩:=hr
 refine wpAny_bind (seqEpoch_at hD rfl (wpAny_bind (listUpdate_at hD rfl ?_ (hsz2:=by
  have:=hp.length_eq
  rw [Array.length_toList,Array.length_toList,pairsOf_size] at this
  rw [Array.size_map,this];lia))))
 have same:∀p∈(arrOf r.2).toList,p.1=p.2/\p.1∈vs:=fun p hp'=>by
  have:=hp.mem_iff.mp hp'
  rw [pairsOf_toList] at this
  exact mem_zip_self this
 have:=h ((arrOf r.2).map (·.2)) (by
  rw [Array.toList_map]
  refine (hp.map _).trans ?_
  rw [pairsOf_toList,List.map_snd_zip (Nat.le_refl _)]) (by
  rw [Array.toList_map]
  refine List.pairwise_map.mpr (List.Pairwise.imp_of_mem (fun {p q} hp' hq' x=>?_) hs)
  rw [<- (same p hp').1,<- (same q hq').1,<- (hu4 _ (same p hp').2).2,<- (hu4 _ (same q hq').2).2]
  exact x)
 unfold sortedHeap at this
 subst eu
 rw [hf,if_neg (by simp)]
 exact wpAny_pure this
theorem Zem {T:String} (kp:SortKind->Prop) {l:Addr}{vs:List Value}{Q:Value->Shared->Prop} (sr:∀(A:Around) (E:Value->Shared->Prop),A.units<cLine -> ∀(s':Shared) (kd:SortKind),kp kd->(∀p∈(pairsOf vs).toList,DS T s' p) -> ¬vs.toArray.size<2->wpS (model prog w) A E s' Zai (fun _ st'=>(arrOf st').toList.Perm (pairsOf vs).toList/\Srt (ltW s') (arrOf st').toList/\failedOf st'=none) (SortSt.mk' kd (vs.toArray.zip vs.toArray) #[] 7 none))
  (kn:∀(A:Around) E (s':Shared) (Q:SortKind->Shared->Prop),vs ≠ []->(∀v∈vs,∃a ks,v = .ref a/\Gi T s'.heap a ks)->(∀kd,kp kd->Q kd s')->wpAny (model prog w) A (keyKind' vs.toArray) Q E s')
  (hu:A.units+2<cLine) (hl:s.heap.IsList l vs.toArray) (hv:∀v∈vs,∃a ks,v = .ref a/\Gi T s.heap a ks) (hz:vs.length<=sizeLine)
  (h:∀(out:Array Value),out.toList.Perm vs->(∃h1:Heap,(∀a ks,Gi T s.heap a ks->Gi T h1 a ks)/\Zkh h1 out.toList)->Q (.ref (s.heap.objs.size+1)) { s with heap:=sortedAll s.heap vs out }):
  wpAny (model prog w) A (call (.builtin "sorted") [.ref l]) Q E s:=by
 refine Calls.call_function_entry kind_sorted plain_sorted entry_sorted (args_sorted1 _) ?_
 unfold Builtin.«sorted»
 refine wpAny_bind (wpAny_of_eq (a:=()) rfl (wpAny_bind (collect_list hl (wpAny_bind (wpAny_newList ?_ hz)) hz)))
 obtain ⟨u,eu⟩:∃u:Heap,u=(s.heap.push (seqObj "list" #[] 0)).update s.heap.objs.size (Obj.mapSeq (· ++ vs.toArray)):=⟨_,rfl⟩
 have zu:u.objs.size=s.heap.objs.size+1:=by rw [eu,Heap.size_update,size_push']
 have kp':∀b o,s.heap.get? b=some o->(u.push (seqObj "list" vs.toArray 0)).get? b=some o:=fun b o e=>Heap.get?_push_of_some _ (by
  rw [eu,Heap.get?_update_ne _ _ _ _ (Nat.ne_of_lt (Heap.lt_size e))]
  exact Heap.get?_push_of_some _ e)
 have nw:(u.push (seqObj "list" vs.toArray 0)).get? (s.heap.objs.size+1)=some (seqObj "list" vs.toArray 0):=zu ▸ Heap.get?_push_size _ rfl
 show wpAny _ _ _ _ _ { s with heap:=((s.heap.push (seqObj "list" #[] 0)).update s.heap.objs.size (Obj.mapSeq (· ++ vs.toArray))).push (seqObj "list" vs.toArray 0) }
 unfold sortedAll at h
 rw [<- eu] at h ⊢
 rw [zu]
 refine wpAny_bind (wpAny_holding (wpAny_call_entry slot_list_sort ⟨_,nw,rfl⟩ entry_list_sort (Zgc kp (sr _ _ (by exact hu)) (kn _ _) nw (fun v hv'=>?_) hz fun out a2 a3=>⟨_,rfl,wpAny_pure ⟨_,rfl,h out a2 ⟨_,fun a ks t=>t.kept fun o e=>kp' a o e,a3⟩⟩⟩) (args_list_sort _)))
 obtain ⟨a,ks,e,t⟩:=hv v hv'
 refine ⟨a,ks,e,?_,t.kept fun o e=>kp' a o e⟩
 obtain ⟨_,_,_,_,e',_⟩:=t
 exact Nat.ne_of_lt (Nat.lt_succ_of_lt (Heap.lt_size e'))
end
section
variable {X:Cx}
def Zj6 (K:PySem.W.Frag):List V->Hp->VK->Prop:=fun xs H Q=>∃(p:Addr) (ys:List V) (ws:List (List Int)),xs = [.ref p]/\Zw K H p ys/\ZlW H ys ws/\ys.length=2 /\
  ∀(l:Addr) (zs:List V) (vs:List (List Int)),H l=none->zs.Perm ys->vs.Perm ws->ZlW H zs vs->ZmI vs->Q (.ref l) (upd H l (.lst zs))
theorem Zej (hu:X.A.units+64<cLine):Jw X (.builtin "sorted") (Zj6 X.K):=by
 intro pins s σ H xs us Q I r h
 obtain ⟨p,ys,ws,rfl,hq,hw,h2,q⟩:=h
 obtain ⟨u,rfl,ru⟩:=r.one
 cases ru
 obtain ⟨its,rv,pl,hz⟩:=I.list hq
 have hlen:ys.length=its.length:=rv.length
 refine Zem Kd2 (fun A E hu s' kd hk hd _=>ZhR (Zim hk hu) (by lia) hd) (fun A E s' Q hn hv h=>Zga hn hv h) (by lia) pl.isList (fun v hv=>?_) (by lia) fun out a2 ⟨h1,k1,a3⟩=>?_
 ·obtain ⟨y,hy,ry⟩:=Paired.mem1 (Paired.flip rv) v hv
  obtain ⟨ks,_,hk⟩:=Paired.mem1 hw y hy
  obtain ⟨a,e1,e2,e3⟩:=ZfB I.hok hk ry
  exact ⟨a,ks,e1,e3⟩
 obtain ⟨zs,vs,b1,b2,b3,b4,b5⟩:=ZjS (fun f r=>(ZfB I.hok f r).imp fun _ z=>⟨z.1,z.2.2⟩) rv hw a2 k1 a3
 obtain ⟨e,he⟩:=sortedAll_at s.heap its out
 have fr:H (s.heap.objs.size+1)=none:=I.hok.fresh (Nat.le_succ _)
 refine ⟨.ref (s.heap.objs.size+1),_,I.laid (a:=s.heap.objs.size+1) (o:=.lst zs) (t':=s.toks) (fun b o q=>sortedAll_old q) (Nat.le_succ _) ⟨?_,out.toList,e,b1,?_⟩,rfl,q _ _ _ fr b3 b4 b2 b5⟩
 ·rw [b3.length_eq];lia
 ·simpa [seqObj] using he
theorem Zds {K:PySem.W.Frag} (h:X.K=K) (hu:X.A.units+64<cLine):Jw X (.builtin "sorted") (Zj6 K):=h ▸ Zej hu
end
section
variable {prog:Program}{w:World}{K:Type} [DecidableEq K] (knd:KeyKind prog w K)
def Zam (h:Heap) (x:List K×K) (a:Addr):Prop:=∃o n b v,h.get? a=some o/\o.cls = .type "tuple" /\ o.data = .seq #[.ref b,v] n/\IsTupleKey knd h x.1 b/\knd.is x.2 v=true
variable {knd}{A:Around}{E:Value->Shared->Prop}{s:Shared}
theorem Zam.typeIs {x:List K×K}{a:Addr} (h:Zam knd s.heap x a):s.TypeIs (.ref a) "tuple" := let ⟨o,_,_,_,ho,hc,_⟩:=h;⟨o,ho,hc⟩
theorem Zld {x:List K×K}{a:Addr}{Q:Int->Shared->Prop} (hu:A.units+1<cLine) (hk:Zam knd s.heap x a) (h:Q (reduceHash (Builtin.Tuple.tupleHashOf [tupleKeyHash knd x.1,knd.hash x.2])) { s with toks:=s.toks+(x.1.length+3) }):
  wpAny (model prog w) A (pyHash (.ref a)) Q E s:=by
 have ty:=hk.typeIs
 obtain ⟨o,n,b,v,ho,_,hd,hb,hv⟩:=hk
 unfold pyHash pyHashByItsType
 refine wpAny_bind (wpAny_cRoomFor_or (.inr (Nat.lt_of_succ_lt hu)) ?_)
 refine wpAny_bind (wpAny_specialOf ty F.slot_tuple_hash.lookup ?_)
 dsimp only
 rw [if_neg (by rw [beq_builtin_none];exact Bool.false_ne_true)]
 refine wpAny_bind (wpAny_specialOf ty F.slot_tuple_hash.lookup ?_)
 refine wpAny_bind (wpAny_callSpecialIfBoundUnlessNone?_slot ty F.slot_tuple_hash (wpAny_call_entry F.slot_tuple_hash ty F.entry_tuple_hash ?_ (F.args_tuple_hash_1 _)))
 show wpAny _ _ (Builtin.Tuple.tupleItemsOf (.ref a) >>= _) _ _ s
 refine wpAny_bind (wpAny_tupleItemsOf ho hd (wpAny_bind ?_))
 rw [<- Array.forIn_toList]
 show wpAny _ _ (forIn [Value.ref b,v] #[] _) _ _ s
 rw [List.forIn_cons]
 refine wpAny_bind (wpAny_bind (wpAny_pyHash_tuple (show A.in1.units<cLine from hu) hb (wpAny_pure ?_)))
 dsimp only
 rw [List.forIn_cons]
 refine wpAny_bind (wpAny_bind (knd.pyHash hv (wpAny_pure ?_)))
 dsimp only
 rw [List.forIn_nil]
 refine wpAny_pure ?_
 show wpAny _ _ (retInt (Builtin.Tuple.tupleHashOf [tupleKeyHash knd x.1,knd.hash x.2])) _ _ _
 refine wpAny_ret_mkInt ?_
 have et:s.toks+(x.1.length+1)+1+1=s.toks+(x.1.length+3):=by lia
 rw [<- et] at h
 unfold reduceHash at h
 generalize Builtin.Tuple.tupleHashOf [tupleKeyHash knd x.1,knd.hash x.2]=i at *
 show wpAny _ _ (if (decide (-(2:Int) ^ 63<=i)&&decide (i<2 ^ 63))=true then _ else _) Q E _
 split
 ·rename_i c
  rw [if_pos c] at h
  exact wpAny_pure h
 ·rename_i c
  rw [if_neg c] at h
  exact wpAny_bind (wpAny_rule (wpAny_pure h))
theorem Zgb {x y:List K×K}{a b:Addr}{P:PySem.Fin->Shared->Prop} (hu:A.units+1<cLine) (hx:Zam knd s.heap x a) (hy:Zam knd s.heap y b) (h:P (.done (.ret (.bool (decide (x=y))))) s):
  wpAny (model prog w) A (Builtin.«tuple.__eq__» ⟨[.ref a,.ref b],[]⟩) P E s:=by
 have ty:=hy.typeIs
 obtain ⟨o1,n1,b1,v1,ho1,_,hd1,hb1,hv1⟩:=hx
 obtain ⟨o2,n2,b2,v2,ho2,_,hd2,hb2,hv2⟩:=hy
 show wpAny _ _ (isInstance (.ref b) (.type "tuple") >>= _) _ _ s
 refine wpAny_bind (wpAny_isInstance ty isSubtype_tuple_tuple ?_)
 simp only [Bool.not_true,Bool.false_eq_true,if_false]
 refine wpAny_bind (wpAny_tupleItemsOf ho1 hd1 (wpAny_bind (wpAny_tupleItemsOf ho2 hd2 (wpAny_bind ?_))))
 show wpAny _ _ (forIn [(Value.ref b1,Value.ref b2),(v1,v2)] _ _) _ _ s
 rw [List.forIn_cons]
 refine wpAny_bind (wpAny_bind (wpAny_eqBool_tuple (Nat.lt_of_succ_lt hu) hb1 hb2 ?_))
 by_cases c:x.1=y.1
 ·rw [decide_eq_true c]
  refine wpAny_pure ?_
  dsimp only
  rw [List.forIn_cons]
  refine wpAny_bind (wpAny_bind (knd.eqBool hv1 hv2 ?_))
  by_cases d:x.2=y.2
  ·rw [decide_eq_true d]
   refine wpAny_pure ?_
   dsimp only
   rw [List.forIn_nil]
   refine wpAny_pure (wpAny_pure ?_)
   rw [decide_eq_true (Prod.ext c d)] at h
   exact h
  ·rw [decide_eq_false d]
   rw [decide_eq_false fun z=>d (congrArg Prod.snd z)] at h
   exact wpAny_bind (wpAny_pure (wpAny_pure (wpAny_pure (wpAny_pure h))))
 ·rw [decide_eq_false c]
  rw [decide_eq_false fun z=>c (congrArg Prod.fst z)] at h
  exact wpAny_bind (wpAny_pure (wpAny_pure (wpAny_pure (wpAny_pure h))))
theorem Zam.inj {h:Heap}{a:Addr}{x y:List K×K} (hx:Zam knd h x a) (hy:Zam knd h y a):x=y:=by
 obtain ⟨o1,n1,b1,v1,ho1,_,hd1,hb1,hv1⟩:=hx
 obtain ⟨o2,n2,b2,v2,ho2,_,hd2,hb2,hv2⟩:=hy
 obtain rfl:o1=o2:=Option.some.inj (ho1.symm.trans ho2)
 rw [hd1] at hd2
 injection hd2 with e _
 have e:=congrArg Array.toList e
 injection e with e1 e2
 injection e1 with e1
 injection e2 with e2 _
 subst e1 e2
 exact Prod.ext (hb1.inj hb2) (knd.inj _ _ _ hv1 hv2)
theorem ZnG {x y:List K×K}{a b:Addr}{Q:Bool->Shared->Prop} (hu:A.units+2<cLine) (hx:Zam knd s.heap x a) (hy:Zam knd s.heap y b) (h:Q (decide (x=y)) s):wpAny (model prog w) A (eqBool (.ref a) (.ref b)) Q E s:=by
 unfold eqBool
 refine wpAny_holding ?_
 by_cases c:(Value.ref a==Value.ref b)=true
 ·have e:a=b:=by have:=eq_of_beq c;injection this
  subst e
  cases hx.inj hy
  rw [decide_eq_true rfl] at h
  rw [if_pos c]
  exact wpAny_bind (wpAny_rule (wpAny_pure h))
 ·rw [if_neg c]
  exact wpAny_bind (wpAny_richCompare_same_room (op:=.Eq) hx.typeIs hy.typeIs F.slot_tuple_eq (wpAny_call_entry F.slot_tuple_eq hx.typeIs F.entry_tuple_eq (Zgb (show A.in1.units+1<cLine from hu) hx hy ⟨_,rfl,(fun e=>nomatch e),wpAny_truthy_bool h⟩) (F.args_tuple_eq_2 _ _)) (by lia))
theorem ZcX {m:Nat}{vs:List Value}{Q:Option Bool×Unit->Shared->Prop} (hv:∀v∈vs,carriedByValue v=true) (h:Q (none,()) s):
  wpAny (model prog w) A (forIn vs ((none,()):Option Bool×Unit) fun y _=>do
   let q <- eqIsQuiet m y
   if (!q)=true then pure (ForInStep.done (some false,())) else pure (ForInStep.yield (none,()))) Q E s:=by
 induction vs with
 | nil=>rw [List.forIn_nil];exact wpAny_pure h
 | cons v vs ih=>
  rw [List.forIn_cons,eqIsQuiet_byValue _ (hv v List.mem_cons_self)]
  exact wpAny_bind (wpAny_bind (wpAny_pure (wpAny_pure (ih fun u hu=>hv u (List.mem_cons_of_mem _ hu)))))
theorem Zin {m:Nat}{ks:List K}{a:Addr}{Q:Bool->Shared->Prop} (hk:IsTupleKey knd s.heap ks a) (h:Q true s):wpAny (model prog w) A (eqIsQuiet (m+1) (.ref a)) Q E s:=by
 have ty:=hk.typeIs
 obtain ⟨o,items,n,ho,_,hd,hi⟩:=hk
 unfold eqIsQuiet
 refine wpAny_bind (wpAny_specialOf ty F.slot_tuple_eq.lookup ?_)
 show wpAny _ _ (isInstance (.ref a) (.type "tuple") >>= _) _ _ s
 refine wpAny_bind (wpAny_isInstance ty isSubtype_tuple_tuple ?_)
 simp only [Bool.not_true,Bool.false_eq_true,if_false]
 refine wpAny_bind (wpAny_seqItems ho hd (wpAny_bind ?_))
 show wpAny _ _ (forIn items _ _) _ _ s
 rw [<- Array.forIn_toList]
 exact ZcX hi.byValue (wpAny_pure h)
theorem ZjV {x:List K×K}{a:Addr}{Q:Bool->Shared->Prop} (hk:Zam knd s.heap x a) (h:Q true s):wpAny (model prog w) A (eqIsQuiet 8 (.ref a)) Q E s:=by
 have ty:=hk.typeIs
 obtain ⟨o,n,b,v,ho,_,hd,hb,hv⟩:=hk
 unfold eqIsQuiet
 refine wpAny_bind (wpAny_specialOf ty F.slot_tuple_eq.lookup ?_)
 show wpAny _ _ (isInstance (.ref a) (.type "tuple") >>= _) _ _ s
 refine wpAny_bind (wpAny_isInstance ty isSubtype_tuple_tuple ?_)
 simp only [Bool.not_true,Bool.false_eq_true,if_false]
 refine wpAny_bind (wpAny_seqItems ho hd (wpAny_bind ?_))
 show wpAny _ _ (forIn #[Value.ref b,v] _ _) _ _ s
 rw [<- Array.forIn_toList,List.forIn_cons]
 refine wpAny_bind (wpAny_bind (Zin (m:=6) hb (wpAny_pure ?_)))
 refine ZcX (fun u hu=>?_) (wpAny_pure h)
 rw [List.mem_singleton.mp hu]
 exact knd.byValue _ _ hv
theorem Zam.keeps {h h':Heap}{k:List K×K}{a d:Addr}{o:Obj}{es ep} (x:Zam knd h k a) (ho:h.get? d=some o) (hd:o.data = .dict es ep) (hs:Heap.SameBut d h h'):Zam knd h' k a:=by
 obtain ⟨o',n,b,v,ho',hc,hd',hb,hv⟩:=x
 have hne:a≠d:=fun z=>by
  subst z
  cases ho'.symm.trans ho
  rw [hd] at hd'
  cases hd'
 exact ⟨o',n,b,v,(hs.2 a hne).trans ho',hc,hd',hb.keeps ho hd hs,hv⟩
def GC (knd:KeyKind prog w K):HeapKind prog w (List K×K) where
 is:=Zam knd
 hash:=fun x=>reduceHash (Builtin.Tuple.tupleHashOf [tupleKeyHash knd x.1,knd.hash x.2])
 draws:=fun x=>x.1.length+3
 room:=fun A=>A.units+2<cLine
 inj:=fun hx hy=>hx.inj hy
 keeps:=fun x ho hd hs=>x.keeps ho hd hs
 pyHash:=fun hu hk h=>Zld (Nat.lt_of_succ_lt hu) hk h
 eqBool:=fun hu hx hy h=>ZnG hu hx hy h
 quiet:=fun hk h=>ZjV hk h
end
abbrev PEn:=(List Key×Key)×Addr×Addr
def toH (x:PEn):(List Key×Key)×Addr×Value:=(x.1,x.2.1,.ref x.2.2)
def DPo (P:Program) (w:World) (a:Addr) (xs:List PEn):HO:=.ext fun h=>xs.length<=sizeLine/\(a==sysModules)=false /\ ∃o es ep,h.get? a=some o/\o.ExactDict/\o.data = .dict es ep/\es.toList=(xs.map toH).map (entryOfKey (GC (ZH P w)))/\(xs.map (·.1)).Nodup
def Ul (H:Hp) (k:List Key×Key) (a:Addr):Prop:=∃b,H a=some (.tup [.ref b,kV k.2])/\H b=some (.tup (k.1.map kV))
def Ub (H:Hp) (xs:List PEn):Prop:=∀x∈xs,Ul H x.1 x.2.1
theorem Ul.mono {H H':Hp} (h:∀a ws,H a=some (.tup ws)->H' a=some (.tup ws)) {k:List Key×Key}{a:Addr}:Ul H k a->Ul H' k a
 | ⟨b,h1,h2⟩=>⟨b,h _ _ h1,h _ _ h2⟩
theorem Ub.mono {H H':Hp} (h:∀a ws,H a=some (.tup ws)->H' a=some (.tup ws)) {xs:List PEn} (x:Ub H xs):Ub H' xs:=fun y hy=>(x y hy).mono h
def ZeM (xs:List PEn) (k:List Key×Key):Option Addr:=(xs.find? fun x=>decide (x.1=k)).map (·.2.2)
def Zgw (xs:List PEn) (k:List Key×Key) (b v:Addr):List PEn:=if (ZeM xs k).isSome then xs.map (fun x=>if x.1=k then (x.1,x.2.1,v) else x) else xs ++ [(k,b,v)]
theorem ZbA (xs:List PEn) (k:List Key×Key):(atKey (xs.map toH) k).map (·.2)=(ZeM xs k).map Value.ref:=by
 unfold atKey ZeM
 rw [List.find?_map]
 cases h:xs.find? ((fun x=>decide (x.1=k)) ∘ toH) with
 | none=>rw [show xs.find? (fun x=>decide (x.1=k))=none from h];rfl
 | some x=>rw [show xs.find? (fun x=>decide (x.1=k))=some x from h];rfl
theorem Zgm (xs:List PEn) (k:List Key×Key) (b v:Addr):storedH (xs.map toH) k b (.ref v)=(Zgw xs k b v).map toH:=by
 have e:=ZbA xs k
 unfold storedH Zgw
 have e1:(atKey (xs.map toH) k).isSome=(ZeM xs k).isSome:=by
  have:=congrArg Option.isSome e
  simpa using this
 rw [e1]
 split
 ·rw [List.map_map,List.map_map]
  refine List.map_congr_left fun x _=>?_
  show putAt k (.ref v) (toH x)=toH (if x.1=k then (x.1,x.2.1,v) else x)
  unfold putAt
  by_cases c:x.1=k
  ·rw [if_pos (show (toH x).1=k from c),if_pos c];rfl
  ·rw [if_neg (show ¬(toH x).1=k from c),if_neg c]
 ·rw [List.map_append];rfl
theorem Zjn (xs:List PEn) (k:List Key×Key) (b v:Addr):(Zgw xs k b v).length<=xs.length+1:=by
 unfold Zgw
 split<;>simp
section
variable {P:Program}{w:World}{H:Hp}{h:Heap}{a:Addr}
theorem Zcx {k:List Key×Key} (ok:W0 P w H h) (e:Ul H k a):Zam (ZH P w) h k a:=by
 obtain ⟨b,e1,e2⟩:=e
 obtain ⟨_,its,r,o,h1,h2,n,h3⟩:=(show ZV P w H h a (.tup [.ref b,kV k.2]) from ok a _ e1)
 match its,r with
 | [u,v],.cons r1 (.cons r2 .nil)=>
  cases (show u=Value.ref b from r1)
  exact ⟨o,n,b,v,h1,h2,h3,UU ok e2,ZbU r2⟩
theorem Zfb {xs:List PEn} (ok:W0 P w H h) (e:Rd H a (DPo P w a xs)) (ks:Ub H xs):xs.length<=sizeLine/\(a==sysModules)=false/\h.DictOfH (GC (ZH P w)) a (xs.map toH):=by
 obtain ⟨⟨z,y,o,es,ep,h1,h2,h3,h4,h5⟩,_⟩:=(show ZV P w H h a (DPo P w a xs) from ZiO ok e)
 refine ⟨z,y,o,es,ep,h1,h2,h3,h4,fun x hx=>?_,by rw [List.map_map];exact h5⟩
 obtain ⟨x',hx',rfl⟩:=List.mem_map.mp hx
 exact Zcx ok (ks x' hx')
theorem Zhp {xs:List PEn} (z:xs.length<=sizeLine) (y:(a==sysModules)=false) (d:h.DictOfH (GC (ZH P w)) a (xs.map toH)):ZV P w H h a (DPo P w a xs):=by
 obtain ⟨o,es,ep,h1,h2,h3,h4,_,h5⟩:=d
 refine ⟨⟨z,y,o,es,ep,h1,h2,h3,h4,by rw [List.map_map] at h5;exact h5⟩,⟨o,h1⟩,fun g1 g2 ⟨z,y,o,es,ep,h1,r⟩ k=>⟨z,y,o,es,ep,k o h1,r⟩⟩
theorem Zev {knd:KeyKind P w Key}{A:Around} (hu:A.units+3<cLine):(GC knd).room A.in1:=hu
end
def ZlU (P:Program) (w:World):TE:=fun _ H Q=>∀p,H p=none->Q (.ref p) (upd H p (DPo P w p []))
def ZiC (P:Program) (w:World) (tk tv:TE):TE:=fun σ H Q=>∀p,H p=none->tk σ (upd H p (DPo P w p [])) fun x H1=>tv σ H1 fun y H2=>H2 p=some (DPo P w p []) /\ ∃k b v,x = .ref b/\y = .ref v/\Ul H2 k b/\Q (.ref p) (upd H2 p (DPo P w p [(k,b,v)]))
def ZiQ (P:Program) (w:World) (td ty:TE):TE:=fun σ H Q=>td σ H fun x H1=>ty σ H1 fun y H2=>∃a xs k b v,x = .ref a/\Rd H2 a (DPo P w a xs)/\Ub H2 xs/\y = .ref b/\Ul H2 k b/\ZeM xs k=some v/\Q (.ref v) H2
def Zjk (P:Program) (w:World) (td ty tx:TE):TE:=fun σ H Q=>td σ H fun x H1=>∃a xs,x = .ref a/\Rd H1 a (DPo P w a xs)/\Ub H1 xs/\ty σ H1 fun y H2=>tx σ H2 fun z H3=>∃xs k b v,Rd H3 a (DPo P w a xs)/\Ub H3 xs/\y = .ref b/\Ul H3 k b/\z = .ref v/\Q (.ref ((ZeM xs k).getD v)) H3
def ZlZ (P:Program) (w:World):V->V->V->Hp->(Hp->Prop)->Prop:=fun o i v H Q=>∃a xs k b u,o = .ref a/\i = .ref b/\v = .ref u/\H a=some (DPo P w a xs)/\Ub H xs/\Ul H k b/\xs.length<sizeLine/\Q (upd H a (DPo P w a (Zgw xs k b u)))
section
variable {X:Cx}{P:Program}{w:World}{pos:Pos}{o i e f k v:Expr}{td ty tx tk tv:TE}{apos cpos:Pos}
theorem ZlA (hP:X.prog=P) (hw:X.w=w):PE X (.Dict [] [] pos) (ZlU P w):=by
 subst hP hw
 exact fun pins s σ H Q I h=>wpAny_Dict_empty ⟨.ref s.heap.objs.size,_,I.laid (a:=s.heap.objs.size) (o:=DPo X.prog X.w s.heap.objs.size []) (t':=s.toks) (fun _ _ q=>Heap.get?_push_of_some _ q) (Nat.le_refl _)
  (Zhp (Nat.zero_le _) (beq_eq_false_iff_ne.mpr (Ne.symm (Nat.ne_of_lt I.big))) (Heap.DictOfH.new s.heap)),rfl,h _ (I.hok.fresh (Nat.le_refl _))⟩
theorem ZiW (hP:X.prog=P) (hw:X.w=w) (hu:X.A.units+3<cLine) (hk:PE X k tk) (hv:PE X v tv):PE X (.Dict [some k] [v] pos) (ZiC P w tk tv):=by
 subst hP hw
 intro pins s σ H Q I q
 have hn:=I.hok.fresh (Nat.le_refl s.heap.objs.size)
 have I1:=I.laid (a:=s.heap.objs.size) (o:=DPo X.prog X.w s.heap.objs.size []) (h':=s.heap.push { cls:=.type "dict", data:=.dict #[] }) (t':=s.toks) (fun _ _ q=>Heap.get?_push_of_some _ q) (Nat.le_refl _) (Zhp (Nat.zero_le _) (beq_eq_false_iff_ne.mpr (Ne.symm (Nat.ne_of_lt I.big))) (Heap.DictOfH.new s.heap))
 rw [arm_eval_Dict,zip_pairTrees [some k] [v] X.env pos rfl rfl,dictDisplay_pairs _ (by intro z;cases z) (by show 1<17;decide)]
 refine wpAny_bind (wpAny_standAt (wpAny_bind ?_))
 unfold subDict
 refine wpAny_bind (wpAny_alloc ?_)
 refine wpAny_bind (wpAny_holding ?_)
 rw [if_pos (show (pairTrees [some k] [v] X.env pos).length<=15 from (by show 1<=15;decide))]
 refine wpAny_bind (pairTrees_cons_walk (Yq (hk pins _ σ _ _ I1 (q _ hn)) fun u s1 ⟨x,H1,I1',rx,q1⟩=>Yq (hv pins s1 σ H1 _ I1' q1) fun w2 s2 ⟨y,H2,I2,ry,e,ks,b,vv,ex,ey,eb,q2⟩=>pairTrees_nil_walk ?_))
 subst ex ey
 cases (show u=Value.ref b from rx)
 cases (show w2=Value.ref vv from ry)
 obtain ⟨z,hd,dd⟩:=Zfb I2.hok (.inl e) (fun x hx=>nomatch hx)
 refine wpAny_holding ?_
 rw [List.forIn_cons]
 refine wpAny_bind (wpAny_bind (wpAny_bind (wpAny_dictSet_heap (hsz:=by size_fits) (show (GC (ZH X.prog X.w)).room X.A from Nat.lt_of_succ_lt hu) (Zcx I2.hok eb) dd fun h' dd' hs=>wpAny_pure ?_)))
 dsimp only
 rw [List.forIn_nil]
 refine wpAny_pure (wpAny_pure (wpAny_pure (wpAny_pure ⟨.ref s.heap.objs.size,_,?_,rfl,q2⟩)))
 refine Zaf I2 (by rw [e];exact True.intro) hs (let ⟨q,_,_,hq,_⟩:=dd';⟨q,hq⟩) (Zhp (by show 1<=sizeLine;decide) hd dd')
theorem ZgS (hP:X.prog=P) (hw:X.w=w) (hu:X.A.units+3<cLine) (ho:PE X o td) (hi:PE X i ty) (hs:ZnD i):PE X (.Subscript o i pos) (ZiQ P w td ty):=by
 subst hP hw
 intro pins s σ H Q I h
 refine ZkJ PySem.F.slot_dict_getitem.lookup hs (Yq (ho pins s σ H _ I h) fun u s1 ⟨x,H1,I1,rx,q1⟩=>Yq (hi pins s1 σ H1 _ I1 q1) fun iv s2 ⟨y,H2,I2,ry,a,xs,k,b,v,ex,ea,ks,ey,ek,ev,q2⟩=>?_)
 subst ex ey
 cases (show u=Value.ref a from rx)
 cases (show iv=Value.ref b from ry)
 obtain ⟨z,hd,dd⟩:=Zfb I2.hok ea ks
 have e:=ZbA xs k
 rw [ev] at e
 obtain ⟨p,hp,hp2⟩:=Option.map_eq_some_iff.mp e
 refine ⟨dd.typeIs,wpAny_getItem_heap (Zev hu) (Zcx I2.hok ek) dd hp ?_⟩
 rw [hp2]
 exact ⟨.ref v,H2,I2.tok _,rfl,q2⟩
theorem Zfi (hP:X.prog=P) (hw:X.w=w) (hu:X.A.units+3<cLine) (ho:PE X o td) (he:PE X e ty) (hf:PE X f tx) (m:M2 X o "get" apos e f cpos):PE X (.Call (.Attribute o "get" apos) [e,f] [] cpos) (Zjk P w td ty tx):=by
 subst hP hw
 intro pins s σ H Q I h
 refine wpAny_Call_method m.base m.few m.line PySem.F.plainAttrs_dict PySem.F.slot_dict_get PySem.F.type_dict_get (Yq (ho pins s σ H _ I h) fun u s1 ⟨x,H1,I1,rx,a,xs,ex,ea,ks,q1⟩=>?_)
 subst ex
 cases (show u=Value.ref a from rx)
 obtain ⟨z,hd,dd⟩:=Zfb I1.hok ea ks
 refine ⟨dd.typeIs,fun b q=>?_,?_⟩
 ·cases q
  obtain ⟨ob,_,_,h1,h2,_⟩:=dd
  exact ⟨ob,h1,h2.2.1⟩
 rw [m.trees]
 refine Calls.callWith_builtin rfl (Calls.evalArgs_plain (Calls.spliced_cons (Yq (he pins s1 σ H1 _ I1 q1) fun iv s2 ⟨y,H2,I2,ry,q2⟩=>
  Calls.spliced_cons (Yq (hf pins s2 σ H2 _ I2 q2) fun fv s3 ⟨z,H3,I3,rz,xs',k,b,v,ea',ks',ey,ek,ez,q3⟩=>Calls.spliced_nil ?_))))
 subst ey ez
 cases (show iv=Value.ref b from ry)
 cases (show fv=Value.ref v from rz)
 obtain ⟨z,hd,dd⟩:=Zfb I3.hok ea' ks'
 refine call_meetsIn PySem.F.slot_dict_get dd.typeIs PySem.F.entry_dict_get (PySem.F.args_dict_get_3 _ _ _) (meetsH_dict_get_default (GC (ZH X.prog X.w)) a b hd (.ref v)) ⟨Zev hu,k,_,Zcx I3.hok ek,dd,?_⟩
 refine ⟨_,H3,I3.tok _,?_,q3⟩
 have e:=ZbA xs' k
 show _=Value.ref _
 cases hv:ZeM xs' k with
 | none=>
  rw [hv] at e
  rw [show ((atKey (xs'.map toH) k).map (·.2))=none from e]
  rfl
 | some v'=>
  rw [hv] at e
  rw [show ((atKey (xs'.map toH) k).map (·.2))=some (.ref v') from e]
  rfl
theorem ZjH (hP:X.prog=P) (hw:X.w=w) (hu:X.A.units+3<cLine):ZkX X (ZlZ P w):=by
 subst hP hw
 intro pins s σ H o i v ov iv u Q I ro ri rv ⟨a,xs,k,b,c,eo,ei,ev,ea,ks,ek,z,q⟩
 subst eo ei ev
 cases (show ov=Value.ref a from ro)
 cases (show iv=Value.ref b from ri)
 cases (show u=Value.ref c from rv)
 obtain ⟨_,hd,dd⟩:=Zfb I.hok (.inl ea) ks
 refine wpAny_setItem_heap (hsz:=by rw [List.length_map];lia) (Zev hu) (Zcx I.hok ek) dd fun h' dd' hs=>⟨_,Zaf I (by rw [ea];exact True.intro) hs (let ⟨q,_,_,hq,_⟩:=dd';⟨q,hq⟩) (Zhp ?_ hd ?_),q⟩
 ·have:=Zjn xs k b c;lia
 ·rw [<- Zgm];exact dd'
end
section
variable {X:Cx}{pins:List (Addr×Obj)} {σ:St}{H:Hp}{s:Shared}{d:Addr}{u:HO}{o:Obj}
def Loose (u:HO):Prop:=(∀xs,u ≠ .tup xs)/\(∀x,u ≠ .own x)/\(∀ob v,u ≠ .frz ob v) /\ ∀ps,u ≠ .tbl ps
theorem Inv.frozeU (I:Inv X pins σ H s) (e:H d=some u) (eo:s.heap.get? d=some o) (hu:Loose u):Inv X pins σ (upd H d (.frz o u)) s:=by
 obtain ⟨n1,n2,n3,n4⟩:=hu
 have nd:∀b v,H b=some v->v≠u->b≠d:=fun b v q n z=>n (by rw [z,e] at q;exact (Option.some.inj q).symm)
 have hok:W0 X.prog X.w (upd H d (.frz o u)) s.heap:=fun b v q=>by
  have st:∀{c:Addr}{v:HO},ZV X.prog X.w H s.heap c v->ZV X.prog X.w (upd H d (.frz o u)) s.heap c v:=fun x=>
   x.stay (fun _ _ _ q=>q) (fun c q=>by rw [Zh (nd c _ q (fun z=>n2 _ z.symm))];exact q) fun c xs q=>by rw [Zh (nd c _ q (fun z=>n1 _ z.symm))];exact q
  by_cases hb:b=d
  ·subst hb
   rw [Zc] at q
   cases q
   exact ⟨eo,st (I.hok b _ e)⟩
  ·rw [Zh hb] at q
   exact st (I.hok b v q)
 exact I.step (h':=s.heap) (g':=s.gens) (d':=s.drawn) (t':=s.toks) (ch:=[]) (fun _ z=>nomatch z) (fun b o _ _ _ q _=>q) (fun b o _ _ _ q _=>⟨o.slots,q⟩)
  (fun b o _ _ n=>by rw [Zh (fun z=>by rw [z,e] at n;cases n)];exact n) (fun b o _ q=>⟨o,q⟩) (fun b xs q=>by rw [Zh (nd b _ q (fun z=>n1 _ z.symm))];exact q) (fun b o v q=>by rw [Zh (nd b _ q (fun z=>n3 _ _ z.symm))];exact q)
  (fun b ps q=>⟨#[],by rw [Zh (nd b _ q (fun z=>n4 _ z.symm)),q];simp⟩) (fun m hm=>hm) hok I.bare
end
def Kys (d:Addr) (o:Obj) (u:HO) (ks:List V):It:=
 ⟨fun i H=>H d=some (.frz o u)/\i<ks.length,fun i H v H'=>ks[i]? = some v/\H'=H,fun i H=>H d=some (.frz o u)/\ks.length<=i⟩
def ZkZ (o:Obj) (ks:List V):Prop:=o.ExactDict /\ ∃es ep,o.data = .dict es ep/\es.size=ks.length /\ ∀(i:Nat) (e:DictEntry),es[i]? = some e -> ∃v,ks[i]? = some v/\RelV v e.key
theorem Zja {P:Program}{w:World}{K:PySem.W.Frag}{tg:Expr} (d it:Addr) (o:Obj) (u:HO) (ks:List V) (ents:Array DictEntry) (ep:Nat) (hx:o.ExactDict) (ho:o.data = .dict ents ep) (hz:ents.size=ks.length)
  (hk:∀(i:Nat) (e:DictEntry),ents[i]? = some e -> ∃v,ks[i]? = some v/\RelV v e.key) (hne:d≠it):Turn P w K tg (Kys d o u ks) [it] it (fun i h=>h.IsKeyIter it d i ents.size ep) where
 mem:=by simp
 obj:=fun i h st b hb=>by
  have z:b=it:=by simpa using hb
  subst z
  obtain ⟨ob,h1,h2,h3⟩:=st
  exact ⟨ob,h1,fun v z=>by rw [h3] at z;cases z⟩
 keep:=fun i h h' st k=>st.at fun o e=>k it (by simp) o e
 item:=by
  intro X hP hw hK hc i pins s σ H E I hf st hg
  subst hP hw hK
  obtain ⟨hd,hi⟩:=hg
  obtain ⟨hod,_⟩:=(show ZV X.prog X.w H s.heap d (.frz o u) from I.hok d _ hd)
  obtain ⟨e0,e1,e2,e3,e4,e5⟩:=hf it (by simp)
  refine Zjz st ⟨o,hod,hx,ho⟩ (fun e he h' hit' hs'=>?_) (fun z=>absurd hi (by lia))
  obtain ⟨v,hv,rv⟩:=hk i e he
  refine ⟨_,rfl,?_⟩
  obtain ⟨ob,g1,g2,g3⟩:=id hit'
  refine Zfs (s:={ s with heap:=h' }) g1 g2 g3 (by decide) ?_
  have kk:∀b o,b≠it->s.heap.get? b=some o->h'.get? b=some o:=fun b o n q=>(hs'.2 b n).trans q
  exact ⟨v,H,I.turned (t':=s.toks) kk e0 e1 e3 e4 e5,rv,⟨hv,rfl⟩,hit',fun b hb=>by
   have z:b=it:=by simpa using hb
   subst z;exact e0⟩
 done:=by
  intro X hP hw hK hc i pins s σ H E I hf st hg
  subst hP hw hK
  obtain ⟨hd,hi⟩:=hg
  obtain ⟨hod,_⟩:=(show ZV X.prog X.w H s.heap d (.frz o u) from I.hok d _ hd)
  obtain ⟨f0,f1,f2,f3,f4,f5⟩:=hf it (by simp)
  exact Zjz st ⟨o,hod,hx,ho⟩ (fun e z=>by rw [Array.getElem?_eq_none (by lia)] at z;cases z) fun _=>⟨I.ok.hd hc,fun h' eb=>⟨rfl,I.turned (t':=s.toks) eb f0 f1 f3 f4 f5⟩⟩
 self:=fun _ _ _ _ _ st h=>wpAny_pyIter_keyiter st h
def ZlP (P:Program) (w:World) (H:Hp) (d:Addr) (u:HO) (ks:List V):Prop:=H d=some u/\((∃kvs,u = .dK kvs/\ks=kvs.map fun p=>kV p.1) ∨ ∃xs,u=DPo P w d xs/\ks=xs.map fun x=>V.ref x.2.1)
def Zjb (P:Program) (w:World) (td:TE):TI:=fun σ H R=>td σ H fun x H1=>∃d u ks,x = .ref d/\ZlP P w H1 d u ks /\ ∀o,R (Kys d o u ks) (upd H1 d (.frz o u))
theorem Zn2 {P:Program}{w:World}{k:Key}{u:Value} (h:(ZH P w).is k u=true):RelV (kV k) u:=by
 rcases Yp h with ⟨i,t,rfl,e⟩ | ⟨x,t,rfl,e⟩
 ·exact ⟨t,e⟩
 ·exact ⟨t,e⟩
theorem Zih {P:Program}{w:World}:∀{es:List DictEntry}{vs:List (Key×Value)}{kvs:List (Key×V)},Pairs (ZH P w) es vs->KV kvs vs->es.length=kvs.length /\ ∀(i:Nat) (e:DictEntry),es[i]? = some e -> ∃v,(kvs.map fun p=>kV p.1)[i]? = some v/\RelV v e.key:=by
 intro es vs kvs h
 induction h generalizing kvs with
 | nil=>intro k;cases k;exact ⟨rfl,fun i e he=>by simp at he⟩
 | @cons e kv es vs h1 h2 h3 ih=>
  intro k
  cases k with
  | @cons p _ kvs' _ r t=>
   obtain ⟨l,q⟩:=ih t
   refine ⟨congrArg (· + 1) l,fun i e' he=>?_⟩
   cases i with
   | zero=>
    simp at he
    subst he
    refine ⟨kV p.1,by simp,?_⟩
    rw [<- r.1] at h1
    exact Zn2 h1
   | succ i=>exact q i e' (by simpa using he)
theorem ZkI {P:Program}{w:World}{H:Hp}{h:Heap}{d:Addr}{u:HO}{ks:List V} (ok:W0 P w H h) (e:ZlP P w H d u ks):∃o,h.get? d=some o/\ZkZ o ks/\(d==sysModules)=false/\Loose u:=by
 obtain ⟨e,⟨kvs,rfl,rfl⟩ | ⟨xs,rfl,rfl⟩⟩:=e
 ·obtain ⟨z,hd,vs,rel,o,es,ep,h1,h2,h3,h4,h5,h6⟩:=Zg7 ok e
  obtain ⟨l,k⟩:=Zih h5 rel
  refine ⟨o,h1,⟨h2,es,ep,h3,by rw [List.length_map,<- l];simp,fun i e he=>k i e (by rw [Array.getElem?_toList];exact he)⟩,hd,(fun _ z=>nomatch z),(fun _ z=>nomatch z),(fun _ _ z=>nomatch z),fun _ z=>nomatch z⟩
 ·obtain ⟨⟨z,hd,o,es,ep,h1,h2,h3,h4,h5⟩,_⟩:=(show ZV P w H h d (DPo P w d xs) from ok d _ e)
  have l:es.toList.length=xs.length:=by rw [h4];simp
  refine ⟨o,h1,⟨h2,es,ep,h3,by rw [List.length_map,<- l];simp,fun i e he=>?_⟩,hd,(fun _ z=>nomatch z),(fun _ z=>nomatch z),(fun _ _ z=>nomatch z),fun _ z=>nomatch z⟩
  rw [<- Array.getElem?_toList,h4,List.getElem?_map,List.getElem?_map] at he
  obtain ⟨y,hy,rfl⟩:=Option.map_eq_some_iff.mp he
  obtain ⟨x,hx,rfl⟩:=Option.map_eq_some_iff.mp hy
  exact ⟨.ref x.2.1,by rw [List.getElem?_map,hx];rfl,rfl⟩
section
variable {X:Cx}{P:Program}{w:World}
theorem Zeh {l tg:Expr}{td:TE} (hP:X.prog=P) (hw:X.w=w) (hl:PE X l td):PI X tg l (Zjb P w td):=by
 subst hP hw
 intro pins s σ H R I h
 refine Yq (hl pins s σ H _ I h) fun v s1 ⟨x,H1,I1,r1,d,u,ks,ex,hd,q1⟩=>?_
 subst ex
 cases (show v=Value.ref d from r1)
 obtain ⟨o,h1,⟨hx,es,ep,ho,hz,hk⟩,hs,hu⟩:=ZkI I1.hok hd
 have I2:Inv X pins σ (upd H1 d (.frz o u)) s1:=I1.frozeU hd.1 h1 hu
 have dl:d<s1.heap.objs.size:=Heap.lt_size h1
 refine ZmF hs ⟨o,h1,hx,ho⟩ ?_
 have I3:Inv X pins σ (upd H1 d (.frz o u)) { s1 with heap:=s1.heap.push { cls:=.type "dict_keyiterator", data:=.fields #[.ref d,.int 0 0,.int es.size 0,.int ep 0] } }:=I2.kept (t':=s1.toks) fun b o q=>Heap.get?_push_of_some _ q
 refine ⟨_,[s1.heap.objs.size],_,_,_,rfl,I3,Zja d _ o u ks es ep hx ho hz hk (Nat.ne_of_lt dl),⟨_,Heap.get?_push_size _ rfl,rfl,rfl⟩,fun b hb=>?_,q1 o⟩
 have z':b=s1.heap.objs.size:=by simpa using hb
 subst z'
 exact I2.fpOk (Nat.le_refl _) (I2.hok.fresh (Nat.le_refl _))
end
theorem Zfh {d:Addr}{o:Obj}{u:HO}{ks:List V}{g:TG}{tb:TS}{D:Ends} {σ:St}{H:Hp} (Pv:Nat->St->Hp->Prop) (h0:Pv 0 σ H) (hl:∀i σ H,i<=ks.length->Pv i σ H->H d=some (.frz o u))
  (hs:∀i k σ H,ks[i]? = some k->Pv i σ H->g k σ H fun σ2 H2=>tb { D with nx:=Pv (i+1),ct:=Pv (i+1),bk:=D.nx } σ2 H2) (hd:∀ σ H,Pv ks.length σ H->D.nx σ H):
  ∃W:Nat->Nat->St->Hp->Prop,(∃m,W 0 m σ H) /\ ∀i m σ H,W i m σ H ->
   ((Kys d o u ks).stop i H/\D.nx σ H)∨((Kys d o u ks).go i H /\ ∃N:St->Hp->Prop,(∀ σ' H',N σ' H' -> ∃m',m'<m/\W (i+1) m' σ' H') /\ ∀x H',(Kys d o u ks).yld i H x H'->g x σ H' fun σ2 H2=>tb { D with nx:=N,ct:=N,bk:=D.nx } σ2 H2):=by
 refine ⟨fun i m σ H=>m=ks.length-i/\i<=ks.length/\Pv i σ H,⟨ks.length,by simp,Nat.zero_le _,h0⟩,?_⟩
 rintro i m σ H ⟨rfl,hi,p⟩
 have q:=hl i σ H hi p
 by_cases hlt:i<ks.length
 ·refine .inr ⟨⟨q,hlt⟩,Pv (i+1),fun σ' H' p'=>⟨ks.length-(i+1),by lia,rfl,hlt,p'⟩,fun x H' y=>?_⟩
  obtain ⟨e1,e2⟩:=y
  subst e2
  exact hs i x σ _ e1 p
 ·have e:i=ks.length:=by lia
  subst e
  exact .inl ⟨⟨q,Nat.le_refl _⟩,hd σ H p⟩
theorem ZkW {d:Addr}{o:Obj}{u:HO}{ks:List V} {σ:St}{g:TG}{tc:TT}{te:TE}{H:Hp}{Q:VK} (hn:ks.length<=sizeLine) (Pv:Nat->List V->Hp->Prop) (h0:Pv 0 [] H) (hlen:∀i ys H,Pv i ys H->ys.length<=i) (hl:∀i ys H,Pv i ys H->H d=some (.frz o u))
  (hs:∀i c ys H,ks[i]? = some c->Pv i ys H->g c σ H fun σ2 H2=>tc σ2 H2 fun b H3=>if b=true then te σ2 H3 fun y H4=>Pv (i+1) (ys ++ [y]) H4 else Pv (i+1) ys H3)
  (hd:∀ys H,Pv ks.length ys H -> ∀D,H D=none->Q (.ref D) (upd H D (.lst ys))):LcW (Kys d o u ks) σ g tc te H Q:=
 ZcQ hn Pv h0 hlen (fun i ys H hi p=>⟨hl i ys H p,hi⟩) (fun ys H p=>⟨hl _ ys H p,Nat.le_refl _⟩) (fun i ys H hi p x H' y=>by
  obtain ⟨e,ex⟩:=y
  subst ex
  exact hs i x ys _ e p) hd
theorem ZaB {A:Around}{k:Nat} (hr:W4 k A):A.units+3<cLine:=Nat.lt_of_le_of_lt (Nat.add_le_add_left (by decide:3<=64) _) hr.units
end L2
namespace Qk32
open PySem L2 PyProof.Rows
def top (i:Nat):Stmt:=PySem.Challenge.pw_bendfronts_k32_settings_by_bandings.main.body.getD i (.Pass ⟨0,0,0,0⟩)
section
variable {P:Program}{w:World}{K:PySem.W.Frag}{mg:Str->Option Value}{base:Heap}
def ZaC:Sp:=fun vs H Q _=>∃(b:Addr) (m:Int),vs = [.ref b,.int m]/\Bag H b/\1<=m/\m<1073741824 /\ ∀(d:Int) (H':Hp),0<=d->d<m->Bag H' b->YC b H H'->Q (.int d) H'
abbrev UR:Stmt:=top 35
theorem ZaQ:Zz ["_law_bag_here", "_law_many", "_law_digit"] ["_law_bag_here", "_law_many"] (Zj UR):={}
theorem Zky {f:Addr}{fd:FuncData} (F:YE K "_law_take" "_law_take" UR f fd):Yj P w K mg base Wy 1 f fd ["_law_bag_here", "_law_many"] ZaC:=by
 refine F.ok ZaQ (fun vs H Q E h=>?_) (fun cdv A outer s H vs Q E hr h=>?_)
 ·obtain ⟨b,m,rfl,_⟩:=h
  rfl
 ·obtain ⟨b,m,rfl,⟨g,r,hg,hb⟩,h1,h2,k⟩:=h
  refine ⟨_,(Ze (ZZ (Zr Zbe (Zv (Zs (K:=K) rfl) (pv 0) Zd (fun _ _=>rfl)) Zd (Zp _)) (Ze (Zn (i:=2) ZaQ.nd rfl (Or.inl rfl) (Zk WQ (Zv (Zs (K:=K) rfl) (pv 0) Zd (fun _ _=>rfl)) (pv 1)))
   (Ze (Z8 (Zk Zbi (Zv (Zs (K:=K) rfl) (pv 0) Zd (fun _ _=>rfl)) (pv 1)) (Yl (pv 0) Zd set_list))
   (Zg (Zy (pv 2))))) ZO)
   (Ze (Z8 (Zk WQ (Zk Zu (Zk JO (Zv (Zs (K:=K) rfl) (pv 0) Zd (fun _ _=>rfl)) Zd) Zd) Zd) (Yl (pv 0) Zd set_list))
   (Zg (Zy (Zk WQ (Zk WQ (Zk Zgv (Zk Zbi (Zv (Zs (K:=K) rfl) (pv 0) Zd (fun _ _=>rfl)) Zd) Zd) Zd) (pv 1)))))),?_⟩
  refine ⟨_,rfl,b,_,_,_,rfl,rfl,Zw.of hb,Zo (j:=0) rfl,_,_,rfl,rfl,_,rfl,?_⟩
  refine ZX (fun hp=>?_) (fun hp=>?_)
  ·have hp':0<g:=of_decide_eq_true hp
   refine ⟨_,rfl,b,_,_,_,rfl,rfl,Zw.of hb,Zo (j:=0) rfl,_,rfl,_,_,rfl,rfl,(by omega:0<m),?_⟩
   refine ⟨_,rfl,b,_,_,_,rfl,rfl,Zw.of hb,Zo (j:=0) rfl,_,rfl,_,_,rfl,rfl,⟨by omega,by omega⟩,_,rfl,b,_,_,0,rfl,rfl,hb,rfl,?_⟩
   refine ⟨_,rfl,k _ _ (Int.emod_nonneg _ (by omega)) (Int.emod_lt_of_pos _ (by omega)) ⟨g / m,r,Int.ediv_nonneg (by omega) (by omega),Zc⟩ YC.upd⟩
  ·refine ⟨_,rfl,b,_,_,_,rfl,rfl,Zw.of hb,Zo (j:=1) rfl,_,_,rfl,rfl,.inr ⟨by decide,by decide⟩,_,_,rfl,rfl,_,_,rfl,rfl,(show (0:Int)<2147483647 by decide),_,rfl,b,_,_,1,rfl,rfl,hb,rfl,?_⟩
   have e1:0<=(r*48271+11) % 2147483647:=Int.emod_nonneg _ (by decide)
   have e2:(r*48271+11) % 2147483647<2147483647:=Int.emod_lt_of_pos _ (by decide)
   refine ⟨_,rfl,b,_,_,_,rfl,rfl,Zw.of Zc,Zo (j:=1) rfl,_,_,rfl,rfl,⟨by decide,by decide⟩,_,_,rfl,rfl,⟨by decide,by decide,by omega⟩,_,_,rfl,rfl,(show (0:Int)<2147483629 by decide),_,rfl,_,_,rfl,rfl,(by omega:0<m),?_⟩
   exact k _ _ (Int.emod_nonneg _ (by omega)) (Int.emod_lt_of_pos _ (by omega)) ⟨g,_,hg,Zc⟩ YC.upd
def Zjh (K:PySem.W.Frag):Sp:=fun vs H Q _=>∃(a:Addr) (i:Int) (ns:List Int),vs = [.ref a,.int i]/\Zw K H a (ns.map V.int)/\0<=i/\i<1000 /\ ∀(l:Addr) (H':Hp),H l=none->Zi H H'->Bag H' l->Q (.ref l) H'
abbrev ZaF:Stmt:=top 34
theorem JD:Zz ["_law_script", "_law_at", "_law_cell", "_law_great", "_law_primes"] ["_law_script", "_law_at"] (Zj ZaF):={}
theorem Zmo {f:Addr}{fd:FuncData} (F:YE K "_law_bag" "_law_bag" ZaF f fd) (Yt:mg "len" = none) (Zar:mg "abs" = none):Yj P w K mg base Wy 1 f fd ["_law_script", "_law_at"] (Zjh K):=by
 refine F.ok JD (fun vs H Q E h=>?_) (fun cdv A outer s H vs Q E hr h=>?_)
 ·obtain ⟨a,i,ns,rfl,_⟩:=h
  rfl
 ·obtain ⟨a,i,ns,rfl,hS,h0,h1,k⟩:=h
  refine ⟨_,(Ze (Zn (i:=2) JD.nd rfl (Or.inl rfl) Zd)
   (Ze (ZZ (Zr WS (pv 1) (ZE (YH (K:=K) rfl) (by rfl) Yt PySem.boot_len (Za (pv 0) Zb)) (Zp _)) (Zg (Zn (i:=2) JD.nd rfl (Or.inl rfl) (Zv (Zs (K:=K) rfl) (pv 0) (pv 1) (fun _ _=>rfl)))) ZO)
   (Ze (Zn (i:=3) JD.nd rfl (Or.inl rfl) Zd)
   (Ze (ZZ (Zr Ziz (ZE Zbo (by rfl) Zar boot_abs (Za (pv 2) Zb)) (Zk Zgv Zd Zd) (Zp _)) (Zg (Zn (i:=3) JD.nd rfl (Or.inl rfl) (ZE Zbo (by rfl) Zar boot_abs (Za (pv 2) Zb)))) ZO)
   (Ze (Zn (i:=4) JD.nd rfl (Or.inl rfl) (ZL (Za Zd (Za Zd (Za Zd (Za Zd (Za Zd (Za Zd (Za Zd (Za Zd Zb))))))))))
   (Zg (Zy (ZL (Za (pv 3) (Za (Zk WQ (Zk Zgv (Zk Zu (Zk Zu (Zk WQ (pv 2) Zd) (Zk JO Zd (pv 1))) Zd) Zd) (Zv (Zs (K:=K) rfl) (pv 4) (Zk WQ (pv 1) Zd) (fun _ _=>rfl))) Zb)))))))))),?_⟩
  refine ⟨_,rfl,_,rfl,a,_,rfl,.inl hS,_,_,rfl,rfl,_,rfl,?_⟩
  have last:∀(c:Int),0<=c % 2147483647/\c % 2147483647<2147483647:=fun c=>⟨Int.emod_nonneg _ (by decide),Int.emod_lt_of_pos _ (by decide)⟩
  have e3:0<=i % 8:=Int.emod_nonneg _ (by decide)
  have e4:i % 8<8:=Int.emod_lt_of_pos _ (by decide)
  obtain ⟨j,hj⟩:∃j:Nat,i % 8=(j:Int):=⟨(i % 8).toNat,by omega⟩
  have hj8:j<8:=by omega
  obtain ⟨q,hq,hq0⟩:∃q:Int,([V.int 2147483629,.int 2147483587,.int 2147483579,.int 2147483563,.int 2147483549,.int 2147483543,.int 2147483497,.int 2147483489]:List V)[j]? = some (.int q)/\0<q:=by
   match j,hj8 with
   | 0,_=>exact ⟨_,rfl,by decide⟩
   | 1,_=>exact ⟨_,rfl,by decide⟩
   | 2,_=>exact ⟨_,rfl,by decide⟩
   | 3,_=>exact ⟨_,rfl,by decide⟩
   | 4,_=>exact ⟨_,rfl,by decide⟩
   | 5,_=>exact ⟨_,rfl,by decide⟩
   | 6,_=>exact ⟨_,rfl,by decide⟩
   | 7,_=>exact ⟨_,rfl,by decide⟩
  have two:∀(c:Int) (B:Prop),B->(c=0 ∨ ∃j:Nat,i=(j:Int)/\ns[j]? = some c)->B:=fun _ _ b _=>b
  refine ZX (fun hp=>?_) (fun hp=>?_)
  ·have hp':i<((ns.map V.int).length:Int):=of_decide_eq_true hp
   rw [List.length_map] at hp'
   obtain ⟨n,hn⟩:∃n:Nat,i=(n:Int):=⟨i.toNat,by omega⟩
   have hnl:n<ns.length:=by omega
   refine ⟨_,rfl,_,rfl,a,_,_,_,rfl,rfl,hS,(by rw [hn];exact Zo (v:=V.int ns[n]) (by simp [hnl])),?_⟩
   refine ⟨_,rfl,_,rfl,_,_,rfl,rfl,⟨by decide,by decide,by decide⟩,_,_,rfl,rfl,_,rfl,?_⟩
   refine ZX (fun hp=>?_) (fun hp=>?_)
   ·refine ⟨_,rfl,_,rfl,?_⟩
    have l0:=last ns[n]
    refine ⟨(by show 8<=sizeLine;decide),fun pl hpl=>?_⟩
    refine ⟨_,rfl,_,rfl,_,_,rfl,rfl,(show (0:Int)<2147483647 by decide),_,rfl,_,_,rfl,rfl,.inl ⟨by decide,by decide⟩,_,_,rfl,rfl,_,_,rfl,rfl,_,_,rfl,rfl,⟨by decide,by decide,by omega⟩,_,rfl,_,rfl,_,_,rfl,rfl,(show (0:Int)<8 by decide),pl,_,_,_,rfl,rfl,Zw.of Zc,(by rw [hj];exact Zo hq),_,_,rfl,rfl,hq0,(by show 2<=sizeLine;decide),fun l hl=>?_⟩
    have hl0:H l=none:=(Zi.laid hpl).free hl
    exact k l _ hl0 ((Zi.laid hpl).step hl) ⟨_,_,(by split<;>omega),Zc⟩
   ·have l0:=last ns[n]
    refine ⟨(by show 8<=sizeLine;decide),fun pl hpl=>?_⟩
    refine ⟨_,rfl,_,rfl,_,_,rfl,rfl,(show (0:Int)<2147483647 by decide),_,rfl,_,_,rfl,rfl,.inl ⟨by decide,by decide⟩,_,_,rfl,rfl,_,_,rfl,rfl,_,_,rfl,rfl,⟨by decide,by decide,by omega⟩,_,rfl,_,rfl,_,_,rfl,rfl,(show (0:Int)<8 by decide),pl,_,_,_,rfl,rfl,Zw.of Zc,(by rw [hj];exact Zo hq),_,_,rfl,rfl,hq0,(by show 2<=sizeLine;decide),fun l hl=>?_⟩
    have hl0:H l=none:=(Zi.laid hpl).free hl
    exact k l _ hl0 ((Zi.laid hpl).step hl) ⟨0,_,Int.le_refl _,Zc⟩
  ·refine ⟨_,rfl,_,rfl,_,_,rfl,rfl,⟨by decide,by decide,by decide⟩,_,_,rfl,rfl,_,rfl,?_⟩
   refine ZX (fun hp=>?_) (fun hp=>?_)
   ·exact absurd hp (by decide)
   ·have l0:=last 0
    refine ⟨(by show 8<=sizeLine;decide),fun pl hpl=>?_⟩
    refine ⟨_,rfl,_,rfl,_,_,rfl,rfl,(show (0:Int)<2147483647 by decide),_,rfl,_,_,rfl,rfl,.inl ⟨by decide,by decide⟩,_,_,rfl,rfl,_,_,rfl,rfl,_,_,rfl,rfl,⟨by decide,by decide,by omega⟩,_,rfl,_,rfl,_,_,rfl,rfl,(show (0:Int)<8 by decide),pl,_,_,_,rfl,rfl,Zw.of Zc,(by rw [hj];exact Zo hq),_,_,rfl,rfl,hq0,(by show 2<=sizeLine;decide),fun l hl=>?_⟩
    have hl0:H l=none:=(Zi.laid hpl).free hl
    exact k l _ hl0 ((Zi.laid hpl).step hl) ⟨0,_,Int.le_refl _,Zc⟩
def nX (ls:List (Str×Int)):Nat:=ls.countP fun p=>decide (p.1=("cross" : Str))
theorem WU (a b:List (Str×Int)):nX (a++b)=nX a+nX b:=List.countP_append
theorem ZkP (a:List (Str×Int)) (k:Int):nX (a ++ [(("born" : Str),k)])=nX a:=by rw [WU];rfl
theorem Zjl (a:List (Str×Int)) (k:Int):nX (a ++ [(("end" : Str),k)])=nX a:=by rw [WU];rfl
theorem Uz (a:List (Str×Int)) (k:Int):nX (a ++ [(("cross" : Str),k)])=nX a+1:=by rw [WU];rfl
def Zgl (lo:Int):Sp:=fun vs H Q _=>∃(b:Addr) (m n:Int),vs = [.ref b,.int m,.int n]/\Bag H b/\1<=m/\m<1000/\0<=n/\n<1000 /\ ∀(l:Addr) (H':Hp) (ls:List (Str×Int)),H l=none->Bag H' b->YC b H H'->Drw H' l ls->(nX ls:Int)<=n->Q (.ref l) H'
def ZcR:Sp:=fun vs H Q _=>∃(b:Addr) (n:Int),vs = [.ref b,.int n]/\Bag H b/\0<=n/\n<20 /\ ∀(l:Addr) (H':Hp) (ls:List (Str×Int)),H l=none->Bag H' b->YC b H H'->Drw H' l ls->(nX ls:Int)<=n->Q (.ref l) H'
abbrev WL:Stmt:=top 36
theorem ZN:Zz ["_law_bag_here", "_law_births", "_law_most", "_law_letters", "_law_many", "_law_left", "_law_crosses", "_law_turn", "_law_way"] ["_law_bag_here", "_law_births", "_law_most"] (Zj WL):={}
theorem Zlr {f:Addr}{fd:FuncData} (F:YE K "_law_drawing" "_law_drawing" WL f fd) (Zt:Yr P w K mg base 1 "_law_take" ["_law_bag_here", "_law_many"] ZaC) (Z7:mg "range" = none):
  Yj P w K mg base Wy 2 f fd ["_law_bag_here", "_law_births", "_law_most"] (Zgl 0):=by
 refine F.ok ZN (fun vs H Q E h=>?_) (fun cdv A outer s H vs Q E hr h=>?_)
 ·obtain ⟨b,m,n,rfl,_⟩:=h
  rfl
 ·obtain ⟨b,m,n,rfl,hbag,m1,m2,n1,n2,k⟩:=h
  refine ⟨_,(Ze (Zn (i:=3) ZN.nd rfl (Or.inl rfl) (ZL Zb))
   (Ze (Zn (i:=4) ZN.nd rfl (Or.inl rfl) Zd)
   (Ze (Zn (i:=5) ZN.nd rfl (Or.inl rfl) (Zk Zu Zd (Zq Zt hr (Za (pv 0) (Za (pv 1) Zb)))))
   (Ze (Zn (i:=6) ZN.nd rfl (Or.inl rfl) (Zq Zt hr (Za (pv 0) (Za (Zk Zu (pv 2) Zd) Zb))))
   (Ze (Ym PassesOwn.never rfl (YX (by rfl) Z7 (Za Zd Zb)) (Zl (i:=7) ZN.nd rfl (Or.inl rfl)) (Ze (Zn (i:=8) ZN.nd rfl (Or.inl rfl) (Zq Zt hr (Za (pv 0) (Za Zd Zb))))
   (Zg (ZZ (PW.pt (Gj (Zr Zbe (pv 5) Zd (Zp _)) (Gj (Zr WS (pv 4) Zd (Zp _)) (GX (PW.pt (Zhz (Zr Yc (pv 4) Zd (Zp _)) (Zf8 (Zr Yc (pv 8) Zd (Zp _))))))))) (Ze (Yb (Yg (K:=K) rfl (YN PySem.F.plainAttrs_list PySem.F.slot_list_append PySem.F.type_list_append ZW (pv 3) (Za (ZA (Za ZG (Za (Zq Zt hr (Za (pv 0) (Za (Zk Zu (pv 4) Zd) Zb))) Zb))) Zb))))
   (Ze (Zn (i:=4) ZN.nd rfl (Or.inl rfl) (Zk Zu (pv 4) Zd))
   (Zg (Zn (i:=5) ZN.nd rfl (Or.inl rfl) (Zk YO (pv 5) Zd))))) (Zg (ZZ (PW.pt (Gj (Zr Zbe (pv 4) Zd (Zp _)) (GX (Zr Yc (pv 8) Zd (Zp _))))) (Ze (Yb (Yg (K:=K) rfl (YN PySem.F.plainAttrs_list PySem.F.slot_list_append PySem.F.type_list_append ZW (pv 3) (Za (ZA (Za ZG (Za (Zq Zt hr (Za (pv 0) (Za (Zk YO (pv 4) Zd) Zb))) Zb))) Zb))))
   (Zg (Zn (i:=4) ZN.nd rfl (Or.inl rfl) (Zk YO (pv 4) Zd)))) (Zg (ZZ (PW.pt (Gj (Zr Zbe (pv 4) Zd (Zp _)) (GX (Zr Zbe (pv 6) Zd (Zp _))))) (Ze (Yb (Yg (K:=K) rfl (YN PySem.F.plainAttrs_list PySem.F.slot_list_append PySem.F.type_list_append ZW (pv 3) (Za (ZA (Za ZG (Za (Zq Zt hr (Za (pv 0) (Za (Zk YO (pv 4) Zd) Zb))) Zb))) Zb))))
   (Zg (Zn (i:=6) ZN.nd rfl (Or.inl rfl) (Zk YO (pv 6) Zd)))) ZO))))))))
   (Ze (Za4 PassesOwn.never (Zr Zbe (pv 4) Zd (Zp _)) (Ze (Yb (Yg (K:=K) rfl (YN PySem.F.plainAttrs_list PySem.F.slot_list_append PySem.F.type_list_append ZW (pv 3) (Za (ZA (Za ZG (Za (Zq Zt hr (Za (pv 0) (Za (Zk YO (pv 4) Zd) Zb))) Zb))) Zb))))
   (Zg (Zn (i:=4) ZN.nd rfl (Or.inl rfl) (Zk YO (pv 4) Zd)))))
   (Zg (Zy (pv 3))))))))),?_⟩
  refine ⟨(by show 0<=sizeLine;decide),fun l hl=>?_⟩
  obtain ⟨g0,r0,hg0,hb0⟩:=id hbag
  have hlb:l≠b:=(Zf hb0 hl).symm
  have bag1:Bag (upd H l (.lst [])) b:=⟨g0,r0,hg0,by rw [Zh (Ne.symm hlb)];exact hb0⟩
  refine ⟨_,rfl,_,rfl,b,m,rfl,bag1,m1,by lia,fun d1 H1 _ _ bg1 f1=>?_⟩
  refine ⟨_,_,rfl,rfl,?_⟩
  refine ⟨_,rfl,_,rfl,_,_,rfl,rfl,b,_,rfl,bg1,by lia,by lia,fun d2 H2 d20 d21 bg2 f2=>?_⟩
  have hl2:H2 l=some (.lst []):=f2 l _ (f1 l _ Zc hlb) hlb
  have fr2:YC b H H2:=fun c o e nb=>f2 c o (f1 c o (by rw [Zh (Zf e hl)];exact e) nb) nb
  refine ⟨30,rfl,by decide,by decide,JS (n:=30) (fun i σ H'=>∃(xs:List V) (ls:List (Str×Int)) (c:Nat) (lf cr:Int) (tv wv:Option V),σ = [some (.ref b),some (.int m),some (.int n),some (.ref l),some (.int (2*(c:Int))),some (.int lf),some (.int cr),tv,wv]/\c<=4/\Bag H' b/\YC b H H'/\H' l=some (.lst xs)/\ZC H' xs ls/\Wk ls (2*(c:Int))/\ls.length<=i/\(nX ls:Int)+cr<=n/\0<=cr)
   ⟨[],[],0,_,_,none,none,rfl,by decide,bg2,fr2,hl2,.nil,Wk.nil0,Nat.le_refl _,(by show ((0:Nat):Int)+d2<=n;lia),d20⟩ ?_ ?_⟩
  ·rintro i σ H3 hi ⟨xs,ls,c,lf,cr,tv,wv,rfl,hc,bg3,fr3,hl3,hL,hW,hlen,hx,hx0⟩
   have hxl:xs.length<sizeLine:=by
    rw [hL.len]
    exact Zx (by lia)
   refine ⟨_,rfl,b,8,rfl,bg3,by decide,by decide,fun wy H4 _ _ bg4 f4=>?_⟩
   have hl4:H4 l=some (.lst xs):=f4 l _ hl3 hlb
   have fr4:YC b H H4:=fr3.trans f4
   have hL4:ZC H4 xs ls:=hL.frm f4 bg3
   dsimp only [Ju]
   refine ZgD (ZeW (β:=decide (0<lf)) (fun Q q=>⟨_,rfl,_,_,rfl,rfl,_,rfl,q⟩) fun _=>ZeW (β:=decide (2*(c:Int)<7)) (fun Q q=>⟨_,rfl,_,_,rfl,rfl,_,rfl,q⟩) fun _=>ZnT (fun Q q=>⟨_,rfl,rfl,_,rfl,q⟩) fun _=>(fun Q q=>⟨_,rfl,rfl,_,rfl,q⟩)) (fun hp=>?_) (fun _=>?_)
   ·
    have hp1:2*(c:Int)<7:=by
     simp only [Bool.and_eq_true,decide_eq_true_eq] at hp
     exact hp.2.1
    refine ⟨_,rfl,.inl ⟨rfl,_,Zw.of hl4⟩,_,rfl,_,rfl,_,_,rfl,rfl,b,_,rfl,bg4,by lia,by lia,fun d H5 hd0 hd1 bg5 f5=>⟨(by show 2<=sizeLine;decide),fun t ht=>?_⟩⟩
    obtain ⟨a1,a2,a3,a4,a5⟩:=Wb "born" d fr4 bg4 hl4 hL4 hlb hl f5 bg5 ht
    refine ⟨l,_,_,rfl,rfl,a1,hxl,_,rfl,_,_,rfl,rfl,_,rfl,_,_,rfl,rfl,?_⟩
    refine ⟨xs ++ [.ref t],ls ++ [((("born" : Str),d):Str×Int)],c+1,lf-1,cr,some (.int (0+(i:Int))),some (.int wy),?_,by lia,a2,a3,a4,a5,?_,by rw [List.length_append,List.length_singleton];lia,by rw [ZkP];exact hx,hx0⟩
    ·have e:2*((c+1:Nat):Int)=2*(c:Int)+2:=by lia
     rw [e]
     rfl
    ·have e:2*((c+1:Nat):Int)=2*(c:Int)+2:=by lia
     rw [e]
     exact Wk.born hW hd0 (by lia)
   ·refine ZgD (ZeW (β:=decide (2<2*(c:Int))) (fun Q q=>⟨_,rfl,_,_,rfl,rfl,_,rfl,q⟩) fun _=>(fun Q q=>⟨_,rfl,rfl,_,rfl,q⟩)) (fun hp=>?_) (fun _=>?_)
    ·
     have hp1:2<2*(c:Int):=by
      simp only [Bool.and_eq_true,decide_eq_true_eq] at hp
      exact hp.1
     refine ⟨_,rfl,.inl ⟨rfl,_,Zw.of hl4⟩,_,rfl,_,rfl,_,_,rfl,rfl,b,_,rfl,bg4,by lia,by lia,fun d H5 hd0 hd1 bg5 f5=>⟨(by show 2<=sizeLine;decide),fun t ht=>?_⟩⟩
     obtain ⟨a1,a2,a3,a4,a5⟩:=Wb "end" d fr4 bg4 hl4 hL4 hlb hl f5 bg5 ht
     refine ⟨l,_,_,rfl,rfl,a1,hxl,_,rfl,_,_,rfl,rfl,?_⟩
     have e:2*((c-1:Nat):Int)=2*(c:Int)-2:=by lia
     refine ⟨xs ++ [.ref t],ls ++ [((("end" : Str),d):Str×Int)],c-1,lf,cr,some (.int (0+(i:Int))),some (.int wy),?_,by lia,a2,a3,a4,a5,?_,by rw [List.length_append,List.length_singleton];lia,by rw [Zjl];exact hx,hx0⟩
     ·rw [e]
      rfl
     ·rw [e]
      exact Wk.fin hW hd0 (by lia)
    ·refine ZgD (ZeW (β:=decide (1<2*(c:Int))) (fun Q q=>⟨_,rfl,_,_,rfl,rfl,_,rfl,q⟩) fun _=>(fun Q q=>⟨_,rfl,_,_,rfl,rfl,_,rfl,q⟩)) (fun hp=>?_) (fun _=>?_)
     ·
      have hp1:1<2*(c:Int):=by
       simp only [Bool.and_eq_true,decide_eq_true_eq] at hp
       exact hp.1
      have hcr:0<cr:=by
       simp only [Bool.and_eq_true,decide_eq_true_eq] at hp
       exact hp.2
      refine ⟨_,rfl,.inl ⟨rfl,_,Zw.of hl4⟩,_,rfl,_,rfl,_,_,rfl,rfl,b,_,rfl,bg4,by lia,by lia,fun d H5 hd0 hd1 bg5 f5=>⟨(by show 2<=sizeLine;decide),fun t ht=>?_⟩⟩
      obtain ⟨a1,a2,a3,a4,a5⟩:=Wb "cross" d fr4 bg4 hl4 hL4 hlb hl f5 bg5 ht
      refine ⟨l,_,_,rfl,rfl,a1,hxl,_,rfl,_,_,rfl,rfl,?_⟩
      exact ⟨xs ++ [.ref t],ls ++ [((("cross" : Str),d):Str×Int)],c,_,_,_,_,rfl,hc,a2,a3,a4,a5,Wk.cross hW hd0 (by lia),by rw [List.length_append,List.length_singleton];lia,by rw [Uz];lia,by lia⟩
     ·exact ⟨xs,ls,c,_,_,_,_,rfl,hc,bg4,fr4,hl4,hL4,hW,by lia,hx,hx0⟩
  ·
   rintro σ H3 ⟨xs,ls,c,lf,cr,tv,wv,rfl,hc,bg3,fr3,hl3,hL,hW,hlen,hx,hx0⟩
   refine ZjM (fun σ H'=>∃(xs:List V) (ls:List (Str×Int)) (c:Nat),σ = [some (.ref b),some (.int m),some (.int n),some (.ref l),some (.int (2*(c:Int))),some (.int lf),some (.int cr),tv,wv]/\c<=4/\Bag H' b/\YC b H H'/\H' l=some (.lst xs)/\ZC H' xs ls/\Wk ls (2*(c:Int))/\ls.length+c<=34/\(nX ls:Int)<=n)
    (fun (σ:L2.St) _=>match σ[4]? with | some (some (V.int m))=>m.toNat | _=>0) ⟨xs,ls,c,rfl,hc,bg3,fr3,hl3,hL,hW,by lia,by lia⟩ ?_ ?_
   ·rintro σ H4 ⟨xs,ls,c,rfl,hc,bg4,fr4,hl4,hL4,hW,hlen,hx⟩
    have hxl:xs.length<sizeLine:=by
     rw [hL4.len]
     exact Zx (by lia)
    refine ⟨_,rfl,_,_,rfl,rfl,_,rfl,?_⟩
    refine ZX (fun hp=>?_) (fun hp=>?_)
    ·have hp1:0<2*(c:Int):=of_decide_eq_true hp
     refine ⟨_,rfl,.inl ⟨rfl,_,Zw.of hl4⟩,_,rfl,_,rfl,_,_,rfl,rfl,b,_,rfl,bg4,by lia,by lia,fun d H5 hd0 hd1 bg5 f5=>⟨(by show 2<=sizeLine;decide),fun t ht=>?_⟩⟩
     obtain ⟨a1,a2,a3,a4,a5⟩:=Wb "end" d fr4 bg4 hl4 hL4 hlb hl f5 bg5 ht
     refine ⟨l,_,_,rfl,rfl,a1,hxl,_,rfl,_,_,rfl,rfl,?_⟩
     have e:2*((c-1:Nat):Int)=2*(c:Int)-2:=by lia
     refine ⟨⟨xs ++ [.ref t],ls ++ [((("end" : Str),d):Str×Int)],c-1,?_,by lia,a2,a3,a4,a5,?_,by rw [List.length_append,List.length_singleton];lia,by rw [Zjl];exact hx⟩,?_⟩
     ·rw [e]
      rfl
     ·rw [e]
      exact Wk.fin hW hd0 (by lia)
     ·show (2*(c:Int)-2).toNat<(2*(c:Int)).toNat
      lia
    ·have hp1:¬ 0<2*(c:Int):=fun z=>hp (decide_eq_true z)
     have hc0:c=0:=by lia
     subst hc0
     refine ⟨_,rfl,k l H4 ls hl bg4 fr4 ⟨xs,hl4,hL4,by simpa using hW,by lia⟩ hx⟩
   ·rintro σ H Q Q' f ⟨v,e,i,j,e1,e2,kk,e3,q⟩
    exact ⟨v,e,i,j,e1,e2,kk,e3,f _ _ q⟩
abbrev We:Stmt:=top 37
theorem Jn:Zz ["_law_bag_here", "_law_most", "_law_births", "_law_letters", "_law_turn", "_law_k"] ["_law_bag_here", "_law_most"] (Zj We):={}
theorem ZkQ {f:Addr}{fd:FuncData} (F:YE K "_law_plat" "_law_plat" We f fd) (Zt:Yr P w K mg base 1 "_law_take" ["_law_bag_here", "_law_many"] ZaC) (Z7:mg "range" = none):
  Yj P w K mg base Wy 2 f fd ["_law_bag_here", "_law_most"] ZcR:=by
 refine F.ok Jn (fun vs H Q E h=>?_) (fun cdv A outer s H vs Q E hr h=>?_)
 ·obtain ⟨b,n,rfl,_⟩:=h
  rfl
 ·obtain ⟨b,n,rfl,hbag,n1,n2,k⟩:=h
  refine ⟨_,(Ze (Zn (i:=2) Jn.nd rfl (Or.inl rfl) (Zk Zu Zd (Zq Zt hr (Za (pv 0) (Za Zd Zb)))))
   (Ze (ZdE (i:=3) Jn.nd rfl (Or.inl rfl) (Ls:=["_law_k"]) (Fs:=[]) (fi:=[]) (Yi.of (show YT ["_law_bag_here", "_law_most", "_law_births", "_law_letters", "_law_turn", "_law_k"] (Zj We) _ [] []=true by decide +kernel)) rfl (YX (by rfl) Z7 (Za (pv 2) Zb)) (fun cl C s3 H3 ex=>⟨(Zl (i:=0) (show ((["_law_k"]:List Str)++([]:List Str)).Nodup by decide +kernel) rfl (Or.inl rfl)),Jk,(ZA (Za ZG (Za (Zk JO Zd (pv 0)) Zb)))⟩))
   (Ze (Ym PassesOwn.never rfl (YX (by rfl) Z7 (Za (Zq Zt hr (Za (pv 0) (Za (Zk Zu (pv 1) Zd) Zb))) Zb)) (Zl (i:=4) Jn.nd rfl (Or.inl rfl)) (Ze (Zn (i:=5) Jn.nd rfl (Or.inl rfl) (Zq Zt hr (Za (pv 0) (Za (Zk YO (Zk JO Zd (pv 2)) Zd) Zb))))
   (Ze (ZZ (PW.pt (Gj (Zr Zbe (pv 2) Zd (Zp _)) (GX (Zr Yc (Zq Zt hr (Za (pv 0) (Za Zd Zb))) Zd (Zp _))))) (Zg (Zn (i:=5) Jn.nd rfl (Or.inl rfl) (Zk Zu (Zk JO Zd (Zk WQ (Zk Zbi (pv 5) Zd) (Zk YO (pv 2) Zd))) Zd))) ZO)
   (Zg (Yb (Yg (K:=K) rfl (YN PySem.F.plainAttrs_list PySem.F.slot_list_append PySem.F.type_list_append ZW (pv 3) (Za (ZA (Za ZG (Za (pv 5) Zb))) Zb))))))))
   (Zg (Zy (Zk Gh (pv 3) (UL (Ls:=["_law_k"]) (Fs:=[]) (fi:=[]) (Yi.of (show YT ["_law_bag_here", "_law_most", "_law_births", "_law_letters", "_law_turn", "_law_k"] (Zj We) _ [] []=true by decide +kernel)) rfl (YX (by rfl) Z7 (Za (pv 2) Zb)) (fun cl C s3 H3 ex=>⟨(Zl (i:=0) (show ((["_law_k"]:List Str)++([]:List Str)).Nodup by decide +kernel) rfl (Or.inl rfl)),Jk,(ZA (Za ZG (Za Zd Zb)))⟩)))))))),?_⟩
  refine ⟨_,rfl,b,3,rfl,hbag,by decide,by decide,fun d H1 hd0 hd1 bg1 f1=>?_⟩
  refine ⟨_,_,rfl,rfl,?_⟩
  have hc1:1<=(1+d).toNat:=by lia
  have hc2:(1+d).toNat<=3:=by lia
  refine ⟨_,rfl,_,rfl,by lia,by lia,Zgi (n:=(1+d).toNat) (Nat.le_of_lt (Zx (by lia))) (fun i ys H'=>Zi H1 H'/\ZC H' ys ((List.range i).map fun (j:Nat)=>(("born", 2*(j:Int)):Str×Int))) ⟨Zi.refl _,.nil⟩
   (fun i ys H' p=>by rw [p.2.len];simp) (fun i ys H' hi p=>?_) (fun ys H2 p l hl=>?_)⟩
  ·refine lcG ?_
   refine ⟨_,rfl,_,_,rfl,rfl,.inl ⟨by decide,by decide⟩,(by show 2<=sizeLine;decide),fun t ht=>⟨p.1.step ht,?_⟩⟩
   rw [List.range_succ,List.map_append]
   have e:(2*(0+(i:Int)))=2*(i:Int):=by lia
   refine ZC.snoc (p.2.same (Zi.laid ht)) ?_
   rw [<- e]
   exact Zc
  ·
   obtain ⟨sm,hL0⟩:=p
   obtain ⟨g0,r0,hg0,hb0⟩:=id bg1
   have hb2:H2 b=some (.lst [.int g0,.int r0]):=sm b _ hb0
   have hlb:l≠b:=(Zf hb2 hl).symm
   have bg2:Bag (upd H2 l (.lst ys)) b:=⟨g0,r0,hg0,by rw [Zh (Ne.symm hlb)];exact hb2⟩
   have hlH:H l=none:=f1.free bg1 (sm.free hl)
   have fr2:YC b H (upd H2 l (.lst ys)):=(f1.trans sm.frm).new hl
   have hL2:ZC (upd H2 l (.lst ys)) ys ((List.range (1+d).toNat).map fun (j:Nat)=>(("born", 2*(j:Int)):Str×Int)):=hL0.same (Zi.laid hl)
   refine ⟨_,rfl,_,rfl,_,_,rfl,rfl,b,_,rfl,bg2,by lia,by lia,fun d2 H3 he0 he1 bg3 f3=>?_⟩
   refine ⟨_,rfl,by lia,by lia,JS (n:=d2.toNat) (fun i σ H'=>∃(xs:List V) (ls:List (Str×Int)) (tv kv:Option V),σ = [some (.ref b),some (.int n),some (.int (1+d)),some (.ref l),tv,kv]/\Bag H' b/\YC b H H'/\H' l=some (.lst xs)/\ZC H' xs ls/\Wk ls (2*((1+d).toNat:Int))/\ls.length<=3+i/\nX ls<=i)
    ⟨ys,_,none,none,rfl,bg3,fr2.trans f3,f3 l _ Zc hlb,hL2.frm f3 bg2,ZdG _,by rw [List.length_map,List.length_range];lia,by unfold nX;rw [List.countP_map];refine Nat.le_of_eq (List.countP_eq_zero.mpr fun _ _=>by simp;decide)⟩ ?_ ?_⟩
   ·rintro i σ H4 hi ⟨xs,ls,tv,kv,rfl,bg4,fr4,hl4,hL4,hW,hlen,hx⟩
    have hxl:xs.length<sizeLine:=by
     rw [hL4.len]
     exact Zx (by lia)
    refine ⟨_,rfl,_,rfl,_,_,rfl,rfl,.inl ⟨by decide,by decide⟩,_,_,rfl,rfl,b,_,rfl,bg4,by lia,by lia,fun k1 H5 hk0 hk1 bg5 f5=>?_⟩
    have hl5:H5 l=some (.lst xs):=f5 l _ hl4 hlb
    have fr5:YC b H H5:=fr4.trans f5
    have hL5:ZC H5 xs ls:=hL4.frm f5 bg4
    refine ⟨_,rfl,_,_,rfl,rfl,_,rfl,?_⟩
    refine ZX (fun hp=>?_) (fun hp=>?_)
    ·have hp1:1<1+d:=of_decide_eq_true hp
     refine ⟨_,rfl,b,2,rfl,bg5,by decide,by decide,fun d3 H6 _ _ bg6 f6=>⟨rfl,_,rfl,?_⟩⟩
     have hl6:H6 l=some (.lst xs):=f6 l _ hl5 hlb
     have fr6:YC b H H6:=fr5.trans f6
     have hL6:ZC H6 xs ls:=hL5.frm f6 bg5
     refine ZX (fun hq=>?_) (fun hq=>?_)
     ·refine ⟨_,rfl,_,_,rfl,rfl,⟨by decide,by decide⟩,_,rfl,_,_,rfl,rfl,_,_,rfl,rfl,(show (0:Int)<1+d-1 by lia),_,_,rfl,rfl,.inl ⟨by decide,by decide⟩,_,_,rfl,rfl,?_⟩
      have z0:0<=k1 / 2 % (1+d-1):=Int.emod_nonneg _ (by lia)
      have z1:k1 / 2 % (1+d-1)<1+d-1:=Int.emod_lt_of_pos _ (by lia)
      refine ⟨_,rfl,.inl ⟨rfl,_,Zw.of hl6⟩,_,rfl,(by show 2<=sizeLine;decide),fun t ht=>?_⟩
      obtain ⟨a1,a2,a3,a4,a5⟩:=Wb "cross" (2*(k1 / 2 % (1+d-1))+1) fr6 bg6 hl6 hL6 hlb hlH (YC.refl b H6) bg6 ht
      refine ⟨l,_,_,rfl,rfl,a1,hxl,?_⟩
      exact ⟨xs ++ [.ref t],_,_,_,rfl,a2,a3,a4,a5,Wk.cross hW (by lia) (by lia),by rw [List.length_append,List.length_singleton];lia,by rw [Uz];lia⟩
     ·refine ⟨_,rfl,.inl ⟨rfl,_,Zw.of hl6⟩,_,rfl,(by show 2<=sizeLine;decide),fun t ht=>?_⟩
      obtain ⟨a1,a2,a3,a4,a5⟩:=Wb "cross" k1 fr6 bg6 hl6 hL6 hlb hlH (YC.refl b H6) bg6 ht
      refine ⟨l,_,_,rfl,rfl,a1,hxl,?_⟩
      exact ⟨xs ++ [.ref t],_,_,_,rfl,a2,a3,a4,a5,Wk.cross hW (by lia) (by lia),by rw [List.length_append,List.length_singleton];lia,by rw [Uz];lia⟩
    ·refine ⟨_,rfl,.inl ⟨rfl,_,Zw.of hl5⟩,_,rfl,(by show 2<=sizeLine;decide),fun t ht=>?_⟩
     obtain ⟨a1,a2,a3,a4,a5⟩:=Wb "cross" k1 fr5 bg5 hl5 hL5 hlb hlH (YC.refl b H5) bg5 ht
     refine ⟨l,_,_,rfl,rfl,a1,hxl,?_⟩
     exact ⟨xs ++ [.ref t],_,_,_,rfl,a2,a3,a4,a5,Wk.cross hW (by lia) (by lia),by rw [List.length_append,List.length_singleton];lia,by rw [Uz];lia⟩
   ·rintro σ H4 ⟨xs,ls,tv,kv,rfl,bg4,fr4,hl4,hL4,hW,hlen,hx⟩
    refine ⟨_,rfl,_,rfl,_,rfl,by lia,by lia,Zgi (n:=(1+d).toNat) (Nat.le_of_lt (Zx (by lia))) (fun i ys H'=>Zi H4 H'/\ZC H' ys (List.replicate i ((("end" : Str),0):Str×Int))) ⟨Zi.refl _,.nil⟩
     (fun i ys H' p=>by rw [p.2.len];simp) (fun i ys H' hi p=>?_) (fun zs H5 p D hD=>?_)⟩
    ·refine lcG ?_
     refine ⟨(by show 2<=sizeLine;decide),fun t ht=>⟨p.1.step ht,?_⟩⟩
     rw [List.replicate_succ']
     exact ZC.snoc (p.2.same (Zi.laid ht)) Zc
    ·obtain ⟨sm5,hZ⟩:=p
     have hl5:H5 l=some (.lst xs):=sm5 l _ hl4
     have hZl:=hZ.len
     rw [List.length_replicate] at hZl
     have hXl:=hL4.len
     refine ⟨l,D,xs,zs,rfl,rfl,(by rw [Zh (Zf hl5 hD)];exact hl5),Zc,Nat.le_of_lt (Zx (by lia)),fun p hp=>?_⟩
     have sm6:Zi H4 (upd (upd H5 D (.lst zs)) p (.lst (xs++zs))):=(sm5.step hD).step hp
     have hpH:H p=none:=fr4.free bg4 ((sm5.step hD).free hp)
     obtain ⟨g4,r4,hg4,hb4⟩:=id bg4
     refine k p _ (ls++List.replicate (1+d).toNat ((("end" : Str),0):Str×Int)) hpH ⟨g4,r4,hg4,sm6 b _ hb4⟩ (fr4.trans sm6.frm) ⟨xs++zs,Zc,?_,?_,?_⟩ (by
      rw [WU]
      have:nX (List.replicate (1+d).toNat ((("end" : Str),0):Str×Int))=0:=List.countP_eq_zero.mpr fun a ha=>by rw [(List.mem_replicate.mp ha).2];decide
      lia)
     ·exact (hL4.same sm6).append (hZ.same ((Zi.laid hD).step hp))
     ·have:=Zci _ hW (1+d).toNat (Nat.le_refl _)
      simpa using this
     ·rw [List.length_append,List.length_replicate]
      lia
abbrev ZaG:Stmt:=top 38
theorem ZfC:Zz ["_law_bag_here", "_law_most"] ["_law_bag_here", "_law_most"] (Zj ZaG):={}
theorem Zm5 {f:Addr}{fd:FuncData} (F:YE K "_law_any" "_law_any" ZaG f fd) (Zt:Yr P w K mg base 1 "_law_take" ["_law_bag_here", "_law_many"] ZaC) (JE:Yr P w K mg base 2 "_law_plat" ["_law_bag_here", "_law_most"] ZcR)
  (WW:Yr P w K mg base 2 "_law_drawing" ["_law_bag_here", "_law_births", "_law_most"] (Zgl 0)):Yj P w K mg base Wy 3 f fd ["_law_bag_here", "_law_most"] ZcR:=by
 refine F.ok ZfC (fun vs H Q E h=>?_) (fun cdv A outer s H vs Q E hr h=>?_)
 ·obtain ⟨b,n,rfl,_⟩:=h
  rfl
 ·obtain ⟨b,n,rfl,hbag,n1,n2,k⟩:=h
  refine ⟨_,(Ze (ZZ (Zr Yc (Zq Zt hr (Za (pv 0) (Za Zd Zb))) Zd (Zp _)) (Zg (Zy (Zq JE hr (Za (pv 0) (Za (pv 1) Zb))))) ZO)
   (Zg (Zy (Zq WW hr (Za (pv 0) (Za Zd (Za (pv 1) Zb))))))),?_⟩
  refine ⟨_,rfl,b,3,rfl,hbag,by decide,by decide,fun d H1 _ _ bg1 f1=>⟨rfl,_,rfl,?_⟩⟩
  refine ZX (fun _=>?_) (fun _=>?_)
  ·exact ⟨_,rfl,_,rfl,b,n,rfl,bg1,n1,n2,fun l H2 ls hl bg2 f2 dr nx=>k l H2 ls (f1.free bg1 hl) bg2 (f1.trans f2) dr nx⟩
  ·exact ⟨_,rfl,_,rfl,b,4,n,rfl,bg1,by decide,by decide,n1,by lia,fun l H2 ls hl bg2 f2 dr nx=>k l H2 ls (f1.free bg1 hl) bg2 (f1.trans f2) dr nx⟩
def ZeB:Sp:=fun vs H Q _=>∃i:Int,vs = [.int i]/\Q (.bl true) H
abbrev Ue:Stmt:=top 43
theorem Zdl:Zz ["_law_thing"] ["_law_thing"] (Zj Ue):={}
theorem Ziy {f:Addr}{fd:FuncData} (F:YE K "_law_whole" "_law_whole" Ue f fd) (Ww:mg "isinstance" = none) (Ur:mg "int" = none) (Zf6:mg "bool" = none):Yj P w K mg base Wy 1 f fd ["_law_thing"] ZeB:=by
 refine F.ok Zdl (fun vs H Q E h=>?_) (fun cdv A outer s H vs Q E hr h=>?_)
 ·obtain ⟨i,rfl,_⟩:=h
  rfl
 ·obtain ⟨i,rfl,k⟩:=h
  refine ⟨_,(Zg (Zy (Zc2 (ZE (Za5 (K:=K) rfl) (by rfl) Ww boot_isinstance (Za (pv 0) (Za (Zhd (v:=.ty "int") (by rfl) Ur boot_int rfl) Zb))) (U1 (Zma (ZE (Za5 (K:=K) rfl) (by rfl) Ww boot_isinstance (Za (pv 0) (Za (Zhd (v:=.ty "bool") (by rfl) Zf6 boot_bool rfl) Zb)))))))),?_⟩
  refine ⟨_,rfl,_, "int", _,true,rfl,.int i,by rfl,true,rfl,Za9 ?_⟩
  exact ⟨_,rfl,_, "bool", _,false,rfl,.int i,by rfl,false,rfl,k⟩
abbrev ZbJ:Stmt:=top 8
theorem JA:Zz ["drawing", "rows", "born", "kind", "k", "row"] ["drawing"] (Zj ZbJ):={}
theorem ZgM {f:Addr}{fd:FuncData} (F:YE K "threads" "threads" ZbJ f fd) (YL:mg "list" = none):Yj P w K mg base Wy 1 f fd ["drawing"] U8:=by
 refine F.ok JA (fun vs H Q E h=>?_) (fun cdv A outer s H vs Q E hr h=>?_)
 ·obtain ⟨l,xs,ls,rfl,_⟩:=h
  rfl
 ·obtain ⟨l,xs,ls,rfl,hl,hL,hlen,hW,k⟩:=h
  refine ⟨_,(Ze (Zn (i:=1) JA.nd rfl (Or.inl rfl) (ZL (Za (ZL Zb) Zb)))
   (Ze (Zn (i:=2) JA.nd rfl (Or.inl rfl) Zd)
   (Ze (Ym PassesOwn.never rfl (Yk (K:=K) rfl (pv 0)) (ZU (K:=K) (n:=2) rfl rfl (Zm (Zl (i:=3) JA.nd rfl (Or.inl rfl)) (Zm (Zl (i:=4) JA.nd rfl (Or.inl rfl)) ZP))) (Ze (Zn (i:=5) JA.nd rfl (Or.inl rfl) (Z9 (JB (K:=K) rfl) (by rfl) YL boot_list (Za (Zv (Zs (K:=K) rfl) (pv 1) (ZbY UI Zd) (fun _ _=>rfl)) Zb)))
   (Ze (ZZ (Zr Yc (pv 3) ZG (Zp _)) (Ze (Z8 (ZL (Za (pv 2) (Za (Zk Zu (pv 2) Zd) Zb))) (ZmA (pv 5) (Yh (pv 4)) (Yh (pv 4))))
   (Zg (Zj7 (i:=2) JA.nd rfl (Or.inl rfl) Zd Zmn))) (Zg (ZZ (Zr Yc (pv 3) ZG (Zp _)) (Zg (Z8 (ZA (Za (Zv (Zs (K:=K) rfl) (pv 5) (Zk Zu (pv 4) Zd) (fun _ _=>rfl)) (Za (Zv (Zs (K:=K) rfl) (pv 5) (pv 4) (fun _ _=>rfl)) Zb))) (ZU (K:=K) (n:=2) rfl rfl (Zm (Yl (pv 5) (pv 4) set_list) (Zm (Yl (pv 5) (Zk Zu (pv 4) Zd) set_list) ZP))))) (Zg (Zkc (pv 5) (Yh (pv 4)) (Yh (Zk Zu (pv 4) Zd)))))))
   (Zg (Yb (Yg (K:=K) rfl (YN PySem.F.plainAttrs_list PySem.F.slot_list_append PySem.F.type_list_append ZW (pv 1) (Za (pv 5) Zb))))))))
   (Zg (Zy (pv 1)))))),?_⟩
  have hxl:=hL.len
  refine ⟨(by show 0<=sizeLine;decide),fun e0 he0=>⟨(by show 1<=sizeLine;decide),fun R hR=>?_⟩⟩
  have hRH:H R=none:=(Zi.laid he0).free hR
  have hRe:e0≠R:=Zf (Zc (H:=H) (a:=e0) (o:=.lst [])) hR
  have sm0:Zi H (upd (upd H e0 (.lst [])) R (.lst [.ref e0])):=(Zi.laid he0).step hR
  refine ⟨_,rfl,l,rfl,⟨_,Zw.of (sm0 l _ hl)⟩,JI (K:=K) (a:=l) (xs:=xs) (fun i σ H'=>∃(ys:List V) (v3 v4 v5:Option V),σ = [some (.ref l),some (.ref R),some (.int (rb (ls.take i)).2),v3,v4,v5]/\Zi H H'/\H' R=some (.lst ys)/\YK H' ys (rowsOf ls (i+1))/\(∀t,V.ref t∈ys->H t=none/\t≠R)/\ys.Nodup)
   ⟨[.ref e0],none,none,none,rfl,sm0,Zc,?_,?_,by simp⟩ (fun i σ H' _ ⟨_,_,_,_,_,sm,_⟩=>Zw.of (sm l _ hl)) ?_ ?_⟩
  ·refine Paired.cons ⟨e0,rfl,?_⟩ .nil
   rw [Zh hRe,Zc]
   rfl
  ·intro t ht
   have:t=e0:=V.ref.inj (List.mem_singleton.mp ht)
   subst this
   exact ⟨he0,hRe⟩
  ·rintro i x σ H' hx ⟨ys,v3,v4,v5,rfl,sm,hR',rv,ap,nd⟩
   obtain ⟨⟨qx,qk⟩,tl,hq,rfl,htl⟩:=hL.get hx
   have htl':=sm tl _ htl
   have hi:i<ls.length:=(List.getElem?_eq_some_iff.mp hq).1
   obtain ⟨ztk,cases3⟩:=ZdF hW hq
   have rv':=rv
   rw [UE] at rv'
   obtain ⟨ys0,t,rfl,ht⟩:=rv'.last
   have hyl:(ys0 ++ [V.ref t]).length<sizeLine:=by
    rw [rv.len]
    unfold rowsOf
    rw [List.length_map,List.length_range]
    exact Zx (by lia)
   have rl:((rb (ls.take i)).1.map V.int).length=(rb (ls.take i)).1.length:=List.length_map _
   obtain ⟨m,hm⟩:=GQ hW i
   have r8:(rb (ls.take i)).1.length<=900:=by
    have z1:=U5 hm
    have z2:=ZaX hm
    rw [List.length_take] at z2
    lia
   refine ⟨tl,_,rfl,YB.of htl',rfl,_,_,rfl,_,_,rfl,rfl,?_⟩
   refine ⟨_,rfl,1,rfl,R,_,_,_,rfl,rfl,Zw.of hR',Za3 _ _,t,_,rfl,.inl (Zw.of ht),fun w hw=>?_⟩
   have hwR:w≠R:=(Zf hR' hw).symm
   refine ⟨_,rfl,rfl,_,rfl,?_⟩
   rcases cases3 with ⟨e,b0,b1⟩ | ⟨e,b0,b1⟩ | ⟨e,b0,b1⟩
   ·have e:qx = "born" := e
    subst e
    refine ZX (fun _=>?_) (fun hn=>absurd (by simp) hn)
    refine ⟨_,rfl,_,rfl,_,_,rfl,rfl,(by show 2<=sizeLine;decide),fun nl hnl=>?_⟩
    have hwn:w≠nl:=Zf (Zc (H:=H') (a:=w)) hnl
    refine ⟨_,rfl,_,rfl,_,rfl,_,rfl,_,rfl,w,nl,_,_,qk,qk,rfl,rfl,rfl,rfl,(by rw [Zh hwn];exact Zc),Zc,hwn,b0,Int.le_refl _,(by rw [rl];exact b1),(by rw [rl];exact Nat.le_of_lt (Zx (by show _+2<=1000;lia))),?_⟩
    refine ⟨_,rfl,_,_,rfl,rfl,?_⟩
    have hR2:(upd (upd (upd H' w (.lst ((rb (ls.take i)).1.map V.int))) nl (.lst [.int (rb (ls.take i)).2,.int ((rb (ls.take i)).2+1)])) w (.lst (((rb (ls.take i)).1.map V.int).take qk.toNat ++ [.int (rb (ls.take i)).2,.int ((rb (ls.take i)).2+1)]++((rb (ls.take i)).1.map V.int).drop qk.toNat))) R=some (.lst (ys0 ++ [.ref t])):=by
     rw [Zh (Ne.symm hwR)]
     exact (Zi.laid hnl) R _ ((Zi.laid hw) R _ hR')
    refine ⟨_,rfl,.inl ⟨rfl,_,Zw.of hR2⟩,_,rfl,R,_,_,rfl,rfl,hR2,hyl,?_⟩
    obtain ⟨z1,z2,z3,z4⟩:=WH (G:=upd (upd (upd (upd H' w (.lst ((rb (ls.take i)).1.map V.int))) nl (.lst [.int (rb (ls.take i)).2,.int ((rb (ls.take i)).2+1)])) w (.lst (((rb (ls.take i)).1.map V.int).take qk.toNat ++ [.int (rb (ls.take i)).2,.int ((rb (ls.take i)).2+1)]++((rb (ls.take i)).1.map V.int).drop qk.toNat))) R (.lst ((ys0 ++ [.ref t]) ++ [.ref w]))) hRH sm rv ap nd hw hwR (fun c o e n=>by
      rw [Zh n,Zh (Zf e hw)]
      exact (Zi.laid hnl) c _ ((Zi.laid hw) c _ e)) (by
      rw [Zh hwR,Zc,ztk,YD,Wd]
      simp [List.map_append,List.map_take,List.map_drop])
    refine ⟨ys0 ++ [.ref t] ++ [.ref w],some (.str "born"),some (.int qk),some (.ref w),?_,z1,Zc,z2,z3,z4⟩
    rw [ztk,YD,Wd]
    rfl
   ·have e:qx = "cross" := e
    subst e
    refine ZX (fun hn=>absurd (V.str.inj (of_decide_eq_true hn)) nb1) (fun _=>?_)
    refine ⟨_,rfl,rfl,_,rfl,?_⟩
    refine ZX (fun _=>?_) (fun hn=>absurd (by simp) hn)
    obtain ⟨kk,rfl⟩:=Int.eq_ofNat_of_zero_le b0
    have k1:kk+1<(rb (ls.take i)).1.length:=by have b1:(kk:Int)+1<_:=b1;lia
    have ec:((kk:Int)+1)=((kk+1:Nat):Int):=by lia
    have a1:atI ((rb (ls.take i)).1.map V.int) ((kk:Int)+1)=some (V.int ((rb (ls.take i)).1.getD (kk+1) 0)):=by rw [ec];exact Zo (map_getD _ k1)
    have a0:atI ((rb (ls.take i)).1.map V.int) (kk:Int)=some (V.int ((rb (ls.take i)).1.getD kk 0)):=Zo (map_getD _ (by lia))
    refine ⟨_,rfl,_,rfl,_,_,rfl,rfl,w,_,_,_,rfl,rfl,Zw.of Zc,a1,_,rfl,_,rfl,w,_,_,_,rfl,rfl,Zw.of Zc,a0,(by show 2<=sizeLine;decide),fun tt htt=>?_⟩
    have hwt:w≠tt:=Zf (Zc (H:=H') (a:=w)) htt
    refine ⟨tt,_,rfl,YB.of Zc,rfl,_,_,rfl,_,rfl,_,rfl,w,_,_,kk,rfl,rfl,(by rw [Zh hwt];exact Zc),(by rw [rl];exact YR (by lia)),?_⟩
    refine ⟨_,_,rfl,_,rfl,_,rfl,_,_,rfl,rfl,w,_,_,kk+1,rfl,rfl,Zc,(by rw [List.length_set,rl,ec];exact YR k1),rfl,?_⟩
    rw [Jm,Zhk]
    have hR2:(upd (upd (upd H' w (.lst ((rb (ls.take i)).1.map V.int))) tt (.tup [.int ((rb (ls.take i)).1.getD (kk+1) 0),.int ((rb (ls.take i)).1.getD kk 0)])) w (.lst ((Ga (rb (ls.take i)).1 kk).map V.int))) R=some (.lst (ys0 ++ [.ref t])):=by
     rw [Zh (Ne.symm hwR)]
     exact (Zi.laid htt) R _ ((Zi.laid hw) R _ hR')
    refine ⟨_,rfl,.inl ⟨rfl,_,Zw.of hR2⟩,_,rfl,R,_,_,rfl,rfl,hR2,hyl,?_⟩
    obtain ⟨z1,z2,z3,z4⟩:=WH (G:=upd (upd (upd (upd H' w (.lst ((rb (ls.take i)).1.map V.int))) tt (.tup [.int ((rb (ls.take i)).1.getD (kk+1) 0),.int ((rb (ls.take i)).1.getD kk 0)])) w (.lst ((Ga (rb (ls.take i)).1 kk).map V.int))) R (.lst ((ys0 ++ [.ref t]) ++ [.ref w]))) hRH sm rv ap nd hw hwR (fun c o e n=>by
      rw [Zh n,Zh (Zf e hw)]
      exact (Zi.laid htt) c _ ((Zi.laid hw) c _ e)) (by
      rw [Zh hwR,Zc,ztk,YD,JF]
      rfl)
    refine ⟨ys0 ++ [.ref t] ++ [.ref w],some (.str "cross"),some (.int kk),some (.ref w),?_,z1,Zc,z2,z3,z4⟩
    rw [ztk,YD,JF]
    rfl
   ·have e:qx = "end" := e
    subst e
    refine ZX (fun hn=>absurd (V.str.inj (of_decide_eq_true hn)) nb2) (fun _=>?_)
    refine ⟨_,rfl,rfl,_,rfl,?_⟩
    refine ZX (fun hn=>absurd (V.str.inj (of_decide_eq_true hn)) nb3) (fun _=>?_)
    have b1':qk+1<((rb (ls.take i)).1.length:Int):=b1
    refine ⟨_,rfl,_,rfl,_,rfl,_,rfl,_,_,rfl,rfl,_,rfl,w,_,qk,qk+2,rfl,rfl,rfl,Zc,b0,by lia,(by rw [rl];lia),?_⟩
    rw [Jm]
    have hR2:(upd H' w (.lst (((rb (ls.take i)).1.map V.int).take qk.toNat++((rb (ls.take i)).1.map V.int).drop (qk+2).toNat))) R=some (.lst (ys0 ++ [.ref t])):=(Zi.laid hw) R _ hR'
    refine ⟨_,rfl,.inl ⟨rfl,_,Zw.of hR2⟩,_,rfl,R,_,_,rfl,rfl,hR2,hyl,?_⟩
    have e2:(qk+2).toNat=qk.toNat+2:=by have b0':0<=qk:=b0;lia
    obtain ⟨z1,z2,z3,z4⟩:=WH (G:=upd (upd H' w (.lst (((rb (ls.take i)).1.map V.int).take qk.toNat++((rb (ls.take i)).1.map V.int).drop (qk+2).toNat))) R (.lst ((ys0 ++ [.ref t]) ++ [.ref w]))) hRH sm rv ap nd hw hwR (fun c o e n=>by
      rw [Zh n]
      exact (Zi.laid hw) c _ e) (by
      rw [Zh hwR,Zc,ztk,YD,W9,e2,List.map_append,List.map_take,List.map_drop])
    refine ⟨ys0 ++ [.ref t] ++ [.ref w],some (.str "end"),some (.int qk),some (.ref w),?_,z1,Zc,z2,z3,z4⟩
    rw [ztk,YD,W9]
    rfl
  ·rintro σ H' ⟨ys,v3,v4,v5,rfl,sm,hR',rv,ap,nd⟩
   rw [hxl] at rv
   exact ⟨_,rfl,k R H' ys hRH sm hR' rv ap nd⟩
abbrev UY:Stmt:=top 39
theorem YV:Zz ["_law_drawing_here", "_law_rows_here", "_law_born", "_law_word", "_law_k", "_law_row"] ["_law_drawing_here"] (Zj UY):={}
theorem ZkO {f:Addr}{fd:FuncData} (F:YE K "_law_rows" "_law_rows" UY f fd) (YL:mg "list" = none):Yj P w K mg base Wy 1 f fd ["_law_drawing_here"] U8:=by
 refine F.ok YV (fun vs H Q E h=>?_) (fun cdv A outer s H vs Q E hr h=>?_)
 ·obtain ⟨l,xs,ls,rfl,_⟩:=h
  rfl
 ·obtain ⟨l,xs,ls,rfl,hl,hL,hlen,hW,k⟩:=h
  refine ⟨_,(Ze (Zn (i:=1) YV.nd rfl (Or.inl rfl) (ZL (Za (ZL Zb) Zb)))
   (Ze (Zn (i:=2) YV.nd rfl (Or.inl rfl) Zd)
   (Ze (Ym PassesOwn.never rfl (Yk (K:=K) rfl (pv 0)) (ZU (K:=K) (n:=2) rfl rfl (Zm (Zl (i:=3) YV.nd rfl (Or.inl rfl)) (Zm (Zl (i:=4) YV.nd rfl (Or.inl rfl)) ZP))) (Ze (Zn (i:=5) YV.nd rfl (Or.inl rfl) (Z9 (JB (K:=K) rfl) (by rfl) YL boot_list (Za (Zv (Zs (K:=K) rfl) (pv 1) (ZbY UI Zd) (fun _ _=>rfl)) Zb)))
   (Ze (ZZ (Zr Yc (pv 3) ZG (Zp _)) (Ze (Yb (Yg (K:=K) rfl (YN PySem.F.plainAttrs_list PySem.F.slot_list_insert PySem.F.type_list_insert ZdO (pv 5) (Za (pv 4) (Za (Zk Zu (pv 2) Zd) Zb)))))
   (Ze (Yb (Yg (K:=K) rfl (YN PySem.F.plainAttrs_list PySem.F.slot_list_insert PySem.F.type_list_insert ZdO (pv 5) (Za (pv 4) (Za (pv 2) Zb)))))
   (Zg (Zn (i:=2) YV.nd rfl (Or.inl rfl) (Zk Zu (pv 2) Zd))))) (Zg (ZZ (Zr Yc (pv 3) ZG (Zp _)) (Zg (Z8 (ZA (Za (Zv (Zs (K:=K) rfl) (pv 5) (Zk Zu (pv 4) Zd) (fun _ _=>rfl)) (Za (Zv (Zs (K:=K) rfl) (pv 5) (pv 4) (fun _ _=>rfl)) Zb))) (ZU (K:=K) (n:=2) rfl rfl (Zm (Yl (pv 5) (pv 4) set_list) (Zm (Yl (pv 5) (Zk Zu (pv 4) Zd) set_list) ZP))))) (Ze (Yb (Yg (K:=K) rfl (YN PySem.F.plainAttrs_list PySem.F.slot_list_pop PySem.F.type_list_pop ZcW (pv 5) (Za (pv 4) Zb))))
   (Zg (Yb (Yg (K:=K) rfl (YN PySem.F.plainAttrs_list PySem.F.slot_list_pop PySem.F.type_list_pop ZcW (pv 5) (Za (pv 4) Zb)))))))))
   (Zg (Yb (Yg (K:=K) rfl (YN PySem.F.plainAttrs_list PySem.F.slot_list_append PySem.F.type_list_append ZW (pv 1) (Za (pv 5) Zb))))))))
   (Zg (Zy (pv 1)))))),?_⟩
  have hxl:=hL.len
  refine ⟨(by show 0<=sizeLine;decide),fun e0 he0=>⟨(by show 1<=sizeLine;decide),fun R hR=>?_⟩⟩
  have hRH:H R=none:=(Zi.laid he0).free hR
  have hRe:e0≠R:=Zf (Zc (H:=H) (a:=e0) (o:=.lst [])) hR
  have sm0:Zi H (upd (upd H e0 (.lst [])) R (.lst [.ref e0])):=(Zi.laid he0).step hR
  refine ⟨_,rfl,l,rfl,⟨_,Zw.of (sm0 l _ hl)⟩,JI (K:=K) (a:=l) (xs:=xs) (fun i σ H'=>∃(ys:List V) (v3 v4 v5:Option V),σ = [some (.ref l),some (.ref R),some (.int (rb (ls.take i)).2),v3,v4,v5]/\Zi H H'/\H' R=some (.lst ys)/\YK H' ys (rowsOf ls (i+1))/\(∀t,V.ref t∈ys->H t=none/\t≠R)/\ys.Nodup)
   ⟨[.ref e0],none,none,none,rfl,sm0,Zc,?_,?_,by simp⟩ (fun i σ H' _ ⟨_,_,_,_,_,sm,_⟩=>Zw.of (sm l _ hl)) ?_ ?_⟩
  ·refine Paired.cons ⟨e0,rfl,?_⟩ .nil
   rw [Zh hRe,Zc]
   rfl
  ·intro t ht
   have:t=e0:=V.ref.inj (List.mem_singleton.mp ht)
   subst this
   exact ⟨he0,hRe⟩
  ·rintro i x σ H' hx ⟨ys,v3,v4,v5,rfl,sm,hR',rv,ap,nd⟩
   obtain ⟨⟨qx,qk⟩,tl,hq,rfl,htl⟩:=hL.get hx
   have htl':=sm tl _ htl
   have hi:i<ls.length:=(List.getElem?_eq_some_iff.mp hq).1
   obtain ⟨ztk,cases3⟩:=ZdF hW hq
   have rv':=rv
   rw [UE] at rv'
   obtain ⟨ys0,t,rfl,ht⟩:=rv'.last
   have hyl:(ys0 ++ [V.ref t]).length<sizeLine:=by
    rw [rv.len]
    unfold rowsOf
    rw [List.length_map,List.length_range]
    exact Zx (by lia)
   have rl:((rb (ls.take i)).1.map V.int).length=(rb (ls.take i)).1.length:=List.length_map _
   obtain ⟨m,hm⟩:=GQ hW i
   have r8:(rb (ls.take i)).1.length<=900:=by
    have z1:=U5 hm
    have z2:=ZaX hm
    rw [List.length_take] at z2
    lia
   refine ⟨tl,_,rfl,YB.of htl',rfl,_,_,rfl,_,_,rfl,rfl,?_⟩
   refine ⟨_,rfl,1,rfl,R,_,_,_,rfl,rfl,Zw.of hR',Za3 _ _,t,_,rfl,.inl (Zw.of ht),fun w hw=>?_⟩
   have hwR:w≠R:=(Zf hR' hw).symm
   refine ⟨_,rfl,rfl,_,rfl,?_⟩
   rcases cases3 with ⟨e,b0,b1⟩ | ⟨e,b0,b1⟩ | ⟨e,b0,b1⟩
   ·have e:qx = "born" := e
    subst e
    refine ZX (fun _=>?_) (fun hn=>absurd (by simp) hn)
    have b0':0<=qk:=b0
    have b1':qk<=((rb (ls.take i)).1.length:Int):=b1
    refine ⟨_,rfl,.inl ⟨rfl,_,Zw.of Zc⟩,_,rfl,_,rfl,_,_,rfl,rfl,w,_,qk,_,rfl,rfl,Zc,b0',(by rw [rl];exact b1'),(by rw [rl];exact Zx (by lia)),(by rw [rl];lia),?_⟩
    have rl2:(((rb (ls.take i)).1.map V.int).take qk.toNat++V.int ((rb (ls.take i)).2+1)::((rb (ls.take i)).1.map V.int).drop qk.toNat).length=(rb (ls.take i)).1.length+1:=by
     rw [List.length_append,List.length_cons,List.length_take,List.length_drop,rl]
     lia
    refine ⟨_,rfl,.inl ⟨rfl,_,Zw.of Zc⟩,_,rfl,_,rfl,w,_,qk,_,rfl,rfl,Zc,b0',(by rw [rl2];lia),(by rw [rl2];exact Zx (by lia)),(by rw [rl2];lia),?_⟩
    refine ⟨_,rfl,_,_,rfl,rfl,?_⟩
    rw [Jm,Jm,ZkK _ _ _ _ (by rw [rl];lia)]
    have hR2:(upd H' w (.lst (((rb (ls.take i)).1.map V.int).take qk.toNat ++ [.int (rb (ls.take i)).2,.int ((rb (ls.take i)).2+1)]++((rb (ls.take i)).1.map V.int).drop qk.toNat))) R=some (.lst (ys0 ++ [.ref t])):=(Zi.laid hw) R _ hR'
    refine ⟨_,rfl,.inl ⟨rfl,_,Zw.of hR2⟩,_,rfl,R,_,_,rfl,rfl,hR2,hyl,?_⟩
    obtain ⟨z1,z2,z3,z4⟩:=WH (G:=upd (upd H' w (.lst (((rb (ls.take i)).1.map V.int).take qk.toNat ++ [.int (rb (ls.take i)).2,.int ((rb (ls.take i)).2+1)]++((rb (ls.take i)).1.map V.int).drop qk.toNat))) R (.lst ((ys0 ++ [.ref t]) ++ [.ref w]))) hRH sm rv ap nd hw hwR (fun c o e n=>by
      rw [Zh n]
      exact (Zi.laid hw) c _ e) (by
      rw [Zh hwR,Zc,ztk,YD,Wd]
      simp [List.map_append,List.map_take,List.map_drop])
    refine ⟨ys0 ++ [.ref t] ++ [.ref w],some (.str "born"),some (.int qk),some (.ref w),?_,z1,Zc,z2,z3,z4⟩
    rw [ztk,YD,Wd]
    rfl
   ·have e:qx = "cross" := e
    subst e
    refine ZX (fun hn=>absurd (V.str.inj (of_decide_eq_true hn)) nb1) (fun _=>?_)
    refine ⟨_,rfl,rfl,_,rfl,?_⟩
    refine ZX (fun _=>?_) (fun hn=>absurd (by simp) hn)
    obtain ⟨kk,rfl⟩:=Int.eq_ofNat_of_zero_le b0
    have k1:kk+1<(rb (ls.take i)).1.length:=by have b1:(kk:Int)+1<_:=b1;lia
    have ec:((kk:Int)+1)=((kk+1:Nat):Int):=by lia
    have a1:atI ((rb (ls.take i)).1.map V.int) ((kk:Int)+1)=some (V.int ((rb (ls.take i)).1.getD (kk+1) 0)):=by rw [ec];exact Zo (map_getD _ k1)
    have a0:atI ((rb (ls.take i)).1.map V.int) (kk:Int)=some (V.int ((rb (ls.take i)).1.getD kk 0)):=Zo (map_getD _ (by lia))
    refine ⟨_,rfl,_,rfl,_,_,rfl,rfl,w,_,_,_,rfl,rfl,Zw.of Zc,a1,_,rfl,_,rfl,w,_,_,_,rfl,rfl,Zw.of Zc,a0,(by show 2<=sizeLine;decide),fun tt htt=>?_⟩
    have hwt:w≠tt:=Zf (Zc (H:=H') (a:=w)) htt
    refine ⟨tt,_,rfl,YB.of Zc,rfl,_,_,rfl,_,rfl,_,rfl,w,_,_,kk,rfl,rfl,(by rw [Zh hwt];exact Zc),(by rw [rl];exact YR (by lia)),?_⟩
    refine ⟨_,_,rfl,_,rfl,_,rfl,_,_,rfl,rfl,w,_,_,kk+1,rfl,rfl,Zc,(by rw [List.length_set,rl,ec];exact YR k1),rfl,?_⟩
    rw [Jm,Zhk]
    have hR2:(upd (upd (upd H' w (.lst ((rb (ls.take i)).1.map V.int))) tt (.tup [.int ((rb (ls.take i)).1.getD (kk+1) 0),.int ((rb (ls.take i)).1.getD kk 0)])) w (.lst ((Ga (rb (ls.take i)).1 kk).map V.int))) R=some (.lst (ys0 ++ [.ref t])):=by
     rw [Zh (Ne.symm hwR)]
     exact (Zi.laid htt) R _ ((Zi.laid hw) R _ hR')
    refine ⟨_,rfl,.inl ⟨rfl,_,Zw.of hR2⟩,_,rfl,R,_,_,rfl,rfl,hR2,hyl,?_⟩
    obtain ⟨z1,z2,z3,z4⟩:=WH (G:=upd (upd (upd (upd H' w (.lst ((rb (ls.take i)).1.map V.int))) tt (.tup [.int ((rb (ls.take i)).1.getD (kk+1) 0),.int ((rb (ls.take i)).1.getD kk 0)])) w (.lst ((Ga (rb (ls.take i)).1 kk).map V.int))) R (.lst ((ys0 ++ [.ref t]) ++ [.ref w]))) hRH sm rv ap nd hw hwR (fun c o e n=>by
      rw [Zh n,Zh (Zf e hw)]
      exact (Zi.laid htt) c _ ((Zi.laid hw) c _ e)) (by
      rw [Zh hwR,Zc,ztk,YD,JF]
      rfl)
    refine ⟨ys0 ++ [.ref t] ++ [.ref w],some (.str "cross"),some (.int kk),some (.ref w),?_,z1,Zc,z2,z3,z4⟩
    rw [ztk,YD,JF]
    rfl
   ·have e:qx = "end" := e
    subst e
    refine ZX (fun hn=>absurd (V.str.inj (of_decide_eq_true hn)) nb2) (fun _=>?_)
    refine ⟨_,rfl,rfl,_,rfl,?_⟩
    refine ZX (fun hn=>absurd (V.str.inj (of_decide_eq_true hn)) nb3) (fun _=>?_)
    have b1':qk+1<((rb (ls.take i)).1.length:Int):=b1
    obtain ⟨kk,rfl⟩:=Int.eq_ofNat_of_zero_le b0
    have k1:kk+1<(rb (ls.take i)).1.length:=by lia
    have l1:(((rb (ls.take i)).1.map V.int).eraseIdx kk).length=(rb (ls.take i)).1.length-1:=by rw [List.length_eraseIdx_of_lt (by rw [rl];lia),rl]
    refine ⟨_,rfl,.inl ⟨rfl,_,Zw.of Zc⟩,_,rfl,w,_,_,kk,_,rfl,rfl,Zc,by lia,by lia,(by rw [rl];exact ZdI (by lia)),map_getD _ (by lia),?_⟩
    obtain ⟨y2,hy2⟩:∃y2,(((rb (ls.take i)).1.map V.int).eraseIdx kk)[kk]? = some y2:=⟨_,List.getElem?_eq_getElem (by rw [l1];lia)⟩
    refine ⟨_,rfl,.inl ⟨rfl,_,Zw.of Zc⟩,_,rfl,w,_,_,kk,_,rfl,rfl,Zc,by lia,by lia,(by rw [l1];exact ZdI (by lia)),hy2,?_⟩
    rw [Jm,Jm,ZlD]
    have hR2:(upd H' w (.lst (((rb (ls.take i)).1.map V.int).take kk++((rb (ls.take i)).1.map V.int).drop (kk+2)))) R=some (.lst (ys0 ++ [.ref t])):=(Zi.laid hw) R _ hR'
    refine ⟨_,rfl,.inl ⟨rfl,_,Zw.of hR2⟩,_,rfl,R,_,_,rfl,rfl,hR2,hyl,?_⟩
    obtain ⟨z1,z2,z3,z4⟩:=WH (G:=upd (upd H' w (.lst (((rb (ls.take i)).1.map V.int).take kk++((rb (ls.take i)).1.map V.int).drop (kk+2)))) R (.lst ((ys0 ++ [.ref t]) ++ [.ref w]))) hRH sm rv ap nd hw hwR (fun c o e n=>by
      rw [Zh n]
      exact (Zi.laid hw) c _ e) (by
      rw [Zh hwR,Zc,ztk,YD,W9,Int.toNat_natCast,List.map_append,List.map_take,List.map_drop])
    refine ⟨ys0 ++ [.ref t] ++ [.ref w],some (.str "end"),some (.int kk),some (.ref w),?_,z1,Zc,z2,z3,z4⟩
    rw [ztk,YD,W9]
    rfl
  ·rintro σ H' ⟨ys,v3,v4,v5,rfl,sm,hR',rv,ap,nd⟩
   rw [hxl] at rv
   exact ⟨_,rfl,k R H' ys hRH sm hR' rv ap nd⟩
def Za8 (pr:Str->Bool):Sp:=fun vs H Q _=>∃(l:Addr) (xs:List V) (ls:List (Str×Int)),vs = [.ref l]/\H l=some (.lst xs)/\ZC H xs ls/\ls.length<=60/\(∀p∈ls,Kd p.1) /\ ∀(p:Addr) (H':Hp),H p=none->Zi H H'->H' p=some (.lst ((Ya ls pr ls.length).map V.int))->Q (.ref p) H'
def ZbG:Sp:=fun vs H Q _=>∃(l:Addr) (kd:Str) (xs:List V) (ls:List (Str×Int)),vs = [.ref l,.str kd]/\H l=some (.lst xs)/\ZC H xs ls/\ls.length<=60 /\ ∀(p:Addr) (H':Hp),H p=none->Zi H H'->H' p=some (.lst ((Ya ls (fun x=>decide (x=kd)) ls.length).map V.int))->Q (.ref p) H'
abbrev Wx:Stmt:=top 1
theorem Zdn:Zz ["drawing", "kind"] ["drawing", "kind"] (Zj Wx):={}
theorem Zf4 {f:Addr}{fd:FuncData} (F:YE K "letters_of" "letters_of" Wx f fd) (ZI:mg "enumerate" = none):Yj P w K mg base Wy 1 f fd ["drawing", "kind"] ZbG:=by
 refine F.ok Zdn (fun vs H Q E h=>?_) (fun cdv A outer s H vs Q E hr h=>?_)
 ·obtain ⟨l,kd,xs,ls,rfl,_⟩:=h
  rfl
 ·obtain ⟨l,kd,xs,ls,rfl,hl,hL,hlen,k⟩:=h
  refine ⟨_,(Zg (Zy (UL (Ls:=["t", "letter"]) (Fs:=["kind"]) (fi:=[1]) (Yi.of (show YT ["drawing", "kind"] (Zj Wx) _ ["kind"] [1]=true by decide +kernel)) rfl (WM (K:=K) rfl (by rfl) ZI (Za (pv 0) Zb)) (fun cl C s3 H3 ex=>⟨(ZU (K:=K) (n:=2) rfl rfl (Zm (Zl (i:=0) (show ((["t", "letter"]:List Str)++(["kind"]:List Str)).Nodup by decide +kernel) rfl (Or.inl rfl)) (Zm (Zl (i:=1) (show ((["t", "letter"]:List Str)++(["kind"]:List Str)).Nodup by decide +kernel) rfl (Or.inl rfl)) ZP))),(Zct (Zr Yc (Zv (ZK (K:=K) rfl) (pv 1) Zd (fun _ _=>rfl)) (pv 2) (Zp _))),(pv 0)⟩)))),?_⟩
  have hxl:=hL.len
  refine ⟨_,rfl,l,rfl,⟨_,Zw.of hl⟩,Zi2 (xs:=xs) (Nat.le_of_lt (Zx (by lia))) (fun i ys H'=>Zi H H'/\ys=(Ya ls (fun x=>decide (x=kd)) i).map V.int) ⟨Zi.refl _,rfl⟩
   (fun i ys H' p=>by rw [p.2,List.length_map];exact J8 _ _ _) (fun i ys H' p=>Zw.of (p.1 l _ hl)) (fun i x p ys H' hx pv hp=>?_) (fun ys H' pv D hD=>?_)⟩
  ·obtain ⟨sm,rfl⟩:=pv
   obtain ⟨q,t,hq,rfl,ht⟩:=hL.get hx
   have ht':(upd H' p (.tup [.int i,.ref t])) t=some (.tup [.str q.1,.int q.2]):=by rw [Zh (Zf (sm t _ ht) hp)];exact sm t _ ht
   refine ⟨p,_,rfl,YB.of Zc,rfl,_,_,rfl,_,_,rfl,rfl,?_⟩
   refine ⟨_,rfl,t,_,_,_,rfl,rfl,YB.of ht',Zo (j:=0) rfl,_,rfl,rfl,_,rfl,?_⟩
   refine ZX (fun hc=>?_) (fun hc=>?_)
   ·have e:q.1=kd:=V.str.inj (of_decide_eq_true hc)
    exact ⟨_,rfl,sm.step hp,Zfc hq (by simpa using e)⟩
   ·have e:¬q.1=kd:=fun z=>hc (decide_eq_true (congrArg V.str z))
    exact ⟨sm.step hp,Zg4 hq (by simpa using e)⟩
  ·obtain ⟨sm,rfl⟩:=pv
   rw [hxl]
   exact k D _ (sm.free hD) (sm.step hD) Zc
abbrev ZbO:Stmt:=top 2
theorem Zgd:Zz ["drawing"] ["drawing"] (Zj ZbO):={}
theorem Zk1 {f:Addr}{fd:FuncData} (F:YE K "ends_of" "ends_of" ZbO f fd) (GR:Yr P w K mg base 1 "letters_of" ["drawing", "kind"] ZbG):Yj P w K mg base Wy 2 f fd ["drawing"] (Za8 fun x=>decide (x = "end")):=by
 refine F.ok Zgd (fun vs H Q E h=>?_) (fun cdv A outer s H vs Q E hr h=>?_)
 ·obtain ⟨l,xs,ls,rfl,_⟩:=h
  rfl
 ·obtain ⟨l,xs,ls,rfl,hl,hL,hlen,_,k⟩:=h
  refine ⟨_,(Zg (Zy (Zq GR hr (Za (pv 0) (Za ZG Zb))))),?_⟩
  exact ⟨_,rfl,l,_,xs,ls,rfl,hl,hL,hlen,k⟩
abbrev GW:Stmt:=top 3
theorem Zfu:Zz ["drawing"] ["drawing"] (Zj GW):={}
theorem ZiH {f:Addr}{fd:FuncData} (F:YE K "names_of" "names_of" GW f fd) (ZI:mg "enumerate" = none):Yj P w K mg base Wy 1 f fd ["drawing"] (Za8 fun x=>!decide (x = "born")):=by
 refine F.ok Zfu (fun vs H Q E h=>?_) (fun cdv A outer s H vs Q E hr h=>?_)
 ·obtain ⟨l,xs,ls,rfl,_⟩:=h
  rfl
 ·obtain ⟨l,xs,ls,rfl,hl,hL,hlen,_,k⟩:=h
  refine ⟨_,(Zg (Zy (UL (Ls:=["t", "letter"]) (Fs:=[]) (fi:=[]) (Yi.of (show YT ["drawing"] (Zj GW) _ [] []=true by decide +kernel)) rfl (WM (K:=K) rfl (by rfl) ZI (Za (pv 0) Zb)) (fun cl C s3 H3 ex=>⟨(ZU (K:=K) (n:=2) rfl rfl (Zm (Zl (i:=0) (show ((["t", "letter"]:List Str)++([]:List Str)).Nodup by decide +kernel) rfl (Or.inl rfl)) (Zm (Zl (i:=1) (show ((["t", "letter"]:List Str)++([]:List Str)).Nodup by decide +kernel) rfl (Or.inl rfl)) ZP))),(Zct (Zr Zc9 (Zv (ZK (K:=K) rfl) (pv 1) Zd (fun _ _=>rfl)) ZG (Zp _))),(pv 0)⟩)))),?_⟩
  have hxl:=hL.len
  refine ⟨_,rfl,l,rfl,⟨_,Zw.of hl⟩,Zi2 (xs:=xs) (Nat.le_of_lt (Zx (by lia))) (fun i ys H'=>Zi H H'/\ys=(Ya ls (fun x=>!decide (x = "born")) i).map V.int) ⟨Zi.refl _,rfl⟩
   (fun i ys H' p=>by rw [p.2,List.length_map];exact J8 _ _ _) (fun i ys H' p=>Zw.of (p.1 l _ hl)) (fun i x p ys H' hx pv hp=>?_) (fun ys H' pv D hD=>?_)⟩
  ·obtain ⟨sm,rfl⟩:=pv
   obtain ⟨q,t,hq,rfl,ht⟩:=hL.get hx
   have ht':(upd H' p (.tup [.int i,.ref t])) t=some (.tup [.str q.1,.int q.2]):=by rw [Zh (Zf (sm t _ ht) hp)];exact sm t _ ht
   refine ⟨p,_,rfl,YB.of Zc,rfl,_,_,rfl,_,_,rfl,rfl,?_⟩
   refine ⟨_,rfl,t,_,_,_,rfl,rfl,YB.of ht',Zo (j:=0) rfl,rfl,_,rfl,?_⟩
   refine ZX (fun hc=>?_) (fun hc=>?_)
   ·have e:¬q.1 = "born" := fun z=>by
     have:(!decide (V.str q.1=V.str "born"))=true:=hc
     rw [decide_eq_true (congrArg V.str z)] at this
     cases this
    exact ⟨_,rfl,sm.step hp,Zfc hq (by simpa using e)⟩
   ·have e:q.1 = "born" := by
     by_cases z:q.1 = "born"
     ·exact z
     ·exact absurd (show (!decide (V.str q.1=V.str "born"))=true by rw [decide_eq_false (fun y=>z (V.str.inj y))];rfl) hc
    exact ⟨sm.step hp,Zg4 hq (by simpa using e)⟩
  ·obtain ⟨sm,rfl⟩:=pv
   rw [hxl]
   exact k D _ (sm.free hD) (sm.step hD) Zc
theorem ZgQ {H:Hp}:∀{xs:List V}{ls:List (Str×Int)}{i:Nat}{q:Str×Int},ZC H xs ls->ls[i]? = some q -> ∃t,xs[i]? = some (.ref t)/\H t=some (.tup [.str q.1,.int q.2])
 | _,_,_,_,.nil,e=>by simp at e
 | _,_,0,_,.cons ⟨t,e1,q⟩ _,e=>by simp at e;subst e;exact ⟨t,by simp [e1],q⟩
 | _,_,i+1,q,.cons _ r,e=>by
  obtain ⟨t,h1,h2⟩:=ZgQ (i:=i) (q:=q) r (by simpa using e)
  exact ⟨t,by simpa using h1,h2⟩
def Zcr:Sp:=fun vs H Q _=>∃(l n:Addr) (xs:List V) (ls:List (Str×Int)) (ns:List Int),vs = [.ref l,.ref n]/\H l=some (.lst xs)/\ZC H xs ls/\ls.length<=60/\Wk ls 0/\H n=some (.lst (ns.map V.int))/\ns.length<=60/\(∀t∈ns,0<=t /\ ∃q,ls[t.toNat]? = some q/\q.1 ≠ "born") /\
 ∀(p:Addr) (H':Hp) (ys:List V),H p=none->Zi H H'->H' p=some (.lst ys)->Js H' ys (ns.map fun t=>Y9 ls t.toNat)->Q (.ref p) H'
abbrev Gf:Stmt:=top 9
theorem Jd:Zz ["drawing", "numbers", "rows", "found", "t", "k"] ["drawing", "numbers"] (Zj Gf):={}
theorem ZjN {f:Addr}{fd:FuncData} (F:YE K "pairs_ahead" "pairs_ahead" Gf f fd) (ZbQ:Yr P w K mg base 1 "threads" ["drawing"] U8):Yj P w K mg base Wy 2 f fd ["drawing", "numbers"] Zcr:=by
 refine F.ok Jd (fun vs H Q E h=>?_) (fun cdv A outer s H vs Q E hr h=>?_)
 ·obtain ⟨l,n,xs,ls,ns,rfl,_⟩:=h
  rfl
 ·obtain ⟨l,n,xs,ls,ns,rfl,hl,hL,hlen,hW,hn,hnl,hns,k⟩:=h
  refine ⟨_,(Ze (Zn (i:=2) Jd.nd rfl (Or.inl rfl) (Zq ZbQ hr (Za (pv 0) Zb)))
   (Ze (Zn (i:=3) Jd.nd rfl (Or.inl rfl) (ZL Zb))
   (Ze (Ym PassesOwn.never rfl (Yk (K:=K) rfl (pv 1)) (Zl (i:=4) Jd.nd rfl (Or.inl rfl)) (Ze (Zn (i:=5) Jd.nd rfl (Or.inl rfl) (Zv (ZK (K:=K) rfl) (Zv (Zs (K:=K) rfl) (pv 0) (pv 4) (fun _ _=>rfl)) Zd (fun _ _=>rfl)))
   (Zg (Yb (Yg (K:=K) rfl (YN PySem.F.plainAttrs_list PySem.F.slot_list_append PySem.F.type_list_append ZW (pv 3) (Za (ZA (Za (Zv (Zs (K:=K) rfl) (Zv (Zs (K:=K) rfl) (pv 2) (pv 4) (fun _ _=>rfl)) (pv 5) (fun _ _=>rfl)) (Za (Zv (Zs (K:=K) rfl) (Zv (Zs (K:=K) rfl) (pv 2) (pv 4) (fun _ _=>rfl)) (Zk Zu (pv 5) Zd) (fun _ _=>rfl)) Zb))) Zb)))))))
   (Zg (Zy (pv 3)))))),?_⟩
  refine ⟨_,rfl,l,xs,ls,rfl,hl,hL,hlen,hW,fun R H1 ys fR s1 eR rv ap nd=>?_⟩
  refine ⟨(by show 0<=sizeLine;decide),fun fA hfA=>?_⟩
  have hl1:=s1 l _ hl
  have hL1:=hL.same s1
  have hn1:=s1 n _ hn
  refine ⟨_,rfl,n,rfl,⟨_,Zw.of ((Zi.laid hfA) n _ hn1)⟩,JI (K:=K) (a:=n) (xs:=ns.map V.int) (fun i σ H'=>∃(zs:List V) (v4 v5:Option V),σ = [some (.ref l),some (.ref n),some (.ref R),some (.ref fA),v4,v5]/\Zi H1 H'/\H' fA=some (.lst zs)/\Js H' zs ((ns.take i).map fun t=>Y9 ls t.toNat))
   ⟨[],none,none,rfl,Zi.laid hfA,Zc,.nil⟩ (fun i σ H' _ ⟨_,_,_,_,sm,_⟩=>Zw.of (sm n _ hn1)) ?_ ?_⟩
  ·rintro i x σ H' hx ⟨zs,v4,v5,rfl,sm,hf,pv⟩
   obtain ⟨t,ht,rfl⟩:=JY hx
   obtain ⟨t0,⟨qx,qk⟩,hq,hb⟩:=hns t (List.mem_of_getElem? ht)
   obtain ⟨tn,rfl⟩:=Int.eq_ofNat_of_zero_le t0
   rw [Int.toNat_natCast] at hq
   have htl:tn<ls.length:=(List.getElem?_eq_some_iff.mp hq).1
   obtain ⟨k0,k1,pe⟩:=Zfk hW hq hb
   obtain ⟨kn,rfl⟩:=Int.eq_ofNat_of_zero_le (show 0<=qk from k0)
   simp only [Int.toNat_natCast] at k1 pe
   obtain ⟨ta,hxt,hta⟩:=ZgQ hL1 hq
   obtain ⟨ra,hra,hrr⟩:=rv.at (U9 ls (i:=tn) (n:=ls.length+1) (by lia))
   have e1:((kn:Int)+1)=((kn+1:Nat):Int):=by lia
   refine ⟨_,rfl,_,rfl,l,_,_,_,rfl,rfl,Zw.of (sm l _ hl1),Zo hxt,ta,_,_,_,rfl,rfl,YB.of (sm ta _ hta),Zo (j:=1) rfl,?_⟩
   refine ⟨_,rfl,.inl ⟨rfl,_,Zw.of hf⟩,_,rfl,_,rfl,R,_,_,_,rfl,rfl,Zw.of (sm R _ eR),Zo hra,_,rfl,ra,_,_,_,rfl,rfl,Zw.of (sm ra _ hrr),Zo (map_getD _ (by lia)),?_⟩
   refine ⟨_,rfl,_,rfl,R,_,_,_,rfl,rfl,Zw.of (sm R _ eR),Zo hra,_,rfl,_,_,rfl,rfl,ra,_,_,_,rfl,rfl,Zw.of (sm ra _ hrr),(by rw [e1];exact Zo (map_getD _ k1)),(by show 2<=sizeLine;decide),fun tt htt=>?_⟩
   have hft:fA≠tt:=Zf hf htt
   have zl:zs.length<sizeLine:=by
    rw [pv.len,List.length_map,List.length_take]
    exact Zx (by lia)
   refine ⟨fA,_,_,rfl,rfl,(by rw [Zh hft];exact hf),zl,?_⟩
   refine ⟨zs ++ [.ref tt],some (.int tn),some (.int kn),rfl,(sm.step htt).put hfA,Zc,?_⟩
   rw [YZ _ ht]
   refine Js.snoc (pv.mono fun a p e=>?_) ?_
   ·rw [Zh (ZaZ e hf (by intro z;cases z)),Zh (Zf e htt)]
    exact e
   ·rw [Zh (Ne.symm hft),Zc,Int.toNat_natCast,pe]
  ·rintro σ H' ⟨zs,v4,v5,rfl,sm,hf,pv⟩
   refine ⟨_,rfl,k fA H' zs (s1.free hfA) (s1.trans sm) hf ?_⟩
   rw [List.length_map,List.take_of_length_le (Nat.le_refl _)] at pv
   exact pv
def ZeX:Sp:=fun vs H Q _=>∃(l:Addr) (xs:List V) (ls:List (Str×Int)),vs = [.ref l]/\H l=some (.lst xs)/\ZC H xs ls/\ls.length<=60/\Wk ls 0 /\
 ∀(p:Addr) (H':Hp) (ys:List V),H p=none->Zi H H'->H' p=some (.lst ys)->Js H' ys (YS ls)->Q (.ref p) H'
abbrev UO:Stmt:=top 10
theorem Zeu:Zz ["drawing"] ["drawing"] (Zj UO):={}
theorem ZeV {f:Addr}{fd:FuncData} (F:YE K "end_pairs" "end_pairs" UO f fd) (YY:Yr P w K mg base 2 "pairs_ahead" ["drawing", "numbers"] Zcr) (Jp:Yr P w K mg base 2 "ends_of" ["drawing"] (Za8 fun x=>decide (x = "end"))):Yj P w K mg base Wy 3 f fd ["drawing"] ZeX:=by
 refine F.ok Zeu (fun vs H Q E h=>?_) (fun cdv A outer s H vs Q E hr h=>?_)
 ·obtain ⟨l,xs,ls,rfl,_⟩:=h
  rfl
 ·obtain ⟨l,xs,ls,rfl,hl,hL,hlen,hW,k⟩:=h
  refine ⟨_,(Zg (Zy (Zq YY hr (Za (pv 0) (Za (Zq Jp hr (Za (pv 0) Zb)) Zb))))),?_⟩
  refine ⟨_,rfl,_,rfl,l,xs,ls,rfl,hl,hL,hlen,hW.kd,fun n H1 hn s1 e1=>?_⟩
  refine ⟨l,n,xs,ls,Ya ls Gq ls.length,rfl,s1 l _ hl,hL.same s1,hlen,hW,e1,Nat.le_trans (J8 _ _ _) hlen,fun t ht=>?_,fun p H2 ys hp s2 e2 pv=>k p H2 ys (s1.free hp) (s1.trans s2) e2 pv⟩
  obtain ⟨a,_,q,hq,z⟩:=ZfT ht
  refine ⟨a,q,hq,fun z2=>?_⟩
  have z:q.1 = "end" := of_decide_eq_true z
  rw [z2] at z
  exact nb2 z.symm
def Zle:Sp:=fun vs H Q _=>∃x:Int,vs = [.int x]/\0<=x/\Q (.int (bw x)) H
abbrev UH:Stmt:=top 11
theorem Zet:Zz ["thread"] ["thread"] (Zj UH):={}
theorem Zn1 {f:Addr}{fd:FuncData} (F:YE K "born_with" "born_with" UH f fd):Yj P w K mg base Wy 1 f fd ["thread"] Zle:=by
 refine F.ok Zet (fun vs H Q E h=>?_) (fun cdv A outer s H vs Q E hr h=>?_)
 ·obtain ⟨x,rfl,_⟩:=h
  rfl
 ·obtain ⟨x,rfl,h0,k⟩:=h
  refine ⟨_,(Zg (Zy (Zk ZmE (pv 0) Zd))),?_⟩
  refine ⟨_,rfl,_,_,rfl,rfl,?_⟩
  show Q (.int (Builtin.bitXor x 1)) H
  rw [Zml h0]
  exact k
def tab {α:Type} (N:Nat) (g:Int -> α):List α:=(List.range N).map fun (x:Nat)=>g (x:Int)
theorem WB {α:Type} (N:Nat) (g:Int -> α):(tab N g).length=N:=by simp [tab]
theorem Zek {α:Type}{N:Nat} (g:Int -> α) {j:Nat} (h:j<N):(tab N g)[j]? = some (g (j:Int)):=by
 unfold tab
 rw [List.getElem?_map]
 simp [h]
theorem YW {α:Type}{N:Nat}{g g':Int -> α} (h:∀x:Int,0<=x->x<(N:Int)->g x=g' x):tab N g=tab N g':=by
 unfold tab
 refine List.map_congr_left fun x hx=>?_
 have:=List.mem_range.mp hx
 exact h x (by lia) (by lia)
theorem ZaT {α:Type}{N:Nat} (g:Int -> α) (j:Nat) (v:α):(tab N g).set j v=tab N (fun x=>if x=(j:Int) then v else g x):=by
 apply List.ext_getElem?
 intro i
 rw [List.getElem?_set,WB]
 by_cases hi:i<N
 ·rw [Zek _ hi,Zek _ hi]
  by_cases e:j=i
  ·subst e;simp [hi]
  ·rw [if_neg e,if_neg (by lia)]
 ·rw [show (tab N g)[i]? = none from List.getElem?_eq_none_iff.mpr (by rw [WB];lia),show (tab N (fun x=>if x=(j:Int) then v else g x))[i]? = none from List.getElem?_eq_none_iff.mpr (by rw [WB];lia)]
  by_cases e:j=i
  ·subst e;rw [if_pos rfl,if_neg hi]
  ·rw [if_neg e]
theorem ZaV {α β:Type} (N:Nat) (g:Int -> α) (f:α -> β):(tab N g).map f=tab N (fun x=>f (g x)):=by
 unfold tab
 rw [List.map_map]
 rfl
theorem Zah {α:Type} (N:Nat) (v:α):(List.replicate N [v]).flatten=tab N (fun _=>v):=by
 unfold tab
 induction N with
 | zero=>rfl
 | succ n ih=>rw [List.replicate_succ',List.flatten_append,ih,List.range_succ,List.map_append];simp
theorem Zdh:∀{ps:List (Int×Int)}{u l x:Int},u∉ZJ ps->l∉ZJ ps->u≠l->Jf (ps ++ [(u,l)]) x=if x=l then u else if x=u then l else Jf ps x
 | [],u,l,x,_,_,ne=>by
  simp only [List.nil_append,Jf]
  by_cases h1:x=u
  ·subst h1;simp [ne]
  ·simp [h1]
 | p::r,u,l,x,hu,hl,ne=>by
  have e:ZJ (p::r)=p.1::p.2::ZJ r:=by simp [ZJ]
  rw [e] at hu hl
  simp only [List.mem_cons,not_or] at hu hl
  have ih:=Zdh (x:=x) hu.2.2 hl.2.2 ne
  simp only [List.cons_append,Jf,ih]
  by_cases h1:x=p.1
  ·subst h1;simp [Ne.symm hu.1,Ne.symm hl.1]
  ·by_cases h2:x=p.2
   ·subst h2;simp [h1,Ne.symm hu.2.1,Ne.symm hl.2.1]
   ·simp [h1,h2]
theorem Zf1 {ps:List (Int×Int)}{i:Nat}{p:Int×Int} (h:ps[i]? = some p):ZJ (ps.take (i+1))=ZJ (ps.take i) ++ [p.1,p.2]:=by
 rw [List.take_add_one,h,YU]
 simp [ZJ]
theorem Zjg {ps:List (Int×Int)} (nd:(ZJ ps).Nodup) {i:Nat}{p:Int×Int} (h:ps[i]? = some p):p.1∉ZJ (ps.take i)/\p.2∉ZJ (ps.take i)/\p.1≠p.2:=by
 have e:ps=ps.take (i+1)++ps.drop (i+1):=(List.take_append_drop _ _).symm
 rw [e,YU,Zf1 h] at nd
 have nd:=(List.nodup_append.mp nd).1
 obtain ⟨_,n2,n3⟩:=List.nodup_append.mp nd
 refine ⟨fun z=>n3 _ z _ (by simp) rfl,fun z=>n3 _ z _ (by simp) rfl,?_⟩
 have:=List.nodup_cons.mp n2
 simpa using this.1
theorem ZgP {ls:List (Str×Int)} (hW:Wk ls 0) {p:Int×Int} (h:p∈YS ls):(0<=p.1/\p.1<(Y0 ls:Int))/\(0<=p.2/\p.2<(Y0 ls:Int)):=
 ⟨YJ.mp ((Wc hW).mem_iff.mp (List.mem_flatMap.mpr ⟨p,h,by simp⟩)),YJ.mp ((Wc hW).mem_iff.mp (List.mem_flatMap.mpr ⟨p,h,by simp⟩))⟩
theorem Zd1 {ls:List (Str×Int)} (hW:Wk ls 0):(ZJ (YS ls)).Nodup:=(Wc hW).nodup_iff.mpr (WK _)
def ZeO:Sp:=fun vs H Q _=>∃(l:Addr) (xs:List V) (ls:List (Str×Int)),vs = [.ref l]/\H l=some (.lst xs)/\ZC H xs ls/\ls.length<=60/\Wk ls 0 /\
 ∀(p:Addr) (H':Hp),H p=none->Zi H H'->H' p=some (.lst ((tab (Y0 ls) (Jf (YS ls))).map V.int))->Q (.ref p) H'
abbrev UD:Stmt:=top 12
theorem JK:Zz ["drawing", "pairs", "mates", "upper", "lower"] ["drawing"] (Zj UD):={}
theorem Zkk {f:Addr}{fd:FuncData} (F:YE K "end_mates" "end_mates" UD f fd) (JC:Yr P w K mg base 3 "end_pairs" ["drawing"] ZeX) (Yt:mg "len" = none):Yj P w K mg base Wy 4 f fd ["drawing"] ZeO:=by
 refine F.ok JK (fun vs H Q E h=>?_) (fun cdv A outer s H vs Q E hr h=>?_)
 ·obtain ⟨l,xs,ls,rfl,_⟩:=h
  rfl
 ·obtain ⟨l,xs,ls,rfl,hl,hL,hlen,hW,k⟩:=h
  refine ⟨_,(Ze (Zn (i:=1) JK.nd rfl (Or.inl rfl) (Zq JC hr (Za (pv 0) Zb)))
   (Ze (Zn (i:=2) JK.nd rfl (Or.inl rfl) (Zk ZaH (ZL (Za Zd Zb)) (Zk JO Zd (ZE (YH (K:=K) rfl) (by rfl) Yt PySem.boot_len (Za (pv 1) Zb)))))
   (Ze (Ym PassesOwn.never rfl (Yk (K:=K) rfl (pv 1)) (ZU (K:=K) (n:=2) rfl rfl (Zm (Zl (i:=3) JK.nd rfl (Or.inl rfl)) (Zm (Zl (i:=4) JK.nd rfl (Or.inl rfl)) ZP))) (Ze (Z8 (pv 4) (Yl (pv 2) (pv 3) set_list))
   (Zg (Z8 (pv 3) (Yl (pv 2) (pv 4) set_list)))))
   (Zg (Zy (pv 2)))))),?_⟩
  refine ⟨_,rfl,l,xs,ls,rfl,hl,hL,hlen,hW,fun pA H1 ys fp s1 ep pv=>?_⟩
  have n120:=JU hlen
  have yl:2*ys.length=Y0 ls:=by rw [pv.len];rfl
  refine ⟨(by show 1<=sizeLine;decide),fun l0 hl0=>?_⟩
  have ep0:=(Zi.laid (o:=.lst [.int 0]) hl0) pA _ ep
  refine ⟨_,rfl,pA,_,rfl,.inl (Zw.of ep0),_,_,rfl,rfl,.inl ⟨by decide,by decide⟩,?_⟩
  have e2:((2:Int)*(ys.length:Int))=((Y0 ls:Nat):Int):=by lia
  refine ⟨l0,_,_,rfl,rfl,Zc,by lia,by lia,?_,fun mA hmA=>?_⟩
  ·rw [e2]
   show 1*_<=sizeLine
   exact Nat.le_of_lt (Zx (by lia))
  have hm1:H1 mA=none:=(Zi.laid hl0).free hmA
  have sm1:Zi H1 (upd (upd H1 l0 (.lst [.int 0])) mA (.lst (List.replicate ((2:Int)*(ys.length:Int)).toNat [V.int 0]).flatten)):=(Zi.laid hl0).step hmA
  refine ⟨_,rfl,pA,rfl,⟨_,Zw.of (sm1 pA _ ep)⟩,JI (K:=K) (a:=pA) (xs:=ys) (fun i σ H'=>∃(v3 v4:Option V),σ = [some (.ref l),some (.ref pA),some (.ref mA),v3,v4]/\Zi H1 H'/\H' mA=some (.lst ((tab (Y0 ls) (Jf ((YS ls).take i))).map V.int)))
   ⟨none,none,rfl,sm1,?_⟩ (fun i σ H' _ ⟨_,_,_,sm,_⟩=>Zw.of (sm pA _ ep)) ?_ ?_⟩
  ·rw [Zc,e2,Int.toNat_natCast,Zah,ZaV]
   rfl
  ·rintro i x σ H' hx ⟨v3,v4,rfl,sm,hm⟩
   obtain ⟨p,t,hp,rfl,ht⟩:=pv.get hx
   obtain ⟨u,lw⟩:=p
   obtain ⟨⟨d1,d2⟩,d3,d4⟩:=ZgP hW (List.mem_of_getElem? hp)
   obtain ⟨n1,n2,n3⟩:=Zjg (Zd1 hW) hp
   obtain ⟨un,rfl⟩:=Int.eq_ofNat_of_zero_le (show 0<=u from d1)
   obtain ⟨wn,rfl⟩:=Int.eq_ofNat_of_zero_le (show 0<=lw from d3)
   have d2:(un:Int)<_:=d2
   have d4:(wn:Int)<_:=d4
   refine ⟨t,_,rfl,YB.of (sm t _ ht),rfl,_,_,rfl,_,_,rfl,rfl,?_⟩
   refine ⟨_,rfl,_,rfl,_,rfl,mA,_,_,un,rfl,rfl,hm,(by rw [List.length_map,WB];exact YR (by lia)),?_⟩
   refine ⟨_,rfl,_,rfl,_,rfl,mA,_,_,wn,rfl,rfl,Zc,(by rw [List.length_set,List.length_map,WB];exact YR (by lia)),?_⟩
   refine ⟨some (.int un),some (.int wn),rfl,(sm.put hm1).put hm1,?_⟩
   rw [Zc,<- List.map_set,<- List.map_set,ZaT,ZaT,List.take_add_one,hp]
   congr 2
   refine congrArg (List.map V.int) (YW fun x _ _=>?_)
   rw [show (some ((un:Int),(wn:Int))).toList = [((un:Int),(wn:Int))] from rfl,Zdh n1 n2 n3]
  ·rintro σ H' ⟨v3,v4,rfl,sm,hm⟩
   refine ⟨_,rfl,k mA H' (s1.free hm1) (s1.trans sm) ?_⟩
   rw [pv.len,List.take_of_length_le (Nat.le_refl _)] at hm
   exact hm
theorem Zaa {N:Nat} (m:Int->Int) {x:Int} (h0:0<=x) (h1:x<(N:Int)):atI ((tab N m).map V.int) x=some (V.int (m x)):=by
 obtain ⟨n,rfl⟩:=Int.eq_ofNat_of_zero_le h0
 refine Zo ?_
 rw [List.getElem?_map,Zek _ (by lia)]
 rfl
def Zgs:Sp:=fun vs H Q _=>∃(f:Int) (mA:Addr) (m:Int->Int) (N:Nat),vs = [.int f,.ref mA]/\H mA=some (.lst ((tab N m).map V.int))/\JG m N/\N<=200/\0<=f/\f<(N:Int) /\
 ∀(p:Addr) (H':Hp) (T:List Int),H p=none->Zi H H'->H' p=some (.lst (T.map V.int))->Y6 m f T->Q (.ref p) H'
abbrev UW:Stmt:=top 13
theorem Ug:Zz ["first", "mates", "tour", "onward"] ["first", "mates"] (Zj UW):={}
theorem Zlo {f:Addr}{fd:FuncData} (F:YE K "tour_from" "tour_from" UW f fd) (Je:Yr P w K mg base 1 "born_with" ["thread"] Zle):Yj P w K mg base Wy 2 f fd ["first", "mates"] Zgs:=by
 refine F.ok Ug (fun vs H Q E h=>?_) (fun cdv A outer s H vs Q E hr h=>?_)
 ·obtain ⟨f,mA,m,N,rfl,_⟩:=h
  rfl
 ·obtain ⟨f,mA,m,N,rfl,hm,M,hN,h0,h1,k⟩:=h
  refine ⟨_,(Ze (Zn (i:=2) Ug.nd rfl (Or.inl rfl) (ZL (Za (pv 0) (Za (Zv (Zs (K:=K) rfl) (pv 1) (pv 0) (fun _ _=>rfl)) Zb))))
   (Ze (Za4 PassesOwn.never (Zr Zc9 (Zq Je hr (Za (Zv (Zs (K:=K) rfl) (pv 2) (ZbY UI Zd) (fun _ _=>rfl)) Zb)) (pv 0) (Zp _)) (Ze (Zn (i:=3) Ug.nd rfl (Or.inl rfl) (Zq Je hr (Za (Zv (Zs (K:=K) rfl) (pv 2) (ZbY UI Zd) (fun _ _=>rfl)) Zb)))
   (Ze (Yb (Yg (K:=K) rfl (YN PySem.F.plainAttrs_list PySem.F.slot_list_append PySem.F.type_list_append ZW (pv 2) (Za (pv 3) Zb))))
   (Zg (Yb (Yg (K:=K) rfl (YN PySem.F.plainAttrs_list PySem.F.slot_list_append PySem.F.type_list_append ZW (pv 2) (Za (Zv (Zs (K:=K) rfl) (pv 1) (pv 3) (fun _ _=>rfl)) Zb))))))))
   (Zg (Zy (pv 2))))),?_⟩
  have dom:=YF M h0 h1
  have mdom:∀i,0<=m (gt m f i)/\m (gt m f i)<N:=fun i=>⟨M.lo _ (dom i).1 (dom i).2,M.hi _ (dom i).1 (dom i).2⟩
  have ol:∀i,(Wh m f (i+1)).map V.int=((Wh m f i).map V.int ++ [V.int (gt m f i)]) ++ [V.int (m (gt m f i))]:=fun i=>by simp [Wh]
  refine ⟨_,rfl,_,rfl,_,rfl,mA,_,_,_,rfl,rfl,Zw.of hm,Zaa m h0 h1,(by show 2<=sizeLine;decide),fun tA htA=>?_⟩
  refine ⟨fun mm σ H'=>∃(i:Nat) (v3:Option V),mm+i=N /\ σ = [some (.int f),some (.ref mA),some (.ref tA),v3]/\Zi H H'/\H' tA=some (.lst ((Wh m f (i+1)).map V.int))/\(∀j,1<=j->j<i+1->gt m f j≠f),
   ⟨N,0,none,rfl,rfl,Zi.laid htA,Zc,fun j a b=>by lia⟩,?_⟩
  rintro mm σ H' ⟨i,v3,hi,rfl,sm,ht,nf⟩
  have short:=Gy M h0 h1 nf
  refine ⟨_,rfl,1,rfl,tA,_,_,V.int (m (gt m f i)),rfl,rfl,Zw.of ht,(by rw [ol];exact Za3 _ _),_,rfl,(mdom i).1,_,rfl,rfl,_,rfl,?_⟩
  refine ZX (fun hc=>?_) (fun hc=>?_)
  ·have ne:gt m f (i+1)≠f:=fun z=>by
    have hc:(!decide (V.int (bw (m (gt m f i)))=V.int f))=true:=hc
    rw [decide_eq_true (show V.int (bw (m (gt m f i)))=V.int f from congrArg V.int z)] at hc
    cases hc
   have nf':∀j,1<=j->j<i+2->gt m f j≠f:=fun j a b=>by
    by_cases e:j=i+1
    ·rw [e];exact ne
    ·exact nf j a (by lia)
   have short2:=Gy M h0 h1 nf'
   refine ⟨fun σ' H''=>∃v3:Option V,σ' = [some (.int f),some (.ref mA),some (.ref tA),v3]/\Zi H H''/\H'' tA=some (.lst ((Wh m f (i+2)).map V.int)),fun σ' H'' ⟨v,e,a,b⟩=>⟨mm-1,by lia,i+1,v,by lia,e,a,b,nf'⟩,?_⟩
   refine ⟨_,rfl,1,rfl,tA,_,_,V.int (m (gt m f i)),rfl,rfl,Zw.of ht,(by rw [ol];exact Za3 _ _),_,rfl,(mdom i).1,?_⟩
   refine ⟨_,rfl,.inl ⟨rfl,_,Zw.of ht⟩,_,rfl,tA,_,_,rfl,rfl,ht,(by rw [List.length_map,J3];exact Zx (by lia)),?_⟩
   have hma:tA≠mA:=fun z=>by rw [z,hm] at htA;cases htA
   refine ⟨_,rfl,.inl ⟨rfl,_,Zw.of Zc⟩,_,rfl,_,rfl,mA,_,_,_,rfl,rfl,Zw.of (by rw [Zh (Ne.symm hma)];exact sm mA _ hm),Zaa m (dom (i+1)).1 (dom (i+1)).2,tA,_,_,rfl,rfl,Zc,(by rw [List.length_append,List.length_map,J3];exact Zx (by show _+1<=1000;lia)),?_⟩
   refine ⟨_,rfl,(sm.put htA).put htA,?_⟩
   rw [Zc,ol (i+1)]
   rfl
  ·have e:gt m f (i+1)=f:=by
    by_cases z:gt m f (i+1)=f
    ·exact z
    ·exact absurd (show (!decide (V.int (gt m f (i+1))=V.int f))=true by rw [decide_eq_false (fun y=>z (V.int.inj y))];rfl) hc
   exact ⟨_,rfl,k tA H' (Wh m f (i+1)) htA sm ht ⟨i+1,by lia,e,nf,rfl⟩⟩
def Zcj:Sp:=fun vs H Q _=>∃(l:Addr) (xs:List V) (ls:List (Str×Int)),vs = [.ref l]/\H l=some (.lst xs)/\ZC H xs ls/\ls.length<=60/\Wk ls 0 /\
 ∀(p:Addr) (H':Hp) (ys:List V) (ts:List (List Int)),H p=none->Zi H H'->H' p=some (.lst ys)->YK H' ys ts->(∀t,V.ref t∈ys->H t=none)->Gp (Jf (YS ls)) (Y0 ls) ts->Q (.ref p) H'
theorem ZfW {N:Nat} (g:Int->V) {x:Int} (h0:0<=x) (h1:x<(N:Int)):atI (tab N g) x=some (g x):=by
 obtain ⟨n,rfl⟩:=Int.eq_ofNat_of_zero_le h0
 exact Zo (Zek _ (by lia))
abbrev ZeI:Stmt:=top 14
theorem WN:Zz ["drawing", "mates", "gone", "found", "first", "tour", "thread"] ["drawing"] (Zj ZeI):={}
theorem ZjP {f:Addr}{fd:FuncData} (F:YE K "tours" "tours" ZeI f fd) (UK:Yr P w K mg base 4 "end_mates" ["drawing"] ZeO) (UQ:Yr P w K mg base 2 "tour_from" ["first", "mates"] Zgs) (Yt:mg "len" = none) (Z7:mg "range" = none):Yj P w K mg base Wy 5 f fd ["drawing"] Zcj:=by
 refine F.ok WN (fun vs H Q E h=>?_) (fun cdv A outer s H vs Q E hr h=>?_)
 ·obtain ⟨l,xs,ls,rfl,_⟩:=h
  rfl
 ·obtain ⟨l,xs,ls,rfl,hl,hL,hlen,hW,k⟩:=h
  have n120:=JU hlen
  have M:=JV hW
  generalize hm':Jf (YS ls)=m at *
  generalize hn':Y0 ls=N at *
  refine ⟨_,(Ze (Zn (i:=1) WN.nd rfl (Or.inl rfl) (Zq UK hr (Za (pv 0) Zb)))
   (Ze (Zn (i:=2) WN.nd rfl (Or.inl rfl) (Zk ZaH (ZL (Za Zaw Zb)) (ZE (YH (K:=K) rfl) (by rfl) Yt PySem.boot_len (Za (pv 1) Zb))))
   (Ze (Zn (i:=3) WN.nd rfl (Or.inl rfl) (ZL Zb))
   (Ze (Ym PassesOwn.never rfl (YX (by rfl) Z7 (Za (ZE (YH (K:=K) rfl) (by rfl) Yt PySem.boot_len (Za (pv 1) Zb)) Zb)) (Zl (i:=4) WN.nd rfl (Or.inl rfl)) (Zg (ZZ (ZeP (ZaK (Zv (Zs (K:=K) rfl) (pv 2) (pv 4) (fun _ _=>rfl)))) (Ze (Zn (i:=5) WN.nd rfl (Or.inl rfl) (Zq UQ hr (Za (pv 4) (Za (pv 1) Zb))))
   (Ze (Ym PassesOwn.never rfl (Yk (K:=K) rfl (pv 5)) (Zl (i:=6) WN.nd rfl (Or.inl rfl)) (Zg (Z8 Zaw (Yl (pv 2) (pv 6) set_list))))
   (Zg (Yb (Yg (K:=K) rfl (YN PySem.F.plainAttrs_list PySem.F.slot_list_append PySem.F.type_list_append ZW (pv 3) (Za (pv 5) Zb))))))) ZO)))
   (Zg (Zy (pv 3))))))),?_⟩
  refine ⟨_,rfl,l,xs,ls,rfl,hl,hL,hlen,hW,fun mA H1 fm s1 em=>?_⟩
  rw [hm',hn'] at em
  refine ⟨(by show 1<=sizeLine;decide),fun l0 hl0=>?_⟩
  refine ⟨_,rfl,mA,_,rfl,.inl (Zw.of ((Zi.laid hl0) mA _ em)),?_⟩
  have el:((((tab N m).map V.int).length:Nat):Int)=((N:Nat):Int):=by rw [List.length_map,WB]
  rw [el]
  refine ⟨l0,_,_,rfl,rfl,Zc,by lia,by lia,(by show 1*_<=sizeLine;exact Nat.le_of_lt (Zx (by lia))),fun gA Wg=>?_⟩
  obtain ⟨H2,hH2⟩:∃H2,H2=upd (upd H1 l0 (.lst [.bl false])) gA (.lst (List.replicate ((N:Nat):Int).toNat [V.bl false]).flatten):=⟨_,rfl⟩
  rw [<- hH2]
  have s12:Zi H1 H2:=by rw [hH2];exact (Zi.laid hl0).step Wg
  have hg1:H1 gA=none:=(Zi.laid hl0).free Wg
  have hg2:H2 gA=some (.lst (tab N fun _=>V.bl false)):=by rw [hH2,Zc,Int.toNat_natCast,Zah]
  refine ⟨(by show 0<=sizeLine;decide),fun fA hfA=>?_⟩
  have hf1:H1 fA=none:=s12.free hfA
  have hgf:gA≠fA:=Zf hg2 hfA
  refine ⟨_,rfl,mA,_,rfl,.inl (Zw.of ((s12.step hfA) mA _ em)),_,rfl,?_⟩
  rw [el]
  refine ⟨by lia,by lia,JS (n:=((N:Nat):Int).toNat) (fun i σ H'=>∃(ys:List V) (ts:List (List Int)) (v4 v5 v6:Option V),σ = [some (.ref l),some (.ref mA),some (.ref gA),some (.ref fA),v4,v5,v6]/\Zi H1 H'/\H' gA=some (.lst (tab N fun x=>V.bl (decide (x∈ts.flatten))))/\H' fA=some (.lst ys)/\YK H' ys ts/\Gp m i ts/\(∀t,V.ref t∈ys->t≠gA/\t≠fA/\H1 t=none))
   ⟨[],[],none,none,none,rfl,s12.step hfA,?_,Zc,.nil,.nil,fun t ht=>by cases ht⟩ ?_ ?_⟩
  ·rw [Zh hgf,hg2]
   exact congrArg (fun z=>some (HO.lst z)) (YW fun x _ _=>by simp)
  ·rintro i σ H' hi ⟨ys,ts,v4,v5,v6,rfl,sm,hg,hf,rv,tr,ap⟩
   rw [Int.toNat_natCast] at hi
   have e0:(0:Int)+(i:Int)=(i:Int):=Int.zero_add _
   have good:=tr.good M (by lia)
   refine ⟨_,rfl,_,rfl,gA,_,_,_,rfl,rfl,Zw.of hg,ZfW _ (by lia) (by lia),_,rfl,?_⟩
   rw [e0]
   by_cases hin:(i:Int)∈ts.flatten
   ·rw [decide_eq_true hin]
    refine WE ?_
    exact ⟨ys,ts,_,v5,v6,rfl,sm,hg,hf,rv,tr.skip hin,ap⟩
   ·rw [decide_eq_false hin]
    refine Za9 ?_
    refine ⟨_,rfl,_,rfl,_,mA,m,N,rfl,sm mA _ em,M,by lia,by lia,by lia,fun tA H3 T htA s3 eT isT=>?_⟩
    have tdom:=isT.dom M (by lia) (by lia)
    have tlen:=isT.len M (by lia) (by lia)
    have htg:tA≠gA:=(Zf hg htA).symm
    have htf:tA≠fA:=(Zf hf htA).symm
    refine ⟨_,rfl,tA,rfl,⟨_,Zw.of eT⟩,JI (K:=K) (a:=tA) (xs:=T.map V.int) (fun j σ H''=>∃v6:Option V,σ = [some (.ref l),some (.ref mA),some (.ref gA),some (.ref fA),some (.int (i:Int)),some (.ref tA),v6]/\YC gA H3 H''/\H'' gA=some (.lst (tab N fun x=>V.bl (decide (x∈ts.flatten∨x∈T.take j)))))
     ⟨_,rfl,YC.refl _ _,?_⟩ (fun j σ H'' _ ⟨_,_,fr,_⟩=>Zw.of (fr tA _ eT htg)) ?_ ?_⟩
    ·rw [s3 gA _ hg]
     exact congrArg (fun z=>some (HO.lst z)) (YW fun x _ _=>by simp)
    ·rintro j x σ H'' hx ⟨v6,rfl,fr,hg''⟩
     obtain ⟨t,ht,rfl⟩:=JY hx
     obtain ⟨d0,d1⟩:=tdom t (List.mem_of_getElem? ht)
     obtain ⟨tn,rfl⟩:=Int.eq_ofNat_of_zero_le d0
     refine ⟨_,rfl,_,rfl,gA,_,_,tn,rfl,rfl,hg'',(by rw [WB];exact YR (by lia)),?_⟩
     refine ⟨_,rfl,fr.trans YC.upd,?_⟩
     rw [Zc,ZaT]
     refine congrArg (fun z=>some (HO.lst z)) (YW fun x _ _=>?_)
     rw [List.take_add_one,ht]
     by_cases e:x=(tn:Int)
     ·rw [if_pos e]
      congr 1
      exact (decide_eq_true (.inr (by rw [e];simp))).symm
     ·rw [if_neg e]
      congr 1
      exact decide_eq_decide.mpr (by simp [e])
    ·rintro σ H'' ⟨v6,rfl,fr,hg''⟩
     have hf'':=fr fA _ (s3 fA _ hf) (Ne.symm hgf)
     refine ⟨_,rfl,.inl ⟨rfl,_,Zw.of hf''⟩,_,rfl,fA,_,_,rfl,rfl,hf'',(by rw [rv.len];have:=tr.len M (by lia);exact Zx (by lia)),?_⟩
     have keep:∀c o,H' c=some o->c≠gA->c≠fA->(upd H'' fA (.lst (ys ++ [.ref tA]))) c=some o:=fun c o e n1 n2=>by
      rw [Zh n2]
      exact fr c o (s3 c o e) n1
     refine ⟨ys ++ [.ref tA],ts ++ [T],_,_,_,rfl,fun c o e=>keep c o (sm c o e) (Zf e hg1) (Zf e hf1),?_,Zc,?_,tr.add hin isT,fun t ht=>?_⟩
     ·rw [Zh hgf,hg'',List.length_map,List.take_of_length_le (Nat.le_refl _)]
      refine congrArg (fun z=>some (HO.lst z)) (YW fun x _ _=>?_)
      congr 1
      exact decide_eq_decide.mpr (by rw [List.flatten_append];simp)
     ·refine YK.snoc (rv.mono fun t o ht e=>keep t o e (ap t ht).1 (ap t ht).2.1) ?_
      rw [Zh htf]
      exact fr tA _ eT htg
     ·rcases List.mem_append.mp ht with z | z
      ·exact ap t z
      ·have:t=tA:=V.ref.inj (List.mem_singleton.mp z)
       subst this
       exact ⟨htg,htf,sm.free htA⟩
  ·rintro σ H' ⟨ys,ts,v4,v5,v6,rfl,sm,hg,hf,rv,tr,ap⟩
   rw [Int.toNat_natCast] at tr
   exact ⟨_,rfl,k fA H' ys ts (s1.free hf1) (s1.trans sm) hf rv (fun t ht=>s1.free (ap t ht).2.2) tr⟩
def ZY (ps:List (Int×Int)) (x:Int):Int:=if x∈ps.map (·.1) then 1 else -1
inductive DV (H:Hp):List (Key×V)->List (Int×Int)->Prop
 | nil:DV H [] []
 | snoc {kvs:List (Key×V)}{ps:List (Int×Int)}{u l:Int}{a b:Addr}:DV H kvs ps->H a=some (.tup [.int l,.int 1])->H b=some (.tup [.int u,.int (-1)])->DV H (kvs ++ [(Sum.inl u,.ref a),(Sum.inl l,.ref b)]) (ps ++ [(u,l)])
theorem DV.mono {H H':Hp} (h:∀t p,H t=some (.tup p)->H' t=some (.tup p)) {kvs:List (Key×V)}{ps:List (Int×Int)} (d:DV H kvs ps):DV H' kvs ps:=by
 induction d with
 | nil=>exact .nil
 | snoc _ ea eb ih=>exact .snoc ih (h _ _ ea) (h _ _ eb)
theorem DV.keys {H:Hp}{kvs:List (Key×V)}{ps:List (Int×Int)} (d:DV H kvs ps):kvs.map (·.1)=(ZJ ps).map Sum.inl:=by
 induction d with
 | nil=>rfl
 | snoc _ _ _ ih=>rw [List.map_append,ih,YU,List.map_append];rfl
theorem DV.len {H:Hp}{kvs:List (Key×V)}{ps:List (Int×Int)} (d:DV H kvs ps):kvs.length=2*ps.length:=by
 have:=congrArg List.length d.keys
 simpa [GI] using this
theorem ZcC {kvs:List (Key×V)}{k:Key}{v:V} (h:k∉kvs.map (·.1)):putK kvs k v=kvs ++ [(k,v)]:=by
 unfold putK
 rw [if_neg]
 intro z
 rw [List.any_eq_true] at z
 obtain ⟨p,hp,e⟩:=z
 exact h (List.mem_map.mpr ⟨p,hp,of_decide_eq_true e⟩)
theorem Zfa {kvs:List (Key×V)}{k:Key} (h:k∉kvs.map (·.1)):(kvs.find? fun kv=>decide (kv.1=k))=none:=by
 rw [List.find?_eq_none]
 intro p hp z
 exact h (List.mem_map.mpr ⟨p,hp,of_decide_eq_true z⟩)
theorem Zcm {ps:List (Int×Int)}{H:Hp}{kvs:List (Key×V)} (d:DV H kvs ps) {x:Int} (h:x∉ZJ ps):(Sum.inl x:Key)∉kvs.map (·.1):=by
 rw [d.keys]
 intro z
 obtain ⟨y,hy,e⟩:=List.mem_map.mp z
 cases e
 exact h hy
theorem DV.look {H:Hp}{kvs:List (Key×V)}{ps:List (Int×Int)} (d:DV H kvs ps):(ZJ ps).Nodup -> ∀x∈ZJ ps,∃a,Y5 kvs (Sum.inl x)=some (.ref a)/\H a=some (.tup [.int (Jf ps x),.int (ZY ps x)]):=by
 induction d with
 | nil=>intro _ x hx;cases hx
 | @snoc kvs ps u l a b d ea eb ih=>
  intro nd x hx
  rw [YU] at nd hx
  have ef:ZJ [(u,l)] = [u,l]:=by simp [ZJ]
  rw [ef] at nd hx
  obtain ⟨n1,n2,n3⟩:=List.nodup_append.mp nd
  have hu:u∉ZJ ps:=fun z=>n3 u z u (by simp) rfl
  have hl:l∉ZJ ps:=fun z=>n3 l z l (by simp) rfl
  have ne:u≠l:=by
   have:=(List.nodup_cons.mp n2).1
   simpa using this
  rw [Zdh hu hl ne]
  have dn:ZY (ps ++ [(u,l)]) x=if x=u then 1 else ZY ps x:=by
   unfold ZY
   rw [List.map_append]
   by_cases e:x=u
   ·simp [e]
   ·rw [if_neg e]
    by_cases q:x∈ps.map (·.1)
    ·rw [if_pos q,if_pos (List.mem_append_left _ q)]
    ·rw [if_neg q,if_neg (fun z=>(List.mem_append.mp z).elim q (fun z=>e (by simpa using z)))]
  rw [dn]
  rcases List.mem_append.mp hx with z | z
  ·obtain ⟨c,hv,hc⟩:=ih n1 x z
   have e1:x≠u:=fun e=>hu (e ▸ z)
   have e2:x≠l:=fun e=>hl (e ▸ z)
   refine ⟨c,?_,?_⟩
   ·unfold Y5 at hv ⊢
    rw [List.find?_append]
    cases q:(kvs.find? fun kv=>decide (kv.1=Sum.inl x)) with
    | none=>rw [q] at hv;cases hv
    | some y=>rw [q] at hv;exact hv
   ·rw [if_neg e2,if_neg e1,if_neg e1];exact hc
  ·have z:x=u∨x=l:=by simpa using z
   rcases z with e | e
   ·subst e
    refine ⟨a,?_,?_⟩
    ·unfold Y5
     rw [List.find?_append,Zfa (Zcm d hu)]
     simp
    ·rw [if_neg ne,if_pos rfl,if_pos rfl];exact ea
   ·subst e
    refine ⟨b,?_,?_⟩
    ·unfold Y5
     rw [List.find?_append,Zfa (Zcm d hl)]
     have:¬((Sum.inl u:Key)=Sum.inl x):=fun z=>ne (by cases z;rfl)
     simp [this]
    ·have:ZY ps x = -1:=by
      unfold ZY
      rw [if_neg]
      intro z
      obtain ⟨p,hp,e⟩:=List.mem_map.mp z
      exact hl (List.mem_flatMap.mpr ⟨p,hp,by simp [e]⟩)
     rw [if_pos rfl,if_neg (Ne.symm ne),this];exact eb
theorem few {ls:List (Str×Int)} (hW:Wk ls 0):∀i,i<=ls.length->(rb (ls.take i)).2+2*((Jg ls i).length:Int)<=2*(i:Int)
 | 0,_=>by simp [Jg,Ya,rb]
 | i+1,hi=>by
  have ih:=few hW i (by lia)
  have hq:ls[i]? = some ls[i]:=by simp [show i<ls.length by lia]
  obtain ⟨tk,c⟩:=ZdF hW hq
  rw [WI,tk,YD]
  have kk:∀pr:Str->Bool,Uu ls pr i=pr ls[i].1:=fun pr=>by
   unfold Uu
   rw [hq]
   cases h:pr ls[i].1<;>simp [h]
  rw [kk]
  generalize ls[i]=p at c
  obtain ⟨px,pk⟩:=p
  rcases c with ⟨e,_⟩ | ⟨e,_⟩ | ⟨e,_⟩
  ·have e:px = "born" := e
   subst e
   have hf:Gq "born" = false:=by unfold Gq;decide +kernel
   rw [Wd,hf]
   simp only [Bool.false_eq_true,if_false,List.append_nil]
   lia
  ·have e:px = "cross" := e
   subst e
   have hf:Gq "cross" = false:=by unfold Gq;decide +kernel
   rw [JF,hf]
   simp only [Bool.false_eq_true,if_false,List.append_nil]
   lia
  ·have e:px = "end" := e
   subst e
   have hf:Gq "end" = true:=by unfold Gq;simp
   rw [W9,hf]
   simp only [if_true,List.length_append,List.length_singleton]
   lia
theorem Zg9 {ls:List (Str×Int)} (hW:Wk ls 0):Y0 ls<=ls.length:=by
 have h:=few hW ls.length (Nat.le_refl _)
 obtain ⟨g0,g1,g2⟩:=ZaR hW ls.length (Nat.le_refl _)
 have e:rowAt ls ls.length = []:=by
  unfold rowAt
  rw [List.take_of_length_le (Nat.le_refl _)]
  have:=U5 hW
  exact List.length_eq_zero_iff.mp (by lia)
 rw [e,List.nil_append] at g2
 have hl:=g2.length_eq
 rw [Gx,GI] at hl
 show 2*(Jg ls ls.length).length<=_
 lia
theorem UX:∀n,(Ut n).Pairwise (· < ·)
 | 0=>by simp [Ut]
 | n+1=>by
  unfold Ut
  rw [List.range_succ,List.map_append,List.pairwise_append]
  refine ⟨UX n,by simp,fun a ha b hb=>?_⟩
  have h1:=(YJ (n:=n)).mp ha
  have:b=(n:Int):=by simpa using hb
  lia
def W2 (N:Nat) (ts:List (List Int)):List Int:=(Ut N).filter fun x=>decide (x∉ts.flatten)
theorem Zf9 {N:Nat}{ts:List (List Int)}{x:Int}:x∈W2 N ts ↔ (0<=x/\x<(N:Int))/\x∉ts.flatten:=by
 unfold W2
 rw [List.mem_filter,YJ]
 simp
theorem Zhq {N:Nat}{ts:List (List Int)}{f:Int}{r:List Int} (e:W2 N ts=f::r):(0<=f/\f<(N:Int))/\f∉ts.flatten /\ ∀j:Nat,(j:Int)<f->(j:Int)∈ts.flatten:=by
 have hf:f∈W2 N ts:=by rw [e];exact List.mem_cons_self
 obtain ⟨d,n⟩:=Zf9.mp hf
 refine ⟨d,n,fun j hj=>?_⟩
 by_cases z:(j:Int)∈ts.flatten
 ·exact z
 ·have hm:(j:Int)∈W2 N ts:=Zf9.mpr ⟨⟨by lia,by lia⟩,z⟩
  have pw:(W2 N ts).Pairwise (· < ·):=(UX N).filter _
  rw [e] at hm pw
  rcases List.mem_cons.mp hm with y | y
  ·lia
  ·have:=(List.pairwise_cons.mp pw).1 _ y
   lia
theorem ZgV {N:Nat}{ts:List (List Int)}{T:List Int}:W2 N (ts ++ [T])=(W2 N ts).filter fun x=>decide (x∉T):=by
 unfold W2
 rw [List.filter_filter]
 refine List.filter_congr fun x _=>?_
 rw [List.flatten_append]
 by_cases h1:x∈T<;>by_cases h2:x∈ts.flatten<;>simp [h1,h2]
theorem Zll {N:Nat}{ts:List (List Int)}{T:List Int}{f:Int}{r:List Int} (e:W2 N ts=f::r) (h:f∈T):(W2 N (ts ++ [T])).length<(W2 N ts).length:=by
 rw [ZgV,e,List.filter_cons,if_neg (by simpa using h)]
 have:=List.length_filter_le (fun x=>decide (x∉T)) r
 simp only [List.length_cons]
 lia
theorem Zl5 {m:Int->Int}{N i:Nat}{ts:List (List Int)} (e:W2 N ts = []) (tr:Gp m i ts) (hi:i<=N):Gp m N ts:=by
 have:=tr.jump (N-i) fun j a b=>by
  by_cases z:(j:Int)∈ts.flatten
  ·exact z
  ·have:(j:Int)∈W2 N ts:=Zf9.mpr ⟨⟨by lia,by lia⟩,z⟩
   rw [e] at this
   cases this
 rwa [show i+(N-i)=N by lia] at this
theorem Zlq {m:Int->Int}{N i:Nat}{ts:List (List Int)}{f:Int}{r T:List Int} (e:W2 N ts=f::r) (tr:Gp m i ts) (hi:i<=N) (isT:Y6 m f T):∃j:Nat,j<=N/\Gp m j (ts ++ [T]):=by
 obtain ⟨⟨d0,d1⟩,n,lo⟩:=Zhq e
 obtain ⟨fn,rfl⟩:=Int.eq_ofNat_of_zero_le d0
 have hif:i<=fn:=by
  refine Nat.le_of_not_lt fun z=>n (tr.mem fn z)
 have:=tr.jump (fn-i) fun j a b=>lo j (by lia)
 rw [show i+(fn-i)=fn by lia] at this
 exact ⟨fn+1,by lia,this.add n isT⟩
def ev2 (y:Int):Int:=if y % 2=0 then 1 else -1
theorem ZmV (y:Int):y+ev2 y=bw y:=by unfold ev2 bw;split<;>lia
def fl (dn:Int->Int):List Int->Int
 | x::y::r=>dn x+ev2 y+fl dn r
 | _=>0
theorem Zep (dn:Int->Int) (x y:Int):∀(n:Nat) (A:List Int),A.length=2*n->fl dn (A ++ [x,y])=fl dn A+dn x+ev2 y
 | 0,A,h=>by
  have:A = []:=List.length_eq_zero_iff.mp (by lia)
  subst this
  simp [fl]
 | n+1,[],h=>by simp at h
 | n+1,[a],h=>by simp at h;lia
 | n+1,a::b::r,h=>by
  have ih:=Zep dn x y n r (by simp at h;lia)
  simp only [List.cons_append,fl,ih]
  lia
theorem ZmM (dn m:Int->Int) (f:Int) (i:Nat):fl dn (Wh m f (i+1))=fl dn (Wh m f i)+dn (gt m f i)+ev2 (m (gt m f i)):=Zep dn _ _ i _ (J3 m f i)
def Ze1 (i:Int):Int:=if i<0 then -i else i
def WV (z:Addr) (dn:Int->Int) (H:Hp) (ys:List V) (ts:List (List Int)):Prop:=Paired (fun v (T:List Int)=>∃a g,v=V.ref a/\H a=some (.tup [.ref g,.int (Ze1 (fl dn T) / 2)])/\H g=some (.lst (T.map V.int))/\g≠z) ys ts
theorem WV.mono {z:Addr}{dn:Int->Int}{H H':Hp} (h:∀c o,c≠z->H c=some o->H' c=some o) (hz:∃xs,H z=some (.lst xs)):∀{ys:List V}{ts:List (List Int)},WV z dn H ys ts->WV z dn H' ys ts
 | _,_,.nil=>.nil
 | _,_,.cons ⟨a,g,e,ha,hg,n⟩ r=>.cons ⟨a,g,e,h a _ (fun y=>by obtain ⟨xs,hz⟩:=hz;rw [y,hz] at ha;cases ha) ha,h g _ n hg,n⟩ (WV.mono h hz r)
theorem WV.same {z:Addr}{dn:Int->Int}{H H':Hp} (s:Zi H H'):∀{ys:List V}{ts:List (List Int)},WV z dn H ys ts->WV z dn H' ys ts
 | _,_,.nil=>.nil
 | _,_,.cons ⟨a,g,e,ha,hg,n⟩ r=>.cons ⟨a,g,e,s a _ ha,s g _ hg,n⟩ (WV.same s r)
theorem WV.len {z:Addr}{dn:Int->Int}{H:Hp}{ys:List V}{ts:List (List Int)} (h:WV z dn H ys ts):ys.length=ts.length:=Paired.length h
theorem Zen {r:List Int}{k:Nat} (h:k+1<r.length):Gg (r.map V.int) (some (k:Int)) (some ((k:Int)+2)) = [V.int (r.getD k 0),V.int (r.getD (k+1) 0)]:=by
 have e1:HT.Jj (r.map V.int).length 0 (some (k:Int))=k:=by
  rw [HT.Zbb,List.length_map]
  omega
 have e2:HT.Jj (r.map V.int).length (r.map V.int).length (some ((k:Int)+2))=k+2:=by
  rw [show (k:Int)+2=((k+2:Nat):Int) by omega,HT.Zbb,List.length_map]
  omega
 unfold Gg
 rw [e1,e2,show k+2-k=2 by omega,<- List.map_drop,<- List.map_take]
 have c:=Zk8 r k h
 have hl:(r.take k).length=k:=by rw [List.length_take];omega
 have e3:r.drop k = [r.getD k 0,r.getD (k+1) 0]++r.drop (k+2):=by
  conv=>lhs;rw [c]
  rw [List.append_assoc,List.drop_append_of_le_length (by omega),List.drop_eq_nil_of_le (by omega),List.nil_append]
 rw [e3]
 simp
theorem ZlN (y:Int):atI [V.int 1,V.int (-1)] (y % 2)=some (V.int (ev2 y)):=by
 unfold ev2
 rcases Int.emod_two_eq y with e | e<;>rw [e]
 ·exact Zo (j:=0) rfl
 ·exact Zo (j:=1) rfl
def ZeH:Sp:=fun vs H Q _=>∃(l:Addr) (xs:List V) (ls:List (Str×Int)),vs = [.ref l]/\H l=some (.lst xs)/\ZC H xs ls/\ls.length<=60/\Wk ls 0 /\
 ∀(p:Addr) (H':Hp) (ys:List V) (ts:List (List Int)),H p=none->Zi H H'->H' p=some (.lst ys)->WV p (ZY (YS ls)) H' ys ts->Gp (Jf (YS ls)) (Y0 ls) ts->Q (.ref p) H'
abbrev Wv:Stmt:=top 40
theorem ZF:Zz ["_law_drawing_here", "_law_rows_here", "_law_mates", "_law_t", "_law_letter", "_law_upper", "_law_lower", "_law_found", "_law_left", "_law_gone", "_law_fall", "_law_here", "_law_there", "_law_down"] ["_law_drawing_here"] (Zj Wv):={}
theorem ZjE {f:Addr}{fd:FuncData} (F:YE K "_law_walks" "_law_walks" Wv f fd) (YI:Yr P w K mg base 1 "_law_rows" ["_law_drawing_here"] U8) (ZI:mg "enumerate" = none) (J9:mg "sorted" = none) (Zar:mg "abs" = none):Yj P w K mg base Wy 2 f fd ["_law_drawing_here"] ZeH:=by
 refine F.ok ZF (fun vs H Q E h=>?_) (fun cdv A outer s H vs Q E hr h=>?_)
 ·obtain ⟨l,xs,ls,rfl,_⟩:=h
  rfl
 ·obtain ⟨l,xs,ls,rfl,hl,hL,hlen,hW,k⟩:=h
  have hxl:=hL.len
  have n60:=Zg9 hW
  have M:=JV hW
  have nd:=Zd1 hW
  have pm:=Wc hW
  refine ⟨_,(Ze (Zn (i:=1) ZF.nd rfl (Or.inl rfl) (Zq YI hr (Za (pv 0) Zb)))
   (Ze (Zn (i:=2) ZF.nd rfl (Or.inl rfl) Zfn)
   (Ze (Ym PassesOwn.never rfl (WM (K:=K) rfl (by rfl) ZI (Za (pv 0) Zb)) (ZU (K:=K) (n:=2) rfl rfl (Zm (Zl (i:=3) ZF.nd rfl (Or.inl rfl)) (Zm (Zl (i:=4) ZF.nd rfl (Or.inl rfl)) ZP))) (Zg (ZZ (Zr Yc (Zv (ZK (K:=K) rfl) (pv 4) Zd (fun _ _=>rfl)) ZG (Zp _)) (Ze (Z8 (YA (Ji (K:=K) rfl) (Zv (Zs (K:=K) rfl) (pv 1) (pv 3) (fun _ _=>rfl)) (Yh (Zv (ZK (K:=K) rfl) (pv 4) Zd (fun _ _=>rfl))) (Yh (Zk Zu (Zv (ZK (K:=K) rfl) (pv 4) Zd (fun _ _=>rfl)) Zd))) (Zch (K:=K) (n:=2) rfl rfl (Zm (Zl (i:=5) ZF.nd rfl (Or.inl rfl)) (Zm (Zl (i:=6) ZF.nd rfl (Or.inl rfl)) ZP))))
   (Zg (Z8 (ZA (Za (ZA (Za (pv 6) (Za Zd Zb))) (Za (ZA (Za (pv 5) (Za (ZbY UI Zd) Zb))) Zb))) (ZU (K:=K) (n:=2) rfl rfl (Zm (Yl (pv 2) (pv 5) (set_dict (Jb hr))) (Zm (Yl (pv 2) (pv 6) (set_dict (Jb hr))) ZP)))))) ZO)))
   (Ze (Zn (i:=7) ZF.nd rfl (Or.inl rfl) (ZL Zb))
   (Ze (Zn (i:=8) ZF.nd rfl (Or.inl rfl) (ZE (Zec rfl) (by rfl) J9 boot_sorted (Za (pv 2) Zb)))
   (Ze (Za4 PassesOwn.never (Zr (Zh7 (K:=K) rfl hr.units) (pv 8) (ZL Zb) (Zp _)) (Ze (Zn (i:=9) ZF.nd rfl (Or.inr rfl) (ZL Zb))
   (Ze (Zn (i:=10) ZF.nd rfl (Or.inl rfl) Zd)
   (Ze (Zn (i:=11) ZF.nd rfl (Or.inl rfl) (Zv (Zs (K:=K) rfl) (pv 8) Zd (fun _ _=>rfl)))
   (Ze (Za4 PassesOwn.never (Zr (Zax (K:=K) rfl) (pv 11) (pv 9) rfl) (Ze (Z8 (Zv (GU (Jb hr)) (pv 2) (pv 11) (fun _ _=>rfl)) (ZU (K:=K) (n:=2) rfl rfl (Zm (Zl (i:=12) ZF.nd rfl (Or.inl rfl)) (Zm (Zl (i:=13) ZF.nd rfl (Or.inl rfl)) ZP))))
   (Ze (Zn (i:=9) ZF.nd rfl (Or.inr rfl) (Zk Gh (pv 9) (ZL (Za (pv 11) (Za (pv 12) Zb)))))
   (Ze (Zn (i:=10) ZF.nd rfl (Or.inl rfl) (Zk Zu (Zk Zu (pv 10) (pv 13)) (Zv (Zs (K:=K) rfl) (ZL (Za Zd (Za (ZbY UI Zd) Zb))) (Zk WQ (pv 12) Zd) (fun _ _=>rfl))))
   (Zg (Zn (i:=11) ZF.nd rfl (Or.inl rfl) (Zk Zu (pv 12) (Zv (Zs (K:=K) rfl) (ZL (Za Zd (Za (ZbY UI Zd) Zb))) (Zk WQ (pv 12) Zd) (fun _ _=>rfl)))))))))
   (Ze (Yb (Yg (K:=K) rfl (YN PySem.F.plainAttrs_list PySem.F.slot_list_append PySem.F.type_list_append ZW (pv 7) (Za (ZA (Za (pv 9) (Za (Zk Zbi (ZE Zbo (by rfl) Zar boot_abs (Za (pv 10) Zb)) Zd) Zb))) Zb))))
   (Zg (ZdE (i:=8) ZF.nd rfl (Or.inl rfl) (Ls:=["_law_thread"]) (Fs:=["_law_gone"]) (fi:=[9]) (Yi.of (show YT ["_law_drawing_here", "_law_rows_here", "_law_mates", "_law_t", "_law_letter", "_law_upper", "_law_lower", "_law_found", "_law_left", "_law_gone", "_law_fall", "_law_here", "_law_there", "_law_down"] (Zj Wv) _ ["_law_gone"] [9]=true by decide +kernel)) rfl (Yk (K:=K) rfl (pv 8)) (fun cl C s3 H3 ex=>⟨(Zl (i:=0) (show ((["_law_thread"]:List Str)++(["_law_gone"]:List Str)).Nodup by decide +kernel) rfl (Or.inl rfl)),(Zct (Zr (Zax (K:=K) rfl) (pv 0) (pv 1) rfl)),(pv 0)⟩)))))))))
   (Zg (Zy (pv 7))))))))),?_⟩
  refine ⟨_,rfl,l,xs,ls,rfl,hl,hL,hlen,hW,fun R H1 ys fR s1 eR rv ap ndr=>?_⟩
  refine fun dA hdA=>?_
  have hdH:H dA=none:=s1.free hdA
  have hl1:=s1 l _ hl
  have hL1:=hL.same s1
  refine ⟨_,rfl,l,rfl,⟨_,Zw.of ((Zi.laid hdA) l _ hl1)⟩,ZaY (K:=K) (a:=l) (xs:=xs) (fun i σ H'=>∃(kvs:List (Key×V)) (v3 v4 v5 v6:Option V),σ = [some (.ref l),some (.ref R),some (.ref dA),v3,v4,v5,v6,none,none,none,none,none,none,none]/\Zi H1 H'/\H' dA=some (.dK kvs)/\DV H' kvs (Jg ls i))
   ⟨[],none,none,none,none,rfl,Zi.laid hdA,Zc,.nil⟩ (fun i σ H' _ ⟨_,_,_,_,_,_,sm,_⟩=>Zw.of (sm l _ hl1)) ?_ ?_⟩
  ·rintro i x p σ H' hx ⟨kvs,v3,v4,v5,v6,rfl,sm,hd,dv⟩ hp
   obtain ⟨⟨qx,qk⟩,ta,hq,rfl,hta⟩:=hL1.get hx
   have hta':=(sm.step (o:=.tup [.int i,.ref ta]) hp) ta _ hta
   obtain ⟨G0,hG0⟩:∃G0,G0=upd H' p (.tup [.int i,.ref ta]):=⟨_,rfl⟩
   have sp:Zi H' G0:=by rw [hG0];exact Zi.laid hp
   have sg0:Zi H1 G0:=sm.trans sp
   have hd0:=sp dA _ hd
   have kk:Uu ls Gq i=Gq qx:=by
    unfold Uu
    rw [hq]
    cases h:Gq qx<;>simp [h]
   refine ⟨p,_,rfl,YB.of Zc,rfl,_,_,rfl,_,_,rfl,rfl,?_⟩
   rw [<- hG0] at hta' ⊢
   refine ⟨_,rfl,ta,_,_,_,rfl,rfl,YB.of hta',Zo (j:=0) rfl,rfl,_,rfl,?_⟩
   refine ZX (fun hc=>?_) (fun hc=>?_)
   ·have e:qx = "end" := V.str.inj (of_decide_eq_true hc)
    subst e
    obtain ⟨k0,k1,pe⟩:=Zfk hW hq (fun z=>nb2 z)
    obtain ⟨kn,rfl⟩:=Int.eq_ofNat_of_zero_le (show 0<=qk from k0)
    simp only [Int.toNat_natCast] at k1 pe
    have hi:i<ls.length:=(List.getElem?_eq_some_iff.mp hq).1
    obtain ⟨ra,hra,hrr⟩:=rv.at (U9 ls (i:=i) (n:=ls.length+1) (by lia))
    have ei:Uu ls Gq i=true:=by rw [kk];unfold Gq;simp
    have pin:Y9 ls i∈YS ls:=List.mem_map.mpr ⟨(i:Int),by
     unfold Ya
     exact List.mem_filterMap.mpr ⟨i,List.mem_range.mpr hi,by rw [if_pos ei]⟩,by simp⟩
    have es:Jg ls (i+1)=Jg ls i ++ [Y9 ls i]:=by rw [WI,if_pos ei]
    obtain ⟨u,hu⟩:∃u,u=(rowAt ls i).getD kn 0:=⟨_,rfl⟩
    obtain ⟨w,hw⟩:∃w,w=(rowAt ls i).getD (kn+1) 0:=⟨_,rfl⟩
    rw [<- hu,<- hw] at pe
    have nde:(ZJ (Jg ls (i+1))).Nodup:=by
     have e:Ya ls Gq (i+1) <+: Ya ls Gq ls.length:=by
      have:∀d,Ya ls Gq (i+1) <+: Ya ls Gq (i+1+d):=by
       intro d
       induction d with
       | zero=>exact List.prefix_refl _
       | succ d ih=>
        refine ih.trans ?_
        show _ <+: Ya ls Gq (i+1+d+1)
        rw [WJ]
        exact List.prefix_append _ _
      have:=this (ls.length-(i+1))
      rwa [show i+1+(ls.length-(i+1))=ls.length by lia] at this
     obtain ⟨r,e⟩:=e
     have:YS ls=Jg ls (i+1)++r.map (fun t=>Y9 ls t.toNat):=by
      unfold YS Jg
      rw [<- e,List.map_append]
     rw [this,YU] at nd
     exact (List.nodup_append.mp nd).1
    rw [es,YU,pe] at nde
    have ef:ZJ [(u,w)] = [u,w]:=by simp [ZJ]
    rw [ef] at nde
    obtain ⟨n1,n2,n3⟩:=List.nodup_append.mp nde
    have nu:u∉ZJ (Jg ls i):=fun z=>n3 u z u (by simp) rfl
    have nw:w∉ZJ (Jg ls i):=fun z=>n3 w z w (by simp) rfl
    have nuw:u≠w:=by
     have:=(List.nodup_cons.mp n2).1
     simpa using this
    have e2:((Jg ls i).length)<=60:=by
     unfold Jg
     rw [List.length_map]
     exact Nat.le_trans (J8 _ _ _) (by lia)
    refine ⟨_,rfl,_,rfl,R,_,_,_,rfl,rfl,Zw.of (sg0 R _ eR),Zo hra,_,rfl,ta,_,_,_,rfl,rfl,YB.of hta',Zo (j:=1) rfl,_,rfl,_,rfl,ta,_,_,_,rfl,rfl,YB.of hta',Zo (j:=1) rfl,_,_,rfl,rfl,_,rfl,ra,_,rfl,Zw.of (sg0 ra _ hrr),fun cA hcA=>?_⟩
    rw [Zen k1,<- hu,<- hw]
    refine ⟨cA,_,rfl,Zw.of Zc,rfl,_,_,rfl,_,_,rfl,rfl,?_⟩
    obtain ⟨G1,hG1⟩:∃G1,G1=upd G0 cA (.lst [.int u,.int w]):=⟨_,rfl⟩
    have sg1:Zi G0 G1:=by rw [hG1];exact Zi.laid hcA
    rw [<- hG1]
    refine ⟨_,rfl,(by show 2<=sizeLine;decide),fun t1 ht1=>?_⟩
    obtain ⟨G2,hG2⟩:∃G2,G2=upd G1 t1 (.tup [.int w,.int 1]):=⟨_,rfl⟩
    have sg2:Zi G1 G2:=by rw [hG2];exact Zi.laid ht1
    have e21:G2 t1=some (.tup [.int w,.int 1]):=by rw [hG2];exact Zc
    rw [<- hG2]
    refine ⟨_,rfl,1,rfl,(by show 2<=sizeLine;decide),fun t2 ht2=>?_⟩
    obtain ⟨G3,hG3⟩:∃G3,G3=upd G2 t2 (.tup [.int u,.int (-1)]):=⟨_,rfl⟩
    have sg3:Zi G2 G3:=by rw [hG3];exact Zi.laid ht2
    have e32:G3 t2=some (.tup [.int u,.int (-1)]):=by rw [hG3];exact Zc
    rw [<- hG3]
    refine ⟨(by show 2<=sizeLine;decide),fun t3 ht3=>?_⟩
    obtain ⟨G4,hG4⟩:∃G4,G4=upd G3 t3 (.tup [.ref t1,.ref t2]):=⟨_,rfl⟩
    have sg4:Zi G3 G4:=by rw [hG4];exact Zi.laid ht3
    have e43:G4 t3=some (.tup [.ref t1,.ref t2]):=by rw [hG4];exact Zc
    rw [<- hG4]
    have sAll:Zi G0 G4:=((sg1.trans sg2).trans sg3).trans sg4
    have hd4:=sAll dA _ hd0
    have kl:kvs.length<sizeLine:=by rw [dv.len];exact Zx (by lia)
    have o1:(Sum.inl u:Key)∉kvs.map (·.1):=Zcm dv nu
    have p1:putK kvs (Sum.inl u) (.ref t1)=kvs ++ [(Sum.inl u,.ref t1)]:=ZcC o1
    have o2:(Sum.inl w:Key)∉(kvs ++ [((Sum.inl u:Key),V.ref t1)]).map (·.1):=by
     rw [List.map_append]
     intro z
     rcases List.mem_append.mp z with z | z
     ·exact Zcm dv nw z
     ·have:(Sum.inl w:Key)=Sum.inl u:=by simpa using z
      cases this
      exact nuw rfl
    have p2:putK (kvs ++ [((Sum.inl u:Key),V.ref t1)]) (Sum.inl w) (.ref t2)=kvs ++ [((Sum.inl u:Key),V.ref t1),(Sum.inl w,.ref t2)]:=by
     rw [ZcC o2]
     simp
    refine ⟨t3,_,rfl,YB.of e43,rfl,_,_,rfl,_,rfl,_,rfl,dA,_,rfl,ZfF.k (k:=Sum.inl u) hd4 kl,?_⟩
    rw [p1]
    refine ⟨_,_,rfl,_,rfl,_,rfl,dA,_,rfl,ZfF.k (k:=Sum.inl w) Zc (by rw [List.length_append,dv.len];exact Zx (by show _+1<=1000;lia)),rfl,?_⟩
    rw [p2,Jm]
    refine ⟨_,_,_,_,_,rfl,fun c o e=>?_,Zc,?_⟩
    ·rw [Zh (Zf e hdA)]
     exact sAll c o (sg0 c o e)
    ·rw [es,pe]
     have tk:∀t q,G4 t=some (.tup q)->(upd G4 dA (.dK (kvs ++ [((Sum.inl u:Key),V.ref t1),(Sum.inl w,.ref t2)]))) t=some (.tup q):=fun t q e=>by
      rw [Zh (ZaZ e hd4 (by intro z;cases z))]
      exact e
     exact DV.snoc (dv.mono fun t q e=>tk t q (sAll t _ (sp t _ e))) (tk _ _ (sg4 t1 _ (sg3 t1 _ e21))) (tk _ _ (sg4 t2 _ e32))
   ·have e:¬qx = "end" := fun z=>hc (decide_eq_true (congrArg V.str z))
    have ei:Uu ls Gq i=false:=by rw [kk];unfold Gq;simp [e]
    have es:Jg ls (i+1)=Jg ls i:=by rw [WI,ei];simp
    refine ⟨kvs,_,_,_,_,rfl,sg0,hd0,?_⟩
    rw [es]
    exact dv.mono fun t q e=>sp t _ e
  ·rintro σ H2 ⟨kvs,v3,v4,v5,v6,rfl,sm2,hd2,dv2⟩
   rw [hxl] at dv2
   have s02:Zi H H2:=s1.trans sm2
   refine ⟨(by show 0<=sizeLine;decide),fun fA hfA=>?_⟩
   have hfd:dA≠fA:=Zf hd2 hfA
   refine ⟨_,rfl,dA,kvs,ZJ (YS ls),rfl,(Zi.laid hfA) dA _ hd2,dv2.keys,(by rw [GI];show Y0 ls<64;lia),fun lA ns hlA hperm hsort=>?_⟩
   have ens:ns=Ut (Y0 ls):=Zay (hperm.trans pm) hsort ((UX _).imp fun h=>Int.le_of_lt h)
   subst ens
   have hlf:lA≠fA:=(Zf (Zc (H:=H2) (a:=fA) (o:=.lst [])) hlA).symm
   generalize hmm:Jf (YS ls)=m at *
   generalize hdn:ZY (YS ls)=dn at *
   generalize hnn:Y0 ls=N at *
   have dget:∀(G:Hp),Zi H2 G -> ∀x:Int,0<=x->x<(N:Int) -> ∃a,Uv G dA (.int x) (some (.ref a))/\G a=some (.tup [.int (m x),.int (dn x)]):=fun G sG x x0 x1=>by
    obtain ⟨a,hv,ha⟩:=dv2.look nd x (pm.mem_iff.mpr (YJ.mpr ⟨x0,x1⟩))
    have:=Uv.k (k:=Sum.inl x) (sG dA _ hd2)
    rw [hv] at this
    have e1:Jf (Jg ls ls.length)=m:=hmm
    have e2:ZY (Jg ls ls.length)=dn:=hdn
    rw [e1,e2] at ha
    exact ⟨a,this,sG a _ ha⟩
   refine ⟨fun mm σ H'=>∃(ts:List (List Int)) (ys:List V) (i:Nat) (lf:Addr) (v9 v10 v11 v12 v13:Option V),mm=(W2 N ts).length /\ σ = [some (.ref l),some (.ref R),some (.ref dA),v3,v4,v5,v6,some (.ref fA),some (.ref lf),v9,v10,v11,v12,v13]/\Zi H2 H'/\H' fA=some (.lst ys)/\H' lf=some (.lst ((W2 N ts).map V.int))/\lf≠fA/\WV fA dn H' ys ts/\Gp m i ts/\i<=N,
    ⟨_,[],[],0,lA,none,none,none,none,none,rfl,rfl,(Zi.laid hfA).step hlA,?_,?_,hlf,.nil,.nil,Nat.zero_le _⟩,?_⟩
   ·rw [Zh (Ne.symm hlf),Zc]
   ·rw [Zc]
    congr 3
    unfold W2
    rw [List.filter_eq_self.mpr]
    intro x _
    simp
   rintro mm σ H' ⟨ts,ys,i,lf,v9,v10,v11,v12,v13,rfl,rfl,sm,hf,hlf',nlf,wv,tr,hi⟩
   refine ⟨_,rfl,(by show 0<=sizeLine;decide),fun nA hnA=>?_⟩
   obtain ⟨G0,hG0⟩:∃G0,G0=upd H' nA (.lst []):=⟨_,rfl⟩
   have s0:Zi H' G0:=by rw [hG0];exact Zi.laid hnA
   rw [<- hG0]
   refine ⟨lf,nA,_,rfl,rfl,Zw.of (s0 lf _ hlf'),Zw.of (by rw [hG0];exact Zc),_,rfl,?_⟩
   cases elf:W2 N ts with
   | nil=>
    refine WE ?_
    refine ⟨_,rfl,k fA G0 ys ts (s02.free hfA) (s02.trans (sm.trans s0)) (s0 fA _ hf) (wv.same s0) (Zl5 elf tr hi)⟩
   | cons f0 rest=>
    refine Za9 ?_
    obtain ⟨⟨f0lo,f0hi⟩,f0n,f0l⟩:=Zhq elf
    have dom:=YF M f0lo f0hi
    refine ⟨fun σ' H''=>∃(ts':List (List Int)) (ys:List V) (i:Nat) (lf:Addr) (v9 v10 v11 v12 v13:Option V),(W2 N ts').length<(f0::rest).length /\ σ' = [some (.ref l),some (.ref R),some (.ref dA),v3,v4,v5,v6,some (.ref fA),some (.ref lf),v9,v10,v11,v12,v13]/\Zi H2 H''/\H'' fA=some (.lst ys)/\H'' lf=some (.lst ((W2 N ts').map V.int))/\lf≠fA/\WV fA dn H'' ys ts'/\Gp m i ts'/\i<=N,
     fun σ' H'' ⟨ts',ys,i,lf,v9,v10,v11,v12,v13,a,b⟩=>⟨_,a,ts',ys,i,lf,v9,v10,v11,v12,v13,rfl,b⟩,?_⟩
    refine ⟨(by show 0<=sizeLine;decide),fun gA Wg=>?_⟩
    have s1':Zi H' (upd G0 gA (.lst [])):=s0.step Wg
    have hgf:gA≠fA:=(Zf (s0 fA _ hf) Wg).symm
    refine ⟨_,rfl,lf,_,_,V.int f0,rfl,rfl,Zw.of (s1' lf _ hlf'),Zo (j:=0) (by rw [elf];rfl),?_⟩
    refine ⟨fun m2 σ H''=>∃(j:Nat) (g:Addr) (v12 v13:Option V),m2+j=N+1 /\ σ = [some (.ref l),some (.ref R),some (.ref dA),v3,v4,v5,v6,some (.ref fA),some (.ref lf),some (.ref g),some (.int (fl dn (Wh m f0 j))),some (.int (gt m f0 j)),v12,v13]/\Zi H' H''/\H'' g=some (.lst ((Wh m f0 j).map V.int))/\g≠fA/\(∀q,1<=q->q<j->gt m f0 q≠f0),
     ⟨N+1,0,gA,v12,v13,rfl,rfl,s1',Zc,hgf,fun q a b=>by lia⟩,?_⟩
    rintro m2 σ H'' ⟨j,g,w12,w13,hj,rfl,sm2',hg,ngf,nf⟩
    have short:=Gy M f0lo f0hi nf
    have s22:Zi H2 H'':=sm.trans sm2'
    refine ⟨_,rfl,_,rfl,g,_,rfl,.inl (Zw.of hg),rfl,Zd7 _,_,rfl,?_⟩
    show if (!inV (V.int (gt m f0 j)) ((Wh m f0 j).map V.int))=true then _ else _
    rw [Ze8]
    by_cases hin:gt m f0 j∈Wh m f0 j
    ·rw [decide_eq_true hin]
     refine WE ?_
     obtain ⟨j1,ej⟩:=(Zi5 M f0lo f0hi nf).mp hin
     have isT:Y6 m f0 (Wh m f0 j):=⟨j,j1,ej,nf,rfl⟩
     have hf'':=sm2' fA _ hf
     refine ⟨_,rfl,.inl ⟨rfl,_,Zw.of hf''⟩,_,rfl,_,rfl,_,rfl,_,_,rfl,rfl,⟨by decide,by decide⟩,(by show 2<=sizeLine;decide),fun tt htt=>?_⟩
     have hft:fA≠tt:=Zf hf'' htt
     have yl:ys.length<sizeLine:=by rw [wv.len];have:=tr.len M (by lia);exact Zx (by lia)
     refine ⟨fA,_,_,rfl,rfl,(by rw [Zh hft];exact hf''),yl,?_⟩
     have K5:∀(o1 o2:HO) c o,H'' c=some o->c≠fA->(upd (upd H'' tt o1) fA o2) c=some o:=fun o1 o2 c o e n=>by
      rw [Zh n,Zh (Zf e htt)]
      exact e
     have hlf2:H'' lf=some (.lst ((f0::rest).map V.int)):=by
      have:=sm2' lf _ hlf'
      rw [elf] at this
      exact this
     obtain ⟨j2,hj2,tr2⟩:=Zlq elf tr hi isT
     have f0T:f0∈Wh m f0 j:=isT.self
     have less:=Zll elf f0T
     rw [elf] at less
     have llen:(f0::rest).length<=120:=by
      rw [<- elf]
      unfold W2
      refine Nat.le_trans (List.length_filter_le _ _) ?_
      rw [Gx]
      lia
     refine ⟨_,rfl,lf,rfl,⟨_,Zw.of (K5 _ _ lf _ hlf2 nlf)⟩,WA (K:=K) (a:=lf) (xs:=(f0::rest).map V.int) (by rw [List.length_map];exact Nat.le_of_lt (Zx (by lia))) (fun i zs G=>((∀c o,H'' c=some o->c≠fA->G c=some o)/\G fA=some (.lst (ys ++ [.ref tt]))/\G tt=some (.tup [.ref g,.int (Ze1 (fl dn (Wh m f0 j)) / 2)]))/\zs=(((f0::rest).take i).filter fun x=>decide (x∉Wh m f0 j)).map V.int)
      ⟨⟨fun c o e n=>K5 _ _ c o e n,Zc,by rw [Zh (Ne.symm hft),Zc];rfl⟩,by simp⟩ (fun i zs G p=>?_) (fun i zs G p=>Zw.of (p.1.1 lf _ hlf2 nlf)) (fun i x zs G hx p=>?_) (fun zs G p D hD=>?_)⟩
     ·rw [p.2,List.length_map]
      exact Nat.le_trans (List.length_filter_le _ _) (by rw [List.length_take];lia)
     ·obtain ⟨kp,rfl⟩:=p
      obtain ⟨t,ht,rfl⟩:=JY hx
      have tk:((f0::rest).take (i+1)).filter (fun x=>decide (x∉Wh m f0 j))=((f0::rest).take i).filter (fun x=>decide (x∉Wh m f0 j))++(if t∈Wh m f0 j then [] else [t]):=by
       rw [List.take_add_one,ht,List.filter_append]
       by_cases z:t∈Wh m f0 j<;>simp [z]
      refine ⟨_,rfl,_,rfl,g,_,rfl,.inl (Zw.of (kp.1 g _ hg ngf)),rfl,Zd7 _,_,rfl,?_⟩
      show if (!inV (V.int t) ((Wh m f0 j).map V.int))=true then _ else _
      rw [Ze8]
      by_cases z:t∈Wh m f0 j
      ·rw [decide_eq_true z]
       refine WE ⟨kp,?_⟩
       rw [tk,if_pos z,List.append_nil]
      ·rw [decide_eq_false z]
       refine Za9 ⟨_,rfl,kp,?_⟩
       rw [tk,if_neg z,List.map_append]
       rfl
     ·obtain ⟨kp,rfl⟩:=p
      have hDf:D≠fA:=(Zf kp.2.1 hD).symm
      have kD:∀c o,H'' c=some o->c≠fA->(upd G D (.lst ((((f0::rest).take ((f0::rest).map V.int).length).filter fun x=>decide (x∉Wh m f0 j)).map V.int))) c=some o:=fun c o e n=>by
       have e2:=kp.1 c o e n
       rw [Zh (Zf e2 hD)]
       exact e2
      refine ⟨ts ++ [Wh m f0 j],ys ++ [.ref tt],j2,D,_,_,_,_,_,less,rfl,fun c o e=>kD c o (s22 c o e) (Zf e hfA),?_,?_,hDf,?_,tr2,hj2⟩
      ·rw [Zh (Ne.symm hDf)]
       exact kp.2.1
      ·rw [Zc,ZgV,elf,List.length_map,List.take_of_length_le (Nat.le_refl _)]
      ·refine Paired.snoc (wv.mono (fun c o n e=>kD c o (sm2' c o e) n) ⟨_,hf⟩) ⟨tt,g,rfl,?_,kD g _ hg ngf,ngf⟩
       rw [Zh (Zf kp.2.2 hD)]
       exact kp.2.2
    ·rw [decide_eq_false hin]
     refine Za9 ?_
     have nf':∀q,1<=q->q<j+1->gt m f0 q≠f0:=fun q a b e=>by
      by_cases z:q=j
      ·subst z;exact hin ((Zi5 M f0lo f0hi nf).mpr ⟨a,e⟩)
      ·exact nf q a (by lia) e
     have short2:=Gy M f0lo f0hi nf'
     refine ⟨fun σ' H3=>∃(g:Addr) (v12 v13:Option V),σ' = [some (.ref l),some (.ref R),some (.ref dA),v3,v4,v5,v6,some (.ref fA),some (.ref lf),some (.ref g),some (.int (fl dn (Wh m f0 (j+1)))),some (.int (gt m f0 (j+1))),v12,v13]/\Zi H' H3/\H3 g=some (.lst ((Wh m f0 (j+1)).map V.int))/\g≠fA,
      fun σ' H3 ⟨g,a,b,e,h1,h2,h3⟩=>⟨m2-1,by lia,j+1,g,a,b,by lia,e,h1,h2,h3,nf'⟩,?_⟩
     obtain ⟨a,dg,ha⟩:=dget H'' s22 (gt m f0 j) (dom j).1 (dom j).2
     refine ⟨_,rfl,_,rfl,dA,_,rfl,dg,?_⟩
     refine ⟨a,_,rfl,YB.of ha,rfl,_,_,rfl,_,_,rfl,rfl,?_⟩
     refine ⟨_,rfl,_,rfl,_,rfl,(by show 2<=sizeLine;decide),fun b hb=>?_⟩
     refine ⟨g,b,_,_,rfl,rfl,(Zi.laid hb) g _ hg,Zc,(by rw [List.length_map,J3];exact Nat.le_of_lt (Zx (by show _+2<=1000;lia))),fun g' hg'=>?_⟩
     have s3:Zi H'' (upd (upd H'' b (.lst [.int (gt m f0 j),.int (m (gt m f0 j))])) g' (.lst ((Wh m f0 j).map V.int ++ [.int (gt m f0 j),.int (m (gt m f0 j))]))):=(Zi.laid hb).step hg'
     have ng':g'≠fA:=(Zf ((Zi.laid (o:=.lst [.int (gt m f0 j),.int (m (gt m f0 j))]) hb) fA _ (sm2' fA _ hf)) hg').symm
     refine ⟨_,rfl,_,rfl,_,_,rfl,rfl,1,rfl,(by show 2<=sizeLine;decide),fun c hc=>?_⟩
     refine ⟨_,rfl,_,_,rfl,rfl,(by show (0:Int)<2;decide),c,_,_,_,rfl,rfl,Zw.of Zc,ZlN _,_,_,rfl,rfl,?_⟩
     refine ⟨_,rfl,1,rfl,(by show 2<=sizeLine;decide),fun c2 hc2=>?_⟩
     refine ⟨_,rfl,_,_,rfl,rfl,(by show (0:Int)<2;decide),c2,_,_,_,rfl,rfl,Zw.of Zc,ZlN _,_,_,rfl,rfl,?_⟩
     refine ⟨g',some (.int (m (gt m f0 j))),some (.int (dn (gt m f0 j))),?_,((sm2'.trans s3).step hc).step hc2,?_,ng'⟩
     ·rw [ZmM,show gt m f0 (j+1)=m (gt m f0 j)+ev2 (m (gt m f0 j)) from (ZmV _).symm]
      rfl
     ·have e1:=(Zi.laid (o:=.lst [.int 1,.int (-1)]) hc) g' _ Zc
      have e2:=(Zi.laid (o:=.lst [.int 1,.int (-1)]) hc2) g' _ e1
      refine e2.trans ?_
      simp [Wh]
def Zbf:Sp:=fun vs H Q _=>∃(l:Addr) (xs:List V) (ls:List (Str×Int)),vs = [.ref l]/\H l=some (.lst xs)/\ZC H xs ls/\ls.length<=60/\Wk ls 0 /\
 ∀(p:Addr) (H':Hp),H p=none->Zi H H'->H' p=some (.lst (tab (Y0 ls) fun x=>V.bl (decide (x∈(YS ls).map (·.1)))))->Q (.ref p) H'
abbrev JX:Stmt:=top 15
theorem Ja:Zz ["drawing", "uppers", "upper", "lower"] ["drawing"] (Zj JX):={}
theorem Zit {f:Addr}{fd:FuncData} (F:YE K "uppers_at_ends" "uppers_at_ends" JX f fd) (Jp:Yr P w K mg base 2 "ends_of" ["drawing"] (Za8 fun x=>decide (x = "end"))) (JC:Yr P w K mg base 3 "end_pairs" ["drawing"] ZeX) (Yt:mg "len" = none):Yj P w K mg base Wy 4 f fd ["drawing"] Zbf:=by
 refine F.ok Ja (fun vs H Q E h=>?_) (fun cdv A outer s H vs Q E hr h=>?_)
 ·obtain ⟨l,xs,ls,rfl,_⟩:=h
  rfl
 ·obtain ⟨l,xs,ls,rfl,hl,hL,hlen,hW,k⟩:=h
  have n120:=JU hlen
  have nt:2*(Ya ls Gq ls.length).length=Y0 ls:=by unfold Y0 YS Jg;rw [List.length_map]
  refine ⟨_,(Ze (Zn (i:=1) Ja.nd rfl (Or.inl rfl) (Zk ZaH (ZL (Za Zaw Zb)) (Zk JO Zd (ZE (YH (K:=K) rfl) (by rfl) Yt PySem.boot_len (Za (Zq Jp hr (Za (pv 0) Zb)) Zb)))))
   (Ze (Ym PassesOwn.never rfl (Yk (K:=K) rfl (Zq JC hr (Za (pv 0) Zb))) (ZU (K:=K) (n:=2) rfl rfl (Zm (Zl (i:=2) Ja.nd rfl (Or.inl rfl)) (Zm (Zl (i:=3) Ja.nd rfl (Or.inl rfl)) ZP))) (Zg (Z8 Zaw (Yl (pv 1) (pv 2) set_list))))
   (Zg (Zy (pv 1))))),?_⟩
  refine ⟨(by show 1<=sizeLine;decide),fun l0 hl0=>?_⟩
  have s0:Zi H (upd H l0 (.lst [.bl false])):=Zi.laid hl0
  refine ⟨_,rfl,l,xs,ls,rfl,s0 l _ hl,hL.same s0,hlen,hW.kd,fun eA H1 fe s1 ee=>?_⟩
  refine ⟨eA,_,rfl,.inl (Zw.of ee),_,_,rfl,rfl,.inl ⟨by decide,by decide⟩,?_⟩
  have el:((2:Int)*((((Ya ls (fun x=>decide (x = "end")) ls.length).map V.int).length:Nat):Int))=((Y0 ls:Nat):Int):=by
   rw [List.length_map]
   have:(Ya ls (fun x=>decide (x = "end")) ls.length).length=(Ya ls Gq ls.length).length:=rfl
   lia
  show Zne (V.ref l0) (V.int ((2:Int)*((((Ya ls (fun x=>decide (x = "end")) ls.length).map V.int).length:Nat):Int))) H1 _
  rw [el]
  refine ⟨l0,_,_,rfl,rfl,s1 l0 _ Zc,by lia,by lia,(by show 1*_<=sizeLine;exact Nat.le_of_lt (Zx (by lia))),fun rA hrA=>?_⟩
  obtain ⟨H2,hH2⟩:∃H2,H2=upd H1 rA (.lst (List.replicate ((Y0 ls:Nat):Int).toNat [V.bl false]).flatten):=⟨_,rfl⟩
  rw [<- hH2]
  have s02:Zi H H2:=by rw [hH2];exact (s0.trans s1).step hrA
  have hrH:H rA=none:=(s0.trans s1).free hrA
  have hr2:H2 rA=some (.lst (tab (Y0 ls) fun _=>V.bl false)):=by rw [hH2,Zc,Int.toNat_natCast,Zah]
  refine ⟨_,rfl,l,xs,ls,rfl,s02 l _ hl,hL.same s02,hlen,hW,fun pA H3 ys fp s3 ep pv=>?_⟩
  have hpr:pA≠rA:=(Zf hr2 fp).symm
  refine ⟨pA,rfl,⟨_,Zw.of ep⟩,JI (K:=K) (a:=pA) (xs:=ys) (fun i σ H'=>∃(v2 v3:Option V),σ = [some (.ref l),some (.ref rA),v2,v3]/\YC rA H3 H'/\H' rA=some (.lst (tab (Y0 ls) fun x=>V.bl (decide (x∈((YS ls).take i).map (·.1))))))
   ⟨none,none,rfl,YC.refl _ _,?_⟩ (fun i σ H' _ ⟨_,_,_,fr,_⟩=>Zw.of (fr pA _ ep hpr)) ?_ ?_⟩
  ·rw [s3 rA _ hr2]
   exact congrArg (fun z=>some (HO.lst z)) (YW fun x _ _=>by simp)
  ·rintro i x σ H' hx ⟨v2,v3,rfl,fr,hr'⟩
   obtain ⟨p,t,hp,rfl,ht⟩:=pv.get hx
   obtain ⟨u,lw⟩:=p
   obtain ⟨⟨d1,d2⟩,d3,d4⟩:=ZgP hW (List.mem_of_getElem? hp)
   obtain ⟨un,rfl⟩:=Int.eq_ofNat_of_zero_le (show 0<=u from d1)
   have d2:(un:Int)<_:=d2
   have htr:t≠rA:=ZaZ ht (s3 rA _ hr2) (by intro z;cases z)
   refine ⟨t,_,rfl,YB.of (fr t _ ht htr),rfl,_,_,rfl,_,_,rfl,rfl,?_⟩
   refine ⟨_,rfl,_,rfl,rA,_,_,un,rfl,rfl,hr',(by rw [WB];exact YR (by lia)),?_⟩
   refine ⟨_,_,rfl,fr.trans YC.upd,?_⟩
   rw [Zc,ZaT,YZ (ns:=YS ls) _ hp]
   refine congrArg (fun z=>some (HO.lst z)) (YW fun x _ _=>?_)
   by_cases e:x=(un:Int)
   ·rw [if_pos e]
    congr 1
    exact (decide_eq_true (by rw [e];simp)).symm
   ·rw [if_neg e]
    congr 1
    exact decide_eq_decide.mpr (by simp [e])
  ·rintro σ H' ⟨v2,v3,rfl,fr,hr'⟩
   refine ⟨_,rfl,k rA H' hrH (fun c o e=>fr c o (s3 c o (s02 c o e)) (Zf e hrH)) ?_⟩
   rw [pv.len,List.take_of_length_le (Nat.le_refl _)] at hr'
   exact hr'
def stA (dn:Int->Int) (T:List Int) (i:Nat):Int:=if i % 2=0 then dn (T.getD i 0) else ev2 (T.getD i 0)
theorem Zgj (dn:Int->Int) (T:List Int):∀n,2*n<=T.length->((List.range (2*n)).map (stA dn T)).sum=fl dn (T.take (2*n))
 | 0,_=>by simp [fl]
 | n+1,h=>by
  have ih:=Zgj dn T n (by lia)
  have e:2*(n+1)=2*n+1+1:=by lia
  have h1:T[2*n]? = some (T.getD (2*n) 0):=by simp [show 2*n<T.length by lia]
  have h2:T[2*n+1]? = some (T.getD (2*n+1) 0):=by simp [show 2*n+1<T.length by lia]
  rw [e,List.range_succ,List.range_succ,List.take_add_one,List.take_add_one,h1,h2]
  have e2:T.take (2*n)++(some (T.getD (2*n) 0)).toList++(some (T.getD (2*n+1) 0)).toList=T.take (2*n) ++ [T.getD (2*n) 0,T.getD (2*n+1) 0]:=by simp
  rw [e2,Zep dn _ _ n _ (by rw [List.length_take];lia),<- ih]
  have a1:stA dn T (2*n)=dn (T.getD (2*n) 0):=if_pos (by lia)
  have a2:stA dn T (2*n+1)=ev2 (T.getD (2*n+1) 0):=if_neg (by lia)
  rw [List.map_append,List.map_append,List.sum_append,List.sum_append]
  simp only [List.map_cons,List.map_nil,List.sum_cons,List.sum_nil,a1,a2]
  lia
def Zcq:Sp:=fun vs H Q _=>∃(tA uA:Addr) (T:List Int) (N:Nat) (ps:List Int) (n:Nat),vs = [.ref tA,.ref uA]/\H tA=some (.lst (T.map V.int))/\H uA=some (.lst (tab N fun x=>V.bl (decide (x∈ps))))/\T.length=2*n/\T.length<=200/\(∀x∈T,0<=x/\x<(N:Int)) /\
 ∀(p:Addr) (H':Hp) (ss:List Int),H p=none->Zi H H'->H' p=some (.lst (ss.map V.int))->ss.sum=fl (fun x=>if x∈ps then 1 else -1) T->ss=(List.range T.length).map (stA (fun x=>if x∈ps then 1 else -1) T)->Q (.ref p) H'
abbrev Ua:Stmt:=top 16
theorem Jx:Zz ["tour", "uppers", "steps", "at", "thread", "upper"] ["tour", "uppers"] (Zj Ua):={}
theorem Zj0 {f:Addr}{fd:FuncData} (F:YE K "steps_down" "steps_down" Ua f fd) (Je:Yr P w K mg base 1 "born_with" ["thread"] Zle) (ZI:mg "enumerate" = none):Yj P w K mg base Wy 2 f fd ["tour", "uppers"] Zcq:=by
 refine F.ok Jx (fun vs H Q E h=>?_) (fun cdv A outer s H vs Q E hr h=>?_)
 ·obtain ⟨tA,uA,T,N,ps,n,rfl,_⟩:=h
  rfl
 ·obtain ⟨tA,uA,T,N,ps,n,rfl,hT,hU,hn,hlen,dom,k⟩:=h
  obtain ⟨dn,hdn⟩:∃dn:Int->Int,dn=fun x=>if x∈ps then 1 else -1:=⟨_,rfl⟩
  rw [<- hdn] at k
  refine ⟨_,(Ze (Zn (i:=2) Jx.nd rfl (Or.inl rfl) (ZL Zb))
   (Ze (Ym PassesOwn.never rfl (WM (K:=K) rfl (by rfl) ZI (Za (pv 0) Zb)) (ZU (K:=K) (n:=2) rfl rfl (Zm (Zl (i:=3) Jx.nd rfl (Or.inl rfl)) (Zm (Zl (i:=4) Jx.nd rfl (Or.inl rfl)) ZP))) (Ze (Zn (i:=5) Jx.nd rfl (Or.inl rfl) (U2 (ZiT (Zk Zmd (pv 3) Zd) (fun _=>rfl)) (Yn WS (pv 4) (Zq Je hr (Za (pv 4) Zb)) (Zp _)) (Zv (Zs (K:=K) rfl) (pv 1) (pv 4) (fun _ _=>rfl))))
   (Zg (Yb (Yg (K:=K) rfl (YN PySem.F.plainAttrs_list PySem.F.slot_list_append PySem.F.type_list_append ZW (pv 2) (Za (U2 (ZaK (pv 5)) Zd (ZbY UI Zd)) Zb)))))))
   (Zg (Zy (pv 2))))),?_⟩
  refine ⟨(by show 0<=sizeLine;decide),fun sA hsA=>?_⟩
  refine ⟨_,rfl,tA,rfl,⟨_,Zw.of ((Zi.laid hsA) tA _ hT)⟩,ZaY (K:=K) (a:=tA) (xs:=T.map V.int) (fun i σ H'=>∃(v3 v4 v5:Option V),σ = [some (.ref tA),some (.ref uA),some (.ref sA),v3,v4,v5]/\Zi H H'/\H' sA=some (.lst (((List.range i).map (stA dn T)).map V.int)))
   ⟨none,none,none,rfl,Zi.laid hsA,Zc⟩ (fun i σ H' _ ⟨_,_,_,_,sm,_⟩=>Zw.of (sm tA _ hT)) ?_ ?_⟩
  ·rintro i x p σ H' hx ⟨v3,v4,v5,rfl,sm,hs⟩ hp
   obtain ⟨t,ht,rfl⟩:=JY hx
   have hi:i<T.length:=(List.getElem?_eq_some_iff.mp ht).1
   obtain ⟨d0,d1⟩:=dom t (List.mem_of_getElem? ht)
   have td:T.getD i 0=t:=by simp [ht]
   obtain ⟨G0,hG0⟩:∃G0,G0=upd H' p (.tup [.int i,.int t]):=⟨_,rfl⟩
   have sp:Zi H' G0:=by rw [hG0];exact Zi.laid hp
   have ep:G0 p=some (.tup [.int i,.int t]):=by rw [hG0];exact Zc
   rw [<- hG0]
   have sg0:Zi H G0:=sm.trans sp
   have l2:(((List.range i).map (stA dn T)).map V.int).length<sizeLine:=by
    rw [List.length_map,List.length_map,List.length_range]
    exact Zx (by omega)
   have tail:∀v:Int,v=stA dn T i->(upd G0 sA (.lst (((List.range i).map (stA dn T)).map V.int ++ [V.int v]))) sA=some (.lst (((List.range (i+1)).map (stA dn T)).map V.int)):=fun v e=>by
    rw [Zc,List.range_succ,List.map_append,List.map_append,e]
    rfl
   have hbit:Builtin.bitAnd (i:Int) 1=(i:Int) % 2:=ZkG (by omega)
   refine ⟨p,_,rfl,YB.of ep,rfl,_,_,rfl,_,_,rfl,rfl,?_⟩
   refine ⟨_,rfl,_,_,rfl,rfl,_,rfl,?_⟩
   show if (Builtin.bitAnd (i:Int) 1 != 0)=true then _ else _
   rw [hbit]
   refine ZX (fun hc=>?_) (fun hc=>?_)
   ·have odd:¬i % 2=0:=fun z=>by
     rw [bne_iff_ne] at hc
     omega
    have se:stA dn T i=ev2 t:=by unfold stA;rw [if_neg odd,td]
    refine ⟨_,rfl,_,rfl,_,rfl,d0,_,_,rfl,rfl,?_⟩
    refine ⟨_,rfl,.inl ⟨rfl,_,Zw.of (sp sA _ hs)⟩,_,rfl,_,rfl,?_⟩
    refine ZX (fun hd=>?_) (fun hd=>?_)
    ·have e:(1:Int)=stA dn T i:=by
      have hd:t<bw t:=of_decide_eq_true hd
      rw [se]
      unfold ev2
      unfold bw at hd
      split at hd
      ·rw [if_pos (by assumption)]
      ·omega
     exact ⟨sA,_,_,rfl,rfl,sp sA _ hs,l2,_,_,_,rfl,sg0.put hsA,tail _ e⟩
    ·have e:(-1:Int)=stA dn T i:=by
      have hd:¬t<bw t:=fun z=>hd (decide_eq_true z)
      rw [se]
      unfold ev2
      unfold bw at hd
      split at hd
      ·omega
      ·rw [if_neg (by assumption)]
     exact ⟨1,rfl,sA,_,_,rfl,rfl,sp sA _ hs,l2,_,_,_,rfl,sg0.put hsA,tail _ e⟩
   ·have evn0:i % 2=0:=by
     by_cases z:i % 2=0
     ·exact z
     ·exact absurd (by rw [bne_iff_ne];omega) hc
    have se:stA dn T i=dn t:=by unfold stA;rw [if_pos evn0,td]
    rw [hdn] at se
    refine ⟨_,rfl,_,rfl,uA,_,_,_,rfl,rfl,Zw.of (sg0 uA _ hU),ZfW _ d0 d1,?_⟩
    refine ⟨_,rfl,.inl ⟨rfl,_,Zw.of (sp sA _ hs)⟩,_,rfl,_,rfl,?_⟩
    refine ZX (fun hd=>?_) (fun hd=>?_)
    ·have e:(1:Int)=stA dn T i:=by
      rw [hdn,se]
      exact (if_pos (of_decide_eq_true hd)).symm
     exact ⟨sA,_,_,rfl,rfl,sp sA _ hs,l2,_,_,_,rfl,sg0.put hsA,tail _ e⟩
    ·have e:(-1:Int)=stA dn T i:=by
      rw [hdn,se]
      exact (if_neg (fun z=>hd (decide_eq_true z))).symm
     exact ⟨1,rfl,sA,_,_,rfl,rfl,sp sA _ hs,l2,_,_,_,rfl,sg0.put hsA,tail _ e⟩
  ·rintro σ H' ⟨v3,v4,v5,rfl,sm,hs⟩
   rw [List.length_map] at hs
   refine ⟨_,rfl,k sA H' _ hsA sm hs ?_ (by rw [hdn])⟩
   rw [hn,Zgj dn T n (by omega),List.take_of_length_le (by omega)]
def UG (dn:Int->Int) (T:List Int):Int:=Ze1 (fl dn T) / 2
def ZeN:Sp:=fun vs H Q _=>∃(l:Addr) (xs:List V) (ls:List (Str×Int)),vs = [.ref l]/\H l=some (.lst xs)/\ZC H xs ls/\ls.length<=60/\Wk ls 0 /\
 ∀(p:Addr) (H':Hp) (ts:List (List Int)),H p=none->Zi H H'->Gp (Jf (YS ls)) (Y0 ls) ts->H' p=some (.lst ((ts.map (UG (ZY (YS ls)))).map V.int))->Q (.ref p) H'
theorem ZhU {m:Int->Int}{i:Nat}{ts:List (List Int)} (a:Gp m i ts):∀T∈ts,∃n,T.length=2*n:=by
 induction a with
 | nil=>intro T h;cases h
 | add a h t ih=>
  intro T hT
  rcases List.mem_append.mp hT with z | z
  ·exact ih T z
  ·rw [List.mem_singleton.mp z]
   obtain ⟨L,_,_,_,rfl⟩:=t
   exact ⟨L,J3 _ _ _⟩
 | skip a h ih=>exact ih
abbrev Zcl:Stmt:=top 17
theorem ZfL:Zz ["drawing", "uppers"] ["drawing"] (Zj Zcl):={}
theorem ZjW {f:Addr}{fd:FuncData} (F:YE K "turns" "turns" Zcl f fd) (Yw:Yr P w K mg base 4 "uppers_at_ends" ["drawing"] Zbf) (Jq:Yr P w K mg base 2 "steps_down" ["tour", "uppers"] Zcq) (Zae:Yr P w K mg base 5 "tours" ["drawing"] Zcj) (Zar:mg "abs" = none) (Za0:mg "sum" = none):Yj P w K mg base Wy 6 f fd ["drawing"] ZeN:=by
 refine F.ok ZfL (fun vs H Q E h=>?_) (fun cdv A outer s H vs Q E hr h=>?_)
 ·obtain ⟨l,xs,ls,rfl,_⟩:=h
  rfl
 ·obtain ⟨l,xs,ls,rfl,hl,hL,hlen,hW,k⟩:=h
  have n60:=Zg9 hW
  have M:=JV hW
  refine ⟨_,(Ze (Zn (i:=1) ZfL.nd rfl (Or.inr rfl) (Zq Yw hr (Za (pv 0) Zb)))
   (Zg (Zy (UL (Ls:=["tour"]) (Fs:=["uppers"]) (fi:=[1]) (Yi.of (show YT ["drawing", "uppers"] (Zj Zcl) _ ["uppers"] [1]=true by decide +kernel)) rfl (Yk (K:=K) rfl (Zq Zae hr (Za (pv 0) Zb))) (fun cl C s3 H3 ex=>⟨(Zl (i:=0) (show ((["tour"]:List Str)++(["uppers"]:List Str)).Nodup by decide +kernel) rfl (Or.inl rfl)),Jk,(Zk Zbi (ZE Zbo (by rfl) Zar boot_abs (Za (ZE (Zbx (K:=K) rfl rfl) (by rfl) Za0 boot_sum (Za (Zq Jq hr (Za (pv 0) (Za (pv 1) Zb))) Zb)) Zb)) Zd)⟩))))),?_⟩
  refine ⟨_,rfl,l,xs,ls,rfl,hl,hL,hlen,hW,fun uA H1 fu s1 eu=>?_⟩
  refine ⟨_,rfl,l,xs,ls,rfl,s1 l _ hl,hL.same s1,hlen,hW,fun tsA H2 ys ts ft s2 et rv ap tr=>?_⟩
  have good:=tr.good M (Int.le_refl _)
  have tl:=tr.len M (Int.le_refl _)
  refine ⟨tsA,rfl,⟨_,Zw.of et⟩,WA (K:=K) (a:=tsA) (xs:=ys) (by rw [rv.len];exact Nat.le_of_lt (Zx (by lia))) (fun i zs G=>Zi H2 G/\zs=((ts.take i).map (UG (ZY (YS ls)))).map V.int) ⟨Zi.refl _,rfl⟩ (fun i zs G p=>by rw [p.2,List.length_map,List.length_map,List.length_take];lia) (fun i zs G p=>Zw.of (p.1 tsA _ et)) (fun i x zs G hx p=>?_) (fun zs G p D hD=>?_)⟩
  ·obtain ⟨sG,rfl⟩:=p
   obtain ⟨q,T,hT,rfl,hq⟩:=rv.atX hx
   obtain ⟨n,hn⟩:=ZhU tr T (List.mem_of_getElem? hT)
   have inT:∀x∈T,x∈ts.flatten:=fun x hx=>List.mem_flatten.mpr ⟨T,List.mem_of_getElem? hT,hx⟩
   have sub:T.length<=ts.flatten.length:=by
    obtain ⟨a,b,e⟩:=List.append_of_mem (List.mem_of_getElem? hT)
    rw [e,List.flatten_append,List.flatten_cons,List.length_append,List.length_append]
    lia
   have fs:=J7 (Y0 ls) ts.flatten good.1 good.2.1
   refine lcG ?_
   refine ⟨_,rfl,_,rfl,q,uA,T,Y0 ls,(YS ls).map (·.1),n,rfl,sG q _ hq,sG uA _ (s2 uA _ eu),hn,by lia,fun x hx=>good.2.1 x (inT x hx),fun pA G1 ss fp sp ep es _=>?_⟩
   refine ⟨pA,_,rfl,Zw.of ep,_,rfl,_,_,rfl,rfl,⟨by decide,by decide⟩,sG.trans sp,?_⟩
   rw [YZ (ns:=ts) _ hT,List.map_append]
   refine congrArg (fun z=>_ ++ [V.int z]) ?_
   show (if ss.sum<0 then -ss.sum else ss.sum) / 2=_
   rw [es]
   rfl
  ·obtain ⟨sG,rfl⟩:=p
   refine k D _ ts (s1.free (s2.free (sG.free hD))) ((s1.trans (s2.trans sG)).step hD) tr ?_
   rw [Zc,rv.len,List.take_of_length_le (Nat.le_refl _)]
def hAt (dn:Int->Int) (T:List Int):Nat->Int
 | 0=>1
 | i+1=>hAt dn T i-stA dn T i
def plc (T:List Int) (x:Int):Nat:=T.idxOf x
def hgt (dn:Int->Int) (T:List Int) (x:Int):Int:=hAt dn T (plc T x)
theorem Zjf {T:List Int} (nd:T.Nodup) {i:Nat} (hi:i<T.length):plc T T[i]=i:=by
 unfold plc
 exact List.Nodup.idxOf_getElem nd i hi
theorem Zl1 {dn:Int->Int}{T:List Int} (nd:T.Nodup) {i:Nat} (hi:i<T.length):hgt dn T T[i]=hAt dn T i:=by
 unfold hgt
 rw [Zjf nd hi]
theorem ZgW (dn:Int->Int) (T:List Int):∀i,hAt dn T i=1-((List.range i).map (stA dn T)).sum
 | 0=>by simp [hAt]
 | i+1=>by
  rw [List.range_succ,List.map_append,List.sum_append]
  show hAt dn T i-stA dn T i=_
  rw [ZgW dn T i]
  simp
  lia
theorem Zgx (m:Int->Int) (f:Int):∀(L j:Nat),j<L->(Wh m f L)[2*j]? = some (gt m f j)/\(Wh m f L)[2*j+1]? = some (m (gt m f j))
 | 0,j,h=>by lia
 | L+1,j,h=>by
  have hl:=J3 m f L
  by_cases e:j=L
  ·subst e
   constructor
   ·show (Wh m f j ++ [gt m f j,m (gt m f j)])[2*j]? = _
    rw [List.getElem?_append_right (by lia),hl]
    simp
   ·show (Wh m f j ++ [gt m f j,m (gt m f j)])[2*j+1]? = _
    rw [List.getElem?_append_right (by lia),hl]
    simp [show 2*j+1-2*j=1 by lia]
  ·obtain ⟨a,b⟩:=Zgx m f L j (by lia)
   constructor
   ·show (Wh m f L++_)[2*j]? = _
    rw [List.getElem?_append_left (by lia)];exact a
   ·show (Wh m f L++_)[2*j+1]? = _
    rw [List.getElem?_append_left (by lia)];exact b
structure One (ps:List (Int×Int)) (N:Nat) (T:List Int) (L:Nat):Prop where
 M:JG (Jf ps) N
 fl0:(ZJ ps).Nodup
 T_is:T=Wh (Jf ps) 0 L
 L1:1<=L
 back:gt (Jf ps) 0 L=0
 nd:T.Nodup
 all:∀x:Int,0<=x->x<N->x∈T
 dom:∀x∈T,0<=x/\x<(N:Int)
 zero:fl (ZY ps) T=0
theorem ZkB {ps:List (Int×Int)}{u l b:Int} (nd:(ZJ ps).Nodup) (h:(u,l)∈ps) (h2:(l,b)∈ps):False:=by
 induction ps with
 | nil=>cases h
 | cons p r ih=>
  have e:ZJ (p::r)=p.1::p.2::ZJ r:=by simp [ZJ]
  have fr:=nd
  rw [e] at nd
  obtain ⟨n1,nd2⟩:=List.nodup_cons.mp nd
  obtain ⟨n2,nd3⟩:=List.nodup_cons.mp nd2
  have inr:∀{a c:Int},(a,c)∈r->a∈ZJ r/\c∈ZJ r:=fun {a c} z=>⟨List.mem_flatMap.mpr ⟨(a,c),z,by simp⟩,List.mem_flatMap.mpr ⟨(a,c),z,by simp⟩⟩
  rcases List.mem_cons.mp h with z | z
  ·rcases List.mem_cons.mp h2 with y | y
   ·subst z
    have:(u,l)=(l,b):=y.symm
    have e1:u=l:=congrArg Prod.fst this
    exact ZaO fr (List.mem_cons_self) e1
   ·subst z
    exact n2 (inr y).1
  ·rcases List.mem_cons.mp h2 with y | y
   ·subst y
    exact n1 (List.mem_cons_of_mem _ (inr z).2)
   ·exact ih nd3 z y
namespace One
variable {ps:List (Int×Int)}{N:Nat}{T:List Int}{L:Nat}
theorem len (o:One ps N T L):T.length=2*L:=by rw [o.T_is];exact J3 _ _ _
theorem at0 (o:One ps N T L) {j:Nat} (h:j<L):T[2*j]? = some (gt (Jf ps) 0 j):=by rw [o.T_is];exact (Zgx _ _ L j h).1
theorem at1 (o:One ps N T L) {j:Nat} (h:j<L):T[2*j+1]? = some (Jf ps (gt (Jf ps) 0 j)):=by rw [o.T_is];exact (Zgx _ _ L j h).2
theorem hg (o:One ps N T L) {i:Nat}{x:Int} (h:T[i]? = some x):hgt (ZY ps) T x=hAt (ZY ps) T i:=by
 obtain ⟨hi,e⟩:=List.getElem?_eq_some_iff.mp h
 rw [<- e]
 exact Zl1 o.nd hi
theorem stE (o:One ps N T L) {j:Nat} (h:j<L):hAt (ZY ps) T (2*j+1)=hAt (ZY ps) T (2*j)-ZY ps (gt (Jf ps) 0 j):=by
 show hAt (ZY ps) T (2*j)-stA (ZY ps) T (2*j)=_
 unfold stA
 rw [if_pos (by lia)]
 have:=o.at0 h
 simp [this]
theorem stO (o:One ps N T L) {j:Nat} (h:j<L):hAt (ZY ps) T (2*j+2)=hAt (ZY ps) T (2*j+1)-ev2 (Jf ps (gt (Jf ps) 0 j)):=by
 show hAt (ZY ps) T (2*j+1)-stA (ZY ps) T (2*j+1)=_
 unfold stA
 rw [if_neg (by lia)]
 have:=o.at1 h
 simp [this]
theorem Zow (o:One ps N T L):hAt (ZY ps) T (2*L)=1:=by
 rw [ZgW]
 have:=Zgj (ZY ps) T L (by rw [o.len];exact Nat.le_refl _)
 rw [this,List.take_of_length_le (by rw [o.len];exact Nat.le_refl _),o.zero]
 rfl
theorem on (o:One ps N T L) {x:Int} (h0:0<=x) (h1:x<N):∃j,j<L/\(x=gt (Jf ps) 0 j∨x=Jf ps (gt (Jf ps) 0 j)):=by
 have:=o.all x h0 h1
 rw [o.T_is] at this
 exact YQ.mp this
theorem pos (o:One ps N T L):(0:Int)<N:=by
 have:=o.at0 (j:=0) o.L1
 have h:=o.dom _ (List.mem_of_getElem? this)
 have e:gt (Jf ps) 0 0=0:=rfl
 rw [e] at h
 exact h.2
theorem ZkV (o:One ps N T L) (j:Nat):0<=gt (Jf ps) 0 j/\gt (Jf ps) 0 j<(N:Int):=YF o.M (by decide) o.pos j
theorem ends (o:One ps N T L) {u l:Int} (h:(u,l)∈ps) (hu:0<=u/\u<(N:Int)):hgt (ZY ps) T u=hgt (ZY ps) T l+1:=by
 obtain ⟨m1,m2⟩:=Zc5 o.fl0 h
 have ne:=ZaO o.fl0 h
 have du:ZY ps u=1:=if_pos (List.mem_map.mpr ⟨(u,l),h,rfl⟩)
 have dl:ZY ps l = -1:=by
  unfold ZY
  rw [if_neg]
  intro z
  obtain ⟨⟨a,b⟩,hab,e⟩:=List.mem_map.mp z
  have e:a=l:=e
  subst e
  have q:=(Zc5 o.fl0 hab).1
  rw [m2] at q
  subst q
  exact ZkB o.fl0 h hab
 obtain ⟨j,hj,c⟩:=o.on hu.1 hu.2
 rcases c with c | c
 ·have a0:=o.at0 hj
  have a1:=o.at1 hj
  rw [<- c] at a0 a1
  rw [m1] at a1
  rw [o.hg a0,o.hg a1,o.stE hj,<- c,du]
  lia
 ·have a0:=o.at0 hj
  have a1:=o.at1 hj
  have e:gt (Jf ps) 0 j=l:=by
   have:=o.M.inv _ (o.ZkV j).1 (o.ZkV j).2
   rw [<- c,m1] at this
   exact this.symm
  rw [e] at a0
  rw [<- c] at a1
  rw [o.hg a0,o.hg a1,o.stE hj,e,dl]
  lia
theorem Zj1 (o:One ps N T L) {x:Int} (h0:0<=x) (h1:x<N) (hx:x % 2=0):hgt (ZY ps) T x=hgt (ZY ps) T (x+1)+1:=by
 have key:∀y:Int,(∃j,j<L/\y=Jf ps (gt (Jf ps) 0 j))->0<=y->hgt (ZY ps) T (bw y)=hgt (ZY ps) T y-ev2 y:=by
  rintro y ⟨j,hj,e⟩ _
  have a1:=o.at1 hj
  rw [<- e] at a1
  rw [o.hg a1]
  have nx:gt (Jf ps) 0 (j+1)=bw y:=by rw [e];rfl
  have st:=o.stO hj
  rw [<- e] at st
  by_cases lt:j+1<L
  ·have a2:=o.at0 lt
   rw [nx] at a2
   rw [o.hg a2,<- st]
   rfl
  ·have eL:j+1=L:=by omega
   have z0:bw y=0:=by rw [<- nx,eL];exact o.back
   have a0:=o.at0 (j:=0) o.L1
   have e0:gt (Jf ps) 0 0=0:=rfl
   rw [e0] at a0
   rw [z0,o.hg a0,<- st]
   have:=o.Zow
   rw [show 2*L=2*j+2 by omega] at this
   rw [this]
   rfl
 have hb:bw x=x+1:=if_pos hx
 have hb1:bw (x+1)=x:=by rw [<- hb];exact ZbX x
 have h2:=Zi3 o.M.ev h0 h1
 rw [hb] at h2
 obtain ⟨j,hj,c⟩:=o.on h2.1 h2.2
 rcases c with c | c
 ·
  have hx':∃i,i<L/\x=Jf ps (gt (Jf ps) 0 i):=by
   cases j with
   | zero=>
    have e0:gt (Jf ps) 0 0=0:=rfl
    rw [e0] at c
    omega
   | succ i=>
    refine ⟨i,by omega,?_⟩
    have:gt (Jf ps) 0 (i+1)=bw (Jf ps (gt (Jf ps) 0 i)):=rfl
    rw [this] at c
    rw [<- ZbX (Jf ps (gt (Jf ps) 0 i)),<- c,hb1]
  have q:=key x hx' h0
  rw [hb] at q
  have:ev2 x=1:=if_pos hx
  omega
 ·have q:=key (x+1) ⟨j,hj,c⟩ h2.1
  rw [hb1] at q
  have:ev2 (x+1) = -1:=if_neg (by omega)
  omega
theorem h0 (o:One ps N T L):hgt (ZY ps) T 0=1:=by
 have a0:=o.at0 (j:=0) o.L1
 have e0:gt (Jf ps) 0 0=0:=rfl
 rw [e0] at a0
 rw [o.hg a0]
 rfl
theorem h1 (o:One ps N T L):hgt (ZY ps) T 1=0:=by
 have:=o.Zj1 (x:=0) (by decide) o.pos (by decide)
 rw [o.h0] at this
 have e:(0:Int)+1=1:=rfl
 rw [e] at this
 lia
end One
theorem ZcB {m:Int->Int}{ts:List (List Int)} (h:Gp m 0 ts):ts = []:=by cases h;rfl
theorem ZbF {m:Int->Int}:∀{n:Nat}{ts:List (List Int)},Gp m (n+1) ts -> ∃T r,ts=T::r/\Y6 m 0 T
 | 0,ts,h=>by
  cases h with
  | add a b c=>rw [ZcB a];exact ⟨_,[],rfl,c⟩
  | skip a b=>rw [ZcB a] at b;simp at b
 | n+1,ts,h=>by
  cases h with
  | add a b c=>
   obtain ⟨T,r,e,t⟩:=ZbF a
   rw [e]
   exact ⟨T,_,rfl,t⟩
  | skip a b=>exact ZbF a
theorem Zmb (ps:List (Int×Int)) (x:Int):ZY ps x % 2=1:=by unfold ZY;split<;>decide
theorem Zk2 (x:Int):ev2 x % 2=1:=by unfold ev2;split<;>decide
theorem Zhv (ps:List (Int×Int)):∀T:List Int,fl (ZY ps) T % 2=0
 | []=>rfl
 | [_]=>rfl
 | x::y::r=>by
  have h:=Zhv ps r
  have a:=Zmb ps x
  have b:=Zk2 y
  show (ZY ps x+ev2 y+fl (ZY ps) r) % 2=0
  omega
theorem sub_len:∀{l l':List Int},l.Nodup->(∀x∈l,x∈l')->l.length<=l'.length
 | [],_,_,_=>Nat.zero_le _
 | a::r,l',nd,h=>by
  obtain ⟨na,nr⟩:=List.nodup_cons.mp nd
  have ih:=sub_len (l':=l'.erase a) nr fun x hx=>(List.mem_erase_of_ne (fun z:x=a=>na (by rw [<- z];exact hx))).mpr (h x (List.mem_cons_of_mem _ hx))
  have ha:=h a List.mem_cons_self
  rw [List.length_erase_of_mem ha] at ih
  have:0<l'.length:=List.length_pos_of_mem ha
  rw [List.length_cons]
  lia
theorem ZjB {ls:List (Str×Int)}{T:List Int} (hW:Wk ls 0) (tr:Gp (Jf (YS ls)) (Y0 ls) [T]) (h0:UG (ZY (YS ls)) T=0):∃L,One (YS ls) (Y0 ls) T L/\T.length=Y0 ls:=by
 have M:=JV hW
 have nd0:(ZJ (YS ls)).Nodup:=(Wc hW).symm.nodup (WK _)
 cases e:Y0 ls with
 | zero=>rw [e] at tr;exact absurd (ZcB tr) (by simp)
 | succ n=>
  rw [e] at tr M
  obtain ⟨T',r,q,t⟩:=ZbF tr
  cases q
  have p0:(0:Int)<((n+1:Nat):Int):=by lia
  obtain ⟨L,L1,bk,no,rfl⟩:=id t
  have nd:=t.nodup M (by decide) p0
  have all:∀x:Int,0<=x->x<((n+1:Nat):Int)->x∈Wh (Jf (YS ls)) 0 L:=fun x x0 x1=>by
   obtain ⟨k,rfl⟩:=Int.eq_ofNat_of_zero_le x0
   simpa using tr.mem k (by lia)
  refine ⟨L,⟨M,nd0,rfl,L1,bk,nd,all,t.dom M (by decide) p0,?_⟩,?_⟩
  ·have:=Zhv (YS ls) (Wh (Jf (YS ls)) 0 L)
   unfold UG Ze1 at h0
   split at h0<;>lia
  ·have a:=t.len M (by decide) p0
   have b:n+1<=(Wh (Jf (YS ls)) 0 L).length:=by
    have sub:∀x∈Ut (n+1),x∈Wh (Jf (YS ls)) 0 L:=fun x hx=>all x (YJ.mp hx).1 (YJ.mp hx).2
    have:=sub_len (WK (n+1)) sub
    rwa [Gx] at this
   lia
def ZmW:Sp:=fun vs H Q _=>∃(tA uA:Addr) (T:List Int) (ps:List (Int×Int)) (N L:Nat),vs = [.ref tA,.ref uA]/\H tA=some (.lst (T.map V.int))/\H uA=some (.lst (tab N fun x=>V.bl (decide (x∈ps.map (·.1)))))/\One ps N T L/\T.length=N/\N<=120 /\
 ∀(p:Addr) (H':Hp),H p=none->Zi H H'->H' p=some (.lst (tab N fun x=>V.int (hgt (ZY ps) T x)))->Q (.ref p) H'
abbrev Wi:Stmt:=top 19
theorem Yu:Zz ["tour", "uppers", "heights", "height", "thread", "step"] ["tour", "uppers"] (Zj Wi):={}
theorem Znv {f:Addr}{fd:FuncData} (F:YE K "heights_along" "heights_along" Wi f fd) (Jq:Yr P w K mg base 2 "steps_down" ["tour", "uppers"] Zcq) (Yt:mg "len" = none) (Zbd:mg "zip" = none):Yj P w K mg base Wy 3 f fd ["tour", "uppers"] ZmW:=by
 refine F.ok Yu (fun vs H Q E h=>?_) (fun cdv A outer s H vs Q E hr h=>?_)
 ·obtain ⟨tA,uA,T,ps,N,L,rfl,_⟩:=h
  rfl
 ·obtain ⟨tA,uA,T,ps,N,L,rfl,hT,hU,o,hTl,n120,k⟩:=h
  refine ⟨_,(Ze (Zn (i:=2) Yu.nd rfl (Or.inl rfl) (Zk ZaH (ZL (Za Zd Zb)) (ZE (YH (K:=K) rfl) (by rfl) Yt PySem.boot_len (Za (pv 0) Zb))))
   (Ze (Zn (i:=3) Yu.nd rfl (Or.inl rfl) Zd)
   (Ze (Ym PassesOwn.never rfl (ZgX (K:=K) rfl (by rfl) Zbd (Za (pv 0) (Za (Zq Jq hr (Za (pv 0) (Za (pv 1) Zb))) Zb))) (ZU (K:=K) (n:=2) rfl rfl (Zm (Zl (i:=4) Yu.nd rfl (Or.inl rfl)) (Zm (Zl (i:=5) Yu.nd rfl (Or.inl rfl)) ZP))) (Ze (Z8 (pv 3) (Yl (pv 2) (pv 4) set_list))
   (Zg (Zj7 (i:=3) Yu.nd rfl (Or.inl rfl) (pv 5) ZmT))))
   (Zg (Zy (pv 2)))))),?_⟩
  refine ⟨(by show 1<=sizeLine;decide),fun l0 hl0=>?_⟩
  have s0:Zi H (upd H l0 (.lst [.int 0])):=Zi.laid hl0
  refine ⟨_,rfl,tA,_,rfl,.inl (Zw.of (s0 _ _ hT)),?_⟩
  rw [List.length_map,hTl]
  refine ⟨l0,_,_,rfl,rfl,Zc,by lia,by lia,(by show 1*_<=sizeLine;exact Nat.le_of_lt (Zx (by lia))),fun hA hhA=>?_⟩
  obtain ⟨H1,e1⟩:∃G,G=upd (upd H l0 (.lst [.int 0])) hA (.lst (List.replicate ((N:Nat):Int).toNat [V.int 0]).flatten):=⟨_,rfl⟩
  rw [<- e1]
  have s1:Zi H H1:=by rw [e1];exact s0.step hhA
  have h1:H1 hA=some (.lst (tab N fun _=>V.int 0)):=by rw [e1,Zc,Int.toNat_natCast,Zah]
  have fh:H hA=none:=s0.free hhA
  refine ⟨_,rfl,_,rfl,_,rfl,tA,uA,T,N,ps.map (·.1),L,rfl,s1 _ _ hT,s1 _ _ hU,o.len,by lia,o.dom,fun sA H2 ss fs s2 es _ ess=>?_⟩
  have dn:(fun x=>if x∈ps.map (·.1) then (1:Int) else -1)=ZY ps:=rfl
  rw [dn] at ess
  have sl:ss.length=T.length:=by rw [ess,List.length_map,List.length_range]
  have s02:=s1.trans s2
  have h2:=s2 _ _ h1
  have nta:tA≠hA:=Zf hT fh
  have nsa:sA≠hA:=(Zf h1 fs).symm
  refine ⟨tA,sA,rfl,⟨_,Zw.of (s02 _ _ hT)⟩,⟨_,Zw.of es⟩,ZhG (K:=K) (a:=tA) (b:=sA) (xs:=T.map V.int) (ys:=ss.map V.int) (by rw [List.length_map,List.length_map,sl]) (fun i σ G=>∃(v4 v5:Option V),σ = [some (.ref tA),some (.ref uA),some (.ref hA),some (.int (hAt (ZY ps) T i)),v4,v5]/\YC hA H2 G /\
   G hA=some (.lst (tab N fun x=>V.int (if plc T x<i then hgt (ZY ps) T x else 0)))) ⟨none,none,rfl,YC.refl _ _,?_⟩ (fun i σ G ⟨_,_,_,fr,_⟩=>⟨Zw.of (fr _ _ (s02 _ _ hT) nta),Zw.of (fr _ _ es nsa)⟩) ?_ ?_⟩
  ·rw [h2]
   exact congrArg (fun z=>some (HO.lst z)) (YW fun x _ _=>by simp)
  ·rintro i x y p σ G hx hy ⟨v4,v5,rfl,fr,hG⟩ hp
   obtain ⟨t,ht,rfl⟩:=JY hx
   obtain ⟨d,hd,rfl⟩:=JY hy
   have hi:i<T.length:=(List.getElem?_eq_some_iff.mp ht).1
   obtain ⟨d0,d1⟩:=o.dom t (List.mem_of_getElem? ht)
   obtain ⟨tn,rfl⟩:=Int.eq_ofNat_of_zero_le d0
   have hds:d=stA (ZY ps) T i:=by
    rw [ess] at hd
    simp [hi] at hd
    exact hd.symm
   refine ⟨p,_,rfl,YB.of Zc,rfl,_,_,rfl,_,_,rfl,rfl,?_⟩
   have np:hA≠p:=Zf hG hp
   have hG1:(upd G p (.tup [.int (tn:Int),.int d])) hA=some (.lst (tab N fun x=>V.int (if plc T x<i then hgt (ZY ps) T x else 0))):=by rw [Zh np];exact hG
   refine ⟨_,rfl,_,rfl,_,rfl,hA,_,_,tn,rfl,rfl,hG1,(by rw [WB];exact YR (by lia)),?_⟩
   refine ⟨_,rfl,_,rfl,_,_,rfl,rfl,?_⟩
   refine ⟨some (.int (tn:Int)),some (.int d),?_,(fr.new hp).trans YC.upd,?_⟩
   ·rw [hds];rfl
   ·rw [Zc,ZaT]
    refine congrArg (fun z=>some (HO.lst z)) (YW fun x x0 x1=>?_)
    have pt:plc T ((tn:Nat):Int)=i:=by
     obtain ⟨_,e⟩:=List.getElem?_eq_some_iff.mp ht
     rw [<- e];exact Zjf o.nd hi
    by_cases e:x=(tn:Int)
    ·rw [if_pos e,e,pt,if_pos (Nat.lt_succ_self i)]
     unfold hgt
     rw [pt]
    ·rw [if_neg e]
     have nx:plc T x≠i:=fun z=>e (by
      have hx:=o.all x x0 x1
      have lt:plc T x<T.length:=List.idxOf_lt_length_of_mem hx
      have gx:T[plc T x]=x:=List.getElem_idxOf lt
      obtain ⟨_,e2⟩:=List.getElem?_eq_some_iff.mp ht
      rw [<- gx,<- e2]
      simp [z])
     by_cases c:plc T x<i
     ·rw [if_pos c,if_pos (by lia)]
     ·rw [if_neg c,if_neg (by lia)]
  ·rintro σ G ⟨v4,v5,rfl,fr,hG⟩
   refine ⟨_,rfl,k hA G fh ?_ ?_⟩
   ·exact fun c u e=>fr c u (s02 c u e) (Zf e fh)
   ·rw [hG]
    refine congrArg (fun z=>some (HO.lst z)) (YW fun x x0 x1=>?_)
    rw [if_pos]
    rw [List.length_map]
    unfold plc
    exact List.idxOf_lt_length_of_mem (o.all x x0 x1)
def hsB (sc:Int) (ls:List (Str×Int)) (b:Bool):Prop:=(sc=1->b=true)/\(sc≠1 -> ∃ts,Gp (Jf (YS ls)) (Y0 ls) ts/\b=decide (ts.map (UG (ZY (YS ls))) = [0]))
def Znd:Sp:=fun vs H Q _=>∃(l:Addr) (sc:Int) (xs:List V) (ls:List (Str×Int)),vs = [.ref l,.int sc]/\H l=some (.lst xs)/\ZC H xs ls/\ls.length<=60/\Wk ls 0 /\
 ∀(H':Hp) (b:Bool),Zi H H'->hsB sc ls b->Q (.bl b) H'
abbrev U4:Stmt:=top 20
theorem Zex:Zz ["drawing", "scale"] ["drawing", "scale"] (Zj U4):={}
theorem Zn8 {f:Addr}{fd:FuncData} (F:YE K "has_scale" "has_scale" U4 f fd) (Zez:Yr P w K mg base 6 "turns" ["drawing"] ZeN):Yj P w K mg base Wy 7 f fd ["drawing", "scale"] Znd:=by
 refine F.ok Zex (fun vs H Q E h=>?_) (fun cdv A outer s H vs Q E hr h=>?_)
 ·obtain ⟨l,sc,xs,ls,rfl,_⟩:=h
  rfl
 ·obtain ⟨l,sc,xs,ls,rfl,hl,hL,hlen,hW,k⟩:=h
  refine ⟨_,(Zg (Zy (Zff (Yn Yc (pv 1) Zd (Zp _)) (U1 (Yn (ZkC (K:=K) rfl hr.units) (Zq Zez hr (Za (pv 0) Zb)) (ZL (Za Zd Zb)) (Zp _)))))),?_⟩
  refine ⟨_,rfl,rfl,_,rfl,?_⟩
  refine ZX (fun c=>?_) (fun c=>?_)
  ·have e:sc=1:=V.int.inj (of_decide_eq_true c)
   exact k H true (Zi.refl _) ⟨fun _=>rfl,fun z=>absurd e z⟩
  ·have e:sc≠1:=fun z=>c (decide_eq_true (congrArg V.int z))
   refine ⟨_,rfl,l,xs,ls,rfl,hl,hL,hlen,hW,fun p H1 ts fp s1 tr ep=>?_⟩
   refine ⟨(by show 1<=sizeLine;decide),fun q hq=>?_⟩
   refine ⟨p,q,ts.map (UG (ZY (YS ls))),[0],rfl,rfl,Zw.of ((Zi.laid hq) _ _ ep),Zw.of Zc,?_⟩
   exact k _ _ (s1.step hq) ⟨fun z=>absurd z e,fun _=>⟨ts,tr,rfl⟩⟩
def thV (sc:Int) (ls:List (Str×Int)) (zs:List V):Prop:=(sc=1/\zs=tab (Y0 ls) fun _=>V.int 0)∨(sc≠1 /\ ∃T L,Gp (Jf (YS ls)) (Y0 ls) [T]/\UG (ZY (YS ls)) T=0/\One (YS ls) (Y0 ls) T L/\zs=tab (Y0 ls) fun x=>V.int (hgt (ZY (YS ls)) T x))
def Zmw (C:Addr):Sp:=fun vs H Q E=>∃(l:Addr) (sc:Int) (xs:List V) (ls:List (Str×Int)),vs = [.ref l,.int sc]/\H l=some (.lst xs)/\ZC H xs ls/\ls.length<=60/\Wk ls 0 /\
 (∀(p:Addr) (H':Hp) (zs:List V),H p=none->Zi H H'->H' p=some (.lst zs)->thV sc ls zs->Q (.ref p) H') /\
 (∀(H':Hp) (ts:List (List Int)),Zi H H'->sc≠1->Gp (Jf (YS ls)) (Y0 ls) ts->ts.map (UG (ZY (YS ls))) ≠ [0]->E (.ref C) none H')
theorem Zl7 {dn:Int->Int}{ts:List (List Int)} (h:ts.map (UG dn) = [0]):∃T,ts = [T]/\UG dn T=0:=by
 cases ts with
 | nil=>cases h
 | cons T r=>
  cases r with
  | nil=>exact ⟨T,rfl,by simpa using h⟩
  | cons a b=>simp at h
abbrev JT:Stmt:=top 21
theorem Za6:Zz ["drawing", "scale"] ["drawing", "scale"] (Zj JT):={}
theorem ZnX {f Yf:Addr}{fd:FuncData} (F:YE K "thread_heights" "thread_heights" JT f fd) (U7:mg "NoHeights" = some (.ref Yf)) (J5:PySem.W.excIn K Yf bmV "ValueError.__new__" = true)
  (UN:Yr P w K mg base 7 "has_scale" ["drawing", "scale"] Znd) (Jp:Yr P w K mg base 2 "ends_of" ["drawing"] (Za8 fun x=>decide (x = "end"))) (Zae:Yr P w K mg base 5 "tours" ["drawing"] Zcj) (Yw:Yr P w K mg base 4 "uppers_at_ends" ["drawing"] Zbf)
  (Wr:Yr P w K mg base 3 "heights_along" ["tour", "uppers"] ZmW) (Yt:mg "len" = none):Yj P w K mg base (CX1 P w) 8 f fd ["drawing", "scale"] (Zmw Yf):=by
 refine F.okX Za6 (fun vs H Q E h=>?_) (fun cdv A outer s H vs Q E hr h=>?_)
 ·obtain ⟨l,sc,xs,ls,rfl,_⟩:=h
  rfl
 ·obtain ⟨l,sc,xs,ls,rfl,hl,hL,hlen,hW,k,kx⟩:=h
  have n120:=JU hlen
  have nt:2*(Ya ls Gq ls.length).length=Y0 ls:=by unfold Y0 YS Jg;rw [List.length_map]
  refine ⟨_,(Ze (ZZ (ZeP (ZaK (Zq UN hr (Za (pv 0) (Za (pv 1) Zb))))) (Zg (Zi7 (by rfl) U7 J5 (Za ZG Zb))) ZO)
   (Ze (ZZ (Zr Yc (pv 1) Zd (Zp _)) (Zg (Zy (Zk ZaH (ZL (Za Zd Zb)) (Zk JO Zd (ZE (YH (K:=K) rfl) (by rfl) Yt PySem.boot_len (Za (Zq Jp hr (Za (pv 0) Zb)) Zb)))))) ZO)
   (Zg (Zy (Zq Wr hr (Za (Zv (Zs (K:=K) rfl) (Zq Zae hr (Za (pv 0) Zb)) Zd (fun _ _=>rfl)) (Za (Zq Yw hr (Za (pv 0) Zb)) Zb))))))),?_⟩
  refine ⟨_,rfl,_,rfl,l,sc,xs,ls,rfl,hl,hL,hlen,hW,fun H1 b s1 hb=>?_⟩
  refine ⟨b,rfl,?_⟩
  cases b with
  | false=>
   refine Za9 ?_
   refine ⟨(by show 1<=sizeLine;decide),?_⟩
   have ne:sc≠1:=fun z=>by cases hb.1 z
   obtain ⟨ts,tr,e⟩:=hb.2 ne
   exact kx H1 ts s1 ne tr (fun z=>by rw [decide_eq_true z] at e;cases e)
  | true=>
   refine WE ?_
   refine ⟨_,rfl,rfl,_,rfl,?_⟩
   refine ZX (fun c=>?_) (fun c=>?_)
   ·have e:sc=1:=V.int.inj (of_decide_eq_true c)
    refine ⟨(by show 1<=sizeLine;decide),fun l0 hl0=>?_⟩
    have s0:=s1.step (o:=.lst [.int 0]) hl0
    refine ⟨_,rfl,l,xs,ls,rfl,s0 l _ hl,hL.same s0,hlen,hW.kd,fun eA H2 fe s2 ee=>?_⟩
    refine ⟨eA,_,rfl,.inl (Zw.of ee),_,_,rfl,rfl,.inl ⟨by decide,by decide⟩,?_⟩
    have el:((2:Int)*((((Ya ls (fun x=>decide (x = "end")) ls.length).map V.int).length:Nat):Int))=((Y0 ls:Nat):Int):=by
     rw [List.length_map]
     have:(Ya ls (fun x=>decide (x = "end")) ls.length).length=(Ya ls Gq ls.length).length:=rfl
     lia
    show Zne (V.ref l0) (V.int ((2:Int)*((((Ya ls (fun x=>decide (x = "end")) ls.length).map V.int).length:Nat):Int))) H2 _
    rw [el]
    refine ⟨l0,_,_,rfl,rfl,s2 l0 _ Zc,by lia,by lia,(by show 1*_<=sizeLine;exact Nat.le_of_lt (Zx (by lia))),fun rA hrA=>?_⟩
    refine k rA _ _ ((s0.trans s2).free hrA) ((s0.trans s2).step hrA) Zc (.inl ⟨e,?_⟩)
    rw [Int.toNat_natCast,Zah]
   ·have e:sc≠1:=fun z=>c (decide_eq_true (congrArg V.int z))
    obtain ⟨ts0,tr0,e0⟩:=hb.2 e
    obtain ⟨T,rfl,t0⟩:=Zl7 (of_decide_eq_true e0.symm)
    obtain ⟨L,o,hTl⟩:=ZjB hW tr0 t0
    refine ⟨_,rfl,l,xs,ls,rfl,s1 l _ hl,hL.same s1,hlen,hW,fun tsA H2 ys ts ft s2 et rv ap tr=>?_⟩
    have ets:ts = [T]:=(tr.uniq tr0)
    subst ets
    obtain ⟨tA,rfl,eT⟩:∃tA,ys = [V.ref tA]/\H2 tA=some (.lst (T.map V.int)):=by
     cases rv with
     | cons a r=>
      cases r
      obtain ⟨q,rfl,hq⟩:=a
      exact ⟨q,rfl,hq⟩
    refine ⟨tsA,_,_,_,rfl,rfl,Zw.of et,Zo (j:=0) rfl,?_⟩
    have s12:=s1.trans s2
    refine ⟨_,rfl,l,xs,ls,rfl,s12 l _ hl,hL.same s12,hlen,hW,fun uA H3 fu s3 eu=>?_⟩
    refine ⟨tA,uA,T,YS ls,Y0 ls,L,rfl,s3 _ _ eT,eu,o,hTl,n120,fun p H4 fp s4 ep=>?_⟩
    have s04:=(s12.trans s3).trans s4
    exact k p H4 _ ((s12.trans s3).free fp) s04 ep (.inr ⟨e,T,L,tr0,t0,o,rfl⟩)
def kn (kvs:List (Key×V)) (x:Int):Prop:=(Y5 kvs (Sum.inl x)).isSome=true
structure Dc (g:Int->Int) (H:Hp) (d:Addr) (n:Nat) (kvs:List (Key×V)):Prop where
 at_:H d=some (.dK kvs)
 le:kvs.length<=n
 ok:∀x v,Y5 kvs (Sum.inl x)=some v->v = .int (g x)
theorem ZbP {kvs:List (Key×V)}{x y:Int}{v:V}:kn (putK kvs (Sum.inl y) v) x ↔ (x=y∨kn kvs x):=by
 unfold kn
 rw [Zdd]
 by_cases e:x=y
 ·rw [if_pos (congrArg Sum.inl e)]
  simp [e]
 ·rw [if_neg (fun z=>e (Sum.inl.inj z))]
  simp [e]
theorem Dc.put {g:Int->Int}{H:Hp}{d:Addr}{n:Nat}{kvs:List (Key×V)}{y:Int} (h:Dc g H d n kvs):Dc g (upd H d (.dK (putK kvs (Sum.inl y) (.int (g y))))) d (n+1) (putK kvs (Sum.inl y) (.int (g y))):=by
 refine ⟨Zc,?_,fun x v e=>?_⟩
 ·have:=J6 kvs (Sum.inl y) (.int (g y))
  have:=h.le
  lia
 ·rw [Zdd] at e
  split at e
  ·rename_i z
   cases e
   rw [Sum.inl.inj z]
  ·exact h.ok x v e
theorem Dc.val {g:Int->Int}{H:Hp}{d:Addr}{n:Nat}{kvs:List (Key×V)}{x:Int} (h:Dc g H d n kvs) (k:kn kvs x):Y5 kvs (Sum.inl x)=some (.int (g x)):=by
 unfold kn at k
 cases e:Y5 kvs (Sum.inl x) with
 | none=>rw [e] at k;cases k
 | some v=>rw [h.ok x v e]
theorem Zd6 {g:Int->Int}{tu tl td:TE} {σ:L2.St}{H:Hp}{d:Addr}{n:Nat}{kvs:List (Key×V)}{u l:Int}{D:Ends} (hu:∀(H:Hp) (Q:VK),Q (.int u) H->tu σ H Q) (hl:∀(H:Hp) (Q:VK),Q (.int l) H->tl σ H Q) (hd:∀(H:Hp) (Q:VK),Q (.ref d) H->td σ H Q)
  (dc:Dc g H d n kvs) (hn:n<1000000) (hg:g u=g l+1)
  (k:∀(H':Hp) (kvs':List (Key×V)),YC d H H'->Dc g H' d (n+1) kvs'->(∀x,kn kvs x->kn kvs' x)->((kn kvs u∨kn kvs l)->kn kvs' u/\kn kvs' l)->D.nx σ H'):
  Zew (tB (Ziv tu td)) (UT (tOp (rI0 fun i j=>V.int (i-j)) (tOp Znb td tu) (tC (V.int 1))) (ZhS td tl ZfA))
   (Zew (tB (Ziv tl td)) (UT (tOp (rI0 fun i j=>V.int (i+j)) (tOp Znb td tl) (tC (V.int 1))) (ZhS td tu ZfA)) Zhn) D σ H:=by
 have sz:kvs.length<sizeLine:=by have:=dc.le;rw [sizeLine_eq];lia
 refine hu _ _ (hd _ _ ⟨d,_,rfl,Uv.k (k:=Sum.inl u) dc.at_,_,rfl,?_⟩)
 refine ZX (fun c=>?_) (fun c=>?_)
 ·have ku:kn kvs u:=c
  refine hd _ _ (hu _ _ ⟨d,.int (g u),rfl,?_,_,_,rfl,rfl,hd _ _ (hl _ _ ⟨d,_,rfl,ZfF.k (k:=Sum.inl l) dc.at_ sz,?_⟩)⟩)
  ·have:=Uv.k (k:=Sum.inl u) dc.at_
   rw [dc.val ku] at this
   exact this
  ·have e:g u-1=g l:=by lia
   show D.nx σ (upd H d (.dK (putK kvs (Sum.inl l) (.int (g u-1)))))
   rw [e]
   exact k _ _ YC.upd dc.put (fun x h=>ZbP.mpr (.inr h)) (fun _=>⟨ZbP.mpr (.inr ku),ZbP.mpr (.inl rfl)⟩)
 ·have nu:¬kn kvs u:=c
  refine hl _ _ (hd _ _ ⟨d,_,rfl,Uv.k (k:=Sum.inl l) dc.at_,_,rfl,?_⟩)
  refine ZX (fun c2=>?_) (fun c2=>?_)
  ·have kl:kn kvs l:=c2
   refine hd _ _ (hl _ _ ⟨d,.int (g l),rfl,?_,_,_,rfl,rfl,hd _ _ (hu _ _ ⟨d,_,rfl,ZfF.k (k:=Sum.inl u) dc.at_ sz,?_⟩)⟩)
   ·have:=Uv.k (k:=Sum.inl l) dc.at_
    rw [dc.val kl] at this
    exact this
   ·have e:g l+1=g u:=hg.symm
    show D.nx σ (upd H d (.dK (putK kvs (Sum.inl u) (.int (g l+1)))))
    rw [e]
    exact k _ _ YC.upd dc.put (fun x h=>ZbP.mpr (.inr h)) (fun _=>⟨ZbP.mpr (.inl rfl),ZbP.mpr (.inr kl)⟩)
  ·have nl:¬kn kvs l:=c2
   exact k H kvs (YC.refl _ _) ⟨dc.at_,by have:=dc.le;lia,dc.ok⟩ (fun x h=>h) (fun z=>z.elim (fun y=>absurd y nu) (fun y=>absurd y nl))
theorem One.pair {ps:List (Int×Int)}{N:Nat}{T:List Int}{L:Nat} (o:One ps N T L) (pf:∀x:Int,0<=x->x<N->x∈ZJ ps) {x:Int} (h0:0<=x) (h1:x<N):∃u l,(u,l)∈ps/\((x=u/\Jf ps x=l)∨(x=l/\Jf ps x=u)):=by
 obtain ⟨⟨u,l⟩,hp,hx⟩:=List.mem_flatMap.mp (pf x h0 h1)
 obtain ⟨a,b⟩:=Zc5 o.fl0 hp
 refine ⟨u,l,hp,?_⟩
 rcases List.mem_cons.mp hx with z | z
 ·have z:x=u:=z
  exact .inl ⟨z,by rw [z];exact a⟩
 ·have z:x=l:=List.mem_singleton.mp z
  exact .inr ⟨z,by rw [z];exact b⟩
theorem One.grow {ps:List (Int×Int)}{N:Nat}{T:List Int}{L:Nat} (o:One ps N T L) (pf:∀x:Int,0<=x->x<N->x∈ZJ ps) {A B C:List (Key×V)}
  (ab:∀x,kn A x->kn B x) (bc:∀x,kn B x->kn C x) (pe:∀u l,(u,l)∈ps->(kn A u∨kn A l)->kn B u/\kn B l) (pb:∀j:Nat,2*j<N->(kn B (2*j)∨kn B (2*j+1))->kn C (2*j)/\kn C (2*j+1)) {r:Nat}
  (h:∀i x,i<=r->T[i]? = some x->kn A x):∀i x,i<=r+1->T[i]? = some x->kn C x:=by
 intro i x hi hx
 by_cases c:i<=r
 ·exact bc _ (ab _ (h i x c hx))
 ·have e:i=r+1:=by omega
  subst e
  have hlt:r+1<T.length:=(List.getElem?_eq_some_iff.mp hx).1
  have hL:=o.len
  by_cases ev:r % 2=0
  ·obtain ⟨j,rfl⟩:∃j,r=2*j:=⟨r / 2,by omega⟩
   have a0:=o.at0 (j:=j) (by omega)
   have a1:=o.at1 (j:=j) (by omega)
   rw [hx] at a1
   have ex:x=Jf ps (gt (Jf ps) 0 j):=Option.some.inj a1
   have kA:=h (2*j) _ (Nat.le_refl _) a0
   obtain ⟨u,l,hp,c⟩:=o.pair pf (o.ZkV j).1 (o.ZkV j).2
   rw [ex]
   rcases c with ⟨z1,z2⟩ | ⟨z1,z2⟩
   ·rw [z2];exact bc _ (pe u l hp (.inl (z1 ▸ kA))).2
   ·rw [z2];exact bc _ (pe u l hp (.inr (z1 ▸ kA))).1
  ·obtain ⟨j,rfl⟩:∃j,r=2*j+1:=⟨r / 2,by omega⟩
   have a1:=o.at1 (j:=j) (by omega)
   have a2:=o.at0 (j:=j+1) (by omega)
   have e2:2*(j+1)=2*j+1+1:=by omega
   rw [e2,hx] at a2
   have ex:x=bw (Jf ps (gt (Jf ps) 0 j)):=Option.some.inj a2
   have kB:=ab _ (h (2*j+1) _ (Nat.le_refl _) a1)
   obtain ⟨y,hy⟩:∃y,y=Jf ps (gt (Jf ps) 0 j):=⟨_,rfl⟩
   rw [<- hy] at ex kB
   have yd:0<=y/\y<(N:Int):=by rw [hy];exact o.dom _ (List.mem_of_getElem? a1)
   have ne:=o.M.ev
   rw [ex]
   unfold bw
   split
   ·rename_i z
    obtain ⟨q,hq⟩:∃q:Nat,y=2*(q:Int):=⟨(y / 2).toNat,by omega⟩
    rw [hq] at kB yd ⊢
    exact (pb q (by omega) (.inl kB)).2
   ·rename_i z
    obtain ⟨q,hq⟩:∃q:Nat,y=2*(q:Int)+1:=⟨(y / 2).toNat,by omega⟩
    rw [hq] at kB yd ⊢
    have:=(pb q (by omega) (.inr kB)).1
    rwa [show 2*(q:Int)+1-1=2*(q:Int) by omega]
def lhV (sc:Int) (ls:List (Str×Int)) (H H':Hp) (v:V):Prop:=(sc=1 /\ ∃p,v = .ref p/\H p=none/\H' p=some (.lst (tab (Y0 ls) fun _=>V.int 0))) ∨
 (sc≠1 /\ ∃ts,Gp (Jf (YS ls)) (Y0 ls) ts/\((ts.map (UG (ZY (YS ls))) ≠ [0]/\v = .non)∨(∃p T L,ts = [T]/\UG (ZY (YS ls)) T=0/\One (YS ls) (Y0 ls) T L/\v = .ref p/\H p=none/\H' p=some (.lst (tab (Y0 ls) fun x=>V.int (hgt (ZY (YS ls)) T x))))))
def Zng:Sp:=fun vs H Q _=>∃(l:Addr) (sc:Int) (xs:List V) (ls:List (Str×Int)),vs = [.ref l,.int sc]/\H l=some (.lst xs)/\ZC H xs ls/\ls.length<=60/\Wk ls 0 /\
 ∀(v:V) (H':Hp),Zi H H'->lhV sc ls H H' v->Q v H'
theorem Zli {ls:List (Str×Int)}{ts:List (List Int)} (hW:Wk ls 0) (tr:Gp (Jf (YS ls)) (Y0 ls) ts):(ts.map fun T=>(T.length:Int)).sum=(Y0 ls:Int):=by
 have good:=tr.good (JV hW) (Int.le_refl _)
 have e:∀us:List (List Int),(us.map fun T=>(T.length:Int)).sum=(us.flatten.length:Int):=by
  intro us
  induction us with
  | nil=>rfl
  | cons a r ih=>simp only [List.map_cons,List.sum_cons,ih,List.flatten_cons,List.length_append];lia
 rw [e]
 have a:=J7 (Y0 ls) ts.flatten good.1 (fun x hx=>good.2.1 x hx)
 have b:Y0 ls<=ts.flatten.length:=by
  have:=sub_len (WK (Y0 ls)) (l':=ts.flatten) (fun x hx=>by
   obtain ⟨x0,x1⟩:=YJ.mp hx
   obtain ⟨k,rfl⟩:=Int.eq_ofNat_of_zero_le x0
   exact tr.mem k (by lia))
  rwa [Gx] at this
 lia
theorem WV.at' {z:Addr}{dn:Int->Int}{H:Hp}:∀{ys:List V}{ts:List (List Int)}{i:Nat}{x:V},WV z dn H ys ts->ys[i]? = some x -> ∃T,ts[i]? = some T /\ ∃a g,x=V.ref a/\H a=some (.tup [.ref g,.int (Ze1 (fl dn T) / 2)])/\H g=some (.lst (T.map V.int))
 | _,_,_,_,.nil,e=>by simp at e
 | _,_,0,_,.cons ⟨a,g,q,ha,hg,_⟩ _,e=>by simp at e;subst e;exact ⟨_,rfl,a,g,q,ha,hg⟩
 | _,_,i+1,x,.cons _ r,e=>by
  obtain ⟨T,h1,h2⟩:=WV.at' (i:=i) (x:=x) r (by simpa using e)
  exact ⟨T,by simpa using h1,h2⟩
abbrev Jh:Stmt:=top 41
theorem ZT:Zz ["_law_drawing_here", "_law_scale", "_law_walks_here", "_law_many", "_law_rows_here", "_law_found", "_law_turn", "_law_t", "_law_letter", "_law_upper", "_law_lower", "_law_thread"] ["_law_drawing_here", "_law_scale"] (Zj Jh):={}
theorem ZnU {f:Addr}{fd:FuncData} (F:YE K "_law_heights" "_law_heights" Jh f fd) (GV:Yr P w K mg base 2 "_law_walks" ["_law_drawing_here"] ZeH) (YI:Yr P w K mg base 1 "_law_rows" ["_law_drawing_here"] U8)
  (ZI:mg "enumerate" = none) (Za0:mg "sum" = none) (Yt:mg "len" = none) (Z7:mg "range" = none):Yj P w K mg base Wy 3 f fd ["_law_drawing_here", "_law_scale"] Zng:=by
 refine F.ok ZT (fun vs H Q E h=>?_) (fun cdv A outer s H vs Q E hr h=>?_)
 ·obtain ⟨l,sc,xs,ls,rfl,_⟩:=h
  rfl
 ·obtain ⟨l,sc,xs,ls,rfl,hl,hL,hlen,hW,k⟩:=h
  have n120:=JU hlen
  have hxl:=hL.len
  refine ⟨_,(Ze (Zn (i:=2) ZT.nd rfl (Or.inl rfl) (Zq GV hr (Za (pv 0) Zb)))
   (Ze (Zn (i:=3) ZT.nd rfl (Or.inl rfl) (ZE (Zbx (K:=K) rfl rfl) (by rfl) Za0 boot_sum (Za (UL (Ls:=["_law_gone", "_law_turn"]) (Fs:=[]) (fi:=[]) (Yi.of (show YT ["_law_drawing_here", "_law_scale", "_law_walks_here", "_law_many", "_law_rows_here", "_law_found", "_law_turn", "_law_t", "_law_letter", "_law_upper", "_law_lower", "_law_thread"] (Zj Jh) _ [] []=true by decide +kernel)) rfl (Yk (K:=K) rfl (pv 2)) (fun cl C s3 H3 ex=>⟨(ZU (K:=K) (n:=2) rfl rfl (Zm (Zl (i:=0) (show ((["_law_gone", "_law_turn"]:List Str)++([]:List Str)).Nodup by decide +kernel) rfl (Or.inl rfl)) (Zm (Zl (i:=1) (show ((["_law_gone", "_law_turn"]:List Str)++([]:List Str)).Nodup by decide +kernel) rfl (Or.inl rfl)) ZP))),Jk,(ZE (YH (K:=K) rfl) (by rfl) Yt PySem.boot_len (Za (pv 0) Zb))⟩)) Zb)))
   (Ze (ZZ (Zr Yc (pv 1) Zd (Zp _)) (Zg (Zy (Zk ZaH (ZL (Za Zd Zb)) (pv 3)))) ZO)
   (Ze (ZZ (PW.pt (Zhz (Zr Zc9 (ZE (YH (K:=K) rfl) (by rfl) Yt PySem.boot_len (Za (pv 2) Zb)) Zd (Zp _)) (Zf8 (Zr Zc9 (Zv (ZK (K:=K) rfl) (Zv (Zs (K:=K) rfl) (pv 2) Zd (fun _ _=>rfl)) Zd (fun _ _=>rfl)) Zd (Zp _))))) (Zg (Zy UP)) ZO)
   (Ze (Zn (i:=4) ZT.nd rfl (Or.inl rfl) (Zq YI hr (Za (pv 0) Zb)))
   (Ze (Zn (i:=5) ZT.nd rfl (Or.inr rfl) (Zkr (ZfM Zd Zd (ZfM Zd Zd ZkY)) rfl rfl (by intro z;cases z) (by decide)))
   (Ze (Ym PassesOwn.never rfl (YX (by rfl) Z7 (Za (pv 3) Zb)) (Zl (i:=6) ZT.nd rfl (Or.inl rfl)) (Ze (Ym PassesOwn.never rfl (WM (K:=K) rfl (by rfl) ZI (Za (pv 0) Zb)) (ZU (K:=K) (n:=2) rfl rfl (Zm (Zl (i:=7) ZT.nd rfl (Or.inl rfl)) (Zm (Zl (i:=8) ZT.nd rfl (Or.inl rfl)) ZP))) (Zg (ZZ (Zr Yc (Zv (ZK (K:=K) rfl) (pv 8) Zd (fun _ _=>rfl)) ZG (Zp _)) (Ze (Z8 (YA (Ji (K:=K) rfl) (Zv (Zs (K:=K) rfl) (pv 4) (pv 7) (fun _ _=>rfl)) (Yh (Zv (ZK (K:=K) rfl) (pv 8) Zd (fun _ _=>rfl))) (Yh (Zk Zu (Zv (ZK (K:=K) rfl) (pv 8) Zd (fun _ _=>rfl)) Zd))) (Zch (K:=K) (n:=2) rfl rfl (Zm (Zl (i:=9) ZT.nd rfl (Or.inl rfl)) (Zm (Zl (i:=10) ZT.nd rfl (Or.inl rfl)) ZP))))
   (Zg (ZZ (Zey (Zee (Jb hr) (pv 9) (pv 5))) (Zg (Z8 (Zk YO (Zv (GU (Jb hr)) (pv 5) (pv 9) (fun _ _=>rfl)) Zd) (Yl (pv 5) (pv 10) (set_dict (Jb hr))))) (Zg (ZZ (Zey (Zee (Jb hr) (pv 10) (pv 5))) (Zg (Z8 (Zk Zu (Zv (GU (Jb hr)) (pv 5) (pv 10) (fun _ _=>rfl)) Zd) (Yl (pv 5) (pv 9) (set_dict (Jb hr))))) ZO))))) ZO)))
   (Zg (Ym PassesOwn.never rfl (Zii (by rfl) Z7 (Za Zd (Za (pv 3) (Za Zd Zb)))) (Zl (i:=11) ZT.nd rfl (Or.inl rfl)) (Zg (ZZ (Zey (Zee (Jb hr) (pv 11) (pv 5))) (Zg (Z8 (Zk YO (Zv (GU (Jb hr)) (pv 5) (pv 11) (fun _ _=>rfl)) Zd) (Yl (pv 5) (Zk Zu (pv 11) Zd) (set_dict (Jb hr))))) (Zg (ZZ (Zey (Zee (Jb hr) (Zk Zu (pv 11) Zd) (pv 5))) (Zg (Z8 (Zk Zu (Zv (GU (Jb hr)) (pv 5) (Zk Zu (pv 11) Zd) (fun _ _=>rfl)) Zd) (Yl (pv 5) (pv 11) (set_dict (Jb hr))))) ZO))))))))
   (Zg (Zy (UL (Ls:=["_law_thread"]) (Fs:=["_law_found"]) (fi:=[5]) (Yi.of (show YT ["_law_drawing_here", "_law_scale", "_law_walks_here", "_law_many", "_law_rows_here", "_law_found", "_law_turn", "_law_t", "_law_letter", "_law_upper", "_law_lower", "_law_thread"] (Zj Jh) _ ["_law_found"] [5]=true by decide +kernel)) rfl (YX (by rfl) Z7 (Za (pv 3) Zb)) (fun cl C s3 H3 ex=>⟨(Zl (i:=0) (show ((["_law_thread"]:List Str)++(["_law_found"]:List Str)).Nodup by decide +kernel) rfl (Or.inl rfl)),Jk,(Zv (GU (Jb hr)) (pv 1) (pv 0) (fun _ _=>rfl))⟩))))))))))),?_⟩
  refine ⟨_,rfl,l,xs,ls,rfl,hl,hL,hlen,hW,fun wA H1 ys ts fw s1 ew wv tr=>?_⟩
  have good:=tr.good (JV hW) (Int.le_refl _)
  have tl:=tr.len (JV hW) (Int.le_refl _)
  have yl:=wv.len
  refine ⟨_,rfl,wA,rfl,⟨_,Zw.of ew⟩,WA (K:=K) (a:=wA) (xs:=ys) (Nat.le_of_lt (Zx (by lia))) (fun i zs G=>Zi H1 G/\zs=((ts.take i).map fun T=>(T.length:Int)).map V.int) ⟨Zi.refl _,rfl⟩
   (fun i zs G q=>by rw [q.2,List.length_map,List.length_map,List.length_take];lia) (fun i zs G q=>Zw.of (q.1 wA _ ew)) (fun i x zs G hx q=>?_) (fun zs G q D hD=>?_)⟩
  ·obtain ⟨sq,rfl⟩:=q
   obtain ⟨T,hT,a,g,rfl,ha,hg⟩:=wv.at' hx
   refine ⟨a,_,rfl,YB.of (sq _ _ ha),rfl,_,_,rfl,_,_,rfl,rfl,?_⟩
   dsimp only [Zhl]
   rw [if_pos rfl]
   refine ⟨_,rfl,g,_,rfl,.inl (Zw.of (sq _ _ hg)),sq,?_⟩
   rw [List.length_map,YZ (ns:=ts) _ hT,List.map_append]
   rfl
  obtain ⟨sq,rfl⟩:=q
  rw [yl,List.take_of_length_le (Nat.le_refl _)]
  refine ⟨D,_,rfl,Zw.of Zc,?_⟩
  rw [Zli hW tr]
  have s2:=(s1.trans sq).step (o:=.lst ((ts.map fun T=>(T.length:Int)).map V.int)) hD
  have s12:=sq.step (o:=.lst ((ts.map fun T=>(T.length:Int)).map V.int)) hD
  generalize upd G D (.lst ((ts.map fun T=>(T.length:Int)).map V.int))=H2 at *
  have ew2:=s12 _ _ ew
  refine ⟨_,rfl,rfl,_,rfl,?_⟩
  refine ZX (fun c=>?_) (fun c=>?_)
  ·have e:sc=1:=V.int.inj (of_decide_eq_true c)
   refine ⟨(by show 1<=sizeLine;decide),fun l0 hl0=>⟨_,rfl,?_⟩⟩
   refine ⟨l0,_,_,rfl,rfl,Zc,by lia,by lia,(by show 1*_<=sizeLine;exact Nat.le_of_lt (Zx (by lia))),fun rA hrA=>?_⟩
   refine k _ _ ((s2.step hl0).step hrA) (.inl ⟨e,rA,rfl,(s2.step hl0).free hrA,?_⟩)
   rw [Zc,Int.toNat_natCast,Zah]
  ·have e:sc≠1:=fun z=>c (decide_eq_true (congrArg V.int z))
   refine ⟨_,rfl,wA,_,rfl,.inl (Zw.of ew2),rfl,_,rfl,?_⟩
   by_cases len1:ts.length=1
   ·obtain ⟨T,rfl⟩:∃T,ts = [T]:=by
     cases ts with
     | nil=>simp at len1
     | cons T r=>
      cases r with
      | nil=>exact ⟨T,rfl⟩
      | cons _ _=>simp at len1
    have ly:((ys.length:Nat):Int)=1:=by rw [yl];rfl
    rw [ly]
    refine ZlH rfl ?_
    obtain ⟨T',hT',a,g,e1,ha,hg⟩:=wv.at' (i:=0) (x:=ys[0]'(by rw [yl];exact Nat.zero_lt_one)) (by simp [yl])
    have eT:T'=T:=by simpa using hT'.symm
    subst eT
    refine ⟨_,rfl,wA,_,_,_,rfl,rfl,Zw.of ew2,Zo (j:=0) (by simp [yl];rfl),?_⟩
    rw [e1]
    refine ⟨a,_,_,_,rfl,rfl,YB.of (s12 _ _ ha),Zo (j:=1) rfl,rfl,_,rfl,?_⟩
    by_cases t0:UG (ZY (YS ls)) T'=0
    ·have t0':Ze1 (fl (ZY (YS ls)) T') / 2=0:=t0
     rw [t0']
     refine ZlH rfl ?_
     obtain ⟨L,o,hTl⟩:=ZjB hW tr t0
     have pf:∀x:Int,0<=x->x<(Y0 ls:Int)->x∈ZJ (YS ls):=fun x x0 x1=>(Wc hW).mem_iff.mpr (YJ.mpr ⟨x0,x1⟩)
     obtain ⟨gg,hgg⟩:∃gg,gg=hgt (ZY (YS ls)) T':=⟨_,rfl⟩
     refine ⟨_,rfl,l,xs,ls,rfl,s2 l _ hl,hL.same s2,hlen,hW,fun R H3 rys fR s3 eR rv ap ndr=>?_⟩
     have s03:=s2.trans s3
     refine fun dA hdA=>⟨Zc,[(Sum.inl 0,.int 1),(Sum.inl 1,.int 0)],rfl,by decide,?_⟩
     have hdH:H dA=none:=s03.free hdA
     have mk:ZbB [] [((Sum.inl 0:Key),V.int 1),(Sum.inl 1,.int 0)] = [((Sum.inl 0:Key),V.int 1),(Sum.inl 1,.int 0)]:=by decide +kernel
     rw [mk,Jm]
     obtain ⟨Hd,hHd⟩:∃Hd,Hd=upd H3 dA (.dK [((Sum.inl 0:Key),V.int 1),(Sum.inl 1,.int 0)]):=⟨_,rfl⟩
     rw [<- hHd]
     have sd:Zi H3 Hd:=by rw [hHd];exact Zi.laid hdA
     have dc0:Dc gg Hd dA 2 [((Sum.inl 0:Key),V.int 1),(Sum.inl 1,.int 0)]:=by
      refine ⟨by rw [hHd];exact Zc,by decide,fun x v e=>?_⟩
      by_cases x0:x=0
      ·subst x0
       rw [Yy rfl] at e
       cases e
       rw [hgg,o.h0]
      ·rw [Yz (fun z=>x0 (Sum.inl.inj z).symm)] at e
       by_cases x1:x=1
       ·subst x1
        rw [Yy rfl] at e
        cases e
        rw [hgg,o.h1]
       ·rw [Yz (fun z=>x1 (Sum.inl.inj z).symm)] at e
        cases e
     have hlH3:=s03 l _ hl
     have hL3:=hL.same s03
     have nld:l≠dA:=Zf hlH3 hdA
     have nRd:R≠dA:=Zf eR hdA
     have keepT:∀{G:Hp},YC dA Hd G -> ∀c o,H3 c=some o->G c=some o:=fun fr c o e=>fr c o (sd c o e) (Zf e hdA)
     refine ⟨_,rfl,_,rfl,by lia,by lia,JS (n:=((Y0 ls:Nat):Int).toNat) (fun r σ G=>∃(kvs:List (Key×V)) (v6 v7 v8 v9 v10 v11:Option V),σ = [some (.ref l),some (.int sc),some (.ref wA),some (.int (Y0 ls)),some (.ref R),some (.ref dA),v6,v7,v8,v9,v10,v11]/\YC dA Hd G/\Dc gg G dA (2+r*200) kvs /\ ∀i x,i<=r->T'[i]? = some x->kn kvs x)
      ⟨_,none,none,none,none,none,none,rfl,YC.refl _ _,dc0,fun i x hi hx=>?_⟩ ?_ ?_⟩
     ·have:i=0:=by lia
      subst this
      have:=o.at0 (j:=0) o.L1
      rw [show 2*0=0 from rfl,hx] at this
      have e0:x=0:=Option.some.inj this
      rw [e0]
      rfl
     ·rintro r σ G hr' ⟨kvs,v6,v7,v8,v9,v10,v11,rfl,fr,dc,kw⟩
      rw [Int.toNat_natCast] at hr'
      refine ⟨_,rfl,l,rfl,⟨_,Zw.of (keepT fr _ _ hlH3)⟩,ZaY (K:=K) (a:=l) (xs:=xs) (fun i σ G'=>∃(kv2:List (Key×V)) (v7 v8 v9 v10 v11:Option V),σ = [some (.ref l),some (.int sc),some (.ref wA),some (.int (Y0 ls)),some (.ref R),some (.ref dA),some (.int (0+(r:Int))),v7,v8,v9,v10,v11]/\YC dA Hd G'/\Dc gg G' dA (2+r*200+i) kv2/\(∀x,kn kvs x->kn kv2 x) /\ ∀u w,(u,w)∈Jg ls i->(kn kvs u∨kn kvs w)->kn kv2 u/\kn kv2 w)
       ⟨kvs,_,_,_,_,_,rfl,fr,dc,fun _ h=>h,fun u w h=>by unfold Jg Ya at h;simp at h⟩ (fun i σ G' _ ⟨_,_,_,_,_,_,_,fr',_⟩=>Zw.of (keepT fr' _ _ hlH3)) ?_ ?_⟩
      ·rintro i x p σ G1 hx ⟨kv2,v7,v8,v9,v10,v11,rfl,fr1,dc1,mono1,pe1⟩ hp
       obtain ⟨⟨qx,qk⟩,ta,hq,rfl,hta⟩:=hL3.get hx
       have hi:i<ls.length:=(List.getElem?_eq_some_iff.mp hq).1
       obtain ⟨G0,hG0⟩:∃G0,G0=upd G1 p (.tup [.int i,.ref ta]):=⟨_,rfl⟩
       have npd:dA≠p:=Zf dc1.at_ hp
       have fr0:YC dA Hd G0:=by rw [hG0];exact fr1.new hp
       have dc0':Dc gg G0 dA (2+r*200+i) kv2:=⟨by rw [hG0,Zh npd];exact dc1.at_,dc1.le,dc1.ok⟩
       have hta':=keepT fr0 _ _ hta
       have kk:Uu ls Gq i=Gq qx:=by
        unfold Uu
        rw [hq]
        cases h:Gq qx<;>simp [h]
       refine ⟨p,_,rfl,YB.of Zc,rfl,_,_,rfl,_,_,rfl,rfl,?_⟩
       rw [<- hG0]
       refine ⟨_,rfl,ta,_,_,_,rfl,rfl,YB.of hta',Zo (j:=0) rfl,rfl,_,rfl,?_⟩
       refine ZX (fun hc=>?_) (fun hc=>?_)
       ·have e:qx = "end" := V.str.inj (of_decide_eq_true hc)
        subst e
        obtain ⟨k0,k1,pe⟩:=Zfk hW hq (fun z=>nb2 z)
        obtain ⟨kn',rfl⟩:=Int.eq_ofNat_of_zero_le (show 0<=qk from k0)
        simp only [Int.toNat_natCast] at k1 pe
        obtain ⟨ra,hra,hrr⟩:=rv.at (U9 ls (i:=i) (n:=ls.length+1) (by lia))
        have ei:Uu ls Gq i=true:=by rw [kk];unfold Gq;simp
        have pin:Y9 ls i∈YS ls:=List.mem_map.mpr ⟨(i:Int),by
         unfold Ya
         exact List.mem_filterMap.mpr ⟨i,List.mem_range.mpr hi,by rw [if_pos ei]⟩,by simp⟩
        have es:Jg ls (i+1)=Jg ls i ++ [Y9 ls i]:=by rw [WI,if_pos ei]
        obtain ⟨u,hu⟩:∃u,u=(rowAt ls i).getD kn' 0:=⟨_,rfl⟩
        obtain ⟨w',hw⟩:∃w',w'=(rowAt ls i).getD (kn'+1) 0:=⟨_,rfl⟩
        rw [<- hu,<- hw] at pe
        rw [pe] at pin es
        refine ⟨_,rfl,_,rfl,R,_,_,_,rfl,rfl,Zw.of (keepT fr0 R _ eR),Zo hra,_,rfl,ta,_,_,_,rfl,rfl,YB.of hta',Zo (j:=1) rfl,_,rfl,_,rfl,ta,_,_,_,rfl,rfl,YB.of hta',Zo (j:=1) rfl,_,_,rfl,rfl,_,rfl,ra,_,rfl,Zw.of (keepT fr0 ra _ hrr),fun cA hcA=>?_⟩
        rw [Zen k1,<- hu,<- hw]
        refine ⟨cA,_,rfl,Zw.of Zc,rfl,_,_,rfl,_,_,rfl,rfl,?_⟩
        have ncd:dA≠cA:=Zf dc0'.at_ hcA
        have fr2:YC dA Hd (upd G0 cA (.lst [.int u,.int w'])):=fr0.new hcA
        have dc2:Dc gg (upd G0 cA (.lst [.int u,.int w'])) dA (2+r*200+i) kv2:=⟨by rw [Zh ncd];exact dc0'.at_,dc0'.le,dc0'.ok⟩
        have ud:0<=u/\u<(Y0 ls:Int):=YJ.mp ((Wc hW).mem_iff.mp (List.mem_flatMap.mpr ⟨(u,w'),pin,by simp⟩))
        show Zew (tB (Ziv (Yv 9) (Yv 5))) _ _ _ _ _
        refine Zd6 (g:=gg) (u:=u) (l:=w') (d:=dA) (fun H Q q=>⟨_,rfl,q⟩) (fun H Q q=>⟨_,rfl,q⟩) (fun H Q q=>⟨_,rfl,q⟩) dc2 (by lia) (by rw [hgg];exact o.ends pin ud) fun H' kv3 frx dcx mx px=>?_
        refine ⟨kv3,_,_,_,_,_,rfl,fr2.trans frx,dcx,fun x h=>mx x (mono1 x h),fun u2 w2 h h2=>?_⟩
        rw [es] at h
        rcases List.mem_append.mp h with h | h
        ·obtain ⟨a1,a2⟩:=pe1 u2 w2 h h2
         exact ⟨mx _ a1,mx _ a2⟩
        ·have:=List.mem_singleton.mp h
         cases this
         exact px (h2.elim (fun z=>.inl (mono1 _ z)) (fun z=>.inr (mono1 _ z)))
       ·have e:¬qx = "end" := fun z=>hc (decide_eq_true (congrArg V.str z))
        have ei:Uu ls Gq i=false:=by rw [kk];unfold Gq;simp [e]
        have es:Jg ls (i+1)=Jg ls i:=by rw [WI,ei];simp
        refine ⟨kv2,_,_,_,_,_,rfl,fr0,⟨dc0'.at_,by have:=dc0'.le;lia,dc0'.ok⟩,mono1,?_⟩
        rw [es]
        exact pe1
      ·rintro σ G1 ⟨kv2,v7,v8,v9,v10,v11,rfl,fr1,dc1,mono1,pe1⟩
       have ev2':∃hN:Nat,Y0 ls=2*hN:=⟨(YS ls).length,rfl⟩
       obtain ⟨hN,hN2⟩:=ev2'
       refine ⟨_,rfl,hN,?_,by lia,ZgK (lo:=0) (n:=hN) (fun j σ G'=>∃(kv3:List (Key×V)) (v11:Option V),σ = [some (.ref l),some (.int sc),some (.ref wA),some (.int (Y0 ls)),some (.ref R),some (.ref dA),some (.int (0+(r:Int))),v7,v8,v9,v10,v11]/\YC dA Hd G'/\Dc gg G' dA (2+r*200+60+j) kv3/\(∀x,kn kv2 x->kn kv3 x) /\ ∀q:Nat,q<j->(kn kv2 (2*q)∨kn kv2 (2*q+1))->kn kv3 (2*q)/\kn kv3 (2*q+1))
        ⟨kv2,_,rfl,fr1,⟨dc1.at_,by have:=dc1.le;lia,dc1.ok⟩,fun _ h=>h,fun q h=>by lia⟩ ?_ ?_⟩
       ·rw [hN2];simp
       ·rintro j σ G2 hj ⟨kv3,v11',rfl,fr2,dc2,mono2,pb2⟩
        have ej:(0:Int)+(j:Int)*2=2*(j:Int):=by lia
        rw [ej]
        show Zew (tB (Ziv (Yv 11) (Yv 5))) _ _ _ _ _
        refine Zd6 (g:=gg) (u:=2*(j:Int)) (l:=2*(j:Int)+1) (d:=dA) (fun H Q q=>⟨_,rfl,q⟩) (fun H Q q=>⟨_,rfl,_,_,rfl,rfl,q⟩) (fun H Q q=>⟨_,rfl,q⟩) dc2 (by lia) (by rw [hgg];exact o.Zj1 (by lia) (by lia) (by lia)) fun H' kv4 frx dcx mx px=>?_
        refine ⟨kv4,_,rfl,fr2.trans frx,dcx,fun x h=>mx x (mono2 x h),fun q hq h=>?_⟩
        by_cases c:q<j
        ·obtain ⟨a1,a2⟩:=pb2 q c h
         exact ⟨mx _ a1,mx _ a2⟩
        ·have:q=j:=by lia
         subst this
         exact px (h.elim (fun z=>.inl (mono2 _ z)) (fun z=>.inr (mono2 _ z)))
       ·rintro σ G2 ⟨kv3,v11',rfl,fr2,dc2,mono2,pb2⟩
        refine ⟨kv3,_,_,_,_,_,_,rfl,fr2,⟨dc2.at_,by have:=dc2.le;lia,dc2.ok⟩,?_⟩
        refine o.grow pf mono1 mono2 (fun u w' h h2=>?_) (fun j hj h=>pb2 j (by lia) h) kw
        refine pe1 u w' ?_ h2
        rw [hxl]
        exact h
     ·rintro σ G ⟨kvs,v6,v7,v8,v9,v10,v11,rfl,fr,dc,kw⟩
      rw [Int.toNat_natCast] at kw
      have all:∀x:Int,0<=x->x<(Y0 ls:Int)->kn kvs x:=fun x x0 x1=>by
       obtain ⟨i,hi,e⟩:=List.mem_iff_getElem.mp (o.all x x0 x1)
       exact kw i x (by lia) (by simp [hi,e])
      refine ⟨_,rfl,_,rfl,by lia,by lia,Zgi (lo:=0) (n:=((Y0 ls:Nat):Int).toNat) (Nat.le_of_lt (Zx (by lia))) (fun i zs G'=>Zi G G'/\zs=(List.range i).map fun (x:Nat)=>V.int (gg (x:Int))) ⟨Zi.refl _,rfl⟩
       (fun i zs G' q=>by rw [q.2];simp) (fun i zs G' hi q=>?_) (fun zs G' q D hD=>?_)⟩
      ·obtain ⟨sq',rfl⟩:=q
       refine lcG ?_
       have kx:=all (i:Int) (by lia) (by lia)
       have dg:=Uv.k (k:=Sum.inl (0+(i:Int))) (sq' _ _ dc.at_)
       rw [show (0:Int)+(i:Int)=(i:Int) by lia,dc.val kx] at dg
       refine ⟨_,rfl,_,rfl,dA,.int (gg (i:Int)),rfl,?_,sq',?_⟩
       ·rw [show (0:Int)+(i:Int)=(i:Int) by lia];exact dg
       ·rw [List.range_succ,List.map_append];rfl
      ·obtain ⟨sq',rfl⟩:=q
       have sf:Zi H (upd G' D (.lst ((List.range ((Y0 ls:Nat):Int).toNat).map fun (x:Nat)=>V.int (gg (x:Int))))):=fun c u e=>(sq'.step hD) c u (keepT fr c u (s03 c u e))
       refine k _ _ sf (.inr ⟨e,_,tr,.inr ⟨D,T',L,rfl,t0,o,rfl,?_,?_⟩⟩)
       ·cases z:H D with
        | none=>rfl
        | some u=>
         have:=(sq' _ _ (keepT fr _ _ (s03 _ _ z)))
         rw [hD] at this
         cases this
       ·rw [Zc,Int.toNat_natCast,hgg]
        rfl
    ·have t1:¬Ze1 (fl (ZY (YS ls)) T') / 2=0:=t0
     refine ZX (fun _=>?_) (fun hc=>absurd ?_ hc)
     ·exact k .non H2 s2 (.inr ⟨e,_,tr,.inl ⟨by simpa using t0,rfl⟩⟩)
     ·show (!decide (V.int (Ze1 (fl (ZY (YS ls)) T') / 2)=V.int 0))=true
      rw [decide_eq_false (fun z=>t1 (V.int.inj z))]
      rfl
   ·refine ZX (fun _=>?_) (fun hc=>absurd ?_ hc)
    ·refine Za9 (k .non H2 s2 (.inr ⟨e,_,tr,.inl ⟨fun z=>len1 ?_,rfl⟩⟩))
     have:=congrArg List.length z
     simpa using this
    ·show (!decide (V.int (ys.length:Int)=V.int 1))=true
     rw [decide_eq_false (fun z=>len1 (by have:=V.int.inj z;lia))]
     rfl
theorem gK:Zio "born" = 2/\Zio "cross" = 0/\Zio "end" = -2:=⟨by decide +kernel,by decide +kernel,by decide +kernel⟩
theorem wkS {ls:List (Str×Int)}{n:Int} (h:Wk ls n):ZcE ls=n:=by
 induction h with
 | nil=>rfl
 | born _ _ _ ih=>rw [ZbN,ih,gK.1]
 | cross _ _ _ ih=>rw [ZbN,ih,gK.2.1];lia
 | fin _ _ _ ih=>rw [ZbN,ih,gK.2.2];lia
theorem ZkA {A A':List (Str×Int)}{n:Int} (ha:Wk A n) (ha':Wk A' n) {X:List (Str×Int)}{m:Int} (h:Wk X m):∀B,X=A++B->Wk (A'++B) m:=by
 have base:∀{X:List (Str×Int)}{m:Int},Wk X m->X=A->Wk (A' ++ []) m:=fun {X m} hx e=>by
  subst e
  have e1:=wkS hx
  have e2:=wkS ha
  rw [List.append_nil]
  rw [show m=n by lia]
  exact ha'
 have spl:∀{ls B:List (Str×Int)}{p:Str×Int},ls ++ [p]=A++B->(B = []/\ls ++ [p]=A) ∨ ∃B',B=B' ++ [p]/\ls=A++B':=fun {ls B p} e=>by
  rcases List.eq_nil_or_concat B with z | ⟨B',q,z⟩
  rotate_left
  rw [List.concat_eq_append] at z
  rotate_left
  ·subst z
   exact .inl ⟨rfl,by simpa using e⟩
  ·subst z
   rw [<- List.append_assoc] at e
   obtain ⟨e1,e2⟩:=List.append_inj' e rfl
   have e2:p=q:=by simpa using e2
   subst e2
   exact .inr ⟨B',rfl,e1⟩
 induction h with
 | nil=>
  intro B e
  obtain ⟨e1,e2⟩:=List.append_eq_nil_iff.mp e.symm
  subst e2
  exact base .nil e1.symm
 | @born ls n' k h h0 h1 ih=>
  intro B e
  rcases spl e with ⟨z,y⟩ | ⟨B',z,y⟩
  ·subst z;exact base (.born h h0 h1) y
  ·rw [z,<- List.append_assoc];exact .born (ih B' y) h0 h1
 | @cross ls n' k h h0 h1 ih=>
  intro B e
  rcases spl e with ⟨z,y⟩ | ⟨B',z,y⟩
  ·subst z;exact base (.cross h h0 h1) y
  ·rw [z,<- List.append_assoc];exact .cross (ih B' y) h0 h1
 | @fin ls n' k h h0 h1 ih=>
  intro B e
  rcases spl e with ⟨z,y⟩ | ⟨B',z,y⟩
  ·subst z;exact base (.fin h h0 h1) y
  ·rw [z,<- List.append_assoc];exact .fin (ih B' y) h0 h1
def crl (b c:Int):List (Str×Int):=[("born", b),("cross", c),("end", b)]
theorem ZmQ {ls:List (Str×Int)}{t:Nat}{b c:Int} (hW:Wk ls 0) (hb0:0<=b) (hb1:b<=ZcE (ls.take t)) (hc0:0<=c) (hc1:c<=ZcE (ls.take t)):Wk (ls.take t++crl b c++ls.drop t) 0:=by
 obtain ⟨n,hn⟩:=GQ hW t
 have en:=wkS hn
 rw [en] at hb1 hc1
 have w1:=Wk.born (k:=b) hn hb0 hb1
 have w2:=Wk.cross (k:=c) w1 hc0 (by lia)
 have w3:=Wk.fin (k:=b) w2 hb0 (by lia)
 have e:ls.take t ++ [(("born" : Str),b)] ++ [(("cross" : Str),c)] ++ [(("end" : Str),b)]=ls.take t++crl b c:=by simp [crl]
 rw [e,show n+2-2=n by lia] at w3
 exact ZkA hn w3 hW (ls.drop t) (List.take_append_drop t ls).symm
theorem Zg2:∀ls:List (Str×Int),(∀p∈ls,Kd p.1)->2*(((ls.map fun p=>V.str p.1).countP fun z=>eqV z (.str "born"):Nat):Int)-2*(((ls.map fun p=>V.str p.1).countP fun z=>eqV z (.str "end"):Nat):Int)=ZcE ls
 | [],_=>rfl
 | p::r,h=>by
  have ih:=Zg2 r fun q hq=>h q (List.mem_cons_of_mem _ hq)
  have gk:=gK
  have e:ZcE (p::r)=Zio p.1+ZcE r:=by unfold ZcE;simp
  have eqs:∀x y:Str,eqV (V.str x) (V.str y)=decide (x=y):=fun x y=>by
   unfold eqV
   by_cases z:x=y<;>simp [z]
  rw [List.map_cons,List.countP_cons,List.countP_cons,e,<- ih,eqs,eqs]
  rcases h p List.mem_cons_self with z | z | z
  ·rw [z,gk.1]
   simp [show ¬(("born" : Str) = "end") by decide +kernel]
   lia
  ·rw [z,gk.2.1]
   simp [show ¬(("cross" : Str) = "end") by decide +kernel,show ¬(("cross" : Str) = "born") by decide +kernel]
  ·rw [z,gk.2.2]
   simp [show ¬(("end" : Str) = "born") by decide +kernel]
   lia
theorem Ziq {H:Hp}{xs:List V}{ls:List (Str×Int)} (h:ZC H xs ls):∀t,ZC H (xs.take t) (ls.take t):=by
 induction h with
 | nil=>intro t;rw [List.take_nil,List.take_nil];exact .nil
 | cons a _ ih=>
  intro t
  cases t with
  | zero=>exact .nil
  | succ n=>exact .cons a (ih n)
theorem Zia {H:Hp}{xs:List V}{ls:List (Str×Int)} (h:ZC H xs ls):∀t,ZC H (xs.drop t) (ls.drop t):=by
 induction h with
 | nil=>intro t;rw [List.drop_nil,List.drop_nil];exact .nil
 | cons a b ih=>
  intro t
  cases t with
  | zero=>exact .cons a b
  | succ n=>exact ih n
theorem Yo {H H':Hp}{b:Addr} (s:Zi H H') (x:Bag H b):Bag H' b:=let ⟨g,r,h,e⟩:=x;⟨g,r,h,s _ _ e⟩
theorem lay {G:Hp}{c:Addr}{o:HO} (fc:G c=none):∃G',upd G c o=G'/\Zi G G'/\G' c=some o:=⟨_,rfl,Zi.laid fc,Zc⟩
theorem Zmv (xs:List V) (k:Nat):Gg xs (some (k:Int)) none=xs.drop k:=by
 unfold Gg
 rw [HT.ZcO,HT.Zbb]
 by_cases h:k<=xs.length
 ·rw [Nat.min_eq_left h,List.take_of_length_le (by rw [List.length_drop];lia)]
 ·rw [Nat.min_eq_right (by lia),Nat.sub_self,List.take_zero,List.drop_of_length_le (by lia)]
def ZeF:Sp:=fun vs H Q _=>∃(b l0:Addr) (m:Int) (ls0:List (Str×Int)),vs = [.ref b,.ref l0,.int m]/\Bag H b/\Drw H l0 ls0/\l0≠b/\ls0.length<=40/\nX ls0<=13/\0<=m/\m<=3 /\ ∀(l:Addr) (H':Hp) (ls:List (Str×Int)),H l=none->Bag H' b->YC b H H'->Drw H' l ls->nX ls<=13->Q (.ref l) H'
theorem ZhT (ls:List (Str×Int)):((ls.map fun p=>V.str p.1).countP fun z=>eqV z (.str "cross"))=nX ls:=by
 unfold nX
 rw [List.countP_map]
 refine List.countP_congr fun p _=>?_
 simp [eqV]
abbrev J2:Stmt:=top 44
theorem Z6:Zz ["_law_bag_here", "_law_letters", "_law_most", "_law_found", "_law_turn", "_law_t", "_law_words", "_law_many", "_law_k", "_law_three"] ["_law_bag_here", "_law_letters", "_law_most"] (Zj J2):={}
theorem ZhK {f:Addr}{fd:FuncData} (F:YE K "_law_curled" "_law_curled" J2 f fd) (Zt:Yr P w K mg base 1 "_law_take" ["_law_bag_here", "_law_many"] ZaC) (YL:mg "list" = none) (Z7:mg "range" = none) (Yt:mg "len" = none) (W8:mg "max" = none):
  Yj P w K mg base Wy 2 f fd ["_law_bag_here", "_law_letters", "_law_most"] ZeF:=by
 refine F.ok Z6 (fun vs H Q E h=>?_) (fun cdv A outer s H vs Q E hr h=>?_)
 ·obtain ⟨b,l0,m,ls0,rfl,_⟩:=h
  rfl
 ·obtain ⟨b,l0,m,ls0,rfl,hbag,dr,l0b,len0,nx0,m0,m3,k⟩:=h
  refine ⟨_,(Ze (Zn (i:=3) Z6.nd rfl (Or.inl rfl) (Z9 (JB (K:=K) rfl) (by rfl) YL boot_list (Za (pv 1) Zb)))
   (Ze (Ym PassesOwn.never rfl (YX (by rfl) Z7 (Za (Zq Zt hr (Za (pv 0) (Za (Zk Zu (pv 2) Zd) Zb))) Zb)) (Zl (i:=4) Z6.nd rfl (Or.inl rfl)) (Ze (Zn (i:=5) Z6.nd rfl (Or.inl rfl) (Zq Zt hr (Za (pv 0) (Za (Zk Zu (ZE (YH (K:=K) rfl) (by rfl) Yt PySem.boot_len (Za (pv 3) Zb)) Zd) Zb))))
   (Ze (ZdE (i:=6) Z6.nd rfl (Or.inl rfl) (Ls:=["_law_letter"]) (Fs:=[]) (fi:=[]) (Yi.of (show YT ["_law_bag_here", "_law_letters", "_law_most", "_law_found", "_law_turn", "_law_t", "_law_words", "_law_many", "_law_k", "_law_three"] (Zj J2) _ [] []=true by decide +kernel)) rfl (Yk (K:=K) rfl (pv 3)) (fun cl C s3 H3 ex=>⟨(Zl (i:=0) (show ((["_law_letter"]:List Str)++([]:List Str)).Nodup by decide +kernel) rfl (Or.inl rfl)),Jk,(Zv (ZK (K:=K) rfl) (pv 0) Zd (fun _ _=>rfl))⟩))
   (Ze (Zn (i:=7) Z6.nd rfl (Or.inl rfl) (Zk YO (Zk JO Zd (Yg (K:=K) rfl (YN PySem.F.plainAttrs_list PySem.F.slot_list_count PySem.F.type_list_count (Zad (K:=K) rfl) (YA (Ji (K:=K) rfl) (pv 6) Jy (Yh (pv 5))) (Za ZG Zb)))) (Zk JO Zd (Yg (K:=K) rfl (YN PySem.F.plainAttrs_list PySem.F.slot_list_count PySem.F.type_list_count (Zad (K:=K) rfl) (YA (Ji (K:=K) rfl) (pv 6) Jy (Yh (pv 5))) (Za ZG Zb))))))
   (Ze (Zn (i:=8) Z6.nd rfl (Or.inl rfl) (Zq Zt hr (Za (pv 0) (Za (ZE (WG rfl) (by rfl) W8 boot_max (Za Zd (Za (pv 7) Zb))) Zb))))
   (Ze (Zn (i:=9) Z6.nd rfl (Or.inl rfl) (ZL (Za (ZA (Za ZG (Za (pv 8) Zb))) (Za (ZA (Za ZG (Za (Zk Zu (pv 8) Zd) Zb))) (Za (ZA (Za ZG (Za (pv 8) Zb))) Zb)))))
   (Zk6 (ZZ (Zr Yc (Zq Zt hr (Za (pv 0) (Za Zd Zb))) Zd (Zp _)) (Zg (Zn (i:=9) Z6.nd rfl (Or.inl rfl) (ZL (Za (ZA (Za ZG (Za (Zk Zu (pv 8) Zd) Zb))) (Za (ZA (Za ZG (Za (pv 8) Zb))) (Za (ZA (Za ZG (Za (Zk Zu (pv 8) Zd) Zb))) Zb)))))) ZO)
   (Zg (ZZ (PW.pt (Gj (ZiF WS WS Zd (pv 7) Zd) (Gj (Zr WS (Yg (K:=K) rfl (YN PySem.F.plainAttrs_list PySem.F.slot_list_count PySem.F.type_list_count (Zad (K:=K) rfl) (pv 6) (Za ZG Zb))) Zd (Zp _)) (GX (Zr WS (Yg (K:=K) rfl (YN PySem.F.plainAttrs_list PySem.F.slot_list_count PySem.F.type_list_count (Zad (K:=K) rfl) (pv 6) (Za ZG Zb))) Zd (Zp _)))))) (Zg (Zn (i:=3) Z6.nd rfl (Or.inl rfl) (Zk Gh (Zk Gh (YA (Ji (K:=K) rfl) (pv 3) Jy (Yh (pv 5))) (pv 9)) (YA (Ji (K:=K) rfl) (pv 3) (Yh (pv 5)) Jy)))) ZO)))))))))
   (Zg (Zy (pv 3))))),?_⟩
  obtain ⟨xs0,hl0,hL0,hW0,hlen0⟩:=dr
  refine ⟨_,rfl,l0,xs0,rfl,.inl (Zw.of hl0),fun l hl=>?_⟩
  have s1:=Zi.laid (o:=.lst xs0) hl
  have el1:upd H l (.lst xs0) l=some (.lst xs0):=Zc
  generalize upd H l (.lst xs0)=H1 at *
  have bg1:=Yo s1 hbag
  have nb:∀{c:Addr},H c=none->c≠b:=fun {c} h z=>by
   obtain ⟨_,_,_,e⟩:=hbag
   rw [z,e] at h
   cases h
  refine ⟨_,rfl,_,rfl,_,_,rfl,rfl,b,_,rfl,bg1,by lia,by lia,fun d H2 d0 d1 bg2 f2=>?_⟩
  refine ⟨_,rfl,by lia,by lia,JS (n:=d.toNat) (fun i σ G=>∃(lA:Addr) (xs:List V) (ls:List (Str×Int)) (v4 v5 v6 v7 v8 v9:Option V),σ = [some (.ref b),some (.ref l0),some (.int m),some (.ref lA),v4,v5,v6,v7,v8,v9]/\Bag G b/\YC b H G/\H lA=none/\G lA=some (.lst xs)/\ZC G xs ls/\Wk ls 0/\ls.length<=40+3*i/\nX ls<=13)
   ⟨l,xs0,ls0,none,none,none,none,none,none,rfl,bg2,s1.frm.trans f2,hl,f2 _ _ el1 (nb hl),(hL0.same s1).frm f2 bg1,hW0,by lia,nx0⟩ ?_ ?_⟩
  ·rintro i σ G hi ⟨lA,xs,ls,v4,v5,v6,v7,v8,v9,rfl,bg,fr,flA,hG,hL,hW,hlen,hnx⟩
   have hxl:=hL.len
   have i3:i<4:=by lia
   have nlb:=nb flA
   refine ⟨_,rfl,_,rfl,lA,_,rfl,.inl (Zw.of hG),_,_,rfl,rfl,b,_,rfl,bg,by lia,by lia,fun t' G1 e0 e1 bg1' f1=>?_⟩
   obtain ⟨t,rfl⟩:=Int.eq_ofNat_of_zero_le e0
   have hG1:=f1 _ _ hG nlb
   have hL1:=hL.frm f1 bg
   have tl:t<=ls.length:=by lia
   refine ⟨_,rfl,lA,rfl,⟨_,Zw.of hG1⟩,WA (K:=K) (a:=lA) (xs:=xs) (Nat.le_of_lt (Zx (by lia))) (fun j zs G'=>Zi G1 G'/\zs=(ls.take j).map fun p=>V.str p.1) ⟨Zi.refl _,rfl⟩
    (fun j zs G' q=>by rw [q.2,List.length_map,List.length_take];exact Nat.min_le_left _ _) (fun j zs G' q=>Zw.of (q.1 _ _ hG1)) (fun j x zs G' hx q=>?_) (fun zs G' q wA hwA=>?_)⟩
   ·obtain ⟨sq,rfl⟩:=q
    obtain ⟨p,ta,hp,rfl,hta⟩:=hL1.get hx
    refine lcG ⟨_,rfl,ta,_,_,_,rfl,rfl,YB.of (sq _ _ hta),Zo (j:=0) rfl,sq,?_⟩
    rw [YZ (ns:=ls) _ hp]
   obtain ⟨sq,rfl⟩:=q
   rw [hxl,List.take_of_length_le (Nat.le_refl _)]
   have s2:Zi G1 (upd G' wA (.lst (ls.map fun p=>V.str p.1))):=sq.step hwA
   have ew:(upd G' wA (.lst (ls.map fun p=>V.str p.1))) wA=some (.lst (ls.map fun p=>V.str p.1)):=Zc
   generalize upd G' wA (.lst (ls.map fun p=>V.str p.1))=G2 at *
   have fs:∀r:List (Str×Int),(r.map fun p=>V.str p.1).all Wt=true:=fun r=>by
    rw [List.all_eq_true]
    intro x hx
    obtain ⟨p,_,rfl⟩:=List.mem_map.mp hx
    rfl
   have ect:Gg (ls.map fun p=>V.str p.1) none (some (t:Int))=(ls.take t).map fun p=>V.str p.1:=by
    rw [Zkf (xs:=ls.map fun p=>V.str p.1) (t:=t) (by rw [List.length_map];exact tl),List.map_take]
   refine ⟨_,rfl,_,rfl,_,rfl,wA,_,rfl,Zw.of ew,fun c1 hc1=>?_⟩
   rw [ect]
   obtain ⟨G3,z,s3,e3⟩:=lay (o:=.lst ((ls.take t).map fun p=>V.str p.1)) hc1
   rw [z];clear z
   refine ⟨.inl ⟨rfl,_,Zw.of e3⟩,c1,_,_,rfl,rfl,Zw.of e3,rfl,fs _,_,_,rfl,rfl,.inl ⟨by decide,by decide⟩,?_⟩
   refine ⟨_,rfl,_,rfl,_,rfl,wA,_,rfl,Zw.of (s3 _ _ ew),fun c2 hc2=>?_⟩
   rw [ect]
   obtain ⟨G4,z,s4,e4⟩:=lay (o:=.lst ((ls.take t).map fun p=>V.str p.1)) hc2
   rw [z];clear z
   refine ⟨.inl ⟨rfl,_,Zw.of e4⟩,c2,_,_,rfl,rfl,Zw.of e4,rfl,fs _,_,_,rfl,rfl,.inl ⟨by decide,by decide⟩,_,_,rfl,rfl,?_⟩
   have cs:=Zg2 (ls.take t) fun p hp=>hW.kd p (List.mem_of_mem_take hp)
   obtain ⟨mm,hm⟩:∃mm,mm=ZcE (ls.take t):=⟨_,rfl⟩
   dsimp only
   rw [cs,<- hm]
   have m120:mm<=1000:=by
    rw [hm]
    obtain ⟨n,hn⟩:=GQ hW t
    have:=ZaX hn
    rw [wkS hn]
    rw [List.length_take] at this
    lia
   have s14:Zi G1 G4:=(s2.trans s3).trans s4
   have bg4:=Yo s14 bg1'
   refine ⟨_,rfl,_,rfl,_,_,rfl,b,_,rfl,bg4,(by split<;>lia),(by split<;>lia),fun kk G5 k0 k1 bg5 f5=>?_⟩
   have hG5:=f5 _ _ (s14 _ _ hG1) nlb
   have hL5:ZC G5 xs ls:=(hL1.same s14).frm f5 bg4
   have fr5:YC b H G5:=((fr.trans f1).trans s14.frm).trans f5
   have nwb:wA≠b:=fun z=>by
    obtain ⟨_,_,_,e⟩:=Yo sq bg1'
    rw [z,e] at hwA
    cases hwA
   have ew5:=f5 _ _ (s4 _ _ (s3 _ _ ew)) nwb
   have three:∀{X X1 X2 X3 X4:Hp}{u1 u2 u3 cA:Addr}{p q:Int},Zi X X1->X1 u1=some (.tup [.str "born", .int p])->Zi X1 X2->X2 u2=some (.tup [.str "cross", .int q])->Zi X2 X3->X3 u3=some (.tup [.str "end", .int p])->Zi X3 X4->X4 cA=some (.lst [.ref u1,.ref u2,.ref u3])->ZC X4 [.ref u1,.ref u2,.ref u3] (crl p q):=fun a1 b1 a2 b2 a3 b3 a4 b4=>
    .cons ⟨_,rfl,a4 _ _ (a3 _ _ (a2 _ _ b1))⟩ (.cons ⟨_,rfl,a4 _ _ (a3 _ _ b2)⟩ (.cons ⟨_,rfl,a4 _ _ b3⟩ .nil))
   refine ⟨_,rfl,(by show 2<=sizeLine;decide),fun u1 hu1=>?_⟩
   obtain ⟨X1,z,a1,b1⟩:=lay (o:=.tup [.str "born", .int kk]) hu1
   rw [z];clear z
   refine ⟨_,rfl,_,_,rfl,rfl,(by show 2<=sizeLine;decide),fun u2 hu2=>?_⟩
   obtain ⟨X2,z,a2,b2⟩:=lay (o:=.tup [.str "cross", .int (kk+1)]) hu2
   rw [z];clear z
   refine ⟨_,rfl,(by show 2<=sizeLine;decide),fun u3 hu3=>?_⟩
   obtain ⟨X3,z,a3,b3⟩:=lay (o:=.tup [.str "end", .int kk]) hu3
   rw [z];clear z
   refine ⟨(by show 3<=sizeLine;decide),fun cA hcA=>?_⟩
   obtain ⟨X4,z,a4,b4⟩:=lay (o:=.lst [.ref u1,.ref u2,.ref u3]) hcA
   rw [z];clear z
   have L4:=three a1 b1 a2 b2 a3 b3 a4 b4
   have s54:=((a1.trans a2).trans a3).trans a4
   refine ⟨fun σ G=>∃(cA:Addr) (ts:List V) (p q:Int),σ = [some (.ref b),some (.ref l0),some (.int m),some (.ref lA),some (.int (0+(i:Int))),some (.int (t:Nat)),some (.ref wA),some (.int mm),some (.int kk),some (.ref cA)]/\Bag G b/\YC b H G/\G lA=some (.lst xs)/\ZC G xs ls/\G wA=some (.lst (ls.map fun p=>V.str p.1))/\G cA=some (.lst ts)/\ZC G ts (crl p q)/\0<=p/\p<=kk+1/\0<=q/\q<=kk+1,?_,?_⟩
   ·refine ⟨_,rfl,b,2,rfl,Yo s54 bg5,by decide,by decide,fun sd Y sd0 sd1 bgY fY=>⟨rfl,_,rfl,?_⟩⟩
    have ncb:cA≠b:=fun z=>by
     obtain ⟨_,_,_,e⟩:=Yo ((a1.trans a2).trans a3) bg5
     rw [z,e] at hcA
     cases hcA
    have frY:YC b H Y:=(fr5.trans s54.frm).trans fY
    have hLY:ZC Y xs ls:=(hL5.same s54).frm fY (Yo s54 bg5)
    have hGY:=fY _ _ (s54 _ _ hG5) nlb
    have ewY:=fY _ _ (s54 _ _ ew5) nwb
    refine ZX (fun _=>?_) (fun _=>?_)
    ·refine ⟨_,rfl,_,_,rfl,rfl,(by show 2<=sizeLine;decide),fun w1 hw1=>?_⟩
     obtain ⟨Y1,z,c1',d1'⟩:=lay (o:=.tup [.str "born", .int (kk+1)]) hw1
     rw [z];clear z
     refine ⟨_,rfl,(by show 2<=sizeLine;decide),fun w2 hw2=>?_⟩
     obtain ⟨Y2,z,c2',d2'⟩:=lay (o:=.tup [.str "cross", .int kk]) hw2
     rw [z];clear z
     refine ⟨_,rfl,_,_,rfl,rfl,(by show 2<=sizeLine;decide),fun w3 hw3=>?_⟩
     obtain ⟨Y3,z,c3',d3'⟩:=lay (o:=.tup [.str "end", .int (kk+1)]) hw3
     rw [z];clear z
     refine ⟨(by show 3<=sizeLine;decide),fun cB hcB=>?_⟩
     obtain ⟨Y4,z,c4',d4'⟩:=lay (o:=.lst [.ref w1,.ref w2,.ref w3]) hcB
     rw [z];clear z
     have sY:=((c1'.trans c2').trans c3').trans c4'
     exact ⟨cB,_,_,_,rfl,Yo sY bgY,frY.trans sY.frm,sY _ _ hGY,hLY.same sY,sY _ _ ewY,d4',three c1' d1' c2' d2' c3' d3' c4' d4',by lia,by lia,by lia,by lia⟩
    ·exact ⟨cA,_,_,_,rfl,bgY,frY,hGY,hLY,ewY,fY _ _ b4 ncb,L4.frm fY (Yo s54 bg5),by lia,by lia,by lia,by lia⟩
   ·rintro σ Y ⟨cA,ts,p,q,rfl,bgY,frY,hGY,hLY,ewY,ecY,lcY,p0,p1,q0,q1⟩
    refine ⟨_,rfl,_,_,rfl,rfl,_,rfl,ZX (fun h1=>?_) (fun h1=>?_)⟩
    rotate_left
    ·refine ⟨_,rfl,WE (WE ?_)⟩
     exact ⟨lA,xs,ls,_,_,_,_,_,_,rfl,bgY,frY,flA,hGY,hLY,hW,by lia,hnx⟩
    have m1:0<mm:=of_decide_eq_true h1
    refine ⟨_,_,rfl,rfl,_,rfl,ZX (fun h2=>?_) (fun h2=>?_)⟩
    rotate_left
    ·refine WE ?_
     exact ⟨lA,xs,ls,_,_,_,_,_,_,rfl,bgY,frY,flA,hGY,hLY,hW,by lia,hnx⟩
    refine ⟨_,rfl,.inl ⟨rfl,_,Zw.of ewY⟩,wA,_,_,rfl,rfl,Zw.of ewY,rfl,fs _,_,_,rfl,rfl,_,rfl,ZX (fun h3=>?_) (fun h3=>?_)⟩
    rotate_left
    ·refine WE ?_
     exact ⟨lA,xs,ls,_,_,_,_,_,_,rfl,bgY,frY,flA,hGY,hLY,hW,by lia,hnx⟩
    refine ⟨_,rfl,.inl ⟨rfl,_,Zw.of ewY⟩,wA,_,_,rfl,rfl,Zw.of ewY,rfl,fs _,_,_,rfl,rfl,_,rfl,ZX (fun h4=>?_) (fun h4=>?_)⟩
    rotate_left
    ·exact ⟨lA,xs,ls,_,_,_,_,_,_,rfl,bgY,frY,flA,hGY,hLY,hW,by lia,hnx⟩
    have h4:(((ls.map fun p=>V.str p.1).countP fun z=>eqV z (.str "cross"):Nat):Int)<12:=of_decide_eq_true h4
    rw [ZhT] at h4
    have k1':kk<mm:=by revert k1;split<;>lia
    refine ⟨_,rfl,_,rfl,_,rfl,lA,_,rfl,Zw.of hGY,fun f1 hf1=>?_⟩
    rw [Zkf (xs:=xs) (t:=t) (by lia)]
    obtain ⟨Z1,z,g1,j1⟩:=lay (o:=.lst (xs.take t)) hf1
    rw [z];clear z
    have lct:=lcY.len
    refine ⟨_,rfl,f1,cA,_,_,rfl,rfl,j1,g1 _ _ ecY,(by rw [List.length_take,lct,sizeLine_eq];show min t xs.length+3<=_;lia),fun f2 hf2=>?_⟩
    obtain ⟨Z2,z,g2,j2⟩:=lay (o:=.lst (xs.take t++ts)) hf2
    rw [z];clear z
    have g12:=g1.trans g2
    refine ⟨_,rfl,_,rfl,_,rfl,lA,_,rfl,Zw.of (g12 _ _ hGY),fun f3 hf3=>?_⟩
    rw [Zmv]
    obtain ⟨Z3,z,g3,j3⟩:=lay (o:=.lst (xs.drop t)) hf3
    rw [z];clear z
    refine ⟨f2,f3,_,_,rfl,rfl,g3 _ _ j2,j3,(by rw [List.length_append,List.length_take,List.length_drop,lct,sizeLine_eq];show min t xs.length+3+(xs.length-t)<=_;lia),fun f4 hf4=>?_⟩
    obtain ⟨Z4,z,g4,j4⟩:=lay (o:=.lst (xs.take t++ts++xs.drop t)) hf4
    rw [z];clear z
    have g14:=(g12.trans g3).trans g4
    have bgZ:=Yo g14 bgY
    refine ⟨f4,_,ls.take t++crl p q++ls.drop t,_,_,_,_,_,_,rfl,bgZ,frY.trans g14.frm,?_,j4,?_,ZmQ hW p0 (by rw [<- hm];lia) q0 (by rw [<- hm];lia),?_,?_⟩
    ·exact frY.free bgY ((g12.trans g3).free hf4)
    ·exact (((Ziq hLY t).append lcY).append (Zia hLY t)).same g14
    ·rw [List.length_append,List.length_append,List.length_take,List.length_drop];show min t ls.length+3+_<=_;lia
    ·have e:nX (ls.take t)+nX (ls.drop t)=nX ls:=by rw [<- WU,List.take_append_drop]
     have ec:nX (crl p q)=1:=rfl
     rw [WU,WU,ec]
     lia
  ·rintro σ G ⟨lA,xs,ls,v4,v5,v6,v7,v8,v9,rfl,bg,fr,flA,hG,hL,hW,hlen,hnx⟩
   exact ⟨_,rfl,k lA G ls flA bg fr ⟨xs,hG,hL,hW,by lia⟩ hnx⟩
theorem ZlK {ls:List (Str×Int)} (hW:Wk ls 0):∀d i,i+d<=ls.length->(rb (ls.take i)).2<=(rb (ls.take (i+d))).2
 | 0,i,_=>Int.le_refl _
 | d+1,i,h=>by
  refine Int.le_trans (ZlK hW d i (by lia)) ?_
  have hq:ls[i+d]? = some ls[i+d]:=by simp [show i+d<ls.length by lia]
  obtain ⟨tk,c⟩:=ZdF hW hq
  show _<=(rb (ls.take (i+d+1))).2
  rw [tk,YD]
  generalize hp:ls[i+d]=p at c
  obtain ⟨px,pk⟩:=p
  rcases c with ⟨e,_⟩ | ⟨e,_⟩ | ⟨e,_⟩
  ·have e:px = "born" := e
   subst e
   rw [Wd]
   show _<=(rb (ls.take (i+d))).2+2
   lia
  ·have e:px = "cross" := e
   subst e
   rw [JF]
   exact Int.le_refl _
  ·have e:px = "end" := e
   subst e
   rw [W9]
   exact Int.le_refl _
theorem ZhC {ls:List (Str×Int)} (hW:Wk ls 0) {t:Nat} (ht:t<=ls.length) {x:Int} (hx:x∈rowAt ls t):0<=x/\x<(Y0 ls:Int):=by
 obtain ⟨h0,h1,h2⟩:=ZaR hW t ht
 have a:=YJ.mp (h2.mem_iff.mp (List.mem_append_left _ hx))
 obtain ⟨g0,g1,g2⟩:=ZaR hW ls.length (Nat.le_refl _)
 have e:rowAt ls ls.length = []:=by
  unfold rowAt
  rw [List.take_of_length_le (Nat.le_refl _)]
  have:=U5 hW
  exact List.length_eq_zero_iff.mp (by lia)
 rw [e,List.nil_append] at g2
 have hl:=g2.length_eq
 rw [Gx,GI] at hl
 have le:=ZlK hW (ls.length-t) t (by lia)
 rw [show t+(ls.length-t)=ls.length by lia] at le
 have hn:Y0 ls=(rb (ls.take ls.length)).2.toNat:=hl
 rw [hn]
 lia
theorem Zgk {ls:List (Str×Int)} (hW:Wk ls 0) {t:Nat}{q:Str×Int} (hq:ls[t]? = some q) (hb:q.1 ≠ "born"):(0<=(Y9 ls t).1/\(Y9 ls t).1<(Y0 ls:Int))/\(0<=(Y9 ls t).2/\(Y9 ls t).2<(Y0 ls:Int)):=by
 obtain ⟨k0,k1,pe⟩:=Zfk hW hq hb
 have ht:t<ls.length:=(List.getElem?_eq_some_iff.mp hq).1
 rw [pe]
 refine ⟨ZhC hW (Nat.le_of_lt ht) ?_,ZhC hW (Nat.le_of_lt ht) ?_⟩
 ·show (rowAt ls t).getD q.2.toNat 0∈_
  rw [show (rowAt ls t).getD q.2.toNat 0=(rowAt ls t)[q.2.toNat]'(by lia) by simp [show q.2.toNat<(rowAt ls t).length by lia]]
  exact List.getElem_mem _
 ·show (rowAt ls t).getD (q.2.toNat+1) 0∈_
  rw [show (rowAt ls t).getD (q.2.toNat+1) 0=(rowAt ls t)[q.2.toNat+1]'k1 by simp [k1]]
  exact List.getElem_mem _
theorem WC {ls:List (Str×Int)}{i:Nat}{q:Str×Int} (hq:ls[i]? = some q) {pr:Str->Bool}:Uu ls pr i=pr q.1:=by
 unfold Uu
 rw [hq]
 cases h:pr q.1<;>simp [h]
abbrev W3:Str->Bool:=fun x=>!decide (x = "born")
def HG (sc:Int) (ls:List (Str×Int)) (g:Int->Int):Prop:=(sc=1/\g=fun _=>0)∨(sc≠1 /\ ∃T L,Gp (Jf (YS ls)) (Y0 ls) [T]/\UG (ZY (YS ls)) T=0/\One (YS ls) (Y0 ls) T L/\g=hgt (ZY (YS ls)) T)
theorem thV.hg {sc:Int}{ls:List (Str×Int)}{zs:List V} (h:thV sc ls zs):∃g,HG sc ls g/\zs=(tab (Y0 ls) g).map V.int:=by
 rcases h with ⟨a,e⟩ | ⟨a,T,L,b,c,d,e⟩
 ·exact ⟨fun _=>0,.inl ⟨a,rfl⟩,by rw [e,ZaV]⟩
 ·exact ⟨hgt (ZY (YS ls)) T,.inr ⟨a,T,L,b,c,d,rfl⟩,by rw [e,ZaV]⟩
theorem HG.uniq {sc:Int}{ls:List (Str×Int)}{g g':Int->Int} (a:HG sc ls g) (b:HG sc ls g'):g=g':=by
 rcases a with ⟨e,rfl⟩ | ⟨ne,T,L,tr,_,_,rfl⟩
 ·rcases b with ⟨_,rfl⟩ | ⟨ne,_⟩
  ·rfl
  ·exact absurd e ne
 ·rcases b with ⟨e,_⟩ | ⟨_,T',L',tr',_,_,rfl⟩
  ·exact absurd e ne
  ·have:=tr.uniq tr'
   cases this
   rfl
def dfs (g:Int->Int) (ls:List (Str×Int)) (ns:List Int):List Int:=ns.map fun t=>g (Y9 ls t.toNat).1-g (Y9 ls t.toNat).2
def Zmz (C:Addr):Sp:=fun vs H Q E=>∃(l:Addr) (sc:Int) (xs:List V) (ls:List (Str×Int)),vs = [.ref l,.int sc]/\H l=some (.lst xs)/\ZC H xs ls/\ls.length<=60/\Wk ls 0 /\
 (∀(p:Addr) (H':Hp) (g:Int->Int),H p=none->Zi H H'->HG sc ls g->H' p=some (.lst ((dfs g ls (Ya ls W3 ls.length)).map V.int))->Q (.ref p) H') /\
 (∀(H':Hp) (ts:List (List Int)),Zi H H'->sc≠1->Gp (Jf (YS ls)) (Y0 ls) ts->ts.map (UG (ZY (YS ls))) ≠ [0]->E (.ref C) none H')
abbrev JH:Stmt:=top 22
theorem Uq:Zz ["drawing", "scale", "heights"] ["drawing", "scale"] (Zj JH):={}
theorem ZnK {f Yf:Addr}{fd:FuncData} (F:YE K "name_heights" "name_heights" JH f fd) (J0:ZhW P w K mg base 8 "thread_heights" ["drawing", "scale"] (Zmw Yf)) (YY:Yr P w K mg base 2 "pairs_ahead" ["drawing", "numbers"] Zcr)
  (JW:Yr P w K mg base 1 "names_of" ["drawing"] (Za8 W3)):Yj P w K mg base (CX1 P w) 9 f fd ["drawing", "scale"] (Zmz Yf):=by
 refine F.okX Uq (fun vs H Q E h=>?_) (fun cdv A outer s H vs Q E hr h=>?_)
 ·obtain ⟨l,sc,xs,ls,rfl,_⟩:=h
  rfl
 ·obtain ⟨l,sc,xs,ls,rfl,hl,hL,hlen,hW,k,kx⟩:=h
  have n120:=JU hlen
  refine ⟨_,(Ze (Zn (i:=2) Uq.nd rfl (Or.inr rfl) (ZhE J0 (hr.mono (by decide)) Zn0 (Za (pv 0) (Za (pv 1) Zb))))
   (Zg (Zy (UL (Ls:=["upper", "lower"]) (Fs:=["heights"]) (fi:=[2]) (Yi.of (show YT ["drawing", "scale", "heights"] (Zj JH) _ ["heights"] [2]=true by decide +kernel)) rfl (Yk (K:=K) rfl (Zq YY hr (Za (pv 0) (Za (Zq JW hr (Za (pv 0) Zb)) Zb)))) (fun cl C s3 H3 ex=>⟨(ZU (K:=K) (n:=2) rfl rfl (Zm (Zl (i:=0) (show ((["upper", "lower"]:List Str)++(["heights"]:List Str)).Nodup by decide +kernel) rfl (Or.inl rfl)) (Zm (Zl (i:=1) (show ((["upper", "lower"]:List Str)++(["heights"]:List Str)).Nodup by decide +kernel) rfl (Or.inl rfl)) ZP))),Jk,(Zk YO (Zv (Zs (K:=K) rfl) (pv 2) (pv 0) (fun _ _=>rfl)) (Zv (Zs (K:=K) rfl) (pv 2) (pv 1) (fun _ _=>rfl)))⟩))))),?_⟩
  refine ⟨_,rfl,_,rfl,l,sc,xs,ls,rfl,hl,hL,hlen,hW,fun p H1 zs fp s1 ep tv=>?_,kx⟩
  obtain ⟨g,hg,rfl⟩:=tv.hg
  refine ⟨_,rfl,_,rfl,l,xs,ls,rfl,s1 l _ hl,hL.same s1,hlen,hW.kd,fun nA H2 fn s2 en=>?_⟩
  have s12:=s1.trans s2
  have mem:∀t∈Ya ls W3 ls.length,0<=t /\ ∃q,ls[t.toNat]? = some q/\q.1 ≠ "born" := fun t ht=>by
   obtain ⟨a,_,q,hq,z⟩:=ZfT ht
   exact ⟨a,q,hq,by simpa using z⟩
  refine ⟨l,nA,xs,ls,Ya ls W3 ls.length,rfl,s12 l _ hl,hL.same s12,hlen,hW,en,Nat.le_trans (J8 _ _ _) hlen,mem,fun pA H3 ys fp' s3 ep' pv=>?_⟩
  have yl:=pv.len
  have s13:=s12.trans s3
  have ll:=J8 ls W3 ls.length
  rw [List.length_map] at yl
  have ep3:=s3 _ _ (s2 _ _ ep)
  refine ⟨pA,rfl,⟨_,Zw.of ep'⟩,WA (K:=K) (a:=pA) (xs:=ys) (Nat.le_of_lt (Zx (by lia))) (fun i zs G=>Zi H3 G/\zs=(dfs g ls ((Ya ls W3 ls.length).take i)).map V.int) ⟨Zi.refl _,rfl⟩
   (fun i zs G q=>by rw [q.2,List.length_map];unfold dfs;rw [List.length_map,List.length_take];lia) (fun i zs G q=>Zw.of (q.1 pA _ ep')) (fun i x zs G hx q=>?_) (fun zs G q D hD=>?_)⟩
  ·obtain ⟨sG,rfl⟩:=q
   obtain ⟨⟨u,lw⟩,t,hp,rfl,ht⟩:=pv.get hx
   rw [List.getElem?_map] at hp
   obtain ⟨tt,ht1,ht2⟩:=Option.map_eq_some_iff.mp hp
   obtain ⟨t0,q,hq,hb⟩:=mem tt (List.mem_of_getElem? ht1)
   have dm:=Zgk hW hq hb
   rw [ht2] at dm
   refine ⟨t,_,rfl,YB.of (sG _ _ ht),rfl,_,_,rfl,_,_,rfl,rfl,?_⟩
   refine lcT ?_
   refine ⟨_,rfl,_,rfl,p,_,_,_,rfl,rfl,Zw.of (sG _ _ ep3),Zaa g dm.1.1 dm.1.2,_,rfl,_,rfl,p,_,_,_,rfl,rfl,Zw.of (sG _ _ ep3),Zaa g dm.2.1 dm.2.2,_,_,rfl,rfl,sG,?_⟩
   unfold dfs
   rw [YZ (ns:=Ya ls W3 ls.length) _ ht1,List.map_append,ht2]
   rfl
  obtain ⟨sG,rfl⟩:=q
  rw [yl,List.take_of_length_le (Nat.le_refl _)]
  exact k D _ g ((s13.trans sG).free hD) ((s13.trans sG).step hD) hg Zc
def lnV (sc:Int) (ls:List (Str×Int)) (H H':Hp) (v:V):Prop:=(∃p g,HG sc ls g/\v = .ref p/\H p=none/\H' p=some (.lst ((dfs g ls (Ya ls W3 ls.length)).map V.int)))∨(v = .non/\sc≠1 /\ ∃ts,Gp (Jf (YS ls)) (Y0 ls) ts/\ts.map (UG (ZY (YS ls))) ≠ [0])
def Zhw:Sp:=fun vs H Q _=>∃(l:Addr) (sc:Int) (xs:List V) (ls:List (Str×Int)),vs = [.ref l,.int sc]/\(sc=0∨sc=1)/\H l=some (.lst xs)/\ZC H xs ls/\ls.length<=60/\Wk ls 0 /\
 ∀(v:V) (H':Hp),Zi H H'->lnV sc ls H H' v->Q v H'
theorem ZiR {sc:Int}{ls:List (Str×Int)}{H H':Hp}{v:V} (h:lhV sc ls H H' v):(∃p g,HG sc ls g/\v = .ref p/\H p=none/\H' p=some (.lst ((tab (Y0 ls) g).map V.int)))∨(v = .non/\sc≠1 /\ ∃ts,Gp (Jf (YS ls)) (Y0 ls) ts/\ts.map (UG (ZY (YS ls))) ≠ [0]):=by
 rcases h with ⟨e,p,rfl,fp,ep⟩ | ⟨ne,ts,tr,⟨z,rfl⟩ | ⟨p,T,L,rfl,t0,o,rfl,fp,ep⟩⟩
 ·exact .inl ⟨p,fun _=>0,.inl ⟨e,rfl⟩,rfl,fp,by rw [ep,ZaV]⟩
 ·exact .inr ⟨rfl,ne,ts,tr,z⟩
 ·exact .inl ⟨p,hgt (ZY (YS ls)) T,.inr ⟨ne,T,L,tr,t0,o,rfl⟩,rfl,fp,by rw [ep,ZaV]⟩
theorem HG.atEnd {sc:Int}{ls:List (Str×Int)}{g:Int->Int} (h:HG sc ls g) (hsc:sc=0∨sc=1) (hW:Wk ls 0) {i:Nat}{q:Str×Int} (hq:ls[i]? = some q) (he:q.1 = "end"):g (Y9 ls i).1-g (Y9 ls i).2=1-sc:=by
 rcases h with ⟨e,rfl⟩ | ⟨ne,T,L,_,_,o,rfl⟩
 ·rw [e];rfl
 ·have s0:sc=0:=hsc.elim id fun z=>absurd z ne
  have hi:i<ls.length:=(List.getElem?_eq_some_iff.mp hq).1
  have mem:Y9 ls i∈YS ls:=by
   unfold YS Jg
   refine List.mem_map.mpr ⟨(i:Int),?_,by simp⟩
   unfold Ya
   refine List.mem_filterMap.mpr ⟨i,List.mem_range.mpr hi,?_⟩
   rw [WC hq,if_pos]
   rw [he]
   unfold Gq
   simp
  have dm:=Zgk hW hq (fun z=>by rw [z] at he;exact absurd he (by decide +kernel))
  have:=o.ends (u:=(Y9 ls i).1) (l:=(Y9 ls i).2) mem dm.1
  rw [s0,this]
  lia
theorem Zfz {g:Int->Int}{ls:List (Str×Int)}{i:Nat}{q:Str×Int} (hq:ls[i]? = some q) (hb:q.1 ≠ "born"):(dfs g ls (Ya ls W3 i)).map V.int ++ [V.int (g (Y9 ls i).1-g (Y9 ls i).2)]=(dfs g ls (Ya ls W3 (i+1))).map V.int:=by
 have kk:=WC hq (pr:=W3)
 rw [WJ,kk,if_pos (by simpa using hb)]
 unfold dfs
 simp
theorem Zkp {g:Int->Int}{ls:List (Str×Int)}{i:Nat}{q:Str×Int} (hq:ls[i]? = some q) (hb:q.1 = "born"):dfs g ls (Ya ls W3 i)=dfs g ls (Ya ls W3 (i+1)):=by
 have kk:=WC hq (pr:=W3)
 rw [WJ,kk,if_neg (by simp [hb]),List.append_nil]
abbrev Jt:Stmt:=top 42
theorem ZR:Zz ["_law_drawing_here", "_law_scale", "_law_known", "_law_rows_here", "_law_found", "_law_t", "_law_letter", "_law_one", "_law_other"] ["_law_drawing_here", "_law_scale"] (Zj Jt):={}
theorem Zm8 {f:Addr}{fd:FuncData} (F:YE K "_law_name_heights" "_law_name_heights" Jt f fd) (WZ:Yr P w K mg base 3 "_law_heights" ["_law_drawing_here", "_law_scale"] Zng) (YI:Yr P w K mg base 1 "_law_rows" ["_law_drawing_here"] U8)
  (ZI:mg "enumerate" = none):Yj P w K mg base Wy 4 f fd ["_law_drawing_here", "_law_scale"] Zhw:=by
 refine F.ok ZR (fun vs H Q E h=>?_) (fun cdv A outer s H vs Q E hr h=>?_)
 ·obtain ⟨l,sc,xs,ls,rfl,_⟩:=h
  rfl
 ·obtain ⟨l,sc,xs,ls,rfl,hsc,hl,hL,hlen,hW,k⟩:=h
  have n120:=JU hlen
  have hxl:=hL.len
  refine ⟨_,(Ze (Zn (i:=2) ZR.nd rfl (Or.inl rfl) (Zq WZ hr (Za (pv 0) (Za (pv 1) Zb))))
   (Ze (ZZ (Zr ZmY (pv 2) UP (Zp _)) (Zg (Zy UP)) ZO)
   (Ze (Zn (i:=3) ZR.nd rfl (Or.inl rfl) (Zq YI hr (Za (pv 0) Zb)))
   (Ze (Zn (i:=4) ZR.nd rfl (Or.inl rfl) (ZL Zb))
   (Ze (Ym PassesOwn.never rfl (WM (K:=K) rfl (by rfl) ZI (Za (pv 0) Zb)) (ZU (K:=K) (n:=2) rfl rfl (Zm (Zl (i:=5) ZR.nd rfl (Or.inl rfl)) (Zm (Zl (i:=6) ZR.nd rfl (Or.inl rfl)) ZP))) (Zg (ZZ (Zr Yc (Zv (ZK (K:=K) rfl) (pv 6) Zd (fun _ _=>rfl)) ZG (Zp _)) (Ze (Z8 (YA (Ji (K:=K) rfl) (Zv (Zs (K:=K) rfl) (pv 3) (pv 5) (fun _ _=>rfl)) (Yh (Zv (ZK (K:=K) rfl) (pv 6) Zd (fun _ _=>rfl))) (Yh (Zk Zu (Zv (ZK (K:=K) rfl) (pv 6) Zd (fun _ _=>rfl)) Zd))) (Zch (K:=K) (n:=2) rfl rfl (Zm (Zl (i:=7) ZR.nd rfl (Or.inl rfl)) (Zm (Zl (i:=8) ZR.nd rfl (Or.inl rfl)) ZP))))
   (Zg (Yb (Yg (K:=K) rfl (YN PySem.F.plainAttrs_list PySem.F.slot_list_append PySem.F.type_list_append ZW (pv 4) (Za (Zk YO (Zv (Zs (K:=K) rfl) (pv 2) (pv 7) (fun _ _=>rfl)) (Zv (Zs (K:=K) rfl) (pv 2) (pv 8) (fun _ _=>rfl))) Zb)))))) (Zg (ZZ (Zr Yc (Zv (ZK (K:=K) rfl) (pv 6) Zd (fun _ _=>rfl)) ZG (Zp _)) (Zg (Yb (Yg (K:=K) rfl (YN PySem.F.plainAttrs_list PySem.F.slot_list_append PySem.F.type_list_append ZW (pv 4) (Za (Zk YO Zd (pv 1)) Zb))))) ZO)))))
   (Zg (Zy (pv 4)))))))),?_⟩
  refine ⟨_,rfl,_,rfl,l,sc,xs,ls,rfl,hl,hL,hlen,hW,fun v H1 s1 lv=>?_⟩
  rcases ZiR lv with ⟨p,g,hg,rfl,fp,ep⟩ | ⟨rfl,ne,hts⟩
  rotate_left
  ·refine ⟨_,rfl,rfl,_,rfl,Za9 ?_⟩
   exact k _ H1 s1 (.inr ⟨rfl,ne,hts⟩)
  refine ⟨_,rfl,rfl,_,rfl,WE ?_⟩
  refine ⟨_,rfl,l,xs,ls,rfl,s1 l _ hl,hL.same s1,hlen,hW,fun R H2 ys fR s2 eR rv ap ndr=>?_⟩
  refine ⟨(by show 0<=sizeLine;decide),fun fA hfA=>?_⟩
  have s12:=s1.trans s2
  have s3:Zi H2 (upd H2 fA (.lst [])):=Zi.laid hfA
  have e3:(upd H2 fA (.lst [])) fA=some (.lst []):=Zc
  have fH:H fA=none:=s12.free hfA
  generalize upd H2 fA (.lst [])=H3 at *
  have hl2:=s12 _ _ hl
  have hL2:=hL.same s12
  refine ⟨_,rfl,l,rfl,⟨_,Zw.of (s3 _ _ hl2)⟩,ZaY (K:=K) (a:=l) (xs:=xs) (fun i σ G=>∃(v5 v6 v7 v8:Option V),σ = [some (.ref l),some (.int sc),some (.ref p),some (.ref R),some (.ref fA),v5,v6,v7,v8]/\Zi H2 G/\G fA=some (.lst ((dfs g ls (Ya ls W3 i)).map V.int)))
   ⟨none,none,none,none,rfl,s3,e3⟩ (fun i σ G _ ⟨_,_,_,_,_,sm,_⟩=>Zw.of (sm l _ hl2)) ?_ ?_⟩
  ·rintro i x pa σ G hx ⟨v5,v6,v7,v8,rfl,sm,eF⟩ hp
   obtain ⟨⟨qx,qk⟩,ta,hq,rfl,hta⟩:=hL2.get hx
   have hi:i<ls.length:=(List.getElem?_eq_some_iff.mp hq).1
   have sp:Zi G (upd G pa (.tup [.int i,.ref ta])):=Zi.laid hp
   have epa:(upd G pa (.tup [.int i,.ref ta])) pa=some (.tup [.int i,.ref ta]):=Zc
   generalize upd G pa (.tup [.int i,.ref ta])=G0 at *
   have sg0:=sm.trans sp
   have eF0:=sp _ _ eF
   have hta':=sg0 ta _ hta
   have short:((dfs g ls (Ya ls W3 i)).map V.int).length<sizeLine:=by
    rw [List.length_map]
    unfold dfs
    rw [List.length_map]
    have:=J8 ls W3 i
    exact Zx (by lia)
   refine ⟨pa,_,rfl,YB.of epa,rfl,_,_,rfl,_,_,rfl,rfl,?_⟩
   refine ⟨_,rfl,ta,_,_,_,rfl,rfl,YB.of hta',Zo (j:=0) rfl,rfl,_,rfl,?_⟩
   refine ZX (fun hc=>?_) (fun hc=>?_)
   ·have e:qx = "cross" := V.str.inj (of_decide_eq_true hc)
    subst e
    have nb:(("cross" : Str),qk).1 ≠ "born" := show ("cross" : Str) ≠ "born" by decide +kernel
    obtain ⟨k0,k1,pe⟩:=Zfk hW hq nb
    have dm:=Zgk hW hq nb
    have sn:=Zfz (g:=g) hq nb
    obtain ⟨kn,rfl⟩:=Int.eq_ofNat_of_zero_le (show 0<=qk from k0)
    simp only [Int.toNat_natCast] at k1 pe
    obtain ⟨ra,hra,hrr⟩:=rv.at (U9 ls (i:=i) (n:=ls.length+1) (by lia))
    obtain ⟨u,hu⟩:∃u,u=(rowAt ls i).getD kn 0:=⟨_,rfl⟩
    obtain ⟨w',hw⟩:∃w',w'=(rowAt ls i).getD (kn+1) 0:=⟨_,rfl⟩
    rw [<- hu,<- hw] at pe
    rw [pe] at dm sn
    refine ⟨_,rfl,_,rfl,R,_,_,_,rfl,rfl,Zw.of (sg0 R _ eR),Zo hra,_,rfl,ta,_,_,_,rfl,rfl,YB.of hta',Zo (j:=1) rfl,_,rfl,_,rfl,ta,_,_,_,rfl,rfl,YB.of hta',Zo (j:=1) rfl,_,_,rfl,rfl,_,rfl,ra,_,rfl,Zw.of (sg0 ra _ hrr),fun cA hcA=>?_⟩
    rw [Zen k1,<- hu,<- hw]
    have s4:Zi G0 (upd G0 cA (.lst [.int u,.int w'])):=Zi.laid hcA
    have e4:(upd G0 cA (.lst [.int u,.int w'])) cA=some (.lst [.int u,.int w']):=Zc
    generalize upd G0 cA (.lst [.int u,.int w'])=G1 at *
    refine ⟨cA,_,rfl,Zw.of e4,rfl,_,_,rfl,_,_,rfl,rfl,?_⟩
    have ep1:=s4 _ _ (sg0 _ _ (s2 _ _ ep))
    have eF1:=s4 _ _ eF0
    refine ⟨_,rfl,.inl ⟨rfl,_,Zw.of eF1⟩,_,rfl,_,rfl,p,_,_,_,rfl,rfl,Zw.of ep1,Zaa g dm.1.1 dm.1.2,_,rfl,_,rfl,p,_,_,_,rfl,rfl,Zw.of ep1,Zaa g dm.2.1 dm.2.2,_,_,rfl,rfl,fA,_,_,rfl,rfl,eF1,short,?_⟩
    refine ⟨_,_,_,_,rfl,(sg0.trans s4).put hfA,?_⟩
    rw [Zc,sn]
   ·have nc:¬qx = "cross" := fun z=>hc (decide_eq_true (congrArg V.str z))
    refine ⟨_,rfl,ta,_,_,_,rfl,rfl,YB.of hta',Zo (j:=0) rfl,rfl,_,rfl,?_⟩
    refine ZX (fun hc2=>?_) (fun hc2=>?_)
    ·have e:qx = "end" := V.str.inj (of_decide_eq_true hc2)
     subst e
     have nb:(("end" : Str),qk).1 ≠ "born" := show ("end" : Str) ≠ "born" by decide +kernel
     have sn:=Zfz (g:=g) hq nb
     rw [hg.atEnd hsc hW hq rfl] at sn
     refine ⟨_,rfl,.inl ⟨rfl,_,Zw.of eF0⟩,_,rfl,_,_,rfl,rfl,fA,_,_,rfl,rfl,eF0,short,?_⟩
     refine ⟨_,_,_,_,rfl,sg0.put hfA,?_⟩
     rw [Zc,sn]
    ·have ne2:¬qx = "end" := fun z=>hc2 (decide_eq_true (congrArg V.str z))
     have b:qx = "born" := by
      rcases hW.kd _ (List.mem_of_getElem? hq) with z | z | z
      ·exact z
      ·exact absurd z nc
      ·exact absurd z ne2
     refine ⟨_,_,_,_,rfl,sg0,?_⟩
     rw [eF0,Zkp hq b]
  ·rintro σ G ⟨v5,v6,v7,v8,rfl,sm,eF⟩
   rw [hxl] at eF
   exact ⟨_,rfl,k _ G (s12.trans sm) (.inl ⟨fA,g,hg,rfl,fH,eF⟩)⟩
def ZeG:Sp:=fun vs H Q _=>∃(b:Addr) (n:Int),vs = [.ref b,.int n]/\Bag H b/\2<=n/\n<=12 /\ ∀(l:Addr) (H':Hp) (ls:List (Str×Int)),H l=none->Bag H' b->YC b H H'->Drw H' l ls->nX ls<=13->Q (.ref l) H'
theorem Zfr {H:Hp}{t:Addr}{q:Str×Int} (h:H t=some (.tup [.str q.1,.int q.2])):∀n:Nat,ZC H (List.replicate n (V.ref t)) (List.replicate n q)
 | 0=>.nil
 | n+1=>.cons ⟨t,rfl,h⟩ (Zfr h n)
theorem Zl3 (n:Nat) (k:Int):nX (List.replicate n ((("cross" : Str),k):Str×Int))=n:=by
 unfold nX
 rw [List.countP_replicate,if_pos (by show decide (("cross" : Str)=("cross" : Str))=true;decide)]
abbrev GS:Stmt:=top 45
theorem Jv:Zz ["_law_bag_here", "_law_most", "_law_way", "_law_letters", "_law_turn"] ["_law_bag_here", "_law_most"] (Zj GS):={}
theorem ZjR {f:Addr}{fd:FuncData} (F:YE K "_law_front" "_law_front" GS f fd) (Zt:Yr P w K mg base 1 "_law_take" ["_law_bag_here", "_law_many"] ZaC) (ZaA:Yr P w K mg base 3 "_law_any" ["_law_bag_here", "_law_most"] ZcR) (JE:Yr P w K mg base 2 "_law_plat" ["_law_bag_here", "_law_most"] ZcR)
  (Gn:Yr P w K mg base 2 "_law_curled" ["_law_bag_here", "_law_letters", "_law_most"] ZeF) (Z7:mg "range" = none) (Yt:mg "len" = none) (W8:mg "max" = none) (Zau:mg "min" = none):
  Yj P w K mg base Wy 4 f fd ["_law_bag_here", "_law_most"] ZeG:=by
 refine F.ok Jv (fun vs H Q E h=>?_) (fun cdv A outer s H vs Q E hr h=>?_)
 ·obtain ⟨b,n,rfl,_⟩:=h
  rfl
 ·obtain ⟨b,n,rfl,hbag,n2,n12,k⟩:=h
  refine ⟨_,(Ze (Zn (i:=2) Jv.nd rfl (Or.inl rfl) (Zq Zt hr (Za (pv 0) (Za Zd Zb))))
   (Ze (ZZ (Zr Yc (pv 2) Zd (Zp _)) (Zg (Zy (Zq ZaA hr (Za (pv 0) (Za (pv 1) Zb))))) ZO)
   (Ze (ZZ (Zr Yc (pv 2) Zd (Zp _)) (Zg (Zy (Zq JE hr (Za (pv 0) (Za (pv 1) Zb))))) ZO)
   (Ze (Zn (i:=3) Jv.nd rfl (Or.inl rfl) (Zk Gh (ZL (Za (ZA (Za ZG (Za Zd Zb))) (Za (ZA (Za ZG (Za Zd Zb))) Zb))) (Zk ZaH (ZL (Za (ZA (Za ZG (Za Zd Zb))) Zb)) (Zk Zu Zd (Zq Zt hr (Za (pv 0) (Za (pv 1) Zb)))))))
   (Ze (ZZ (Zr Yc (pv 2) Zd (Zp _)) (Ze (Zn (i:=3) Jv.nd rfl (Or.inl rfl) (ZL (Za (ZA (Za ZG (Za Zd Zb))) (Za (ZA (Za ZG (Za Zd Zb))) (Za (ZA (Za ZG (Za Zd Zb))) Zb)))))
   (Ze (Ym PassesOwn.never rfl (YX (by rfl) Z7 (Za (Zk Zu Zd (Zq Zt hr (Za (pv 0) (Za (ZE (WG rfl) (by rfl) W8 boot_max (Za Zd (Za (Zk YO (pv 1) Zd) Zb))) Zb)))) Zb)) (Zl (i:=4) Jv.nd rfl (Or.inl rfl)) (Zg (Yb (Yg (K:=K) rfl (YN PySem.F.plainAttrs_list PySem.F.slot_list_append PySem.F.type_list_append ZW (pv 3) (Za (ZA (Za ZG (Za (Zv (Zs (K:=K) rfl) (ZL (Za Zd (Za Zd (Za Zd Zb)))) (Zk WQ (Zq Zt hr (Za (pv 0) (Za Zd Zb))) Zd) (fun _ _=>rfl)) Zb))) Zb))))))
   (Zg (Zy (Zk Gh (pv 3) (ZL (Za (ZA (Za ZG (Za Zd Zb))) (Za (ZA (Za ZG (Za Zd Zb))) (Za (ZA (Za ZG (Za Zd Zb))) Zb))))))))) ZO)
   (Zg (Zy (Zq Gn hr (Za (pv 0) (Za (Zk Gh (pv 3) (ZL (Za (ZA (Za ZG (Za Zd Zb))) (Za (ZA (Za ZG (Za Zd Zb))) Zb)))) (Za (ZE (WG rfl) (by rfl) W8 boot_max (Za Zd (Za (ZE (Zag rfl) (by rfl) Zau boot_min (Za Zd (Za (Zk YO Zd (ZE (YH (K:=K) rfl) (by rfl) Yt PySem.boot_len (Za (pv 3) Zb))) Zb))) Zb))) Zb))))))))))),?_⟩
  have nb:∀{c:Addr},H c=none->c≠b:=fun {c} h z=>by
   obtain ⟨_,_,_,e⟩:=hbag
   rw [z,e] at h
   cases h
  refine ⟨_,rfl,b,5,rfl,hbag,by decide,by decide,fun wy H1 w0 w1 bg1 f1=>?_⟩
  refine ⟨_,rfl,rfl,_,rfl,ZX (fun _=>?_) (fun _=>?_)⟩
  ·exact ⟨_,rfl,_,rfl,b,n,rfl,bg1,by lia,by lia,fun l H2 ls hl bg2 f2 dr nx=>k l H2 ls (f1.free bg1 hl) bg2 (f1.trans f2) dr (by lia)⟩
  refine ⟨_,rfl,rfl,_,rfl,ZX (fun _=>?_) (fun _=>?_)⟩
  ·exact ⟨_,rfl,_,rfl,b,n,rfl,bg1,by lia,by lia,fun l H2 ls hl bg2 f2 dr nx=>k l H2 ls (f1.free bg1 hl) bg2 (f1.trans f2) dr (by lia)⟩
  refine ⟨(by show 2<=sizeLine;decide),fun t1 h1=>?_⟩
  obtain ⟨X1,z,a1,b1⟩:=lay (o:=.tup [.str "born", .int 0]) h1
  rw [z];clear z
  refine ⟨(by show 2<=sizeLine;decide),fun t2 h2=>?_⟩
  obtain ⟨X2,z,a2,b2⟩:=lay (o:=.tup [.str "born", .int 2]) h2
  rw [z];clear z
  refine ⟨(by show 2<=sizeLine;decide),fun c1 h3=>?_⟩
  obtain ⟨X3,z,a3,b3⟩:=lay (o:=.lst [.ref t1,.ref t2]) h3
  rw [z];clear z
  refine ⟨(by show 2<=sizeLine;decide),fun t3 h4=>?_⟩
  obtain ⟨X4,z,a4,b4⟩:=lay (o:=.tup [.str "cross", .int 1]) h4
  rw [z];clear z
  refine ⟨(by show 1<=sizeLine;decide),fun c2 h5=>?_⟩
  obtain ⟨X5,z,a5,b5⟩:=lay (o:=.lst [.ref t3]) h5
  rw [z];clear z
  have s15:=(((a1.trans a2).trans a3).trans a4).trans a5
  have bg5:=Yo s15 bg1
  have nb5:∀{c:Addr}{G:Hp},Bag G b->G c=none->c≠b:=fun {c G} h e z=>by
   obtain ⟨_,_,_,q⟩:=h
   rw [z,q] at e
   cases e
  have n1:c1≠b:=nb5 (Yo (a1.trans a2) bg1) h3
  have n2':c2≠b:=nb5 (Yo (((a1.trans a2).trans a3).trans a4) bg1) h5
  have L3:ZC X5 [.ref t1,.ref t2] [("born", 0),("born", 2)]:=.cons ⟨t1,rfl,a5 _ _ (a4 _ _ (a3 _ _ (a2 _ _ b1)))⟩ (.cons ⟨t2,rfl,a5 _ _ (a4 _ _ (a3 _ _ b2))⟩ .nil)
  have L4:∀m:Nat,ZC X5 (List.replicate m (V.ref t3)) (List.replicate m ((("cross" : Str),1):Str×Int)):=fun m=>Zfr (a5 _ _ b4) m
  refine ⟨_,rfl,_,rfl,b,n,rfl,bg5,by lia,by lia,fun d H2 d0 d1 bg2 f2=>⟨_,_,rfl,rfl,?_⟩⟩
  obtain ⟨mm,hmm⟩:∃mm:Nat,mm=(1+d).toNat:=⟨_,rfl⟩
  refine ⟨c2,_,_,rfl,rfl,f2 _ _ b5 n2',by lia,by lia,(by rw [<- hmm,sizeLine_eq];simp;lia),fun c3 h6=>?_⟩
  rw [<- hmm,List.flatten_replicate_singleton]
  obtain ⟨X6,z,a6,b6⟩:=lay (o:=.lst (List.replicate mm (V.ref t3))) h6
  rw [z];clear z
  refine ⟨c1,c3,_,_,rfl,rfl,a6 _ _ (f2 _ _ (a5 _ _ (a4 _ _ b3)) n1),b6,(by rw [List.length_replicate,sizeLine_eq];show 2+mm<=_;lia),fun c4 h7=>?_⟩
  obtain ⟨X7,z,a7,b7⟩:=lay (o:=.lst ([.ref t1,.ref t2]++List.replicate mm (V.ref t3))) h7
  rw [z];clear z
  have s27:=a6.trans a7
  have bg7:=Yo s27 bg2
  have f17:YC b H X7:=((f1.trans s15.frm).trans f2).trans s27.frm
  have L7:ZC X7 ([.ref t1,.ref t2]++List.replicate mm (V.ref t3)) (([("born", 0),("born", 2)]:List (Str×Int))++List.replicate mm ((("cross" : Str),1):Str×Int)):=((L3.frm f2 bg5).append ((L4 mm).frm f2 bg5)).same s27
  refine ⟨_,rfl,rfl,_,rfl,ZX (fun _=>?_) (fun _=>?_)⟩
  ·refine ⟨(by show 2<=sizeLine;decide),fun u1 e1=>?_⟩
   obtain ⟨Y1,z,g1,j1⟩:=lay (o:=.tup [.str "born", .int 0]) e1
   rw [z];clear z
   refine ⟨(by show 2<=sizeLine;decide),fun u2 e2=>?_⟩
   obtain ⟨Y2,z,g2,j2⟩:=lay (o:=.tup [.str "born", .int 2]) e2
   rw [z];clear z
   refine ⟨(by show 2<=sizeLine;decide),fun u3 e3=>?_⟩
   obtain ⟨Y3,z,g3,j3⟩:=lay (o:=.tup [.str "born", .int 4]) e3
   rw [z];clear z
   refine ⟨(by show 3<=sizeLine;decide),fun l e4=>?_⟩
   obtain ⟨Y4,z,g4,j4⟩:=lay (o:=.lst [.ref u1,.ref u2,.ref u3]) e4
   rw [z];clear z
   have sY:=((g1.trans g2).trans g3).trans g4
   have bgY:=Yo sY bg7
   have fl:H l=none:=f17.free bg7 (((g1.trans g2).trans g3).free e4)
   have hlb:=nb fl
   have LY:ZC Y4 [.ref u1,.ref u2,.ref u3] [("born", 0),("born", 2),("born", 4)]:=.cons ⟨u1,rfl,g4 _ _ (g3 _ _ (g2 _ _ j1))⟩ (.cons ⟨u2,rfl,g4 _ _ (g3 _ _ j2)⟩ (.cons ⟨u3,rfl,g4 _ _ j3⟩ .nil))
   have WY:Wk [("born", 0),("born", 2),("born", 4)] 6:=Wk.born (k:=4) (Wk.born (k:=2) (Wk.born (k:=0) .nil (by decide) (by decide)) (by decide) (by decide)) (by decide) (by decide)
   refine ⟨_,rfl,_,rfl,_,_,rfl,rfl,_,_,rfl,b,_,rfl,bgY,(by split<;>lia),(by split<;>lia),fun d2 H3 d20 d21 bg3 f3=>⟨_,_,rfl,rfl,?_⟩⟩
   have d2n:d2<=11:=by revert d21;split<;>lia
   refine ⟨_,rfl,by lia,by lia,JS (n:=(2+d2).toNat) (fun i σ G=>∃(xs:List V) (ls:List (Str×Int)) (v4:Option V),σ = [some (.ref b),some (.int n),some (.int wy),some (.ref l),v4]/\Bag G b/\YC b H G/\G l=some (.lst xs)/\ZC G xs ls/\Wk ls 6/\ls.length<=3+i/\nX ls<=i)
    ⟨_,_,_,rfl,bg3,(f17.trans sY.frm).trans f3,f3 _ _ j4 hlb,LY.frm f3 bgY,WY,Nat.le_refl _,Nat.le_refl _⟩ ?_ ?_⟩
   ·rintro i σ G hi ⟨xs,ls,v4,rfl,bg,fr4,hG,hL,hW,hlen,hx⟩
    have hxl:=hL.len
    refine ⟨_,rfl,.inl ⟨rfl,_,Zw.of hG⟩,(by show 3<=sizeLine;decide),fun q1 hq1=>?_⟩
    obtain ⟨Z1,z,r1,o1⟩:=lay (o:=.lst [.int 1,.int 3,.int 2]) hq1
    rw [z];clear z
    have bgZ:=Yo r1 bg
    refine ⟨_,rfl,b,7,rfl,bgZ,by decide,by decide,fun e Z2 e0 e1' bgZ2 fZ=>⟨_,_,rfl,rfl,(by show (0:Int)<3;decide),?_⟩⟩
    have nq:q1≠b:=nb5 bg hq1
    obtain ⟨jj,hjj⟩:∃jj:Nat,e % 3=(jj:Int):=⟨(e % 3).toNat,by lia⟩
    have jj3:jj<3:=by lia
    dsimp only
    rw [hjj]
    obtain ⟨kk,hkk,k0,k4⟩:∃kk:Int,([V.int 1,.int 3,.int 2]:List V)[jj]? = some (.int kk)/\0<=kk/\kk<=4:=by
     match jj,jj3 with
     | 0,_=>exact ⟨_,rfl,by decide,by decide⟩
     | 1,_=>exact ⟨_,rfl,by decide,by decide⟩
     | 2,_=>exact ⟨_,rfl,by decide,by decide⟩
    refine ⟨q1,_,_,_,rfl,rfl,Zw.of (fZ _ _ o1 nq),Zo hkk,(by show 2<=sizeLine;decide),fun t ht=>?_⟩
    obtain ⟨c1',c2',c3',c4',c5'⟩:=Wb "cross" kk (fr4.trans r1.frm) bgZ (r1 _ _ hG) (hL.same r1) hlb fl fZ bgZ2 ht
    refine ⟨l,_,_,rfl,rfl,c1',Zx (by lia),?_⟩
    exact ⟨xs ++ [.ref t],ls ++ [((("cross" : Str),kk):Str×Int)],_,rfl,c2',c3',c4',c5',Wk.cross hW k0 (by lia),by rw [List.length_append,List.length_singleton];lia,by rw [Uz];lia⟩
   ·rintro σ G ⟨xs,ls,v4,rfl,bg,fr4,hG,hL,hW,hlen,hx⟩
    have hxl:=hL.len
    refine ⟨_,rfl,(by show 2<=sizeLine;decide),fun w1' e1'=>?_⟩
    obtain ⟨Z1,z,r1,o1⟩:=lay (o:=.tup [.str "end", .int 0]) e1'
    rw [z];clear z
    refine ⟨(by show 2<=sizeLine;decide),fun w2' e2'=>?_⟩
    obtain ⟨Z2,z,r2,o2⟩:=lay (o:=.tup [.str "end", .int 0]) e2'
    rw [z];clear z
    refine ⟨(by show 2<=sizeLine;decide),fun w3' e3'=>?_⟩
    obtain ⟨Z3,z,r3,o3⟩:=lay (o:=.tup [.str "end", .int 0]) e3'
    rw [z];clear z
    refine ⟨(by show 3<=sizeLine;decide),fun w4' e4'=>?_⟩
    obtain ⟨Z4,z,r4,o4⟩:=lay (o:=.lst [.ref w1',.ref w2',.ref w3']) e4'
    rw [z];clear z
    have sZ:=((r1.trans r2).trans r3).trans r4
    refine ⟨l,w4',_,_,rfl,rfl,sZ _ _ hG,o4,(by rw [hxl,sizeLine_eq];show ls.length+3<=_;lia),fun w5 e5=>?_⟩
    obtain ⟨Z5,z,r5,o5⟩:=lay (o:=.lst (xs ++ [.ref w1',.ref w2',.ref w3'])) e5
    rw [z];clear z
    have sZ5:=sZ.trans r5
    have LE:ZC Z5 [.ref w1',.ref w2',.ref w3'] (List.replicate 3 ((("end" : Str),0):Str×Int)):=.cons ⟨w1',rfl,r5 _ _ (r4 _ _ (r3 _ _ (r2 _ _ o1)))⟩ (.cons ⟨w2',rfl,r5 _ _ (r4 _ _ (r3 _ _ o2))⟩ (.cons ⟨w3',rfl,r5 _ _ (r4 _ _ o3)⟩ .nil))
    refine k w5 Z5 (ls++List.replicate 3 ((("end" : Str),0):Str×Int)) (fr4.free bg (sZ.free e5)) (Yo sZ5 bg) (fr4.trans sZ5.frm) ⟨_,o5,(hL.same sZ5).append LE,?_,?_⟩ ?_
    ·have:=Zci 3 hW 3 (Nat.le_refl _)
     simpa using this
    ·rw [List.length_append,List.length_replicate];lia
    ·rw [WU]
     have:nX (List.replicate 3 ((("end" : Str),0):Str×Int))=0:=rfl
     lia
  ·refine ⟨_,rfl,_,rfl,(by show 2<=sizeLine;decide),fun w1' e1'=>?_⟩
   obtain ⟨Z1,z,r1,o1⟩:=lay (o:=.tup [.str "end", .int 0]) e1'
   rw [z];clear z
   refine ⟨(by show 2<=sizeLine;decide),fun w2' e2'=>?_⟩
   obtain ⟨Z2,z,r2,o2⟩:=lay (o:=.tup [.str "end", .int 0]) e2'
   rw [z];clear z
   refine ⟨(by show 2<=sizeLine;decide),fun w4' e4'=>?_⟩
   obtain ⟨Z4,z,r4,o4⟩:=lay (o:=.lst [.ref w1',.ref w2']) e4'
   rw [z];clear z
   have sZ:=(r1.trans r2).trans r4
   have l7:([V.ref t1,.ref t2]++List.replicate mm (V.ref t3)).length=2+mm:=by rw [List.length_append,List.length_replicate];rfl
   refine ⟨c4,w4',_,_,rfl,rfl,sZ _ _ b7,o4,(by rw [l7,sizeLine_eq];show 2+mm+2<=_;lia),fun w5 e5=>?_⟩
   obtain ⟨Z5,z,r5,o5⟩:=lay (o:=.lst ([.ref t1,.ref t2]++List.replicate mm (V.ref t3) ++ [.ref w1',.ref w2'])) e5
   rw [z];clear z
   have sZ5:=sZ.trans r5
   have LE:ZC Z5 [.ref w1',.ref w2'] (List.replicate 2 ((("end" : Str),0):Str×Int)):=.cons ⟨w1',rfl,r5 _ _ (r4 _ _ (r2 _ _ o1))⟩ (.cons ⟨w2',rfl,r5 _ _ (r4 _ _ o2)⟩ .nil)
   have bgZ:=Yo sZ5 bg7
   have f0:H w5=none:=f17.free bg7 (sZ.free e5)
   have WX:∀m:Nat,Wk (([("born", 0),("born", 2)]:List (Str×Int))++List.replicate m ((("cross" : Str),1):Str×Int)) 4:=fun m=>by
    induction m with
    | zero=>exact Wk.born (k:=2) (Wk.born (k:=0) .nil (by decide) (by decide)) (by decide) (by decide)
    | succ m ih=>rw [List.replicate_succ',<- List.append_assoc];exact Wk.cross ih (by decide) (by decide)
   refine ⟨_,rfl,c4,_,rfl,.inl (Zw.of (sZ5 _ _ b7)),_,_,rfl,rfl,_,_,rfl,_,_,rfl,?_⟩
   rw [l7]
   refine ⟨b,w5,_,([("born", 0),("born", 2)]:List (Str×Int))++List.replicate mm ((("cross" : Str),1):Str×Int)++List.replicate 2 ((("end" : Str),0):Str×Int),rfl,bgZ,⟨_,o5,(L7.same sZ5).append LE,?_,?_⟩,nb f0,?_,?_,?_,?_,fun l G ls hl bg fr dr nx=>k l G ls ((f17.trans sZ5.frm).free bgZ hl) bg ((f17.trans sZ5.frm).trans fr) dr nx⟩
   ·have:=Zci 2 (WX mm) 2 (Nat.le_refl _)
    simpa using this
   ·rw [List.length_append,List.length_append,List.length_replicate,List.length_replicate];show 2+mm+2<=60;lia
   ·rw [List.length_append,List.length_append,List.length_replicate,List.length_replicate];show 2+mm+2<=40;lia
   ·rw [WU,WU,Zl3]
    have e1:nX (List.replicate 2 ((("end" : Str),0):Str×Int))=0:=rfl
    have e2:nX ([("born", 0),("born", 2)]:List (Str×Int))=0:=rfl
    lia
   ·split<;>(try split)<;>lia
   ·split<;>(try split)<;>lia
def ZcG:Sp:=fun vs H Q _=>∃(l:Addr) (ls:List (Str×Int)),vs = [.ref l]/\Drw H l ls /\ ∀(p:Addr) (H':Hp) (scs:List Int),Zi H H'->H p=none->H' p=some (.lst (scs.map V.int))->scs.length<=2->(∀sc∈scs,(sc=0∨sc=1) /\ ∃g,HG sc ls g)->Q (.ref p) H'
abbrev J4:Stmt:=top 46
theorem ZcT:Zz ["_law_drawing_here"] ["_law_drawing_here"] (Zj J4):={}
theorem Zh9 {f:Addr}{fd:FuncData} (F:YE K "_law_scales" "_law_scales" J4 f fd) (Yd:Yr P w K mg base 4 "_law_name_heights" ["_law_drawing_here", "_law_scale"] Zhw):Yj P w K mg base Wy 5 f fd ["_law_drawing_here"] ZcG:=by
 refine F.ok ZcT (fun vs H Q E h=>?_) (fun cdv A outer s H vs Q E hr h=>?_)
 ·obtain ⟨l,ls,rfl,_⟩:=h
  rfl
 ·obtain ⟨l,ls,rfl,⟨xs,hl,hL,hW,hlen⟩,k⟩:=h
  refine ⟨_,(Zg (Zy (UL (Ls:=["_law_scale"]) (Fs:=["_law_drawing_here"]) (fi:=[0]) (Yi.of (show YT ["_law_drawing_here"] (Zj J4) _ ["_law_drawing_here"] [0]=true by decide +kernel)) rfl (Yk (K:=K) rfl (ZL (Za Zd (Za Zd Zb)))) (fun cl C s3 H3 ex=>⟨(Zl (i:=0) (show ((["_law_scale"]:List Str)++(["_law_drawing_here"]:List Str)).Nodup by decide +kernel) rfl (Or.inl rfl)),(Zct (Zr Zeq (Zq Yd hr (Za (pv 1) (Za (pv 0) Zb))) UP (Zp _))),(pv 0)⟩)))),?_⟩
  refine ⟨(by show 2<=sizeLine;decide),fun D hD=>?_⟩
  obtain ⟨G0,z,s0,e0⟩:=lay (o:=.lst [.int 0,.int 1]) hD
  rw [z];clear z
  refine ⟨D,rfl,⟨_,Zw.of e0⟩,WA (K:=K) (a:=D) (xs:=[.int 0,.int 1]) (by show 2<=sizeLine;decide) (fun i zs G=>Zi G0 G /\ ∃scs:List Int,zs=scs.map V.int/\scs.length<=i /\ ∀sc∈scs,(sc=0∨sc=1) /\ ∃g,HG sc ls g) ⟨Zi.refl _,[],rfl,Nat.le_refl _,fun _ h=>(nomatch h)⟩
   (fun i zs G ⟨_,scs,e,l,_⟩=>by rw [e,List.length_map];exact l) (fun i zs G x=>Zw.of (x.1 _ _ e0)) (fun i y zs G hy x=>?_) (fun zs G x p hp=>?_)⟩
  ·obtain ⟨sG,scs,rfl,ln,al⟩:=x
   obtain ⟨sc,rfl,hsc⟩:∃sc:Int,y = .int sc/\(sc=0∨sc=1):=by
    match i,hy with
    | 0,h=>exact ⟨0,(Option.some.inj h).symm,.inl rfl⟩
    | 1,h=>exact ⟨1,(Option.some.inj h).symm,.inr rfl⟩
   have s2:=s0.trans sG
   refine ⟨_,rfl,_,rfl,l,sc,xs,ls,rfl,hsc,s2 _ _ hl,hL.same s2,hlen,hW,fun v G' s' lv=>⟨rfl,_,rfl,?_⟩⟩
   rcases lv with ⟨p,g,hg,rfl,_,_⟩ | ⟨rfl,_,_⟩
   ·refine Za9 ⟨_,rfl,sG.trans s',scs ++ [sc],by simp,by rw [List.length_append];show _+1<=_;lia,fun x hx=>?_⟩
    rcases List.mem_append.mp hx with h | h
    ·exact al x h
    ·rw [List.mem_singleton.mp h];exact ⟨hsc,g,hg⟩
   ·exact WE ⟨sG.trans s',scs,rfl,by lia,al⟩
  ·obtain ⟨sG,scs,rfl,ln,al⟩:=x
   exact k p _ scs (s0.trans (sG.step hp)) (s0.free (sG.free hp)) Zc ln al
theorem HG.told {sc:Int}{ls:List (Str×Int)}{g:Int->Int}{H H':Hp}{v:V} (h:HG sc ls g) (lv:lnV sc ls H H' v):∃p,v = .ref p/\H p=none/\H' p=some (.lst ((dfs g ls (Ya ls W3 ls.length)).map V.int)):=by
 rcases lv with ⟨p,g',hg,rfl,fp,e⟩ | ⟨_,ne,ts,tr,z⟩
 ·have:=h.uniq hg
  subst this
  exact ⟨p,rfl,fp,e⟩
 ·exfalso
  rcases h with ⟨e,_⟩ | ⟨_,T,L,tr',t0,_⟩
  ·exact ne e
  ·have:=tr.uniq tr'
   rw [this] at z
   exact z (by rw [List.map_singleton,t0])
def Zdr (ls:List (Str×Int)) (i m:Nat):List Int:=(List.range' i m).filterMap fun i=>if Uu ls W3 i=true then some (i:Int) else none
theorem Zd3 (ls:List (Str×Int)) (i m:Nat):Zdr ls i (m+1)=(if Uu ls W3 i=true then [(i:Int)] else [])++Zdr ls (i+1) m:=by
 unfold Zdr
 rw [List.range'_succ,List.filterMap_cons]
 split
 ·rename_i h
  split at h
  ·cases h
  ·rename_i q;rw [if_neg q];rfl
 ·rename_i h
  split at h
  ·rename_i q;cases h;rw [if_pos q];rfl
  ·cases h
def Wg (g:Int->Int) (ls:List (Str×Int)) (i:Nat):Option Int:=if Uu ls W3 i=true then some (g (Y9 ls i).1-g (Y9 ls i).2) else none
def oI:Option Int->V
 | some i=>.int i
 | none=>.non
def lhL (g:Int->Int) (ls:List (Str×Int)) (n:Nat):List V:=(List.range n).map fun i=>oI (Wg g ls i)
def Zd9:Sp:=fun vs H Q _=>∃(l:Addr) (sc:Int) (ls:List (Str×Int)) (g:Int->Int),vs = [.ref l,.int sc]/\(sc=0∨sc=1)/\Drw H l ls/\HG sc ls g /\ ∀(p:Addr) (H':Hp),Zi H H'->H p=none->H' p=some (.lst (lhL g ls ls.length))->Q (.ref p) H'
abbrev Y8:Stmt:=top 47
theorem Ys:Zz ["_law_drawing_here", "_law_scale", "_law_known", "_law_found", "_law_letter"] ["_law_drawing_here", "_law_scale"] (Zj Y8):={}
theorem Zk9 {f:Addr}{fd:FuncData} (F:YE K "_law_letter_heights" "_law_letter_heights" Y8 f fd) (Yd:Yr P w K mg base 4 "_law_name_heights" ["_law_drawing_here", "_law_scale"] Zhw) (YL:mg "list" = none):Yj P w K mg base Wy 5 f fd ["_law_drawing_here", "_law_scale"] Zd9:=by
 refine F.ok Ys (fun vs H Q E h=>?_) (fun cdv A outer s H vs Q E hr h=>?_)
 ·obtain ⟨l,sc,ls,g,rfl,_⟩:=h
  rfl
 ·obtain ⟨l,sc,ls,g,rfl,hsc,⟨xs,hl,hL,hW,hlen⟩,hg,k⟩:=h
  refine ⟨_,(Ze (Zn (i:=2) Ys.nd rfl (Or.inl rfl) (Z9 (JB (K:=K) rfl) (by rfl) YL boot_list (Za (Zq Yd hr (Za (pv 0) (Za (pv 1) Zb))) Zb)))
   (Ze (Zn (i:=3) Ys.nd rfl (Or.inl rfl) (ZL Zb))
   (Ze (Ym PassesOwn.never rfl (Yk (K:=K) rfl (pv 0)) (Zl (i:=4) Ys.nd rfl (Or.inl rfl)) (Zg (ZZ (Zr Yc (Zv (ZK (K:=K) rfl) (pv 4) Zd (fun _ _=>rfl)) ZG (Zp _)) (Zg (Yb (Yg (K:=K) rfl (YN PySem.F.plainAttrs_list PySem.F.slot_list_append PySem.F.type_list_append ZW (pv 3) (Za UP Zb))))) (Zg (Yb (Yg (K:=K) rfl (YN PySem.F.plainAttrs_list PySem.F.slot_list_append PySem.F.type_list_append ZW (pv 3) (Za (Yg (K:=K) rfl (YN PySem.F.plainAttrs_list PySem.F.slot_list_pop PySem.F.type_list_pop ZcW (pv 2) (Za Zd Zb))) Zb))))))))
   (Zg (Zy (pv 3)))))),?_⟩
  refine ⟨_,rfl,_,rfl,l,sc,xs,ls,rfl,hsc,hl,hL,hlen,hW,fun v H1 s1 lv=>?_⟩
  obtain ⟨p,rfl,fp,ep⟩:=hg.told lv
  refine ⟨p,_,rfl,.inl (Zw.of ep),fun kn hkn=>?_⟩
  obtain ⟨H2,z,s2,e2⟩:=lay (o:=.lst ((dfs g ls (Ya ls W3 ls.length)).map V.int)) hkn
  rw [z];clear z
  refine ⟨(by show 0<=sizeLine;exact Nat.zero_le _),fun q hq=>?_⟩
  obtain ⟨H3,z,s3,e3⟩:=lay (o:=.lst []) hq
  rw [z];clear z
  have s03:=(s1.trans s2).trans s3
  have fk:H kn=none:=s1.free hkn
  have fq:H q=none:=(s1.trans s2).free hq
  have kq:kn≠q:=Zf e2 hq
  have hxl:=hL.len
  have e0:(dfs g ls (Ya ls W3 ls.length))=dfs g ls (Zdr ls 0 (ls.length-0)):=by
   unfold Ya Zdr
   rw [List.range_eq_range',Nat.sub_zero]
  rw [e0] at e2
  refine ⟨_,rfl,l,rfl,⟨_,Zw.of (s03 _ _ hl)⟩,JI (K:=K) (a:=l) (xs:=xs) (fun i σ G=>∃v4:Option V,σ = [some (.ref l),some (.int sc),some (.ref kn),some (.ref q),v4]/\Zi H G/\G kn=some (.lst ((dfs g ls (Zdr ls i (ls.length-i))).map V.int))/\G q=some (.lst (lhL g ls i))) ⟨_,rfl,s03,s3 _ _ e2,e3⟩ (fun i σ G _ ⟨_,_,s,_⟩=>Zw.of (s _ _ hl)) ?_ ?_⟩
  ·rintro i x σ G hx ⟨v4,rfl,sG,ek,eq⟩
   obtain ⟨pq,ta,hp,rfl,hta⟩:=(hL.same sG).get hx
   have hi:i<ls.length:=(List.getElem?_eq_some_iff.mp hp).1
   have kk:=WC hp (pr:=W3)
   have lq:(lhL g ls i).length=i:=by simp [lhL]
   have em:ls.length-i=(ls.length-(i+1))+1:=by lia
   have putq:∀{G':Hp}{o:HO},Zi H G'->Zi H (upd G' q o):=fun s c o e=>by rw [Zh (Zf e fq)];exact s c o e
   have putk:∀{G':Hp}{o:HO},Zi H G'->Zi H (upd G' kn o):=fun s c o e=>by rw [Zh (Zf e fk)];exact s c o e
   refine ⟨_,rfl,ta,_,_,_,rfl,rfl,YB.of hta,Zo (j:=0) rfl,rfl,_,rfl,ZX (fun hb=>?_) (fun hb=>?_)⟩
   ·have eb:pq.1 = "born" := by
     have:=of_decide_eq_true hb
     injection this
    have kf:Uu ls W3 i=false:=by rw [kk,eb];decide
    refine ⟨_,rfl,.inl ⟨rfl,_,Zw.of eq⟩,q,_,_,rfl,rfl,eq,(by rw [lq,sizeLine_eq];lia),?_⟩
    refine ⟨_,rfl,putq sG,?_,?_⟩
    ·rw [Zh kq,ek,em,Zd3,kf]
     rfl
    ·rw [Zc]
     unfold lhL
     rw [List.range_succ,List.map_append]
     show some (HO.lst (_ ++ [V.non]))=some (HO.lst (_ ++ [oI (Wg g ls i)]))
     have:Wg g ls i=none:=by unfold Wg;rw [kf];rfl
     rw [this]
     rfl
   ·have kt:Uu ls W3 i=true:=by
     rw [kk]
     unfold W3
     simp
     intro z
     rw [z] at hb
     exact hb (decide_eq_true rfl)
    have el:Zdr ls i (ls.length-i)=(i:Int)::Zdr ls (i+1) (ls.length-(i+1)):=by rw [em,Zd3,kt];rfl
    rw [el] at ek
    have ek':G kn=some (.lst (V.int (g (Y9 ls i).1-g (Y9 ls i).2)::(dfs g ls (Zdr ls (i+1) (ls.length-(i+1)))).map V.int)):=by
     rw [ek]
     unfold dfs
     rw [List.map_cons,List.map_cons]
     simp
    refine ⟨_,rfl,.inl ⟨rfl,_,Zw.of eq⟩,_,rfl,.inl ⟨rfl,_,Zw.of ek'⟩,kn,_,0,0,_,rfl,rfl,ek',by decide,by decide,seqIndex_of (by decide) (by simp),rfl,?_⟩
    have eq2:(upd G kn (.lst (((V.int (g (Y9 ls i).1-g (Y9 ls i).2))::(dfs g ls (Zdr ls (i+1) (ls.length-(i+1)))).map V.int).eraseIdx 0))) q=some (.lst (lhL g ls i)):=by rw [Zh (Ne.symm kq)];exact eq
    refine ⟨q,_,_,rfl,rfl,eq2,(by rw [lq,sizeLine_eq];lia),?_⟩
    refine ⟨_,rfl,putq (putk sG),?_,?_⟩
    ·rw [Zh kq,Zc]
     rfl
    ·rw [Zc]
     unfold lhL
     rw [List.range_succ,List.map_append]
     show some (HO.lst (_ ++ [V.int _]))=some (HO.lst (_ ++ [oI (Wg g ls i)]))
     have:Wg g ls i=some (g (Y9 ls i).1-g (Y9 ls i).2):=by unfold Wg;rw [kt];rfl
     rw [this]
     rfl
  ·rintro σ G ⟨v4,rfl,sG,ek,eq⟩
   rw [hxl] at eq
   exact ⟨_,rfl,k q G sG fq eq⟩
def PtL (ps:List Int):Prop:=∀(i:Nat) (x:Int),ps[i]? = some x -> ∃j:Nat,x=(j:Int)/\ps[j]? = some (i:Int)/\j≠i
def upB (k:Nat) (x:Int):Int:=if x>=(k:Int) then x+2 else x
def dnE (k:Nat) (x:Int):Int:=if x>(k:Int) then x-2 else x
def Ga (k:Nat) (x:Int):Int:=if x=(k:Int) then (k:Int)+1 else if x=(k:Int)+1 then (k:Int) else x
def U6 (ps:List Int) (k:Nat):List Int:=(ps.map (upB k)).take k ++ [(k:Int)+1,(k:Int)]++(ps.map (upB k)).drop k
def ZbD (ps:List Int) (k:Nat):List Int:=(ps.take k++ps.drop (k+2)).map (dnE k)
theorem Zjj (ps:List Int) (k:Nat):(U6 ps k).length=ps.length+2:=by
 unfold U6;simp;lia
theorem Zlw {ps:List Int}{k:Nat} (h:k+1<ps.length):(ZbD ps k).length+2=ps.length:=by
 unfold ZbD;simp;lia
theorem Zbg {ps:List Int}{k:Nat} (hk:k<=ps.length) (i:Nat):(U6 ps k)[i]? = if i<k then ps[i]?.map (upB k) else if i=k then some ((k:Int)+1) else if i=k+1 then some (k:Int) else ps[i-2]?.map (upB k):=by
 unfold U6
 have l1:((ps.map (upB k)).take k).length=k:=by simp;lia
 by_cases h1:i<k
 ·rw [if_pos h1,List.append_assoc,List.getElem?_append_left (by lia),List.getElem?_take,if_pos h1,List.getElem?_map]
 ·rw [if_neg h1,List.append_assoc,List.getElem?_append_right (by lia),l1]
  by_cases h2:i=k
  ·rw [if_pos h2,h2,Nat.sub_self];rfl
  ·rw [if_neg h2]
   by_cases h3:i=k+1
   ·rw [if_pos h3,h3,show k+1-k=1 by lia];rfl
   ·rw [if_neg h3,List.getElem?_append_right (by show 2<=_;lia),List.getElem?_drop,List.getElem?_map]
    congr 2
    show k+(i-k-2)=i-2
    lia
theorem PtL.born {ps:List Int}{k:Nat} (h:PtL ps) (hk:k<=ps.length):PtL (U6 ps k):=by
 intro i x e
 rw [Zbg hk] at e
 have old:∀(i':Nat) (y:Int),ps[i']? = some y -> ∃j:Nat,upB k y=(j:Int)/\(U6 ps k)[j]? = some (upB k (i':Int))/\(j:Int)≠upB k (i':Int):=fun i' y e'=>by
  obtain ⟨j,rfl,e2,ne⟩:=h i' y e'
  unfold upB
  by_cases hj:k<=j
  ·refine ⟨j+2,by rw [if_pos (by lia)];rfl,?_,?_⟩
   ·rw [Zbg hk,if_neg (by lia),if_neg (by lia),if_neg (by lia),Nat.add_sub_cancel,e2]
    rfl
   ·split<;>lia
  ·refine ⟨j,by rw [if_neg (by lia)],?_,?_⟩
   ·rw [Zbg hk,if_pos (by lia),e2]
    rfl
   ·split<;>lia
 by_cases h1:i<k
 ·rw [if_pos h1] at e
  obtain ⟨y,e',rfl⟩:=Option.map_eq_some_iff.mp e
  obtain ⟨j,a,b,c⟩:=old i y e'
  have:upB k (i:Int)=(i:Int):=by unfold upB;rw [if_neg (by lia)]
  rw [this] at b c
  exact ⟨j,a,b,by lia⟩
 rw [if_neg h1] at e
 by_cases h2:i=k
 ·rw [if_pos h2] at e
  injection e with e
  refine ⟨k+1,by lia,?_,by lia⟩
  rw [Zbg hk,if_neg (by lia),if_neg (by lia),if_pos rfl,h2]
 rw [if_neg h2] at e
 by_cases h3:i=k+1
 ·rw [if_pos h3] at e
  injection e with e
  refine ⟨k,by lia,?_,by lia⟩
  rw [Zbg hk,if_neg (by lia),if_pos rfl,h3]
  rfl
 rw [if_neg h3] at e
 obtain ⟨y,e',rfl⟩:=Option.map_eq_some_iff.mp e
 obtain ⟨j,a,b,c⟩:=old (i-2) y e'
 have:upB k ((i-2:Nat):Int)=(i:Int):=by unfold upB;rw [if_pos (by lia)];lia
 rw [this] at b c
 exact ⟨j,a,b,by lia⟩
theorem Zgu {ps:List Int}{k:Nat} (hk:k+1<ps.length) (i:Nat):(ZbD ps k)[i]? = (if i<k then ps[i]? else ps[i+2]?).map (dnE k):=by
 unfold ZbD
 rw [List.getElem?_map]
 congr 1
 by_cases h1:i<k
 ·rw [if_pos h1,List.getElem?_append_left (by simp;lia),List.getElem?_take,if_pos h1]
 ·rw [if_neg h1,List.getElem?_append_right (by simp;lia),List.getElem?_drop]
  congr 1
  simp
  lia
theorem PtL.ended {ps:List Int}{k:Nat} (h:PtL ps) (e0:ps[k]? = some ((k:Int)+1)):PtL (ZbD ps k):=by
 obtain ⟨j0,j1,e1,_⟩:=h k _ e0
 have:j0=k+1:=by lia
 subst this
 have hk:k+1<ps.length:=(List.getElem?_eq_some_iff.mp e1).1
 have old:∀(i':Nat) (y:Int),i'≠k->i'≠k+1->ps[i']? = some y -> ∃j:Nat,dnE k y=(j:Int)/\(ZbD ps k)[j]? = some (dnE k (i':Int))/\(j:Int)≠dnE k (i':Int):=fun i' y n1 n2 e'=>by
  obtain ⟨j,rfl,e2,ne⟩:=h i' y e'
  have m1:j≠k:=fun z=>by subst z;rw [e0] at e2;injection e2;lia
  have m2:j≠k+1:=fun z=>by subst z;rw [e1] at e2;injection e2;lia
  unfold dnE
  by_cases hj:k<j
  ·refine ⟨j-2,by rw [if_pos (by lia)];lia,?_,?_⟩
   ·rw [Zgu hk,if_neg (by lia),show j-2+2=j by lia,e2]
    rfl
   ·split<;>lia
  ·refine ⟨j,by rw [if_neg (by lia)],?_,?_⟩
   ·rw [Zgu hk,if_pos (by lia),e2]
    rfl
   ·split<;>lia
 intro i x e
 rw [Zgu hk] at e
 obtain ⟨y,e',rfl⟩:=Option.map_eq_some_iff.mp e
 by_cases h1:i<k
 ·rw [if_pos h1] at e'
  obtain ⟨j,a,b,c⟩:=old i y (by lia) (by lia) e'
  have:dnE k (i:Int)=(i:Int):=by unfold dnE;rw [if_neg (by lia)]
  rw [this] at b c
  exact ⟨j,a,b,by lia⟩
 ·rw [if_neg h1] at e'
  obtain ⟨j,a,b,c⟩:=old (i+2) y (by lia) (by lia) e'
  have:dnE k ((i+2:Nat):Int)=(i:Int):=by unfold dnE;rw [if_pos (by lia)];lia
  rw [this] at b c
  exact ⟨j,a,b,by lia⟩
def ZeR:Sp:=fun vs H Q _=>∃(v:V) (k:Nat) (ps:List Int),vs = [v,.int k]/\Jc H v ps/\ps.length<=200 /\ ∀(v':V) (H':Hp),Zi H H'->Jc H' v' (U6 ps k)->Q v' H'
abbrev Jz:Stmt:=top 25
theorem Gz:Zz ["partners", "k", "moved"] ["partners", "k"] (Zj Jz):={}
theorem Zjr {f:Addr}{fd:FuncData} (F:YE K "partners_born" "partners_born" Jz f fd) (Jr:mg "tuple" = none):Yj P w K mg base Wy 1 f fd ["partners", "k"] ZeR:=by
 refine F.ok Gz (fun vs H Q E h=>?_) (fun cdv A outer s H vs Q E hr h=>?_)
 ·obtain ⟨v,k,ps,rfl,_⟩:=h
  rfl
 ·obtain ⟨v,k,ps,rfl,⟨a,rfl,ha⟩,hlen,q⟩:=h
  refine ⟨_,(Ze (Zn (i:=2) Gz.nd rfl (Or.inl rfl) (Z9 Wa (by rfl) Jr boot_tuple (Za (UL (Ls:=["one"]) (Fs:=["k"]) (fi:=[1]) (Yi.of (show YT ["partners", "k", "moved"] (Zj Jz) _ ["k"] [1]=true by decide +kernel)) rfl (Zht (K:=K) rfl (pv 0)) (fun cl C s3 H3 ex=>⟨(Zl (i:=0) (show ((["one"]:List Str)++(["k"]:List Str)).Nodup by decide +kernel) rfl (Or.inl rfl)),Jk,(U2 (Zr Ziz (pv 0) (pv 1) (Zp _)) (Zk Zu (pv 0) Zd) (pv 0))⟩)) Zb)))
   (Zg (Zy (Zk ZeY (Zk ZeY (YA (Zbk (K:=K) rfl) (pv 2) Jy (Yh (pv 1))) (ZA (Za (Zk Zu (pv 1) Zd) (Za (pv 1) Zb)))) (YA (Zbk (K:=K) rfl) (pv 2) (Yh (pv 1)) Jy))))),?_⟩
  refine ⟨_,rfl,a,rfl,⟨_,YB.of ha⟩,Zjm (K:=K) (a:=a) (xs:=ps.map V.int) (by rw [List.length_map,sizeLine_eq];lia) (fun i zs G=>G=H/\zs=((ps.map (upB k)).take i).map V.int) ⟨rfl,rfl⟩ (fun i zs G x=>by rw [x.2,List.length_map,List.length_take];lia) (fun i zs G x=>by rw [x.1];exact YB.of ha) (fun i y zs G hy x=>?_) (fun zs G x p hp=>?_)⟩
  ·obtain ⟨rfl,rfl⟩:=x
   obtain ⟨n,hn,rfl⟩:∃n,ps[i]? = some n/\y=V.int n:=by
    rw [List.getElem?_map] at hy
    obtain ⟨n,h1,h2⟩:=Option.map_eq_some_iff.mp hy
    exact ⟨n,h1,h2.symm⟩
   have hi:i<ps.length:=(List.getElem?_eq_some_iff.mp hn).1
   have st:((ps.map (upB k)).take (i+1)).map V.int=((ps.map (upB k)).take i).map V.int ++ [V.int (upB k n)]:=by
    rw [List.take_add_one,List.getElem?_map,hn,List.map_append]
    rfl
   refine ⟨_,rfl,_,rfl,_,_,rfl,rfl,_,rfl,ZX (fun c=>?_) (fun c=>?_)⟩
   ·refine ⟨_,rfl,_,_,rfl,rfl,rfl,?_⟩
    rw [st]
    unfold upB
    rw [if_pos (of_decide_eq_true c)]
   ·refine ⟨_,rfl,rfl,?_⟩
    rw [st]
    unfold upB
    rw [if_neg (fun z=>c (decide_eq_true z))]
  ·obtain ⟨rfl,rfl⟩:=x
   rw [List.length_map,List.take_of_length_le (by rw [List.length_map];exact Nat.le_refl _)]
   obtain ⟨G1,z,s1,e1⟩:=lay (o:=.lst ((ps.map (upB k)).map V.int)) hp
   rw [z];clear z
   refine ⟨p,_,rfl,e1,fun m hm=>?_⟩
   obtain ⟨G2,z,s2,e2⟩:=lay (o:=.tup ((ps.map (upB k)).map V.int)) hm
   rw [z];clear z
   refine ⟨_,rfl,_,rfl,_,rfl,Zjy ⟨m,rfl,e2⟩ fun v1 G3 s3 w1=>?_⟩
   refine ⟨_,rfl,_,_,rfl,rfl,_,rfl,(by show 2<=sizeLine;decide),fun t ht=>?_⟩
   obtain ⟨G4,z,s4,e4⟩:=lay (o:=.tup [.int ((k:Int)+1),.int k]) ht
   rw [z];clear z
   have wl:∀{G G':Hp}{v:V}{x:List Int},Zi G G'->Jc G v x->Jc G' v x:=fun s ⟨b,e,h⟩=>⟨b,e,s _ _ h⟩
   refine ZcA (b:=[(k:Int)+1,(k:Int)]) (wl s4 w1) ⟨t,rfl,e4⟩ (by rw [sizeLine_eq];simp;lia) fun v2 G5 s5 w2=>?_
   refine ⟨_,rfl,_,rfl,_,rfl,?_⟩
   dsimp only [Zac]
   refine Zj4 rfl ⟨m,rfl,s5 _ _ (s4 _ _ (s3 _ _ e2))⟩ fun v3 G6 s6 w3=>?_
   refine ZcA (wl s6 w2) w3 (by rw [sizeLine_eq];simp;lia) fun v4 G7 s7 w4=>?_
   exact q v4 G7 ((((((s1.trans s2).trans s3).trans s4).trans s5).trans s6).trans s7) w4
def ZgB:Sp:=fun vs H Q _=>∃(v:V) (k:Nat) (ps:List Int),vs = [v,.int k]/\Jc H v ps/\ps.length<=200 /\ ∀(v':V) (H':Hp),Zi H H'->Jc H' v' (ZbD ps k)->Q v' H'
abbrev Jl:Stmt:=top 26
theorem W6:Zz ["partners", "k", "left"] ["partners", "k"] (Zj Jl):={}
theorem Zlp {f:Addr}{fd:FuncData} (F:YE K "partners_ended" "partners_ended" Jl f fd) (Jr:mg "tuple" = none):Yj P w K mg base Wy 1 f fd ["partners", "k"] ZgB:=by
 refine F.ok W6 (fun vs H Q E h=>?_) (fun cdv A outer s H vs Q E hr h=>?_)
 ·obtain ⟨v,k,ps,rfl,_⟩:=h
  rfl
 ·obtain ⟨v,k,ps,rfl,wv,hlen,q⟩:=h
  refine ⟨_,(Ze (Zn (i:=2) W6.nd rfl (Or.inl rfl) (Zk ZeY (YA (Zbk (K:=K) rfl) (pv 0) Jy (Yh (pv 1))) (YA (Zbk (K:=K) rfl) (pv 0) (Yh (Zk Zu (pv 1) Zd)) Jy)))
   (Zg (Zy (Z9 Wa (by rfl) Jr boot_tuple (Za (UL (Ls:=["one"]) (Fs:=["k"]) (fi:=[1]) (Yi.of (show YT ["partners", "k", "left"] (Zj Jl) _ ["k"] [1]=true by decide +kernel)) rfl (Zht (K:=K) rfl (pv 2)) (fun cl C s3 H3 ex=>⟨(Zl (i:=0) (show ((["one"]:List Str)++(["k"]:List Str)).Nodup by decide +kernel) rfl (Or.inl rfl)),Jk,(U2 (Zr Zbe (pv 0) (pv 1) (Zp _)) (Zk YO (pv 0) Zd) (pv 0))⟩)) Zb))))),?_⟩
  have wl:∀{G G':Hp}{v:V}{x:List Int},Zi G G'->Jc G v x->Jc G' v x:=fun s ⟨b,e,h⟩=>⟨b,e,s _ _ h⟩
  refine ⟨_,rfl,_,rfl,_,rfl,?_⟩
  dsimp only [Zac]
  refine Zjy wv fun v1 G1 s1 w1=>?_
  refine ⟨_,rfl,_,rfl,_,_,rfl,rfl,_,rfl,?_⟩
  dsimp only [Zac]
  refine Zj4 (k:=k+2) (by push_cast;rfl) (wl s1 wv) fun v2 G2 s2 w2=>?_
  refine ZcA (wl s2 w1) w2 (by rw [sizeLine_eq];simp;lia) fun v3 G3 s3 ⟨a,ev3,ha⟩=>?_
  subst ev3
  obtain ⟨L,eL⟩:∃L,ps.take k++ps.drop (k+2)=L:=⟨_,rfl⟩
  have lL:L.length<=200:=by rw [<- eL];simp;lia
  rw [eL] at ha
  refine ⟨_,rfl,a,rfl,⟨_,YB.of ha⟩,Zjm (K:=K) (a:=a) (xs:=L.map V.int) (by rw [List.length_map,sizeLine_eq];lia) (fun i zs G=>G=G3/\zs=((L.map (dnE k)).take i).map V.int) ⟨rfl,rfl⟩ (fun i zs G x=>by rw [x.2,List.length_map,List.length_take];lia) (fun i zs G x=>by rw [x.1];exact YB.of ha) (fun i y zs G hy x=>?_) (fun zs G x p hp=>?_)⟩
  ·obtain ⟨rfl,rfl⟩:=x
   obtain ⟨n,hn,rfl⟩:∃n,L[i]? = some n/\y=V.int n:=by
    rw [List.getElem?_map] at hy
    obtain ⟨n,h1,h2⟩:=Option.map_eq_some_iff.mp hy
    exact ⟨n,h1,h2.symm⟩
   have st:((L.map (dnE k)).take (i+1)).map V.int=((L.map (dnE k)).take i).map V.int ++ [V.int (dnE k n)]:=by
    rw [List.take_add_one,List.getElem?_map,hn,List.map_append]
    rfl
   refine ⟨_,rfl,_,rfl,_,_,rfl,rfl,_,rfl,ZX (fun c=>?_) (fun c=>?_)⟩
   ·refine ⟨_,rfl,_,_,rfl,rfl,rfl,?_⟩
    rw [st]
    unfold dnE
    rw [if_pos (of_decide_eq_true c)]
   ·refine ⟨_,rfl,rfl,?_⟩
    rw [st]
    unfold dnE
    rw [if_neg (fun z=>c (decide_eq_true z))]
  ·obtain ⟨rfl,rfl⟩:=x
   rw [List.length_map,List.take_of_length_le (by rw [List.length_map];exact Nat.le_refl _)]
   obtain ⟨G4,z,s4,e4⟩:=lay (o:=.lst ((L.map (dnE k)).map V.int)) hp
   rw [z];clear z
   refine ⟨p,_,rfl,e4,fun m hm=>?_⟩
   obtain ⟨G5,z,s5,e5⟩:=lay (o:=.tup ((L.map (dnE k)).map V.int)) hm
   rw [z];clear z
   refine q (.ref m) G5 ((((s1.trans s2).trans s3).trans s4).trans s5) ⟨m,rfl,?_⟩
   rw [e5]
   unfold ZbD
   rw [eL]
def GF (ps:List Int) (k:Nat):List Int:=((ps.map (Ga k)).set k ((ps.map (Ga k)).getD (k+1) 0)).set (k+1) ((ps.map (Ga k)).getD k 0)
structure ZbM (ps:List Int) (k a b:Nat):Prop where
 pt:PtL ps
 ea:ps[k]? = some (a:Int)
 eb:ps[k+1]? = some (b:Int)
 ne:a≠k+1
theorem ZbM.facts {ps:List Int}{k a b:Nat} (h:ZbM ps k a b):ps[a]? = some (k:Int)/\ps[b]? = some ((k:Int)+1)/\a≠k/\b≠k+1/\b≠k/\a≠b/\a<ps.length/\b<ps.length/\k+1<ps.length:=by
 obtain ⟨j,e1,e2,n1⟩:=h.pt k _ h.ea
 obtain ⟨j',e3,e4,n2⟩:=h.pt (k+1) _ h.eb
 have:j=a:=by lia
 subst this
 have:j'=b:=by lia
 subst this
 have nb:j'≠k:=fun z=>by
  subst z
  rw [e2.symm.trans (by rfl)] at e2
  have:=h.ea.symm.trans e4
  injection this with this
  exact h.ne (by lia)
 have nab:j≠j':=fun z=>by
  subst z
  have:=e2.symm.trans e4
  injection this with this
  lia
 exact ⟨e2,by rw [e4];rfl,n1,n2,nb,nab,(List.getElem?_eq_some_iff.mp e2).1,(List.getElem?_eq_some_iff.mp e4).1,(List.getElem?_eq_some_iff.mp h.eb).1⟩
theorem Zkn (ps:List Int) (k:Nat):(GF ps k).length=ps.length:=by unfold GF;simp
theorem GJ {ps:List Int}{k a b:Nat} (h:ZbM ps k a b) (i:Nat):(GF ps k)[i]? = if i=k+1 then some (a:Int) else if i=k then some (b:Int) else ps[i]?.map (Ga k):=by
 obtain ⟨fa,fb,n1,n2,n3,n4,l1,l2,l3⟩:=h.facts
 have ma:(ps.map (Ga k)).getD k 0=(a:Int):=by
  rw [List.getD_eq_getElem?_getD,List.getElem?_map,h.ea]
  show Ga k a=_
  unfold Ga
  have:=h.ne
  rw [if_neg (by lia),if_neg (by lia)]
 have mb:(ps.map (Ga k)).getD (k+1) 0=(b:Int):=by
  rw [List.getD_eq_getElem?_getD,List.getElem?_map,h.eb]
  show Ga k b=_
  unfold Ga
  rw [if_neg (by lia),if_neg (by lia)]
 unfold GF
 rw [ma,mb,List.getElem?_set,List.length_set,List.length_map,List.getElem?_set,List.length_map,List.getElem?_map]
 by_cases h1:i=k+1
 ·rw [if_pos h1,if_pos h1.symm,if_pos (by lia)]
 ·rw [if_neg h1,if_neg (Ne.symm h1)]
  by_cases h2:i=k
  ·rw [if_pos h2,if_pos h2.symm,if_pos (by lia)]
  ·rw [if_neg h2,if_neg (Ne.symm h2)]
theorem ZbM.kept {ps:List Int}{k a b:Nat} (h:ZbM ps k a b):PtL (GF ps k):=by
 obtain ⟨fa,fb,n1,n2,n3,n4,l1,l2,l3⟩:=h.facts
 have nn:=h.ne
 intro i x e
 rw [GJ h] at e
 by_cases h1:i=k+1
 ·rw [if_pos h1] at e
  injection e with e
  refine ⟨a,e.symm,?_,by lia⟩
  rw [GJ h,if_neg (by lia),if_neg (by lia),fa,h1]
  show some (Ga k k)=_
  unfold Ga
  rw [if_pos rfl]
  rfl
 rw [if_neg h1] at e
 by_cases h2:i=k
 ·rw [if_pos h2] at e
  injection e with e
  refine ⟨b,e.symm,?_,by lia⟩
  rw [GJ h,if_neg (by lia),if_neg (by lia),fb,h2]
  show some (Ga k ((k:Int)+1))=_
  unfold Ga
  rw [if_neg (by lia),if_pos rfl]
 rw [if_neg h2] at e
 obtain ⟨y,e',rfl⟩:=Option.map_eq_some_iff.mp e
 obtain ⟨j,rfl,e2,n⟩:=h.pt i y e'
 unfold Ga
 by_cases c1:j=k
 ·subst c1
  rw [if_pos rfl]
  refine ⟨j+1,by rfl,?_,by lia⟩
  rw [GJ h,if_pos rfl,<- h.ea,e2]
 by_cases c2:j=k+1
 ·subst c2
  rw [if_neg (by lia),if_pos (by rfl)]
  refine ⟨k,by rfl,?_,by lia⟩
  rw [GJ h,if_neg (by lia),if_pos rfl,<- h.eb,e2]
 rw [if_neg (by lia),if_neg (by lia)]
 refine ⟨j,rfl,?_,n⟩
 rw [GJ h,if_neg c2,if_neg c1,e2]
 show some (Ga k i)=_
 unfold Ga
 rw [if_neg (by lia),if_neg (by lia)]
theorem Zlx {ps:List Int}{k a b:Nat} (h:ZbM ps k a b):(((ps.set k (b:Int)).set (k+1) (a:Int)).set b (k:Int)).set a ((k:Int)+1)=GF ps k:=by
 obtain ⟨fa,fb,n1,n2,n3,n4,l1,l2,l3⟩:=h.facts
 have nn:=h.ne
 refine List.ext_getElem? fun i=>?_
 rw [GJ h,List.getElem?_set,List.length_set,List.length_set,List.length_set,List.getElem?_set,List.length_set,List.length_set,List.getElem?_set,List.length_set,List.getElem?_set]
 by_cases c1:a=i
 ·subst c1
  rw [if_pos rfl,if_pos l1,if_neg (by lia),if_neg (by lia),fa]
  show _=some (Ga k k)
  unfold Ga
  rw [if_pos rfl]
 rw [if_neg c1]
 by_cases c2:b=i
 ·subst c2
  rw [if_pos rfl,if_pos l2,if_neg (by lia),if_neg (by lia),fb]
  show _=some (Ga k ((k:Int)+1))
  unfold Ga
  rw [if_neg (by lia),if_pos rfl]
 rw [if_neg c2]
 by_cases c3:i=k+1
 ·rw [if_pos c3,if_pos c3.symm,if_pos l3]
 rw [if_neg c3,if_neg (Ne.symm c3)]
 by_cases c4:i=k
 ·rw [if_pos c4,if_pos c4.symm,if_pos (by lia)]
 rw [if_neg c4,if_neg (Ne.symm c4)]
 cases e:ps[i]? with
 | none=>rfl
 | some y=>
  show _=some (Ga k y)
  obtain ⟨j,rfl,e2,n⟩:=h.pt i y e
  unfold Ga
  rw [if_neg (fun z=>?_),if_neg (fun z=>?_)]
  ·have:j=k+1:=by lia
   subst this
   have:=e2.symm.trans h.eb
   injection this with this
   lia
  ·have:j=k:=by lia
   subst this
   have:=e2.symm.trans h.ea
   injection this with this
   lia
abbrev Wq:Stmt:=top 27
theorem GD:Zz ["partners", "k", "row"] ["partners", "k"] (Zj Wq):={}
def ZeC:Sp:=fun vs H Q _=>∃(v:V) (k a b:Nat) (ps:List Int),vs = [v,.int k]/\Jc H v ps/\ps.length<=200/\ZbM ps k a b /\ ∀(v':V) (H':Hp),Zi H H'->Jc H' v' (GF ps k)->Q v' H'
theorem Zkb {f:Addr}{fd:FuncData} (F:YE K "partners_kept" "partners_kept" Wq f fd) (Jr:mg "tuple" = none) (YL:mg "list" = none):Yj P w K mg base Wy 1 f fd ["partners", "k"] ZeC:=by
 refine F.ok GD (fun vs H Q E h=>?_) (fun cdv A outer s H vs Q E hr h=>?_)
 ·obtain ⟨v,k,a,b,ps,rfl,_⟩:=h
  rfl
 ·obtain ⟨v,k,a,b,ps,rfl,⟨pa,rfl,hpa⟩,hlen,tb,q⟩:=h
  refine ⟨_,(Ze (Zn (i:=2) GD.nd rfl (Or.inl rfl) (Z9 (JB (K:=K) rfl) (by rfl) YL boot_list (Za (pv 0) Zb)))
   (Ze (Z8 (ZA (Za (Zv (Zs (K:=K) rfl) (pv 2) (Zk Zu (pv 1) Zd) (fun _ _=>rfl)) (Za (Zv (Zs (K:=K) rfl) (pv 2) (pv 1) (fun _ _=>rfl)) Zb))) (ZU (K:=K) (n:=2) rfl rfl (Zm (Yl (pv 2) (pv 1) set_list) (Zm (Yl (pv 2) (Zk Zu (pv 1) Zd) set_list) ZP))))
   (Ze (Z8 (pv 1) (Yl (pv 2) (Zv (Zs (K:=K) rfl) (pv 2) (pv 1) (fun _ _=>rfl)) set_list))
   (Ze (Z8 (Zk Zu (pv 1) Zd) (Yl (pv 2) (Zv (Zs (K:=K) rfl) (pv 2) (Zk Zu (pv 1) Zd) (fun _ _=>rfl)) set_list))
   (Zg (Zy (Z9 Wa (by rfl) Jr boot_tuple (Za (pv 2) Zb)))))))),?_⟩
  obtain ⟨fa,fb,n1,n2,n3,n4,l1,l2,l3⟩:=tb.facts
  have nn:=tb.ne
  refine ⟨_,rfl,pa,_,rfl,.inr (YB.of hpa),fun l hl=>?_⟩
  obtain ⟨G1,z,s1,e1⟩:=lay (o:=.lst (ps.map V.int)) hl
  rw [z];clear z
  have g1:(ps.map V.int)[k+1]? = some (V.int b):=by rw [List.getElem?_map,tb.eb];rfl
  have g0:(ps.map V.int)[k]? = some (V.int a):=by rw [List.getElem?_map,tb.ea];rfl
  have kc:(k:Int)+1=((k+1:Nat):Int):=by push_cast;rfl
  refine ⟨_,rfl,_,rfl,_,_,rfl,rfl,l,_,_,_,rfl,rfl,Zw.of e1,(by rw [kc];exact Zo g1),_,rfl,_,rfl,l,_,_,_,rfl,rfl,Zw.of e1,Zo g0,(by show 2<=sizeLine;decide),fun t ht=>?_⟩
  obtain ⟨G2,z,s2,e2⟩:=lay (o:=.tup [.int b,.int a]) ht
  rw [z];clear z
  have ntl:t≠l:=Zf e1 ht |>.symm
  have sl2:=s2 _ _ e1
  have put:∀{G:Hp}{o:HO},Zi H G->Zi H (upd G l o):=fun s c o e=>by rw [Zh (Zf e hl)];exact s c o e
  have sH2:=s1.trans s2
  generalize eX1:(ps.map V.int).set k (V.int b)=X1
  generalize eX2:X1.set (k+1) (V.int a)=X2
  generalize eX3:X2.set b (V.int k)=X3
  generalize eX4:X3.set a (V.int ((k:Int)+1))=X4
  have m0:(ps.map V.int).length=ps.length:=List.length_map ..
  have m1:X1.length=ps.length:=by rw [<- eX1,List.length_set,m0]
  have m2:X2.length=ps.length:=by rw [<- eX2,List.length_set,m1]
  have m3:X3.length=ps.length:=by rw [<- eX3,List.length_set,m2]
  have i2:X2[k]? = some (V.int b):=by
   rw [<- eX2,List.getElem?_set,if_neg (by lia),<- eX1,List.getElem?_set,if_pos rfl,if_pos (by lia)]
  have i3:X3[k+1]? = some (V.int a):=by
   rw [<- eX3,List.getElem?_set,if_neg (by lia),<- eX2,List.getElem?_set,if_pos rfl,if_pos (by lia)]
  have x4:X4=(GF ps k).map V.int:=by
   rw [<- Zlx tb,<- eX4,<- eX3,<- eX2,<- eX1,List.map_set,List.map_set,List.map_set,List.map_set]
  refine ⟨t,_,rfl,YB.of e2,rfl,_,_,rfl,_,rfl,_,rfl,l,_,_,k,rfl,rfl,sl2,YR (by lia),?_⟩
  rw [eX1]
  refine ⟨_,_,rfl,_,rfl,_,rfl,_,_,rfl,rfl,l,_,_,k+1,rfl,rfl,Zc,(by rw [kc];exact YR (by lia)),?_⟩
  rw [eX2,Jm]
  refine ⟨rfl,_,rfl,_,rfl,_,rfl,_,rfl,l,_,_,_,rfl,rfl,Zw.of Zc,Zo i2,l,_,_,b,rfl,rfl,Zc,YR (by lia),?_⟩
  rw [eX3,Jm]
  refine ⟨_,rfl,_,_,rfl,rfl,_,rfl,_,rfl,_,rfl,_,_,rfl,rfl,l,_,_,_,rfl,rfl,Zw.of Zc,(by rw [kc];exact Zo i3),l,_,_,a,rfl,rfl,Zc,YR (by lia),?_⟩
  rw [eX4,Jm]
  refine ⟨_,rfl,l,_,rfl,Zc,fun m hm=>?_⟩
  exact q (.ref m) _ ((put sH2).trans (Zi.laid hm)) ⟨m,rfl,by rw [Zc,x4]⟩
theorem ZlE {x y:Nat}{l:List Int} (p:l.Perm [(x:Int),(y:Int)]) (s:l.Pairwise (· <= ·)):l = [((min x y:Nat):Int),((max x y:Nat):Int)]:=by
 refine Zay (p.trans ?_) s (by simp;lia)
 rcases Nat.le_total x y with h | h
 ·rw [Nat.min_eq_left h,Nat.max_eq_right h]
 ·rw [Nat.min_eq_right h,Nat.max_eq_left h]
  exact List.Perm.swap ..
theorem Zho {α:Type}{a b x y:α} (h:[a,b].Perm [x,y]):(a=x/\b=y)∨(a=y/\b=x):=by
 have h1:a ∈ [x,y]:=h.mem_iff.mp List.mem_cons_self
 rcases List.mem_cons.mp h1 with e | e
 ·subst e
  have:=List.Perm.cons_inv h
  exact .inl ⟨rfl,List.singleton_perm_singleton.mp this⟩
 ·have e:=List.mem_singleton.mp e
  subst e
  have:=List.Perm.cons_inv (h.trans (List.Perm.swap ..))
  exact .inr ⟨rfl,List.singleton_perm_singleton.mp this⟩
def Gb (k a b:Nat):Bool:=(decide (min k a<min (k+1) b)&&decide (min (k+1) b<max k a)&&decide (max k a<max (k+1) b))||(decide (min (k+1) b<min k a)&&decide (min k a<max (k+1) b)&&decide (max (k+1) b<max k a))
def Zea:Sp:=fun vs H Q _=>∃(v:V) (k a b:Nat) (ps:List Int),vs = [v,.int k]/\Jc H v ps/\ps.length<=200/\ZbM ps k a b /\ ∀(H':Hp),Zi H H'->Q (.bl (Gb k a b)) H'
abbrev Ui:Stmt:=top 28
theorem Ge:Zz ["partners", "k", "first", "second"] ["partners", "k"] (Zj Ui):={}
theorem Zls {f:Addr}{fd:FuncData} (F:YE K "is_tangled" "is_tangled" Ui f fd) (J9:mg "sorted" = none):Yj P w K mg base Wy 1 f fd ["partners", "k"] Zea:=by
 refine F.ok Ge (fun vs H Q E h=>?_) (fun cdv A outer s H vs Q E hr h=>?_)
 ·obtain ⟨v,k,a,b,ps,rfl,_⟩:=h
  rfl
 ·obtain ⟨v,k,a,b,ps,rfl,⟨pa,rfl,hpa⟩,hlen,tb,q⟩:=h
  refine ⟨_,(Ze (Z8 (ZE (Zds (K:=K) rfl hr.units) (by rfl) J9 boot_sorted (Za (ZL (Za (ZE (Zbr (K:=K) rfl) (by rfl) J9 boot_sorted (Za (ZL (Za (pv 1) (Za (Zv (ZK (K:=K) rfl) (pv 0) (pv 1) (fun _ _=>rfl)) Zb))) Zb)) (Za (ZE (Zbr (K:=K) rfl) (by rfl) J9 boot_sorted (Za (ZL (Za (Zk Zu (pv 1) Zd) (Za (Zv (ZK (K:=K) rfl) (pv 0) (Zk Zu (pv 1) Zd) (fun _ _=>rfl)) Zb))) Zb)) Zb))) Zb)) (Zch (K:=K) (n:=2) rfl rfl (Zm (Zl (i:=2) Ge.nd rfl (Or.inl rfl)) (Zm (Zl (i:=3) Ge.nd rfl (Or.inl rfl)) ZP))))
   (Zg (Zy (ZjO WS WS (Zv (Zs (K:=K) rfl) (pv 3) Zd (fun _ _=>rfl)) (Zv (Zs (K:=K) rfl) (pv 2) Zd (fun _ _=>rfl)) (Zv (Zs (K:=K) rfl) (pv 3) Zd (fun _ _=>rfl)))))),?_⟩
  obtain ⟨fa,fb,n1,n2,n3,n4,l1,l2,l3⟩:=tb.facts
  have nn:=tb.ne
  have g1:(ps.map V.int)[k+1]? = some (V.int b):=by rw [List.getElem?_map,tb.eb];rfl
  have g0:(ps.map V.int)[k]? = some (V.int a):=by rw [List.getElem?_map,tb.ea];rfl
  have kc:(k:Int)+1=((k+1:Nat):Int):=by push_cast;rfl
  refine ⟨_,rfl,_,rfl,_,rfl,pa,_,_,_,rfl,rfl,YB.of hpa,Zo g0,(by show 2<=sizeLine;decide),fun d1 hd1=>?_⟩
  obtain ⟨G1,z,s1,e1⟩:=lay (o:=.lst [.int k,.int a]) hd1
  rw [z];clear z
  refine ⟨d1,[(k:Int),(a:Int)],rfl,Zw.of e1,(by show 2<64;decide),fun r1 ns1 hr1 p1 o1=>?_⟩
  have:=ZlE p1 o1
  subst this
  obtain ⟨G2,z,s2,e2⟩:=lay (o:=.lst ([((min k a:Nat):Int),((max k a:Nat):Int)].map V.int)) hr1
  rw [z];clear z
  refine ⟨_,rfl,_,_,rfl,rfl,_,rfl,_,rfl,_,_,rfl,rfl,pa,_,_,_,rfl,rfl,YB.of (s2 _ _ (s1 _ _ hpa)),(by rw [kc];exact Zo g1),(by show 2<=sizeLine;decide),fun d2 hd2=>?_⟩
  obtain ⟨G3,z,s3,e3⟩:=lay (o:=.lst [.int ((k:Int)+1),.int b]) hd2
  rw [z];clear z
  refine ⟨d2,[((k+1:Nat):Int),(b:Int)],rfl,Zw.of (by rw [e3,kc];rfl),(by show 2<64;decide),fun r2 ns2 hr2 p2 o2=>?_⟩
  have:=ZlE p2 o2
  subst this
  obtain ⟨G4,z,s4,e4⟩:=lay (o:=.lst ([((min (k+1) b:Nat):Int),((max (k+1) b:Nat):Int)].map V.int)) hr2
  rw [z];clear z
  refine ⟨(by show 2<=sizeLine;decide),fun d3 hd3=>?_⟩
  obtain ⟨G5,z,s5,e5⟩:=lay (o:=.lst [.ref r1,.ref r2]) hd3
  rw [z];clear z
  refine ⟨d3,_,[_,_],rfl,Zw.of e5,.cons ⟨r1,rfl,s5 _ _ (s4 _ _ (s3 _ _ e2))⟩ (.cons ⟨r2,rfl,s5 _ _ e4⟩ .nil),rfl,fun l zs vs fl pz pv lr rise=>?_⟩
  have lz:=pz.length_eq
  have lv:=pv.length_eq
  match zs,vs,lz,lv,pv,lr,rise with
  | [z1,z2],[v1,v2],_,_,pv,.cons ⟨c1,ez1,hc1⟩ (.cons ⟨c2,ez2,hc2⟩ .nil),rise=>
  subst ez1 ez2
  obtain ⟨G6,z,s6,e6⟩:=lay (o:=.lst [.ref c1,.ref c2]) fl
  rw [z];clear z
  have hc1:=s6 _ _ hc1
  have hc2:=s6 _ _ hc2
  have sH:=((((s1.trans s2).trans s3).trans s4).trans s5).trans s6
  have lx:lexLt v2 v1=false:=by
   have:=List.pairwise_cons.mp rise
   exact this.1 _ List.mem_cons_self
  refine ⟨l,_,rfl,Zw.of e6,rfl,_,_,rfl,_,_,rfl,rfl,?_⟩
  rcases Zho pv with ⟨e,e'⟩ | ⟨e,e'⟩<;>subst e e'
  ·have dn:(min k a)≠(min (k+1) b):=by lia
   have lo:min k a<min (k+1) b:=by
    rw [L2.lexLt,if_neg (by lia)] at lx
    have:=of_decide_eq_false lx
    lia
   refine ⟨_,rfl,c2,_,_,_,rfl,rfl,Zw.of hc2,Zo (j:=0) rfl,_,rfl,c1,_,_,_,rfl,rfl,Zw.of hc1,Zo (j:=1) rfl,_,_,rfl,rfl,_,rfl,ZX (fun c=>?_) (fun c=>?_)⟩
   ·refine ⟨_,rfl,c2,_,_,_,rfl,rfl,Zw.of hc2,Zo (j:=1) rfl,_,_,rfl,rfl,?_⟩
    have e:Gb k a b=decide (((max k a:Nat):Int)<((max (k+1) b:Nat):Int)):=by
     have c:=of_decide_eq_true c
     rw [Bool.eq_iff_iff,decide_eq_true_eq]
     unfold Gb
     simp only [Bool.or_eq_true,Bool.and_eq_true,decide_eq_true_eq]
     lia
    have q':=q _ sH
    rw [e] at q'
    exact q'
   ·have e:Gb k a b=false:=by
     have c:¬_:=fun z=>c (decide_eq_true z)
     rw [Bool.eq_false_iff]
     unfold Gb
     simp only [Bool.or_eq_true,Bool.and_eq_true,decide_eq_true_eq,ne_eq]
     lia
    rw [e] at q
    exact q _ sH
  ·have dn:(min k a)≠(min (k+1) b):=by lia
   have lo:min (k+1) b<min k a:=by
    rw [L2.lexLt,if_neg (by lia)] at lx
    have:=of_decide_eq_false lx
    lia
   refine ⟨_,rfl,c2,_,_,_,rfl,rfl,Zw.of hc2,Zo (j:=0) rfl,_,rfl,c1,_,_,_,rfl,rfl,Zw.of hc1,Zo (j:=1) rfl,_,_,rfl,rfl,_,rfl,ZX (fun c=>?_) (fun c=>?_)⟩
   ·refine ⟨_,rfl,c2,_,_,_,rfl,rfl,Zw.of hc2,Zo (j:=1) rfl,_,_,rfl,rfl,?_⟩
    have e:Gb k a b=decide (((max (k+1) b:Nat):Int)<((max k a:Nat):Int)):=by
     have c:=of_decide_eq_true c
     rw [Bool.eq_iff_iff,decide_eq_true_eq]
     unfold Gb
     simp only [Bool.or_eq_true,Bool.and_eq_true,decide_eq_true_eq]
     lia
    have q':=q _ sH
    rw [e] at q'
    exact q'
   ·have e:Gb k a b=false:=by
     have c:¬_:=fun z=>c (decide_eq_true z)
     rw [Bool.eq_false_iff]
     unfold Gb
     simp only [Bool.or_eq_true,Bool.and_eq_true,decide_eq_true_eq,ne_eq]
     lia
    rw [e] at q
    exact q _ sH
def Zor (H:Hp) (v:V) (r:List Int×Bool):Prop:=∃(t:Addr) (x:V),v = .ref t/\H t=some (.tup [x,.bl r.2])/\Jc H x r.1
def JL (ps:List Int) (q:Str×Int) (h:Option Int):List (List Int×Bool):=
 if q.1 = "born" then [(U6 ps q.2.toNat,false)]
 else if decide (ps.getD q.2.toNat 0=q.2+1) != decide (q.1 = "end") then []
 else if q.1 = "end" then [(ZbD ps q.2.toNat,false)]
 else (GF ps q.2.toNat,false)::(if h=some 0/\Gb q.2.toNat (ps.getD q.2.toNat 0).toNat (ps.getD (q.2.toNat+1) 0).toNat=false then [(ps,true)] else [])
def Zf2:Sp:=fun vs H Q _=>∃(v:V) (t:Addr) (q:Str×Int) (h:Option Int) (ps:List Int),vs = [v,.ref t,oI h]/\Jc H v ps/\H t=some (.tup [.str q.1,.int q.2])/\ps.length<=200/\PtL ps/\0<=q.2 /\
 (q.1 ≠ "born" -> q.2+1<ps.length)/\((q.1 = "cross")->h≠none)/\(q.1 = "born" ∨ q.1 = "end" ∨ q.1 = "cross") /\ ∀(p:Addr) (xs:List V) (H':Hp),Zi H H'->H' p=some (.lst xs)->Paired (Zor H') xs (JL ps q h)->Q (.ref p) H'
abbrev ZbC:Stmt:=top 29
theorem Ud:Zz ["partners", "letter", "height", "kind", "k", "found"] ["partners", "letter", "height"] (Zj ZbC):={}
theorem ZkT {f:Addr}{fd:FuncData} (F:YE K "ways_on" "ways_on" ZbC f fd) (Wj:Yr P w K mg base 1 "partners_born" ["partners", "k"] ZeR) (JZ:Yr P w K mg base 1 "partners_ended" ["partners", "k"] ZgB) (Ws:Yr P w K mg base 1 "partners_kept" ["partners", "k"] ZeC) (Jo:Yr P w K mg base 1 "is_tangled" ["partners", "k"] Zea):Yj P w K mg base Wy 2 f fd ["partners", "letter", "height"] Zf2:=by
 refine F.ok Ud (fun vs H Q E h=>?_) (fun cdv A outer s H vs Q E hr h=>?_)
 ·obtain ⟨v,t,q,h,ps,rfl,_⟩:=h
  rfl
 ·obtain ⟨v,t,q,h,ps,rfl,wv,ht,hlen,pt,k0,hk,hh,hq,k⟩:=h
  refine ⟨_,(Ze (Z8 (pv 1) (ZU (K:=K) (n:=2) rfl rfl (Zm (Zl (i:=3) Ud.nd rfl (Or.inl rfl)) (Zm (Zl (i:=4) Ud.nd rfl (Or.inl rfl)) ZP))))
   (Ze (ZZ (Zr Yc (pv 3) ZG (Zp _)) (Zg (Zy (ZL (Za (ZA (Za (Zq Wj hr (Za (pv 0) (Za (pv 4) Zb))) (Za Zaw Zb))) Zb)))) ZO)
   (Ze (ZZ (Zr Zc9 (Yn Yc (Zv (ZK (K:=K) rfl) (pv 0) (pv 4) (fun _ _=>rfl)) (Zk Zu (pv 4) Zd) (Zp _)) (Yn Yc (pv 3) ZG (Zp _)) (Zp _)) (Zg (Zy (ZL Zb))) ZO)
   (Ze (ZZ (Zr Yc (pv 3) ZG (Zp _)) (Zg (Zy (ZL (Za (ZA (Za (Zq JZ hr (Za (pv 0) (Za (pv 4) Zb))) (Za Zaw Zb))) Zb)))) ZO)
   (Ze (Zn (i:=5) Ud.nd rfl (Or.inl rfl) (ZL (Za (ZA (Za (Zq Ws hr (Za (pv 0) (Za (pv 4) Zb))) (Za Zaw Zb))) Zb)))
   (Ze (ZZ (PW.pt (Gj (Zr Yc (pv 2) Zd (Zp _)) (GX (ZeP (ZaK (Zq Jo hr (Za (pv 0) (Za (pv 4) Zb)))))))) (Zg (Yb (Yg (K:=K) rfl (YN PySem.F.plainAttrs_list PySem.F.slot_list_append PySem.F.type_list_append ZW (pv 5) (Za (ZA (Za (pv 0) (Za Zaw Zb))) Zb))))) ZO)
   (Zg (Zy (pv 5))))))))),?_⟩
  obtain ⟨kd,kk⟩:=q
  obtain ⟨pa,rfl,hpa⟩:=wv
  dsimp only at ht k0 hk hh hq k
  obtain ⟨n,rfl⟩:=Int.eq_ofNat_of_zero_le k0
  have wv:Jc H (.ref pa) ps:=⟨pa,rfl,hpa⟩
  refine ⟨_,rfl,t,_,rfl,YB.of ht,rfl,_,_,rfl,_,_,rfl,rfl,?_⟩
  refine ⟨_,rfl,rfl,_,rfl,ZX (fun hb=>?_) (fun hb=>?_)⟩
  ·have eb:kd = "born" := by
    have:=of_decide_eq_true hb
    injection this
   refine ⟨_,rfl,_,rfl,_,n,ps,rfl,wv,hlen,fun v1 H1 s1 w1=>⟨(by show 2<=sizeLine;decide),fun t1 f1=>?_⟩⟩
   obtain ⟨H2,z,s2,e2⟩:=lay (o:=.tup [v1,.bl false]) f1
   rw [z];clear z
   refine ⟨(by show 1<=sizeLine;decide),fun p fp=>?_⟩
   obtain ⟨H3,z,s3,e3⟩:=lay (o:=.lst [.ref t1]) fp
   rw [z];clear z
   refine k p _ H3 ((s1.trans s2).trans s3) e3 ?_
   obtain ⟨c,rfl,hc⟩:=w1
   unfold JL
   rw [if_pos eb]
   exact .cons ⟨t1,_,rfl,s3 _ _ e2,c,rfl,s3 _ _ (s2 _ _ hc)⟩ .nil
  have nb:kd ≠ "born" := fun z=>hb (by rw [z];exact decide_eq_true rfl)
  have hk:=hk nb
  obtain ⟨x,hx⟩:∃x,ps[n]? = some x:=⟨_,List.getElem?_eq_getElem (by lia)⟩
  obtain ⟨a,rfl,ea,na⟩:=pt n x hx
  obtain ⟨y,hy⟩:∃y,ps[n+1]? = some y:=⟨_,List.getElem?_eq_getElem (by lia)⟩
  obtain ⟨b,rfl,eb,nb'⟩:=pt (n+1) y hy
  have g0:(ps.map V.int)[n]? = some (V.int a):=by rw [List.getElem?_map,hx];rfl
  have gd:ps.getD n 0=(a:Int):=by rw [List.getD_eq_getElem?_getD,hx];rfl
  have gd1:ps.getD (n+1) 0=(b:Int):=by rw [List.getD_eq_getElem?_getD,hy];rfl
  have hq:kd = "end" ∨ kd = "cross" := hq.resolve_left nb
  have key:((!decide (V.bl (decide (V.int a=V.int ((n:Int)+1)))=V.bl (decide (V.str kd=V.str "end"))))=true) ↔ ((decide ((a:Int)=(n:Int)+1) != decide (kd = "end"))=true):=by
   simp only [V.int.injEq,V.str.injEq,V.bl.injEq]
   by_cases A:(a:Int)=(n:Int)+1<;>by_cases B:kd = "end" <;> simp [A,B]
  refine ⟨_,rfl,_,rfl,pa,_,_,_,rfl,rfl,YB.of hpa,Zo g0,_,rfl,_,_,rfl,rfl,rfl,_,rfl,rfl,rfl,_,rfl,ZX (fun c=>?_) (fun c=>?_)⟩
  ·refine ⟨(by show 0<=sizeLine;exact Nat.zero_le _),fun p fp=>?_⟩
   refine k p _ _ (Zi.laid fp) Zc ?_
   have:JL ps (kd,(n:Int)) h = []:=by
    unfold JL
    dsimp only
    rw [if_neg nb,Int.toNat_natCast,gd,if_pos (key.mp c)]
   rw [this]
   exact .nil
  have c:¬((decide ((a:Int)=(n:Int)+1) != decide (kd = "end"))=true):=fun z=>c (key.mpr z)
  have c':(a=n+1 ↔ kd = "end"):=by
   by_cases A:(a:Int)=(n:Int)+1<;>by_cases B:kd = "end" <;> simp [A,B] at c ⊢<;>lia
  refine ⟨_,rfl,rfl,_,rfl,ZX (fun he=>?_) (fun he=>?_)⟩
  ·have ee:kd = "end" := by
    have:=of_decide_eq_true he
    injection this
   refine ⟨_,rfl,_,rfl,_,n,ps,rfl,wv,hlen,fun v1 H1 s1 w1=>⟨(by show 2<=sizeLine;decide),fun t1 f1=>?_⟩⟩
   obtain ⟨H2,z,s2,e2⟩:=lay (o:=.tup [v1,.bl false]) f1
   rw [z];clear z
   refine ⟨(by show 1<=sizeLine;decide),fun p fp=>?_⟩
   obtain ⟨H3,z,s3,e3⟩:=lay (o:=.lst [.ref t1]) fp
   rw [z];clear z
   refine k p _ H3 ((s1.trans s2).trans s3) e3 ?_
   obtain ⟨c1,rfl,hc⟩:=w1
   have:JL ps (kd,(n:Int)) h = [(ZbD ps n,false)]:=by
    unfold JL
    dsimp only
    rw [if_neg nb,Int.toNat_natCast,gd,if_neg c,if_pos ee]
   rw [this]
   exact .cons ⟨t1,_,rfl,s3 _ _ e2,c1,rfl,s3 _ _ (s2 _ _ hc)⟩ .nil
  have ne:kd ≠ "end" := fun z=>he (by rw [z];exact decide_eq_true rfl)
  have ec:kd = "cross" := hq.resolve_left ne
  have tb:ZbM ps n a b:=⟨pt,hx,hy,fun z=>ne (c'.mp z)⟩
  obtain ⟨hh0,rfl⟩:∃i,h=some i:=by
   cases h with
   | none=>exact absurd rfl (hh ec)
   | some i=>exact ⟨i,rfl⟩
  have wy:JL ps (kd,(n:Int)) (some hh0)=(GF ps n,false)::(if hh0=0/\Gb n a b=false then [(ps,true)] else []):=by
   unfold JL
   dsimp only
   rw [if_neg nb,Int.toNat_natCast,gd,gd1,Int.toNat_natCast,Int.toNat_natCast,if_neg c,if_neg ne]
   simp
  rw [wy] at k
  refine ⟨_,rfl,_,rfl,_,n,a,b,ps,rfl,wv,hlen,tb,fun v1 H1 s1 ⟨c1,ev1,hc⟩=>⟨(by show 2<=sizeLine;decide),fun t1 f1=>?_⟩⟩
  subst ev1
  obtain ⟨H2,z,s2,e2⟩:=lay (o:=.tup [.ref c1,.bl false]) f1
  rw [z];clear z
  refine ⟨(by show 1<=sizeLine;decide),fun p fp=>?_⟩
  obtain ⟨H3,z,s3,e3⟩:=lay (o:=.lst [.ref t1]) fp
  rw [z];clear z
  have s03:=(s1.trans s2).trans s3
  have fpH:H p=none:=(s1.trans s2).free fp
  have hc3:=s3 _ _ (s2 _ _ hc)
  have e23:=s3 _ _ e2
  have one:∀{G:Hp},Zi H3 G->(¬(hh0=0/\Gb n a b=false))->Q (.ref p) G:=fun sG no=>by
   refine k p _ _ (s03.trans sG) (sG _ _ e3) ?_
   rw [if_neg no]
   exact .cons ⟨t1,_,rfl,sG _ _ e23,c1,rfl,sG _ _ hc3⟩ .nil
  refine ⟨_,rfl,rfl,_,rfl,ZX (fun h0=>?_) (fun h0=>?_)⟩
  ·have h0:hh0=0:=by
    have:=of_decide_eq_true h0
    injection this
   refine ⟨_,rfl,_,rfl,_,n,a,b,ps,rfl,⟨pa,rfl,s03 _ _ hpa⟩,hlen,tb,fun H4 s4=>⟨_,rfl,ZX (fun tt=>?_) (fun tt=>?_)⟩⟩
   ·have tf:Gb n a b=false:=by simpa using tt
    have e34:=s4 _ _ e3
    refine ⟨_,rfl,.inl ⟨rfl,_,Zw.of e34⟩,_,rfl,(by show 2<=sizeLine;decide),fun t2 f2=>?_⟩
    obtain ⟨H5,z,s5,e5⟩:=lay (o:=.tup [.ref pa,.bl true]) f2
    rw [z];clear z
    refine ⟨p,_,_,rfl,rfl,s5 _ _ e34,(by show 1<sizeLine;decide),?_⟩
    have sH5:Zi H H5:=(s03.trans s4).trans s5
    have put:Zi H (upd H5 p (.lst ([.ref t1] ++ [.ref t2]))):=fun c o e=>by rw [Zh (Zf e fpH)];exact sH5 c o e
    have n1:t1≠p:=fun z=>by rw [z] at e2;rw [e2] at fp;cases fp
    have n2:t2≠p:=fun z=>by rw [z,e34] at f2;cases f2
    have n3:c1≠p:=fun z=>by rw [z] at hc;rw [s2 _ _ hc] at fp;cases fp
    have n4:pa≠p:=fun z=>by rw [z,fpH] at hpa;cases hpa
    refine ⟨_,rfl,k p _ _ put Zc ?_⟩
    rw [if_pos ⟨h0,tf⟩]
    refine .cons ⟨t1,_,rfl,?_,c1,rfl,?_⟩ (.cons ⟨t2,_,rfl,?_,pa,rfl,?_⟩ .nil)
    ·rw [Zh n1];exact s5 _ _ (s4 _ _ e23)
    ·rw [Zh n3];exact s5 _ _ (s4 _ _ hc3)
    ·rw [Zh n2];exact e5
    ·rw [Zh n4];exact sH5 _ _ hpa
   ·exact ⟨_,rfl,one s4 fun z=>tt (by rw [z.2];rfl)⟩
  ·exact WE ⟨_,rfl,one (Zi.refl _) fun z=>h0 (by rw [z.1];rfl)⟩
def UJ (ps:List Int) (q:Str×Int):Option (List Int):=
 if q.1 = "born" then some (U6 ps q.2.toNat)
 else if decide (ps.getD q.2.toNat 0=q.2+1) != decide (q.1 = "end") then none
 else if q.1 = "end" then some (ZbD ps q.2.toNat)
 else some (GF ps q.2.toNat)
def Zck:Sp:=fun vs H Q _=>∃(l:Addr) (k a b:Nat) (ps:List Int),vs = [.ref l,.int k]/\H l=some (.tup (ps.map V.int))/\ps.length<=200/\ZbM ps k a b/\Q (.bl (!Gb k a b)) H
abbrev Wm:Stmt:=top 48
theorem J1:Zz ["_law_partners", "_law_k", "_law_low", "_law_high", "_law_there", "_law_far"] ["_law_partners", "_law_k"] (Zj Wm):={}
theorem ZjG {f:Addr}{fd:FuncData} (F:YE K "_law_is_apart" "_law_is_apart" Wm f fd) (Zau:mg "min" = none) (W8:mg "max" = none):Yj P w K mg base Wy 1 f fd ["_law_partners", "_law_k"] Zck:=by
 refine F.ok J1 (fun vs H Q E h=>?_) (fun cdv A outer s H vs Q E hr h=>?_)
 ·obtain ⟨l,k,a,b,ps,rfl,_⟩:=h
  rfl
 ·obtain ⟨l,k,a,b,ps,rfl,hl,hlen,tb,q⟩:=h
  refine ⟨_,(Ze (Zjo (i:=2) (j:=3) rfl J1.nd rfl rfl (by decide) (by rfl) (by rfl) (Za (ZE (Zag rfl) (by rfl) Zau boot_min (Za (pv 1) (Za (Zv (ZK (K:=K) rfl) (pv 0) (pv 1) (fun _ _=>rfl)) Zb))) (Za (ZE (WG rfl) (by rfl) W8 boot_max (Za (pv 1) (Za (Zv (ZK (K:=K) rfl) (pv 0) (pv 1) (fun _ _=>rfl)) Zb))) Zb)) (by rfl))
   (Ze (Zjo (i:=4) (j:=5) rfl J1.nd rfl rfl (by decide) (by rfl) (by rfl) (Za (ZE (Zag rfl) (by rfl) Zau boot_min (Za (Zk Zu (pv 1) Zd) (Za (Zv (ZK (K:=K) rfl) (pv 0) (Zk Zu (pv 1) Zd) (fun _ _=>rfl)) Zb))) (Za (ZE (WG rfl) (by rfl) W8 boot_max (Za (Zk Zu (pv 1) Zd) (Za (Zv (ZK (K:=K) rfl) (pv 0) (Zk Zu (pv 1) Zd) (fun _ _=>rfl)) Zb))) Zb)) (by rfl))
   (Zg (Zy (Zff (Yn WS (pv 3) (pv 4) (Zp _)) (Zff (Yn WS (pv 5) (pv 2) (Zp _)) (Zff (Zc2 (Yn WS (pv 2) (pv 4) (Zp _)) (U1 (Yn WS (pv 5) (pv 3) (Zp _)))) (U1 (Zc2 (Yn WS (pv 4) (pv 2) (Zp _)) (U1 (Yn WS (pv 3) (pv 5) (Zp _)))))))))))),?_⟩
  obtain ⟨fa,fb,n1,n2,n3,n4,l1,l2,l3⟩:=tb.facts
  have nn:=tb.ne
  have g1:(ps.map V.int)[k+1]? = some (V.int b):=by rw [List.getElem?_map,tb.eb];rfl
  have g0:(ps.map V.int)[k]? = some (V.int a):=by rw [List.getElem?_map,tb.ea];rfl
  have kc:(k:Int)+1=((k+1:Nat):Int):=by push_cast;rfl
  refine ⟨_,rfl,_,rfl,_,rfl,l,_,_,_,rfl,rfl,YB.of hl,Zo g0,_,_,rfl,_,rfl,_,rfl,_,rfl,l,_,_,_,rfl,rfl,YB.of hl,Zo g0,_,_,rfl,_,_,rfl,?_⟩
  refine ⟨_,rfl,_,_,rfl,rfl,_,rfl,_,rfl,_,_,rfl,rfl,l,_,_,_,rfl,rfl,YB.of hl,(by rw [kc];exact Zo g1),_,_,rfl,_,rfl,_,_,rfl,rfl,_,rfl,_,rfl,_,_,rfl,rfl,l,_,_,_,rfl,rfl,YB.of hl,(by rw [kc];exact Zo g1),_,_,rfl,_,_,rfl,?_⟩
  obtain ⟨lo,elo⟩:∃lo:Int,(if (a:Int)<(k:Int) then (a:Int) else k)=lo:=⟨_,rfl⟩
  obtain ⟨hi,ehi⟩:∃hi:Int,(if (a:Int)>(k:Int) then (a:Int) else k)=hi:=⟨_,rfl⟩
  obtain ⟨th,eth⟩:∃th:Int,(if (b:Int)<(k:Int)+1 then (b:Int) else (k:Int)+1)=th:=⟨_,rfl⟩
  obtain ⟨fr,efr⟩:∃fr:Int,(if (b:Int)>(k:Int)+1 then (b:Int) else (k:Int)+1)=fr:=⟨_,rfl⟩
  rw [elo,ehi,eth,efr]
  have f1:lo=((min k a:Nat):Int):=by rw [<- elo];split<;>lia
  have f2:hi=((max k a:Nat):Int):=by rw [<- ehi];split<;>lia
  have f3:th=((min (k+1) b:Nat):Int):=by rw [<- eth];split<;>lia
  have f4:fr=((max (k+1) b:Nat):Int):=by rw [<- efr];split<;>lia
  have res:∀x:Bool,(x=true ↔ ¬Gb k a b=true)->Q (.bl x) H:=fun x hx=>by
   have:x = !Gb k a b:=by
    cases x<;>cases h:Gb k a b<;>simp [h] at hx ⊢
   rw [this];exact q
  have tg:Gb k a b=true ↔ (lo<th/\th<hi/\hi<fr)∨(th<lo/\lo<fr/\fr<hi):=by
   unfold Gb
   simp only [Bool.or_eq_true,Bool.and_eq_true,decide_eq_true_eq]
   lia
  refine ⟨_,rfl,_,rfl,_,_,rfl,rfl,_,rfl,ZX (fun c1=>?_) (fun c1=>?_)⟩
  ·have c1:=of_decide_eq_true c1
   exact res true (by rw [tg];simp;lia)
  have c1:¬hi<th:=fun z=>c1 (decide_eq_true z)
  refine ⟨_,rfl,_,rfl,_,_,rfl,rfl,_,rfl,ZX (fun c2=>?_) (fun c2=>?_)⟩
  ·have c2:=of_decide_eq_true c2
   exact res true (by rw [tg];simp;lia)
  have c2:¬fr<lo:=fun z=>c2 (decide_eq_true z)
  refine ⟨_,rfl,_,rfl,_,_,rfl,rfl,_,rfl,ZX (fun c3=>?_) (fun c3=>?_)⟩
  ·have c3:=of_decide_eq_true c3
   refine ⟨_,rfl,_,rfl,_,_,rfl,rfl,_,rfl,ZX (fun c4=>?_) (fun c4=>?_)⟩
   ·have c4:=of_decide_eq_true c4
    exact res true (by rw [tg];simp;lia)
   have c4:¬fr<hi:=fun z=>c4 (decide_eq_true z)
   refine ⟨_,rfl,_,rfl,_,_,rfl,rfl,_,rfl,ZX (fun c5=>?_) (fun c5=>?_)⟩
   ·have c5:=of_decide_eq_true c5
    lia
   ·exact res false (by rw [tg];simp;lia)
  have c3:¬lo<th:=fun z=>c3 (decide_eq_true z)
  refine ⟨_,rfl,WE ?_⟩
  refine ⟨_,rfl,_,rfl,_,_,rfl,rfl,_,rfl,ZX (fun c5=>?_) (fun c5=>?_)⟩
  ·have c5:=of_decide_eq_true c5
   refine ⟨_,rfl,_,rfl,_,_,rfl,rfl,?_⟩
   refine res _ (by rw [tg,decide_eq_true_eq];lia)
  ·exact res false (by rw [tg];have c5:¬th<lo:=fun z=>c5 (decide_eq_true z);simp;lia)
def Zco:Sp:=fun vs H Q _=>∃(l t:Addr) (q:Str×Int) (ps:List Int),vs = [.ref l,.ref t]/\H l=some (.lst (ps.map V.int))/\H t=some (.tup [.str q.1,.int q.2])/\ps.length<=200/\PtL ps/\0<=q.2 /\
 (q.1 ≠ "born" -> q.2+1<ps.length)/\(q.1 = "born" ∨ q.1 = "end" ∨ q.1 = "cross")/\(UJ ps q=none -> ∀H',Zi H H'->Q .non H') /\ ∀(r:List Int) (p:Addr) (H':Hp),UJ ps q=some r->Zi H H'->H p=none->H' p=some (.lst (r.map V.int))->Q (.ref p) H'
abbrev YG:Stmt:=top 49
theorem Yx:Zz ["_law_partners", "_law_letter", "_law_word", "_law_k", "_law_found"] ["_law_partners", "_law_letter"] (Zj YG):={}
theorem Zjv {f:Addr}{fd:FuncData} (F:YE K "_law_moved_on" "_law_moved_on" YG f fd) (Ur:mg "int" = none):Yj P w K mg base Wy 1 f fd ["_law_partners", "_law_letter"] Zco:=by
 refine F.ok Yx (fun vs H Q E h=>?_) (fun cdv A outer s H vs Q E hr h=>?_)
 ·obtain ⟨l,t,q,ps,rfl,_⟩:=h
  rfl
 ·obtain ⟨l,t,q,ps,rfl,hl,ht,hlen,pt,k0,hk,hq,kN,k⟩:=h
  refine ⟨_,(Ze (Z8 (pv 1) (ZU (K:=K) (n:=2) rfl rfl (Zm (Zl (i:=2) Yx.nd rfl (Or.inl rfl)) (Zm (Zl (i:=3) Yx.nd rfl (Or.inr rfl)) ZP))))
   (Ze (ZZ (Zr Yc (pv 2) ZG (Zp _)) (Ze (ZdE (i:=4) Yx.nd rfl (Or.inl rfl) (Ls:=["_law_one"]) (Fs:=["_law_k"]) (fi:=[3]) (Yi.of (show YT ["_law_partners", "_law_letter", "_law_word", "_law_k", "_law_found"] (Zj YG) _ ["_law_k"] [3]=true by decide +kernel)) rfl (Yk (K:=K) rfl (pv 0)) (fun cl C s3 H3 ex=>⟨(Zl (i:=0) (show ((["_law_one"]:List Str)++(["_law_k"]:List Str)).Nodup by decide +kernel) rfl (Or.inl rfl)),Jk,(Zk Zu (pv 0) (Zk JO Zd (Z9 Gu (by rfl) Ur boot_int (Za (Yn Ziz (pv 0) (pv 1) (Zp _)) Zb))))⟩))
   (Zg (Zy (Zk Gh (Zk Gh (YA (Ji (K:=K) rfl) (pv 4) Jy (Yh (pv 3))) (ZL (Za (Zk Zu (pv 3) Zd) (Za (pv 3) Zb)))) (YA (Ji (K:=K) rfl) (pv 4) (Yh (pv 3)) Jy))))) ZO)
   (Ze (ZZ (Zr Zc9 (Yn Yc (Zv (Zs (K:=K) rfl) (pv 0) (pv 3) (fun _ _=>rfl)) (Zk Zu (pv 3) Zd) (Zp _)) (Yn Yc (pv 2) ZG (Zp _)) (Zp _)) (Zg (Zy UP)) ZO)
   (Ze (ZZ (Zr Yc (pv 2) ZG (Zp _)) (Ze (ZdE (i:=4) Yx.nd rfl (Or.inl rfl) (Ls:=["_law_one"]) (Fs:=["_law_k"]) (fi:=[3]) (Yi.of (show YT ["_law_partners", "_law_letter", "_law_word", "_law_k", "_law_found"] (Zj YG) _ ["_law_k"] [3]=true by decide +kernel)) rfl (Yk (K:=K) rfl (pv 0)) (fun cl C s3 H3 ex=>⟨(Zl (i:=0) (show ((["_law_one"]:List Str)++(["_law_k"]:List Str)).Nodup by decide +kernel) rfl (Or.inl rfl)),Jk,(Zk YO (pv 0) (Zk JO Zd (Z9 Gu (by rfl) Ur boot_int (Za (Yn Zbe (pv 0) (pv 1) (Zp _)) Zb))))⟩))
   (Zg (Zy (Zk Gh (YA (Ji (K:=K) rfl) (pv 4) Jy (Yh (pv 3))) (YA (Ji (K:=K) rfl) (pv 4) (Yh (Zk Zu (pv 3) Zd)) Jy))))) ZO)
   (Ze (ZdE (i:=4) Yx.nd rfl (Or.inl rfl) (Ls:=["_law_one"]) (Fs:=["_law_k"]) (fi:=[3]) (Yi.of (show YT ["_law_partners", "_law_letter", "_law_word", "_law_k", "_law_found"] (Zj YG) _ ["_law_k"] [3]=true by decide +kernel)) rfl (Yk (K:=K) rfl (pv 0)) (fun cl C s3 H3 ex=>⟨(Zl (i:=0) (show ((["_law_one"]:List Str)++(["_law_k"]:List Str)).Nodup by decide +kernel) rfl (Or.inl rfl)),Jk,(Zk YO (Zk Zu (pv 0) (Z9 Gu (by rfl) Ur boot_int (Za (Yn Yc (pv 0) (pv 1) (Zp _)) Zb))) (Z9 Gu (by rfl) Ur boot_int (Za (Yn Yc (pv 0) (Zk Zu (pv 1) Zd) (Zp _)) Zb)))⟩))
   (Ze (Z8 (ZA (Za (Zv (Zs (K:=K) rfl) (pv 4) (Zk Zu (pv 3) Zd) (fun _ _=>rfl)) (Za (Zv (Zs (K:=K) rfl) (pv 4) (pv 3) (fun _ _=>rfl)) Zb))) (ZU (K:=K) (n:=2) rfl rfl (Zm (Yl (pv 4) (pv 3) set_list) (Zm (Yl (pv 4) (Zk Zu (pv 3) Zd) set_list) ZP))))
   (Zg (Zy (pv 4))))))))),?_⟩
  obtain ⟨kd,kk⟩:=q
  dsimp only at ht k0 hk hq
  obtain ⟨n,rfl⟩:=Int.eq_ofNat_of_zero_le k0
  refine ⟨_,rfl,t,_,rfl,YB.of ht,rfl,_,_,rfl,_,_,rfl,rfl,?_⟩
  refine ⟨_,rfl,rfl,_,rfl,ZX (fun hb=>?_) (fun hb=>?_)⟩
  ·have eb:kd = "born" := by
    have:=of_decide_eq_true hb
    injection this
   have mv:UJ ps (kd,(n:Int))=some (U6 ps n):=by unfold UJ;rw [if_pos eb];rfl
   refine ⟨_,rfl,l,rfl,⟨_,Zw.of hl⟩,WA (K:=K) (a:=l) (xs:=ps.map V.int) (by rw [List.length_map,sizeLine_eq];lia) (fun i zs G=>G=H/\zs=((ps.map (upB n)).take i).map V.int) ⟨rfl,rfl⟩ (fun i zs G x=>by rw [x.2,List.length_map,List.length_take];lia) (fun i zs G x=>by rw [x.1];exact Zw.of hl) (fun i y zs G hy x=>?_) (fun zs G x p hp=>?_)⟩
   ·obtain ⟨rfl,rfl⟩:=x
    obtain ⟨m,hm,rfl⟩:∃m,ps[i]? = some m/\y=V.int m:=by
     rw [List.getElem?_map] at hy
     obtain ⟨m,h1,h2⟩:=Option.map_eq_some_iff.mp hy
     exact ⟨m,h1,h2.symm⟩
    have st:((ps.map (upB n)).take (i+1)).map V.int=((ps.map (upB n)).take i).map V.int ++ [V.int (upB n m)]:=by
     rw [List.take_add_one,List.getElem?_map,hm,List.map_append]
     rfl
    refine ⟨_,rfl,_,rfl,_,rfl,_,_,rfl,rfl,.inr ⟨_,rfl,_,_,rfl,rfl,.inl ⟨by decide,by decide⟩,_,_,rfl,rfl,rfl,?_⟩⟩
    have val:m+2*(if decide ((n:Int)<=m)=true then 1 else 0)=upB n m:=by
     unfold upB
     by_cases c:(n:Int)<=m
     ·rw [decide_eq_true c,if_pos rfl,if_pos c];rfl
     ·rw [decide_eq_false c,if_neg (by decide),if_neg (by lia)];lia
    rw [st,<- val]
   ·obtain ⟨rfl,rfl⟩:=x
    rw [List.length_map,List.take_of_length_le (by rw [List.length_map];exact Nat.le_refl _)]
    obtain ⟨G1,z,s1,e1⟩:=lay (o:=.lst ((ps.map (upB n)).map V.int)) hp
    rw [z];clear z
    refine ⟨_,rfl,_,rfl,_,rfl,p,_,rfl,Zw.of e1,fun d1 h1=>?_⟩
    rw [Zcp]
    obtain ⟨G2,z,s2,e2⟩:=lay (o:=.lst (((ps.map (upB n)).map V.int).take n)) h1
    rw [z];clear z
    refine ⟨_,rfl,_,_,rfl,rfl,_,rfl,(by show 2<=sizeLine;decide),fun d2 h2=>?_⟩
    obtain ⟨G3,z,s3,e3⟩:=lay (o:=.lst [.int ((n:Int)+1),.int n]) h2
    rw [z];clear z
    refine ⟨d1,d2,_,_,rfl,rfl,s3 _ _ e2,e3,(by rw [sizeLine_eq];simp;lia),fun d3 h3=>?_⟩
    obtain ⟨G4,z,s4,e4⟩:=lay (o:=.lst (((ps.map (upB n)).map V.int).take n ++ [.int ((n:Int)+1),.int n])) h3
    rw [z];clear z
    refine ⟨_,rfl,_,rfl,_,rfl,?_⟩
    dsimp only [Zac]
    refine ⟨p,_,rfl,Zw.of (s4 _ _ (s3 _ _ (s2 _ _ e1))),fun d4 h4=>?_⟩
    rw [Zcn]
    obtain ⟨G5,z,s5,e5⟩:=lay (o:=.lst (((ps.map (upB n)).map V.int).drop n)) h4
    rw [z];clear z
    refine ⟨d3,d4,_,_,rfl,rfl,s5 _ _ e4,e5,(by rw [sizeLine_eq];simp;lia),fun d5 h5=>?_⟩
    have sA:=(((s1.trans s2).trans s3).trans s4).trans s5
    refine k _ d5 _ mv (sA.trans (Zi.laid h5)) (sA.free h5) ?_
    rw [Zc]
    unfold U6
    simp
  have nb:kd ≠ "born" := fun z=>hb (by rw [z];exact decide_eq_true rfl)
  have hk:=hk nb
  obtain ⟨x,hx⟩:∃x,ps[n]? = some x:=⟨_,List.getElem?_eq_getElem (by lia)⟩
  obtain ⟨a,rfl,ea,na⟩:=pt n x hx
  have g0:(ps.map V.int)[n]? = some (V.int a):=by rw [List.getElem?_map,hx];rfl
  have gd:ps.getD n 0=(a:Int):=by rw [List.getD_eq_getElem?_getD,hx];rfl
  have hq:kd = "end" ∨ kd = "cross" := hq.resolve_left nb
  have key:((!decide (V.bl (decide (V.int a=V.int ((n:Int)+1)))=V.bl (decide (V.str kd=V.str "end"))))=true) ↔ ((decide ((a:Int)=(n:Int)+1) != decide (kd = "end"))=true):=by
   simp only [V.int.injEq,V.str.injEq,V.bl.injEq]
   by_cases A:(a:Int)=(n:Int)+1<;>by_cases B:kd = "end" <;> simp [A,B]
  refine ⟨_,rfl,_,rfl,l,_,_,_,rfl,rfl,Zw.of hl,Zo g0,_,rfl,_,_,rfl,rfl,rfl,_,rfl,rfl,rfl,_,rfl,ZX (fun c=>?_) (fun c=>?_)⟩
  ·refine kN ?_ H (Zi.refl _)
   unfold UJ
   dsimp only
   rw [if_neg nb,Int.toNat_natCast,gd,if_pos (key.mp c)]
  have c:¬((decide ((a:Int)=(n:Int)+1) != decide (kd = "end"))=true):=fun z=>c (key.mpr z)
  refine ⟨_,rfl,rfl,_,rfl,ZX (fun he=>?_) (fun he=>?_)⟩
  ·have ee:kd = "end" := by
    have:=of_decide_eq_true he
    injection this
   have mv:UJ ps (kd,(n:Int))=some (ZbD ps n):=by
    unfold UJ
    dsimp only
    rw [if_neg nb,Int.toNat_natCast,gd,if_neg c,if_pos ee]
   refine ⟨_,rfl,l,rfl,⟨_,Zw.of hl⟩,WA (K:=K) (a:=l) (xs:=ps.map V.int) (by rw [List.length_map,sizeLine_eq];lia) (fun i zs G=>G=H/\zs=((ps.map (dnE n)).take i).map V.int) ⟨rfl,rfl⟩ (fun i zs G x=>by rw [x.2,List.length_map,List.length_take];lia) (fun i zs G x=>by rw [x.1];exact Zw.of hl) (fun i y zs G hy x=>?_) (fun zs G x p hp=>?_)⟩
   ·obtain ⟨rfl,rfl⟩:=x
    obtain ⟨m,hm,rfl⟩:∃m,ps[i]? = some m/\y=V.int m:=by
     rw [List.getElem?_map] at hy
     obtain ⟨m,h1,h2⟩:=Option.map_eq_some_iff.mp hy
     exact ⟨m,h1,h2.symm⟩
    have st:((ps.map (dnE n)).take (i+1)).map V.int=((ps.map (dnE n)).take i).map V.int ++ [V.int (dnE n m)]:=by
     rw [List.take_add_one,List.getElem?_map,hm,List.map_append]
     rfl
    refine ⟨_,rfl,_,rfl,_,rfl,_,_,rfl,rfl,.inr ⟨_,rfl,_,_,rfl,rfl,.inl ⟨by decide,by decide⟩,_,_,rfl,rfl,rfl,?_⟩⟩
    have val:m-2*(if decide ((n:Int)<m)=true then 1 else 0)=dnE n m:=by
     unfold dnE
     by_cases c:(n:Int)<m
     ·rw [decide_eq_true c,if_pos rfl,if_pos c];rfl
     ·rw [decide_eq_false c,if_neg (by decide),if_neg (by lia)];lia
    rw [st,<- val]
   ·obtain ⟨rfl,rfl⟩:=x
    rw [List.length_map,List.take_of_length_le (by rw [List.length_map];exact Nat.le_refl _)]
    obtain ⟨G1,z,s1,e1⟩:=lay (o:=.lst ((ps.map (dnE n)).map V.int)) hp
    rw [z];clear z
    refine ⟨_,rfl,_,rfl,_,rfl,p,_,rfl,Zw.of e1,fun d1 h1=>?_⟩
    rw [Zcp]
    obtain ⟨G2,z,s2,e2⟩:=lay (o:=.lst (((ps.map (dnE n)).map V.int).take n)) h1
    rw [z];clear z
    refine ⟨_,rfl,_,rfl,_,_,rfl,rfl,_,rfl,?_⟩
    dsimp only [Zac]
    refine ⟨p,_,rfl,Zw.of (s2 _ _ e1),fun d4 h4=>?_⟩
    rw [show (n:Int)+2=((n+2:Nat):Int) by push_cast;rfl,Zcn]
    obtain ⟨G5,z,s5,e5⟩:=lay (o:=.lst (((ps.map (dnE n)).map V.int).drop (n+2))) h4
    rw [z];clear z
    refine ⟨d1,d4,_,_,rfl,rfl,s5 _ _ e2,e5,(by rw [sizeLine_eq];simp;lia),fun d5 h5=>?_⟩
    have sA:=(s1.trans s2).trans s5
    refine k _ d5 _ mv (sA.trans (Zi.laid h5)) (sA.free h5) ?_
    rw [Zc]
    unfold ZbD
    simp
  have ne:kd ≠ "end" := fun z=>he (by rw [z];exact decide_eq_true rfl)
  have mv:UJ ps (kd,(n:Int))=some (GF ps n):=by
   unfold UJ
   dsimp only
   rw [if_neg nb,Int.toNat_natCast,gd,if_neg c,if_neg ne]
  refine ⟨_,rfl,l,rfl,⟨_,Zw.of hl⟩,WA (K:=K) (a:=l) (xs:=ps.map V.int) (by rw [List.length_map,sizeLine_eq];lia) (fun i zs G=>G=H/\zs=((ps.map (Ga n)).take i).map V.int) ⟨rfl,rfl⟩ (fun i zs G x=>by rw [x.2,List.length_map,List.length_take];lia) (fun i zs G x=>by rw [x.1];exact Zw.of hl) (fun i y zs G hy x=>?_) (fun zs G x p hp=>?_)⟩
  ·obtain ⟨rfl,rfl⟩:=x
   obtain ⟨m,hm,rfl⟩:∃m,ps[i]? = some m/\y=V.int m:=by
    rw [List.getElem?_map] at hy
    obtain ⟨m,h1,h2⟩:=Option.map_eq_some_iff.mp hy
    exact ⟨m,h1,h2.symm⟩
   have st:((ps.map (Ga n)).take (i+1)).map V.int=((ps.map (Ga n)).take i).map V.int ++ [V.int (Ga n m)]:=by
    rw [List.take_add_one,List.getElem?_map,hm,List.map_append]
    rfl
   refine ⟨_,rfl,_,rfl,_,rfl,rfl,.inr ⟨_,rfl,_,_,rfl,rfl,_,rfl,_,rfl,_,_,rfl,rfl,rfl,.inr ⟨_,rfl,_,_,rfl,rfl,rfl,?_⟩⟩⟩
   have val:m+(if decide (V.int m=V.int n)=true then 1 else 0)-(if decide (V.int m=V.int ((n:Int)+1))=true then 1 else 0)=Ga n m:=by
    unfold Ga
    simp only [V.int.injEq,decide_eq_true_eq]
    by_cases c1:m=(n:Int)
    ·rw [if_pos c1,if_pos c1,if_neg (by lia)];lia
    ·rw [if_neg c1,if_neg c1]
     by_cases c2:m=(n:Int)+1
     ·rw [if_pos c2,if_pos c2];lia
     ·rw [if_neg c2,if_neg c2];lia
   rw [st,<- val]
  ·obtain ⟨rfl,rfl⟩:=x
   rw [List.length_map,List.take_of_length_le (by rw [List.length_map];exact Nat.le_refl _)]
   obtain ⟨G1,z,s1,e1⟩:=lay (o:=.lst ((ps.map (Ga n)).map V.int)) hp
   rw [z];clear z
   generalize eM:ps.map (Ga n)=M at *
   have lM:M.length=ps.length:=by rw [<- eM,List.length_map]
   have kc:(n:Int)+1=((n+1:Nat):Int):=by push_cast;rfl
   have g1:(M.map V.int)[n+1]? = some (V.int (M.getD (n+1) 0)):=by
    rw [List.getElem?_map,List.getD_eq_getElem?_getD,List.getElem?_eq_getElem (by lia)];rfl
   have g0:(M.map V.int)[n]? = some (V.int (M.getD n 0)):=by
    rw [List.getElem?_map,List.getD_eq_getElem?_getD,List.getElem?_eq_getElem (by lia)];rfl
   refine ⟨_,rfl,_,rfl,_,_,rfl,rfl,p,_,_,_,rfl,rfl,Zw.of e1,(by rw [kc];exact Zo g1),_,rfl,_,rfl,p,_,_,_,rfl,rfl,Zw.of e1,Zo g0,(by show 2<=sizeLine;decide),fun t2 h2=>?_⟩
   obtain ⟨G2,z,s2,e2⟩:=lay (o:=.tup [.int (M.getD (n+1) 0),.int (M.getD n 0)]) h2
   rw [z];clear z
   have put:∀{G':Hp}{o:HO},Zi G G'->Zi G (upd G' p o):=fun s c o e=>by rw [Zh (Zf e hp)];exact s c o e
   refine ⟨t2,_,rfl,YB.of e2,rfl,_,_,rfl,_,rfl,_,rfl,p,_,_,n,rfl,rfl,s2 _ _ e1,YR (by rw [List.length_map];lia),?_⟩
   refine ⟨_,_,rfl,_,rfl,_,rfl,_,_,rfl,rfl,p,_,_,n+1,rfl,rfl,Zc,(by rw [kc];exact YR (by rw [List.length_set,List.length_map];lia)),?_⟩
   rw [Jm]
   refine ⟨rfl,_,rfl,k _ p _ mv (put (s1.trans s2)) hp ?_⟩
   rw [Zc]
   unfold GF
   rw [eM,List.map_set,List.map_set]
def Zb6 (ps:List Int) (k:Nat):Bool:=Gb k (ps.getD k 0).toNat (ps.getD (k+1) 0).toNat
def Zf5 (q:Str×Int) (n m:Int):Prop:=0<=q.2/\((q.1 = "born" /\ q.2<=n/\m=n+2)∨(q.1 = "cross" /\ q.2+1<n/\m=n)∨(q.1 = "end" /\ q.2+1<n/\m=n-2))
theorem Zg8 {l:List (Str×Int)}{p:Str×Int}{m:Int} (h:Wk (l ++ [p]) m):∃n,Wk l n/\Zf5 p n m:=by
 generalize hq:l ++ [p]=q at h
 cases h with
 | nil=>exact absurd hq (by simp)
 | born h h0 h1=>obtain ⟨rfl,rfl⟩:=GH hq;exact ⟨_,h,h0,.inl ⟨rfl,h1,rfl⟩⟩
 | cross h h0 h1=>obtain ⟨rfl,rfl⟩:=GH hq;exact ⟨_,h,h0,.inr (.inl ⟨rfl,h1,rfl⟩)⟩
 | fin h h0 h1=>obtain ⟨rfl,rfl⟩:=GH hq;exact ⟨_,h,h0,.inr (.inr ⟨rfl,h1,rfl⟩)⟩
theorem ZeU {l:List (Str×Int)}{n m:Int} (a:Wk l n) (b:Wk l m):n=m:=(U5 a).symm.trans (U5 b)
theorem Zke {ps:List Int}{n:Nat} (pt:PtL ps) (hn:n+1<ps.length) (ne:ps.getD n 0≠(n:Int)+1):ZbM ps n (ps.getD n 0).toNat (ps.getD (n+1) 0).toNat:=by
 obtain ⟨x,hx⟩:∃x,ps[n]? = some x:=⟨_,List.getElem?_eq_getElem (by lia)⟩
 obtain ⟨a,rfl,ea,na⟩:=pt n x hx
 obtain ⟨y,hy⟩:∃y,ps[n+1]? = some y:=⟨_,List.getElem?_eq_getElem (by lia)⟩
 obtain ⟨b,rfl,eb,nb⟩:=pt (n+1) y hy
 have gd:ps.getD n 0=(a:Int):=by rw [List.getD_eq_getElem?_getD,hx];rfl
 have gd1:ps.getD (n+1) 0=(b:Int):=by rw [List.getD_eq_getElem?_getD,hy];rfl
 rw [gd] at ne
 rw [gd,gd1,Int.toNat_natCast,Int.toNat_natCast]
 exact ⟨pt,hx,hy,fun z=>ne (by lia)⟩
theorem Zjd {ps r:List Int}{q:Str×Int}{n m:Int} (pt:PtL ps) (hl:(ps.length:Int)=n) (ft:Zf5 q n m) (h:UJ ps q=some r):PtL r/\(r.length:Int)=m:=by
 obtain ⟨kd,k⟩:=q
 obtain ⟨k0,ft⟩:=ft
 dsimp only at k0 ft
 obtain ⟨k,rfl⟩:=Int.eq_ofNat_of_zero_le k0
 unfold UJ at h
 dsimp only at h
 rw [Int.toNat_natCast] at h
 rcases ft with ⟨rfl,f1,rfl⟩ | ⟨rfl,f1,rfl⟩ | ⟨rfl,f1,rfl⟩
 ·rw [if_pos rfl] at h
  injection h with h
  subst h
  exact ⟨pt.born (by lia),by rw [Zjj];lia⟩
 ·rw [if_neg (by decide)] at h
  split at h
  ·cases h
  ·rename_i c
   rw [if_neg (by decide)] at h
   injection h with h
   subst h
   have ne:ps.getD k 0≠(k:Int)+1:=fun z=>c (by rw [decide_eq_true z];rfl)
   exact ⟨(Zke pt (by lia) ne).kept,by rw [Zkn];lia⟩
 ·rw [if_neg (by decide)] at h
  split at h
  ·cases h
  ·rename_i c
   rw [if_pos rfl] at h
   injection h with h
   subst h
   have e:ps.getD k 0=(k:Int)+1:=by
    by_cases z:ps.getD k 0=(k:Int)+1
    ·exact z
    ·exact absurd (by rw [decide_eq_false z];rfl) c
   have hx:ps[k]? = some ((k:Int)+1):=by
    rw [<- e,List.getD_eq_getElem?_getD,List.getElem?_eq_getElem (by lia)];rfl
   have:=Zlw (ps:=ps) (k:=k) (by lia)
   exact ⟨pt.ended hx,by lia⟩
theorem ZgR (ls:List (Str×Int)) (i:Nat):nX (ls.take i)<=nX ls:=by
 unfold nX
 exact List.Sublist.countP_le (List.take_sublist i ls)
theorem ZnZ {α β:Type}{F:α -> β -> Prop}:∀{l:List α}{m:List β}{i:Nat}{x:α},Paired F l m->l[i]? = some x -> ∃y,m[i]? = some y/\F x y
 | _,_,_,_,.nil,e=>by simp at e
 | _,_,0,_,.cons r _,e=>by simp at e;subst e;exact ⟨_,rfl,r⟩
 | _,_,i+1,_,.cons _ t,e=>by
  obtain ⟨y,h1,h2⟩:=ZnZ (i:=i) t (by simpa using e)
  exact ⟨y,by simpa using h1,h2⟩
theorem Zn4 {α β:Type}{F:α -> β -> Prop}:∀{l:List α}{m:List β},Paired F l m->l.length=m.length
 | _,_,.nil=>rfl
 | _,_,.cons _ t=>congrArg (· + 1) (Zn4 t)
theorem Zcs (ps:List Int) (q:Str×Int) (h:Option Int) (hq:q.1 = "born" ∨ q.1 = "end" ∨ q.1 = "cross"):JL ps q h=match UJ ps q with
  | none=>[]
  | some r=>(r,false)::(if q.1 = "cross" /\ h=some 0/\Zb6 ps q.2.toNat=false then [(ps,true)] else []):=by
 unfold JL UJ
 by_cases c1:q.1 = "born"
 ·rw [if_pos c1,if_pos c1]
  dsimp only
  rw [if_neg (fun z=>absurd (c1.symm.trans z.1) (by decide))]
 ·rw [if_neg c1,if_neg c1]
  by_cases c2:(decide (ps.getD q.2.toNat 0=q.2+1) != decide (q.1 = "end"))=true
  ·rw [if_pos c2,if_pos c2]
  ·rw [if_neg c2,if_neg c2]
   by_cases c3:q.1 = "end"
   ·rw [if_pos c3,if_pos c3]
    dsimp only
    rw [if_neg (fun z=>absurd (c3.symm.trans z.1) (by decide))]
   ·rw [if_neg c3,if_neg c3]
    have c4:q.1 = "cross" := (hq.resolve_left c1).resolve_left c3
    dsimp only
    unfold Zb6
    congr 1
    by_cases c5:h=some 0/\Gb q.2.toNat (ps.getD q.2.toNat 0).toNat (ps.getD (q.2.toNat+1) 0).toNat=false
    ·rw [if_pos c5,if_pos ⟨c4,c5⟩]
    ·rw [if_neg c5,if_neg (fun z=>c5 z.2)]
theorem Zh2 {p:List Key×V}{r:List (List Key×V)}{k:List Key}{v:V} (e:¬p.1=k):putK (p::r) k v=p::putK r k v:=by
 unfold putK
 rw [List.any_cons,decide_eq_false e,Bool.false_or]
 split
 ·rw [List.map_cons,if_neg e]
 ·rfl
theorem ZlX {G:Hp}{b:Addr}{k:List Int} (h:G b=some (.tup ((kW k).map kV))):Jc G (.ref b) k:=⟨b,rfl,by rw [h,Zkj]⟩
abbrev CL:=List (List Int×Int)
def GK:CL->List Int->Int->CL
 | [],k,n=>[(k,n)]
 | r::L,k,n=>if r.1=k then (k,n)::L else r::GK L k n
def Zak:CL->List Int->Option Int
 | [],_=>none
 | r::L,k=>if r.1=k then some r.2 else Zak L k
def GB (φ:List Int->Int) (B:CL):Int:=(B.map fun r=>r.2 * φ r.1).sum
def JQ (B:CL):List (List Key×V):=B.map fun r=>(kW r.1,V.int r.2)
theorem Gs (φ:List Int->Int) (r:List Int×Int) (B:CL):GB φ (r::B)=r.2 * φ r.1+GB φ B:=by unfold GB;rw [List.map_cons,List.sum_cons]
theorem ZfU (φ:List Int->Int) (k:List Int) (m:Int):∀B:CL,GB φ (GK B k ((Zak B k).getD 0+m))=GB φ B+m * φ k
 | []=>by show GB φ [(k,0+m)]=GB φ []+m * φ k;rw [Gs];show (0+m) * φ k+0=0+m * φ k;rw [Int.zero_add,Int.add_zero,Int.zero_add]
 | r::B=>by
  unfold GK Zak
  by_cases c:r.1=k
  ·rw [if_pos c,if_pos c,Gs,Gs,c]
   show (r.2+m) * φ k+_=_
   rw [Int.add_mul,Int.add_right_comm]
  ·rw [if_neg c,if_neg c,Gs,Gs,ZfU φ k m B,Int.add_assoc]
theorem ZcF (k:List Int) (n:Int):∀(B:CL),∀x,x∈(GK B k n).map (·.1) ↔ x=k∨x∈B.map (·.1)
 | [],x=>by simp [GK]
 | r::B,x=>by
  unfold GK
  split
  ·rename_i c;subst c;simp
  ·rw [List.map_cons,List.mem_cons,ZcF k n B x,List.map_cons,List.mem_cons,or_left_comm]
theorem Zdg (k:List Int) (n:Int):∀{B:CL},(B.map (·.1)).Nodup->((GK B k n).map (·.1)).Nodup
 | [],_=>by simp [GK]
 | r::B,nd=>by
  rw [List.map_cons,List.nodup_cons] at nd
  unfold GK
  split
  ·rename_i c
   rw [List.map_cons,List.nodup_cons]
   rw [c] at nd
   exact nd
  ·rename_i c
   rw [List.map_cons,List.nodup_cons,ZcF]
   exact ⟨fun z=>z.elim c nd.1,Zdg k n nd.2⟩
theorem ZfJ (k:List Int) (n:Int):∀(B:CL),(GK B k n).length<=B.length+1
 | []=>Nat.le_refl _
 | r::B=>by
  unfold GK
  split
  ·exact Nat.le_succ _
  ·exact Nat.succ_le_succ (ZfJ k n B)
theorem Zcu (k:List Int):∀B:CL,Y5 (JQ B) (kW k)=(Zak B k).map V.int
 | []=>rfl
 | r::B=>by
  unfold Zak
  by_cases c:r.1=k
  ·rw [if_pos c]
   show Y5 ((kW r.1,V.int r.2)::JQ B) (kW k)=_
   rw [Yy (by rw [c])];rfl
  ·rw [if_neg c,<- Zcu k B]
   show Y5 ((kW r.1,V.int r.2)::JQ B) (kW k)=_
   rw [Yz (fun z=>c (ZeK z))]
theorem Zd2 {k:List Int}{v:V}:∀{B:CL},k∉B.map (·.1)->(JQ B).map (fun x=>if x.1=kW k then (x.1,v) else x)=JQ B
 | [],_=>rfl
 | r::B,h=>by
  rw [List.map_cons,List.mem_cons,not_or] at h
  show (if kW r.1=kW k then (kW r.1,v) else (kW r.1,V.int r.2))::(JQ B).map (fun x=>if x.1=kW k then (x.1,v) else x)=_
  rw [if_neg (fun z=>h.1 (ZeK z).symm),Zd2 h.2];rfl
theorem Ze0 (k:List Int) (n:Int):∀{B:CL},(B.map (·.1)).Nodup->putK (JQ B) (kW k) (.int n)=JQ (GK B k n)
 | [],_=>rfl
 | r::B,nd=>by
  rw [List.map_cons,List.nodup_cons] at nd
  show putK ((kW r.1,V.int r.2)::JQ B) _ _=_
  unfold GK
  by_cases c:r.1=k
  ·rw [if_pos c]
   unfold putK
   rw [if_pos (by rw [List.any_cons,decide_eq_true (show kW r.1=kW k by rw [c]),Bool.true_or]),List.map_cons,if_pos (by rw [c]),Zd2 (by rw [<- c];exact nd.1)]
   show (kW r.1,V.int n)::_=(kW k,V.int n)::_
   rw [c];rfl
  ·rw [Zh2 (fun z=>c (ZeK z)),if_neg c,Ze0 k n nd.2];rfl
def WO (q:Str×Int) (h:Option Int) (ps:List Int):Bool:=decide (h=some 0)&&(decide (q.1 = "end")||(decide (q.1 = "cross")&&Zb6 ps q.2.toNat))
def bkT (q:Str×Int) (h:Option Int) (φ:List Int->Int) (ps:List Int):Int:=match UJ ps q with
 | none=>0
 | some r=>(if WO q h ps=true then 2 else 1) * φ r+(if q.1 = "cross" /\ h=some 0/\Zb6 ps q.2.toNat=false then φ ps else 0)
def bkR (ls:List (Str×Int)) (hs:Nat->Option Int):Nat->(List Int->Int)->Int
 | 0,φ=>φ []
 | i+1,φ=>match ls[i]? with
  | none=>bkR ls hs i φ
  | some q=>bkR ls hs i (bkT q (hs i) φ)
theorem Zfd {ls:List (Str×Int)}{hs:Nat->Option Int}{i:Nat}{q:Str×Int} (h:ls[i]? = some q) (φ:List Int->Int):bkR ls hs (i+1) φ = bkR ls hs i (bkT q (hs i) φ):=by rw [bkR,h]
theorem Zj9 (q:Str×Int) (h:Option Int) (hq:q.1 = "born" ∨ q.1 = "end" ∨ q.1 = "cross") (φ:List Int->Int) (ps:List Int) (c:Int):
  ((JL ps q h).map fun w=>(if WO q h ps=true then 2*c else c) * φ w.1).sum=c*bkT q h φ ps:=by
 rw [Zcs ps q h hq]
 unfold bkT
 cases hm:UJ ps q with
 | none=>simp
 | some r=>
  dsimp only
  by_cases d:q.1 = "cross" /\ h=some 0/\Zb6 ps q.2.toNat=false
  ·have f:WO q h ps=false:=by
    unfold WO
    rw [d.2.2,decide_eq_false (fun z=>absurd (d.1.symm.trans z) (by decide))]
    simp
   rw [if_pos d,if_pos d,f]
   simp [Int.mul_add]
  ·rw [if_neg d,if_neg d]
   by_cases f:WO q h ps=true
   ·rw [if_pos f,if_pos f]
    simp [Int.mul_assoc,Int.mul_left_comm]
   ·rw [if_neg f,if_neg f]
    simp
theorem ZcV (φ:List Int->Int) (L:CL) (j:Nat) {r:List Int×Int} (h:L[j]? = some r):GB φ (L.take (j+1))=GB φ (L.take j)+r.2 * φ r.1:=by
 unfold GB
 rw [List.take_add_one,h,List.map_append,List.sum_append]
 simp
def wq (q:Str×Int):Nat:=if q.1 = "cross" then 2 else 1
theorem Zlu (ps:List Int) (q:Str×Int) (h:Option Int) (hq:q.1 = "born" ∨ q.1 = "end" ∨ q.1 = "cross"):(JL ps q h).length<=wq q:=by
 rw [Zcs ps q h hq]
 unfold wq
 split
 ·exact Nat.zero_le _
 ·by_cases c:q.1 = "cross"
  ·rw [if_pos c];split<;>simp
  ·rw [if_neg c,if_neg fun z=>c z.1];simp
theorem ZlL {ls:List (Str×Int)}{i:Nat}{q:Str×Int} (h:ls[i]? = some q):2 ^ nX (ls.take (i+1))=wq q*2 ^ nX (ls.take i):=by
 rw [List.take_add_one,h,WU]
 unfold wq
 have e:nX (some q).toList=if q.1=("cross" : Str) then 1 else 0:=by
  show nX [q]=_
  unfold nX
  rw [List.countP_cons,List.countP_nil]
  by_cases c:q.1=("cross" : Str)<;>simp [c]
 rw [e]
 by_cases c:q.1=("cross" : Str)
 ·rw [if_pos c,if_pos c,Nat.pow_succ,Nat.mul_comm]
 ·rw [if_neg c,if_neg c,Nat.add_zero,Nat.one_mul]
def ZmD:Sp:=fun vs H Q _=>∃(l:Addr) (sc:Int) (ls:List (Str×Int)) (g:Int->Int),vs = [.ref l,.int sc]/\(sc=0∨sc=1)/\Drw H l ls/\HG sc ls g /\ ∀(p:Addr) (H':Hp) (kvs:List (Key×V)),Zi H H'->H p=none->H' p=some (.dK kvs)->(∀t:Nat,t<ls.length->Y5 kvs (Sum.inl (t:Int))=(Wg g ls t).map V.int)->Q (.ref p) H'
theorem Zn6 {X:L2.Cx}:Passes (CX1 P w) X (fun _ _ _=>False):=fun _ _ _ _ _ _ _ c=>by
 obtain ⟨_,_,_,_,_,_,_,_,_,_,_,_,_,_,h⟩:=c
 exact h.elim
theorem ZiU (F:Int->V) (t:Int):∀(ns:List Int) (acc:List (Key×V)),Y5 (UC acc (ns.zip (ns.map F))) (Sum.inl t)=if t∈ns then some (F t) else Y5 acc (Sum.inl t)
 | [],acc=>by simp [UC]
 | n::ns,acc=>by
  show Y5 (UC (putK acc (Sum.inl n) (F n)) (ns.zip (ns.map F))) (Sum.inl t)=_
  rw [ZiU F t ns,Zdd]
  by_cases h1:t∈ns
  ·rw [if_pos h1,if_pos (List.mem_cons_of_mem _ h1)]
  ·rw [if_neg h1]
   by_cases h2:t=n
   ·subst h2
    rw [if_pos rfl,if_pos List.mem_cons_self]
   ·rw [if_neg (fun z=>h2 (by injection z)),if_neg (fun z=>by rcases List.mem_cons.mp z with z | z;exact h2 z;exact h1 z)]
abbrev JM:Stmt:=top 24
theorem ZaD:Zz ["drawing", "scale"] ["drawing", "scale"] (Zj JM):={}
theorem Zoc {f C:Addr}{fd:FuncData} (F:YE K "heights_by_name" "heights_by_name" JM f fd) (JW:Yr P w K mg base 1 "names_of" ["drawing"] (Za8 W3)) (WT:ZhW P w K mg base 9 "name_heights" ["drawing", "scale"] (Zmz C)) (Zgq:mg "dict" = none) (Zbd:mg "zip" = none):Yj P w K mg base Wy 10 f fd ["drawing", "scale"] ZmD:=by
 refine F.ok ZaD (fun vs H Q E h=>?_) (fun cdv A outer s H vs Q E hr h=>?_)
 ·obtain ⟨l,sc,ls,g,rfl,_⟩:=h
  rfl
 ·obtain ⟨l,sc,ls,g,rfl,hsc,⟨xs,hl,hL,hW,hlen⟩,hg,k⟩:=h
  refine ⟨_,(Zg (Zy (ZgA (K:=K) rfl rfl (by rfl) Zgq (by rfl) Zbd (Za (Zq JW hr (Za (pv 0) Zb)) (Za (ZhE WT (hr.mono (by decide)) Zn6 (Za (pv 0) (Za (pv 1) Zb))) Zb))))),?_⟩
  refine ⟨_,rfl,l,xs,ls,rfl,hl,hL,hlen,hW.kd,fun pn H1 fn s1 en=>?_⟩
  refine ⟨_,rfl,_,rfl,l,sc,xs,ls,rfl,s1 _ _ hl,hL.same s1,hlen,hW,fun ph H2 g' fh s2 hg' eh=>?_,fun H2 ts s2 n1 tr z=>?_⟩
  ·have:=hg.uniq hg'
   subst this
   have ll:(Ya ls W3 ls.length).length<=60:=by
    unfold Ya
    refine Nat.le_trans (List.length_filterMap_le _ _) ?_
    rw [List.length_range];exact hlen
   have ed:(dfs g ls (Ya ls W3 ls.length)).map V.int=(Ya ls W3 ls.length).map fun t=>V.int (g (Y9 ls t.toNat).1-g (Y9 ls t.toNat).2):=by
    unfold dfs;rw [List.map_map];rfl
   rw [ed] at eh
   refine ⟨pn,ph,_,_,rfl,Zw.of (s2 _ _ en),Zw.of eh,by rw [List.length_map],by lia,fun D hD=>?_⟩
   refine k D _ _ ((s1.trans s2).trans (Zi.laid hD)) ((s1.trans s2).free hD) Zc fun t ht=>?_
   rw [ZiU]
   have mm:((t:Int)∈Ya ls W3 ls.length) ↔ Uu ls W3 t=true:=by
    unfold Ya
    rw [List.mem_filterMap]
    constructor
    ·rintro ⟨a,_,h⟩
     split at h
     ·rename_i c
      have:a=t:=by injection h with h;lia
      rw [<- this];exact c
     ·cases h
    ·exact fun c=>⟨t,List.mem_range.mpr ht,by rw [if_pos c]⟩
   unfold Wg
   by_cases c:Uu ls W3 t=true
   ·rw [if_pos (mm.mpr c),if_pos c,Int.toNat_natCast];rfl
   ·rw [if_neg (fun z=>c (mm.mp z)),if_neg c];rfl
  ·rcases hg with ⟨e,_⟩ | ⟨_,T,L,tr',t0,_⟩
   ·exact n1 e
   ·have:=tr.uniq tr'
    rw [this] at z
    exact z (by rw [List.map_singleton,t0])
def Zjc:Sp:=fun vs H Q _=>∃(v:V) (t:Addr) (q:Str×Int) (h:Option Int) (ps:List Int),vs = [v,.ref t,oI h]/\Jc H v ps/\H t=some (.tup [.str q.1,.int q.2])/\ps.length<=200/\0<=q.2/\(q.1 = "born" ∨ q.1 = "end" ∨ q.1 = "cross")/\(q.1 = "born" -> h=none) /\
 (q.1 = "cross" -> ZbM ps q.2.toNat (ps.getD q.2.toNat 0).toNat (ps.getD (q.2.toNat+1) 0).toNat) /\ ∀H',Zi H H'->Q (.bl (WO q h ps)) H'
abbrev ZbR:Stmt:=top 30
theorem ZaE:Zz ["partners", "letter", "height", "kind", "k"] ["partners", "letter", "height"] (Zj ZbR):={}
theorem ZmC {f:Addr}{fd:FuncData} (F:YE K "is_free" "is_free" ZbR f fd) (Jo:Yr P w K mg base 1 "is_tangled" ["partners", "k"] Zea):Yj P w K mg base Wy 2 f fd ["partners", "letter", "height"] Zjc:=by
 refine F.ok ZaE (fun vs H Q E h=>?_) (fun cdv A outer s H vs Q E hr h=>?_)
 ·obtain ⟨v,t,q,h,ps,rfl,_⟩:=h
  rfl
 ·obtain ⟨v,t,⟨kd,kk⟩,h,ps,rfl,hv,ht,hl,k0,hq,hb,tw,k⟩:=h
  refine ⟨_,(Ze (Z8 (pv 1) (ZU (K:=K) (n:=2) rfl rfl (Zm (Zl (i:=3) ZaE.nd rfl (Or.inl rfl)) (Zm (Zl (i:=4) ZaE.nd rfl (Or.inl rfl)) ZP))))
   (Zg (Zy (Zc2 (Yn Yc (pv 2) Zd (Zp _)) (U1 (Zff (Yn Yc (pv 3) ZG (Zp _)) (U1 (Zq Jo hr (Za (pv 0) (Za (pv 4) Zb)))))))))),?_⟩
  dsimp only at ht k0 hq hb tw k
  obtain ⟨n,rfl⟩:=Int.eq_ofNat_of_zero_le k0
  refine ⟨_,rfl,t,_,rfl,YB.of ht,rfl,_,_,rfl,_,_,rfl,rfl,?_⟩
  have no:h≠some 0->Q (.bl false) H:=fun e=>by
   have:=k H (Zi.refl _)
   unfold WO at this
   rw [decide_eq_false e,Bool.false_and] at this
   exact this
  cases h with
  | none=>exact ⟨_,rfl,rfl,_,rfl,WE (no (fun z=>nomatch z))⟩
  | some i=>
   refine ⟨_,rfl,rfl,_,rfl,?_⟩
   by_cases e:i=0
   ·subst e
    refine Za9 ⟨_,rfl,rfl,_,rfl,ZX (fun c=>?_) (fun c=>?_)⟩
    ·have ee:kd = "end" := by
      have:=of_decide_eq_true c
      injection this
     have:=k H (Zi.refl _)
     unfold WO at this
     dsimp only at this
     rw [decide_eq_true rfl,decide_eq_true ee,Bool.true_or,Bool.true_and] at this
     exact this
    ·have ne:kd ≠ "end" := fun z=>c (by rw [z];exact decide_eq_true rfl)
     have ec:kd = "cross" := (hq.resolve_left fun z=>absurd (hb z) (fun z=>nomatch z)).resolve_left ne
     refine ⟨_,rfl,_,rfl,v,n,_,_,ps,rfl,hv,hl,tw ec,fun H' s'=>?_⟩
     have:=k H' s'
     unfold WO at this
     dsimp only at this
     rw [decide_eq_true rfl,decide_eq_false ne,decide_eq_true ec,Bool.false_or,Bool.true_and,Bool.true_and] at this
     exact this
   ·have ne:decide (oI (some i)=V.int 0)=false:=decide_eq_false fun z=>e (by injection (show V.int i=V.int 0 from z))
    rw [ne]
    exact WE (no fun z=>e (by injection z))
def Zmm:Sp:=fun vs H Q _=>∃(l:Addr) (sc:Int) (ls:List (Str×Int)) (g:Int->Int),vs = [.ref l,.int sc]/\(sc=0∨sc=1)/\Drw H l ls/\HG sc ls g/\nX ls<=13 /\ ∀H',Zi H H'->Q (.int (bkR ls (Wg g ls) ls.length fun _=>1)) H'
def OkK (n:Int) (B:CL):Prop:=∀r∈B,PtL r.1/\(r.1.length:Int)=n
theorem Zla {n:Int}{B:CL}{k:List Int}{m:Int} (h:OkK n B) (hk:PtL k/\(k.length:Int)=n):OkK n (GK B k m):=fun r hr=>by
 rcases (ZcF k m B r.1).mp (List.mem_map.mpr ⟨r,hr,rfl⟩) with e | e
 ·rw [e];exact hk
 ·obtain ⟨r',hr',e'⟩:=List.mem_map.mp e
  have:=h r' hr'
  rw [e'] at this
  exact this
theorem ZkU {ps:List Int}{q:Str×Int}{n m:Int}{h:Option Int} (hq:q.1 = "born" ∨ q.1 = "end" ∨ q.1 = "cross") (pt:PtL ps) (hl:(ps.length:Int)=n) (ft:Zf5 q n m):∀w∈JL ps q h,PtL w.1/\(w.1.length:Int)=m:=fun w hw=>by
 rw [Zcs ps q h hq] at hw
 split at hw
 ·cases hw
 ·rename_i r hr
  rcases List.mem_cons.mp hw with e | e
  ·rw [e];exact Zjd pt hl ft hr
  ·split at e
   ·rename_i c
    rw [List.mem_singleton.mp e]
    refine ⟨pt,?_⟩
    rcases ft.2 with ⟨x,_⟩ | ⟨_,_,x⟩ | ⟨x,_⟩
    ·exact absurd (x.symm.trans c.1) (by decide)
    ·rw [x];exact hl
    ·exact absurd (x.symm.trans c.1) (by decide)
   ·cases e
theorem Zlc {n:Int}{B:CL} (h:OkK n B) (n0:n=0) (nd:(B.map (·.1)).Nodup):GB (fun _=>1) B=(Zak B []).getD 0:=by
 have ky:∀r∈B,r.1 = []:=fun r rm=>List.eq_nil_of_length_eq_zero (by have:=(h r rm).2;lia)
 match B,ky,nd with
 | [],_,_=>rfl
 | [r],ky,_=>
  have:=ky r List.mem_cons_self
  unfold GB Zak
  rw [if_pos this]
  simp
 | r::r'::L,ky,nd=>
  have h1:=ky r List.mem_cons_self
  have h2:=ky r' (List.mem_cons_of_mem _ List.mem_cons_self)
  rw [List.map_cons,List.map_cons,List.nodup_cons] at nd
  exact absurd (by rw [h1,h2];exact List.mem_cons_self) nd.1
theorem Zji {B:CL}{i:Nat}{k:List Key}{x:V} (h:(JQ B)[i]? = some (k,x)):∃r,B[i]? = some r/\k=kW r.1/\x = .int r.2:=by
 unfold JQ at h
 rw [List.getElem?_map] at h
 obtain ⟨r,hr,e⟩:=Option.map_eq_some_iff.mp h
 injection e with e1 e2
 exact ⟨r,hr,e1.symm,e2.symm⟩
theorem ZdH {ps:List Int}{q:Str×Int}{n m:Int} (ft:Zf5 q n m) (pt:PtL ps) (hl:(ps.length:Int)=n) (ec:q.1 = "cross") {h:Option Int}{w:List Int×Bool} (hw:w∈JL ps q h):ZbM ps q.2.toNat (ps.getD q.2.toNat 0).toNat (ps.getD (q.2.toNat+1) 0).toNat:=by
 obtain ⟨kd,k⟩:=q
 dsimp only at ec ft ⊢
 subst ec
 obtain ⟨k0,ft⟩:=ft
 dsimp only at k0 ft
 obtain ⟨k,rfl⟩:=Int.eq_ofNat_of_zero_le k0
 rw [Int.toNat_natCast]
 have hk:(k:Int)+1<n:=by
  rcases ft with ⟨e,_⟩ | ⟨_,e,_⟩ | ⟨e,_⟩
  ·exact absurd e (by decide)
  ·exact e
  ·exact absurd e (by decide)
 refine Zke pt (by lia) fun z=>?_
 unfold JL at hw
 dsimp only at hw
 rw [if_neg (by decide),Int.toNat_natCast] at hw
 rw [if_pos (by rw [decide_eq_true z];rfl)] at hw
 cases hw
abbrev ZaI:Stmt:=top 32
theorem Ye:Zz ["drawing", "scale", "heights", "counts", "t", "letter", "behind", "partners", "count", "then", "changed", "more"] ["drawing", "scale"] (Zj ZaI):={}
theorem ZnJ {fd:FuncData}{f:Addr} (F:YE K "how_many" "how_many" ZaI f fd) (JJ:Yr P w K mg base 10 "heights_by_name" ["drawing", "scale"] ZmD) (Zby:Yr P w K mg base 2 "ways_on" ["partners", "letter", "height"] Zf2) (Zbz:Yr P w K mg base 2 "is_free" ["partners", "letter", "height"] Zjc) (ZI:mg "enumerate" = none):Yj P w K mg base Wy 11 f fd ["drawing", "scale"] Zmm:=by
 refine F.ok Ye (fun vs H Q E h=>?_) (fun cdv A outer s H vs Q E hr h=>?_)
 ·obtain ⟨l,sc,ls,g,rfl,_⟩:=h
  rfl
 ·obtain ⟨l,sc,ls,g,rfl,hsc,dr,hg,n13,k⟩:=h
  refine ⟨_,(Ze (Zn (i:=2) Ye.nd rfl (Or.inl rfl) (Zq JJ hr (Za (pv 0) (Za (pv 1) Zb))))
   (Ze (Zn (i:=3) Ye.nd rfl (Or.inl rfl) (ZjQ (Jb hr) (ZA Zb) Zd))
   (Ze (Ym PassesOwn.never rfl (WM (K:=K) rfl (by rfl) ZI (Za (pv 0) Zb)) (ZU (K:=K) (n:=2) rfl rfl (Zm (Zl (i:=4) Ye.nd rfl (Or.inl rfl)) (Zm (Zl (i:=5) Ye.nd rfl (Or.inl rfl)) ZP))) (Ze (Zn (i:=6) Ye.nd rfl (Or.inl rfl) ZiY)
   (Ze (Ym PassesOwn.never rfl (Zi0 (pv 3)) (ZU (K:=K) (n:=2) rfl rfl (Zm (Zl (i:=7) Ye.nd rfl (Or.inl rfl)) (Zm (Zl (i:=8) Ye.nd rfl (Or.inl rfl)) ZP))) (Zg (Ym PassesOwn.never rfl (Yk (K:=K) rfl (Zq Zby hr (Za (pv 7) (Za (pv 5) (Za (ZfK (Jb hr) (pv 2) (pv 4) ⟨rfl,rfl,rfl,rfl⟩) Zb))))) (ZU (K:=K) (n:=2) rfl rfl (Zm (Zl (i:=9) Ye.nd rfl (Or.inl rfl)) (Zm (Zl (i:=10) Ye.nd rfl (Or.inl rfl)) ZP))) (Ze (Zn (i:=11) Ye.nd rfl (Or.inl rfl) (U2 (ZaK (Zq Zbz hr (Za (pv 7) (Za (pv 5) (Za (ZfK (Jb hr) (pv 2) (pv 4) ⟨rfl,rfl,rfl,rfl⟩) Zb))))) (Zk JO Zd (pv 8)) (pv 8)))
   (Zg (Z8 (Zk Zu (ZfO (Jb hr) (pv 6) (pv 9) Zd ⟨rfl,rfl,rfl,rfl⟩) (pv 11)) (Yl (pv 6) (pv 9) (set_dict (Jb hr)))))))))
   (Zg (Zn (i:=3) Ye.nd rfl (Or.inl rfl) (pv 6))))))
   (Zg (Zy (ZfO (Jb hr) (pv 3) (ZA Zb) Zd ⟨rfl,rfl,rfl,rfl⟩)))))),?_⟩
  obtain ⟨xs,hl,hL,hW,hlen⟩:=id dr
  have hxl:=hL.len
  refine ⟨_,rfl,_,rfl,l,sc,ls,g,rfl,hsc,dr,hg,fun hp H1 kvh s1 fh eh vh=>?_⟩
  refine fun bg0 fb=>?_
  obtain ⟨H2,z,s2,e2⟩:=lay (o:=.dT []) fb
  rw [z];clear z
  refine ⟨(by show 0<=sizeLine;exact Nat.zero_le _),fun e0 fe0=>?_⟩
  obtain ⟨H3,z,s3,e3⟩:=lay (o:=.tup []) fe0
  rw [z];clear z
  have b3:=s3 _ _ e2
  refine ⟨b3,e0,[],rfl,e3,?_⟩
  obtain ⟨G0,eG0⟩:∃G0,upd H3 bg0 (.dT [([],.int 1)])=G0:=⟨_,rfl⟩
  rw [eG0]
  have s13:Zi H1 H3:=s2.trans s3
  have sG0:Zi H1 G0:=fun c o e=>by rw [<- eG0,Zh (Zf e fb)];exact s13 c o e
  have g3:G0 bg0=some (.dT [([],.int 1)]):=by rw [<- eG0];exact Zc
  have hl1:=s1 _ _ hl
  have pw13:∀i,2 ^ nX (ls.take i)<=8192:=fun i=>Nat.le_trans (Nat.pow_le_pow_right (by decide) (Nat.le_trans (ZgR ls i) n13)) (by decide)
  refine ⟨_,rfl,l,rfl,⟨_,Zw.of (sG0 _ _ hl1)⟩,ZaY (K:=K) (a:=l) (xs:=xs) (fun i σ G=>∃(bg:Addr) (B:CL) (n:Int) (v4 v5 v6 v7 v8 v9 v10 v11:Option V),σ = [some (.ref l),some (.int sc),some (.ref hp),some (.ref bg),v4,v5,v6,v7,v8,v9,v10,v11]/\Zi H1 G/\H1 bg=none/\G bg=some (.dT (JQ B))/\(B.map (·.1)).Nodup/\B.length<=2 ^ nX (ls.take i)/\Wk (ls.take i) n/\OkK n B /\ ∀ φ,GB φ B=bkR ls (Wg g ls) i φ)
   ⟨bg0,[([],1)],0,_,_,_,_,_,_,_,_,rfl,sG0,fb,g3,by simp,by rw [List.take_zero];exact Nat.le_refl _,.nil,fun r hr=>by rw [List.mem_singleton.mp hr];exact ⟨fun i x e=>by simp at e,rfl⟩,fun φ=>by unfold GB;simp [bkR]⟩ (fun i σ G _ ⟨_,_,_,_,_,_,_,_,_,_,_,_,s',_⟩=>Zw.of (s' _ _ hl1)) ?_ ?_⟩
  ·rintro i x pe σ G hx ⟨bg,L,n,v4,v5,v6,v7,v8,v9,v10,v11,rfl,sG,fbg,ebg,nd,Ll,wn,okL,sm⟩ fpe
   obtain ⟨q,ta,hq,rfl,hta⟩:=hL.get hx
   have hi:i<ls.length:=(List.getElem?_eq_some_iff.mp hq).1
   obtain ⟨m,wm,ft⟩:∃m,Wk (ls.take (i+1)) m/\Zf5 q n m:=by
    obtain ⟨m,wm⟩:=GQ hW (i+1)
    have wm':=wm
    rw [List.take_add_one,hq] at wm
    obtain ⟨n',wn',ft⟩:=Zg8 (show Wk (ls.take i ++ [q]) m from wm)
    rw [ZeU wn wn']
    exact ⟨m,wm',ft⟩
   have n2:=ZaX wn
   have tl:(ls.take i).length=i:=by rw [List.length_take];lia
   have kq:q.1 = "born" ∨ q.1 = "end" ∨ q.1 = "cross" := by
    rcases ft.2 with ⟨e,_⟩ | ⟨e,_⟩ | ⟨e,_⟩
    ·exact .inl e
    ·exact .inr (.inr e)
    ·exact .inr (.inl e)
   refine ⟨pe,_,rfl,YB.of Zc,rfl,_,_,rfl,_,_,rfl,rfl,?_⟩
   obtain ⟨G1,z,sg1,eg1⟩:=lay (o:=.tup [.int (i:Int),.ref ta]) fpe
   rw [z];clear z
   refine fun bh fbh=>?_
   obtain ⟨G2,z,sg2,eg2⟩:=lay (o:=.dT []) fbh
   rw [z];clear z
   have ebg2:=sg2 _ _ (sg1 _ _ ebg)
   have nbb:bg≠bh:=Zf (sg1 _ _ ebg) fbh
   refine ⟨_,rfl,bg,JQ L,rfl,ebg2,fun o=>?_⟩
   obtain ⟨G3,eG3⟩:∃G3,upd G2 bg (.frz o (.dT (JQ L)))=G3:=⟨_,rfl⟩
   rw [eG3]
   have fr3:YC bg G2 G3:=by rw [<- eG3];exact YC.upd
   have sH2:Zi H1 G2:=(sG.trans sg1).trans sg2
   have sH3:Zi H1 G3:=fun c u e=>fr3 c u (sH2 c u e) (Zf e fbg)
   have ebg3:G3 bg=some (.frz o (.dT (JQ L))):=by rw [<- eG3];exact Zc
   have ebh3:G3 bh=some (.dT []):=fr3 _ _ eg2 (Ne.symm nbb)
   have fbhH:H1 bh=none:=(sG.trans sg1).free fbh
   have kl:(JQ L).length=L.length:=by unfold JQ;rw [List.length_map]
   have w2:wq q<=2:=by unfold wq;split<;>lia
   have lw:wq q*L.length<=16384:=Nat.le_trans (Nat.mul_le_mul w2 (Nat.le_trans Ll (pw13 i))) (by decide)
   refine ZhN (d:=bg) (o:=o) (kvs:=JQ L) (fun j σ G'=>∃(B:CL) (v7 v8 v9 v10 v11:Option V),σ = [some (.ref l),some (.int sc),some (.ref hp),some (.ref bg),some (.int (i:Int)),some (.ref ta),some (.ref bh),v7,v8,v9,v10,v11]/\YC bh G3 G'/\G' bh=some (.dT (JQ B))/\(B.map (·.1)).Nodup/\B.length<=wq q*j/\OkK m B /\ ∀ φ,GB φ B=GB (bkT q (Wg g ls i) φ) (L.take j))
    ⟨[],_,_,_,_,_,rfl,YC.refl _ _,ebh3,by simp,Nat.zero_le _,fun r hr=>(nomatch hr),fun φ=>rfl⟩ (fun j σ G' _ ⟨_,_,_,_,_,_,_,f',_⟩=>f' _ _ ebg3 nbb) ?_ ?_
   ·rintro j kk xv t b σ G' hkv ⟨B,v7,v8,v9,v10,v11,rfl,f',ebh,ndB,Bl,okB,smB⟩ ftt htb
    obtain ⟨r,hr',ek,exv⟩:=Zji hkv
    subst ek exv
    have jl:j<L.length:=(List.getElem?_eq_some_iff.mp hr').1
    obtain ⟨ptr,lr⟩:=okL r (List.mem_of_getElem? hr')
    refine ⟨t,_,rfl,YB.of Zc,rfl,_,_,rfl,_,_,rfl,rfl,?_⟩
    obtain ⟨G4,z,sg4,eg4⟩:=lay (o:=.tup [.ref b,.int r.2]) ftt
    rw [z];clear z
    have f4:YC bh G3 G4:=f'.trans sg4.frm
    have hp4:G4 hp=some (.dK kvh):=f4 _ _ (sH3 _ _ eh) (Zf eh fbhH)
    have ta4:G4 ta=some (.tup [.str q.1,.int q.2]):=f4 _ _ (sH3 _ _ (s1 _ _ hta)) (Zf (s1 _ _ hta) fbhH)
    have hc:q.1 = "cross" -> Wg g ls i≠none:=fun ec z=>by
     have kt:Uu ls W3 i=true:=by rw [WC hq (pr:=W3),ec];decide
     unfold Wg at z
     rw [kt] at z
     cases z
    have hbn:q.1 = "born" -> Wg g ls i=none:=fun eb=>by
     have kt:Uu ls W3 i=false:=by rw [WC hq (pr:=W3),eb];decide
     unfold Wg
     rw [kt]
     rfl
    refine ⟨_,rfl,_,rfl,_,rfl,hp,rfl,.inl ⟨_,.inl hp4⟩,_,rfl,_,.inl ⟨kvh,.inl (i:Int),.inl hp4,rfl,rfl⟩,?_⟩
    rw [vh i hi]
    refine ⟨.ref b,ta,q,Wg g ls i,r.1,(by cases Wg g ls i<;>rfl),ZlX (sg4 _ _ htb),ta4,by lia,ptr,ft.1,?_,hc,kq,fun p ys H6 s6 e6 pw=>?_⟩
    ·intro nb
     rcases ft.2 with ⟨e,_⟩ | ⟨_,e,_⟩ | ⟨_,e,_⟩
     ·exact absurd e nb
     ·lia
     ·lia
    have ebh6:H6 bh=some (.dT (JQ B)):=s6 _ _ (sg4 _ _ ebh)
    have f6:YC bh G3 H6:=f4.trans s6.frm
    have wb6:Jc H6 (.ref b) r.1:=Jc.same (sg4.trans s6) (ZlX htb)
    have hp6:=s6 _ _ hp4
    have ta6:=s6 _ _ ta4
    have wwq:=Zlu r.1 q (Wg g ls i) kq
    have wok:=ZkU (h:=Wg g ls i) kq ptr lr ft
    have j1:wq q*j+wq q<=16384:=by
     have:wq q*(j+1)<=wq q*L.length:=Nat.mul_le_mul_left _ jl
     rw [Nat.mul_succ] at this
     lia
    refine ⟨p,rfl,⟨_,Zw.of e6⟩,JI (K:=K) (a:=p) (xs:=ys) (fun m' σ G''=>∃(B:CL) (v9 v10 v11:Option V),σ = [some (.ref l),some (.int sc),some (.ref hp),some (.ref bg),some (.int (i:Int)),some (.ref ta),some (.ref bh),some (.ref b),some (.int r.2),v9,v10,v11]/\YC bh H6 G''/\G'' bh=some (.dT (JQ B))/\(B.map (·.1)).Nodup/\B.length<=wq q*j+m'/\OkK m B /\ ∀ φ,GB φ B=GB (bkT q (Wg g ls i) φ) (L.take j)+(((JL r.1 q (Wg g ls i)).take m').map fun w=>(if WO q (Wg g ls i) r.1=true then 2*r.2 else r.2) * φ w.1).sum)
     ⟨B,_,_,_,rfl,YC.refl _ _,ebh6,ndB,Bl,okB,fun φ=>by rw [smB];simp⟩ (fun m' σ G'' _ ⟨_,_,_,_,_,f',_⟩=>Zw.of (f' _ _ e6 (ZaZ e6 ebh6 (fun z=>nomatch z)))) ?_ ?_⟩
    ·rintro m' y σ G'' hym ⟨B,v9,v10,v11,rfl,f7,eb7,nd7,Bl7,ok7,sm7⟩
     obtain ⟨⟨th,c⟩,hw',t',x',rfl,ht',tb',ex',htb'⟩:=ZnZ pw hym
     dsimp only at ht' htb'
     subst ex'
     have nt6:∀{a:Addr}{w:List V},H6 a=some (.tup w)->a≠bh:=fun e=>ZaZ e ebh6 (fun z=>nomatch z)
     have ht7:=f7 _ _ ht' (nt6 ht')
     have htb7:=f7 _ _ htb' (nt6 htb')
     have wm':(th,c)∈JL r.1 q (Wg g ls i):=List.mem_of_getElem? hw'
     have ml:m'<(JL r.1 q (Wg g ls i)).length:=(List.getElem?_eq_some_iff.mp hw').1
     refine ⟨t',_,rfl,YB.of ht7,rfl,_,_,rfl,_,_,rfl,rfl,?_⟩
     obtain ⟨b',eb',hb'⟩:=wb6
     cases eb'
     have wb7:Jc G'' (.ref b) r.1:=⟨b,rfl,f7 _ _ hb' (nt6 hb')⟩
     have hp7:G'' hp=some (.dK kvh):=f7 _ _ hp6 (ZaZ hp6 ebh6 (fun z=>nomatch z))
     have ta7:=f7 _ _ ta6 (nt6 ta6)
     have fin:∀(D:Ends) (mo:Int) (G8:Hp),Zi G'' G8 ->
       (∀(G9:Hp),YC bh H6 G9->G9 bh=some (.dT (JQ (GK B th ((Zak B th).getD 0+mo))))->D.nx [some (.ref l),some (.int sc),some (.ref hp),some (.ref bg),some (.int (i:Int)),some (.ref ta),some (.ref bh),some (.ref b),some (.int r.2),some (.ref tb'),some (.bl c),some (.int mo)] G9) ->
       UT (tOp (rI0 fun i j=>V.int (i+j)) (Zi4 (Yv 6) (Yv 9) (tC (V.int 0))) (Yv 11)) (ZhS (Yv 6) (Yv 9) ZfA) D [some (.ref l),some (.int sc),some (.ref hp),some (.ref bg),some (.int (i:Int)),some (.ref ta),some (.ref bh),some (.ref b),some (.int r.2),some (.ref tb'),some (.bl c),some (.int mo)] G8:=by
      intro D mo G8 s8 kD
      have eb8:=s8 _ _ eb7
      have tb8:G8 tb'=some (.tup ((kW th).map kV)):=by rw [Zkj];exact s8 _ _ htb7
      have gv:(Y5 (JQ B) (kW th)).getD (V.int 0)=V.int ((Zak B th).getD 0):=by rw [Zcu];cases Zak B th<;>rfl
      have cl:(JQ B).length=B.length:=by unfold JQ;rw [List.length_map]
      refine ⟨_,rfl,bh,rfl,.inr ⟨_,.inl eb8⟩,_,rfl,_,.inr ⟨JQ B,kW th,tb',.inl eb8,rfl,tb8,rfl⟩,_,rfl,_,_,gv,rfl,?_⟩
      refine ⟨_,rfl,_,rfl,bh,_,rfl,.inr ⟨JQ B,kW th,tb',eb8,rfl,tb8,(by rw [cl,sizeLine_eq];lia),rfl⟩,?_⟩
      refine kD _ ((f7.trans s8.frm).trans YC.upd) ?_
      rw [Zc,Ze0 th _ nd7]
     have don:∀mo:Int,mo=(if WO q (Wg g ls i) r.1=true then 2*r.2 else r.2)->((GK B th ((Zak B th).getD 0+mo)).map (·.1)).Nodup/\(GK B th ((Zak B th).getD 0+mo)).length<=wq q*j+(m'+1)/\OkK m (GK B th ((Zak B th).getD 0+mo)) /\
       ∀ φ,GB φ (GK B th ((Zak B th).getD 0+mo))=GB (bkT q (Wg g ls i) φ) (L.take j)+(((JL r.1 q (Wg g ls i)).take (m'+1)).map fun w=>(if WO q (Wg g ls i) r.1=true then 2*r.2 else r.2) * φ w.1).sum:=fun mo em=>by
      refine ⟨Zdg _ _ nd7,by have:=ZfJ th ((Zak B th).getD 0+mo) B;lia,Zla ok7 (wok (th,c) wm'),fun φ=>?_⟩
      rw [ZfU,sm7,List.take_add_one,hw',List.map_append,List.sum_append,em]
      simp [Int.add_assoc]
     refine ⟨_,rfl,_,rfl,_,rfl,hp,rfl,.inl ⟨_,.inl hp7⟩,_,rfl,_,.inl ⟨kvh,.inl (i:Int),.inl hp7,rfl,rfl⟩,?_⟩
     rw [vh i hi]
     refine ⟨.ref b,ta,q,Wg g ls i,r.1,(by cases Wg g ls i<;>rfl),wb7,ta7,by lia,ft.1,kq,hbn,fun ec=>ZdH ft ptr lr ec wm',fun G8 s8=>⟨_,rfl,ZX (fun cc=>?_) (fun cc=>?_)⟩⟩
     ·refine ⟨_,rfl,_,_,rfl,rfl,.inl ⟨by decide,by decide⟩,?_⟩
      obtain ⟨d1,d2,d3,d4⟩:=don (2*r.2) (by rw [if_pos cc])
      exact fin _ _ G8 s8 fun G9 f9 e9=>⟨_,_,_,_,rfl,f9,e9,d1,d2,d3,d4⟩
     ·obtain ⟨d1,d2,d3,d4⟩:=don r.2 (by rw [if_neg cc])
      exact ⟨_,rfl,fin _ _ G8 s8 fun G9 f9 e9=>⟨_,_,_,_,rfl,f9,e9,d1,d2,d3,d4⟩⟩
    ·rintro σ G'' ⟨B,v9,v10,v11,rfl,f7,eb7,nd7,Bl7,ok7,sm7⟩
     have yl:=Zn4 pw
     rw [yl] at Bl7
     refine ⟨B,_,_,_,_,_,rfl,f6.trans f7,eb7,nd7,by rw [Nat.mul_succ];lia,ok7,fun φ=>?_⟩
     rw [sm7,yl,List.take_length,Zj9 q (Wg g ls i) kq φ r.1 r.2,ZcV _ L j hr']
   ·rintro σ G' ⟨B,v7,v8,v9,v10,v11,rfl,f',ebh,ndB,Bl,okB,smB⟩
    rw [kl] at Bl smB
    refine ⟨_,rfl,bh,B,m,_,_,_,_,_,_,_,_,rfl,fun c u e=>f' c u (sH3 c u e) (Zf e fbhH),fbhH,ebh,ndB,?_,wm,okB,fun φ=>?_⟩
    ·rw [ZlL hq]
     exact Nat.le_trans Bl (Nat.mul_le_mul_left _ Ll)
    ·rw [smB,List.take_length,sm,Zfd hq]
  ·rintro σ G ⟨bg,B,n,v4,v5,v6,v7,v8,v9,v10,v11,rfl,sG,fbg,ebg,nd,Ll,wn,okB,sm⟩
   rw [hxl,List.take_length] at wn
   have n0:=ZeU wn hW
   rw [hxl] at sm
   refine ⟨_,rfl,bg,rfl,.inr ⟨_,.inl ebg⟩,(by show 0<=sizeLine;exact Nat.zero_le _),fun e6 fe6=>?_⟩
   obtain ⟨G1,z,sg1,eg1⟩:=lay (o:=.tup []) fe6
   rw [z];clear z
   refine ⟨_,.inr ⟨JQ B,kW [],e6,.inl (sg1 _ _ ebg),rfl,eg1,rfl⟩,?_⟩
   have e:=Zlc okB n0 nd
   rw [sm] at e
   rw [Zcu]
   have:=k G1 ((s1.trans sG).trans sg1)
   rw [e] at this
   cases hv:Zak B [] with
   | none=>rw [hv] at this;exact this
   | some c=>rw [hv] at this;exact this
abbrev SE:=(List Int×Int)×Addr×Addr×Int
def kk (k:List Int×Int):List Key×Key:=(kW k.1,Sum.inl k.2)
theorem Zf0 {a b:List Int×Int} (h:kk a=kk b):a=b:=by
 unfold kk at h
 injection h with h1 h2
 injection h2 with h2
 exact Prod.ext (ZeK h1) h2
def toP (e:SE):PEn:=(kk e.1,e.2.1,e.2.2.1)
def Zgy (H:Hp) (S:List SE):Prop:=∀e∈S,∃c0:Int,H e.2.2.1=some (.tup [.int c0,.int e.2.2.2])
def Con (H:Hp) (S:List SE):Prop:=Ub H (S.map toP)/\Zgy H S/\(S.map (·.1)).Nodup
theorem Con.mono {H H':Hp}{S:List SE} (h:∀a ws,H a=some (.tup ws)->H' a=some (.tup ws)) (c:Con H S):Con H' S:=⟨c.1.mono h,fun e he=>let ⟨c0,x⟩:=c.2.1 e he;⟨c0,h _ _ x⟩,c.2.2⟩
def ZaM:List SE->List Int×Int->Option SE
 | [],_=>none
 | e::S,k=>if e.1=k then some e else ZaM S k
def GZ:List SE->List Int×Int->Addr->Addr->Int->List SE
 | [],k,b,v,c=>[(k,b,v,c)]
 | e::S,k,b,v,c=>if e.1=k then (e.1,e.2.1,v,c)::S else e::GZ S k b v c
def Wf (φ:List Int->Int) (S:List SE):Int:=(S.map fun e=>e.2.2.2 * φ e.1.1).sum
theorem GA (φ:List Int->Int) (e:SE) (S:List SE):Wf φ (e::S)=e.2.2.2 * φ e.1.1+Wf φ S:=by unfold Wf;rw [List.map_cons,List.sum_cons]
def Zdb (S:List SE) (k:List Int×Int):Int:=((ZaM S k).map (·.2.2.2)).getD 0
theorem ZcJ (φ:List Int->Int) (k:List Int×Int) (b v:Addr) (m:Int):∀S:List SE,Wf φ (GZ S k b v (Zdb S k+m))=Wf φ S+m * φ k.1
 | []=>by show Wf φ [(k,b,v,0+m)]=Wf φ []+m * φ k.1;rw [GA];show (0+m) * φ k.1+0=0+m * φ k.1;rw [Int.zero_add,Int.add_zero,Int.zero_add]
 | e::S=>by
  unfold GZ Zdb ZaM
  by_cases c:e.1=k
  ·rw [if_pos c,if_pos c,GA,GA]
   show (e.2.2.2+m) * φ e.1.1+_=_
   rw [c,Int.add_mul,Int.add_right_comm]
  ·rw [if_neg c,if_neg c,GA,GA]
   have:=ZcJ φ k b v m S
   unfold Zdb at this
   rw [this,Int.add_assoc]
theorem Zfp (k:List Int×Int) (b v:Addr) (c:Int):∀(S:List SE),∀x,x∈(GZ S k b v c).map (·.1) ↔ x=k∨x∈S.map (·.1)
 | [],x=>by simp [GZ]
 | e::S,x=>by
  unfold GZ
  split
  ·rename_i c;rw [List.map_cons,List.mem_cons,List.map_cons,List.mem_cons,c];simp
  ·rw [List.map_cons,List.mem_cons,Zfp k b v c S x,List.map_cons,List.mem_cons,or_left_comm]
theorem ZcP (k:List Int×Int) (b v:Addr) (c:Int):∀{S:List SE},(S.map (·.1)).Nodup->((GZ S k b v c).map (·.1)).Nodup
 | [],_=>by simp [GZ]
 | e::S,nd=>by
  rw [List.map_cons,List.nodup_cons] at nd
  unfold GZ
  split
  ·rw [List.map_cons,List.nodup_cons];exact nd
  ·rename_i d
   rw [List.map_cons,List.nodup_cons,Zfp]
   exact ⟨fun z=>z.elim d nd.1,ZcP k b v c nd.2⟩
theorem ZcD (k:List Int×Int) (b v:Addr) (c:Int):∀(S:List SE),(GZ S k b v c).length<=S.length+1
 | []=>Nat.le_refl _
 | e::S=>by
  unfold GZ
  split
  ·exact Nat.le_succ _
  ·exact Nat.succ_le_succ (ZcD k b v c S)
theorem Zbp {p:SE->Prop}{k:List Int×Int}{b v:Addr}{c:Int}:∀{S:List SE},(∀e∈S,p e)->p (k,b,v,c)->(∀e∈S,e.1=k->p (e.1,e.2.1,v,c)) -> ∀e∈GZ S k b v c,p e
 | [],_,h2,_,e,he=>by rw [List.mem_singleton.mp he];exact h2
 | e0::S,h1,h2,h3,e,he=>by
  unfold GZ at he
  split at he
  ·rename_i d
   rcases List.mem_cons.mp he with rfl | he
   ·exact h3 e0 List.mem_cons_self d
   ·exact h1 e (List.mem_cons_of_mem _ he)
  ·rcases List.mem_cons.mp he with rfl | he
   ·exact h1 _ List.mem_cons_self
   ·exact Zbp (fun x hx=>h1 x (List.mem_cons_of_mem _ hx)) h2 (fun x hx=>h3 x (List.mem_cons_of_mem _ hx)) e he
theorem ZeT {k:List Int×Int}:∀{S:List SE}{e:SE},ZaM S k=some e->e∈S/\e.1=k
 | e0::S,e,h=>by
  unfold ZaM at h
  split at h
  ·rename_i c
   injection h with h
   subst h
   exact ⟨List.mem_cons_self,c⟩
  ·obtain ⟨a,b⟩:=ZeT h
   exact ⟨List.mem_cons_of_mem _ a,b⟩
theorem Zeg:∀{S:List SE}{j:Nat}{e:SE},(S.map (·.1)).Nodup->S[j]? = some e->ZaM S e.1=some e
 | e0::S,0,e,_,h=>by
  simp at h
  subst h
  unfold ZaM
  rw [if_pos rfl]
 | e0::S,j+1,e,nd,h=>by
  rw [List.map_cons,List.nodup_cons] at nd
  have h:S[j]? = some e:=by simpa using h
  unfold ZaM
  rw [if_neg (fun z=>nd.1 (by rw [z];exact List.mem_map.mpr ⟨e,List.mem_of_getElem? h,rfl⟩))]
  exact Zeg nd.2 h
theorem ZaS (k:List Int×Int):∀S:List SE,ZeM (S.map toP) (kk k)=(ZaM S k).map (·.2.2.1)
 | []=>rfl
 | e::S=>by
  have ih:=ZaS k S
  unfold ZeM at ih ⊢
  unfold ZaM
  rw [List.map_cons,List.find?_cons]
  by_cases c:e.1=k
  ·rw [if_pos c,show decide ((toP e).1=kk k)=true from decide_eq_true (by show kk e.1=kk k;rw [c])]
   rfl
  ·rw [if_neg c,show decide ((toP e).1=kk k)=false from decide_eq_false (fun z=>c (Zf0 z))]
   exact ih
theorem Zhu (k:List Int×Int) (b v:Addr) (c:Int):∀{S:List SE},(S.map (·.1)).Nodup->Zgw (S.map toP) (kk k) b v=(GZ S k b v c).map toP
 | [],_=>rfl
 | e::S,nd=>by
  rw [List.map_cons,List.nodup_cons] at nd
  have ih:=Zhu k b v c nd.2
  unfold Zgw at ih ⊢
  rw [ZaS] at ih ⊢
  unfold GZ ZaM
  by_cases d:e.1=k
  ·rw [if_pos d,if_pos d,if_pos (show ((some e).map (·.2.2.1)).isSome=true from rfl),List.map_cons,List.map_cons,List.map_cons,if_pos (show (toP e).1=kk k by show kk e.1=kk k;rw [d])]
   refine congrArg _ ?_
   rw [List.map_map]
   refine List.map_congr_left fun x hx=>?_
   exact if_neg (fun z=>nd.1 (by rw [d,<- Zf0 z];exact List.mem_map.mpr ⟨x,hx,rfl⟩))
  ·rw [if_neg d,if_neg d,List.map_cons]
   by_cases y:((ZaM S k).map (·.2.2.1)).isSome=true
   ·rw [if_pos y] at ih ⊢
    rw [List.map_cons,if_neg (show ¬(toP e).1=kk k from fun z=>d (Zf0 z)),ih,List.map_cons]
   ·rw [if_neg y] at ih ⊢
    rw [List.map_cons,<- ih]
    rfl
theorem Zj8 {H:Hp}{S:List SE}{k:List Int×Int}{b v:Addr}{c c0:Int} (h:Con H S) (hb:Ul H (kk k) b) (hv:H v=some (.tup [.int c0,.int c])):Con H (GZ S k b v c):=by
 refine ⟨fun x hx=>?_,?_,ZcP k b v c h.2.2⟩
 ·obtain ⟨e,he,rfl⟩:=List.mem_map.mp hx
  exact Zbp (p:=fun e=>Ul H (kk e.1) e.2.1) (fun e he=>h.1 _ (List.mem_map.mpr ⟨e,he,rfl⟩)) hb (fun e he _=>h.1 _ (List.mem_map.mpr ⟨e,he,rfl⟩)) e he
 ·exact Zbp h.2.1 ⟨c0,hv⟩ fun e _ _=>⟨c0,hv⟩
theorem ZjJ {q:Str×Int}{h:Option Int} {φ:List Int->Int}{ps:List Int} (e:UJ ps q=none):bkT q h φ ps=0:=by unfold bkT;rw [e]
theorem ZcH {q:Str×Int}{h:Option Int} {φ:List Int->Int}{ps r:List Int} (e:UJ ps q=some r):bkT q h φ ps=(if WO q h ps=true then 2 else 1) * φ r+(if q.1 = "cross" /\ h=some 0/\Zb6 ps q.2.toNat=false then φ ps else 0):=by unfold bkT;rw [e]
theorem Zc8 (φ:List Int->Int) (L:List SE) (j:Nat) {r:SE} (h:L[j]? = some r):Wf φ (L.take (j+1))=Wf φ (L.take j)+r.2.2.2 * φ r.1.1:=by
 unfold Wf
 rw [List.take_add_one,h,List.map_append,List.sum_append]
 simp
def OkS (n:Int) (S:List SE):Prop:=∀e∈S,PtL e.1.1/\(e.1.1.length:Int)=n
theorem Zhb {n:Int}{S:List SE}{k:List Int×Int}{b v:Addr}{c:Int} (h:OkS n S) (hk:PtL k.1/\(k.1.length:Int)=n):OkS n (GZ S k b v c):=Zbp h hk fun e he _=>h e he
def tkA:TE:=(ZdB (YM (Yv 6) (YM (tOp (rI0 fun i j=>V.int (i+j)) (Yv 7) (tC (V.int 1))) U3)))
def tkB:TE:=(ZdB (YM (tCB (fun xs H Q=>∃p ys,xs = [V.ref p]/\H p=some (HO.lst ys) /\ ∀(l:Addr),H l=none->Q (V.ref l) (upd H l (HO.tup ys))) (YM (Yv 9) U3)) (YM (Yv 7) U3)))
def Zms (P:Program) (w:World) (K:PySem.W.Frag) (tk tm:TE):TS:=(Ux (UT (Zjk P w (Yv 5) tk (ZdB (YM (tC (V.int 0)) (YM (tC (V.int 0)) U3)))) (Ju 11)) (UT (ZdB (YM (tOp (rI0 fun i j=>V.int (i+j)) (tOp (Zdm K) (Yv 11) (tC (V.int 0))) (tOp (Zdm K) (Yv 8) (tC (V.int 0)))) (YM (tOp (rI0 fun i j=>V.int (i+j)) (tOp (Zdm K) (Yv 11) (tC (V.int 1))) tm) U3))) (ZhS (Yv 5) tk (ZlZ P w))))
def Zks (K:PySem.W.Frag):TS:=(UT (tOp (rI0 fun i j=>V.int (i+j)) (tC (V.int 1)) (tCB (fun xs H Q=>(∃i,xs = [V.int i]/\Q (V.int i) H) ∨ ∃k,xs = [V.bl k]/\Q (V.int (if k=true then 1 else 0)) H) (YM (ZlO (tOp rEq (tOp (Zdm K) (Yv 3) (tC (V.int 0))) (tC (V.str (Str.ofString "end")))) (tOp rEq (Yv 1) (tC (V.int 1)))) U3))) (Ju 10))
def ZmN (P:Program) (w:World) (K:PySem.W.Frag):TS:=(Zew (ZkN (Zd8 (tOp rEq (tOp (Zdm K) (Yv 3) (tC (V.int 0))) (tC (V.str (Str.ofString "cross"))))) (ZkN (Zd8 (tOp (fun x y H Q=>y=V.non/\Q (V.bl (!decide (x=V.non))) H) (Yv 9) (tC V.non))) (Zd8 (tOp rEq (Yv 4) (tC (V.int 0)))))) (Zew (tB (Zd4 Zck [] E0 (YM (Yv 6) (YM (tOp (Zdm K) (Yv 3) (tC (V.int 1))) U3)))) (Zms P w K tkA (tOp (Zdm K) (Yv 8) (tC (V.int 1)))) (UT (tC (V.int 2)) (Ju 10))) Zhn)
def ZiJ (P:Program) (w:World) (K:PySem.W.Frag):TS:=(Zew (Zd8 (tOp (fun x y H Q=>y=V.non/\Q (V.bl (!decide (x=V.non))) H) (Yv 9) (tC V.non))) (Zms P w K tkB (tOp (rI ZlC fun i j=>V.int (i*j)) (Yv 10) (tOp (Zdm K) (Yv 8) (tC (V.int 1))))) Zhn)
def ZlV (P:Program) (w:World) (K:PySem.W.Frag):TS:=(Ux (UT (ZiQ P w (Yv 2) (ZdB (YM (Yv 6) (YM (Yv 7) U3)))) (Ju 8)) (Ux (UT (Zd4 Zco [] E0 (YM (tCB (fun xs H Q=>∃p ys,xs = [V.ref p]/\(Zw K H p ys∨YB K H p ys) /\ ∀(l:Addr),H l=none->Q (V.ref l) (upd H l (HO.lst ys))) (YM (Yv 6) U3)) (YM (Yv 3) U3))) (Ju 9)) (Ux (Zks K) (Ux (ZmN P w K) (ZiJ P w K)))))
def Zn7 (P:Program) (w:World) (K:PySem.W.Frag):TS:=Ux (UT (ZiC P w (ZdB (YM (ZdB U3) (YM (tC (V.int 0)) U3))) (ZdB (YM (tC (V.int 1)) (YM (tC (V.int 1)) U3)))) (Ju 2)) (Ux (Zlg (Zmq K (YM (Yv 0) (YM (Zd4 Zd9 [] E0 (YM (Yv 0) (YM (Yv 1) U3))) U3))) (Zi8 K 2 (Zc4 (Ju 3) (Zc4 (Ju 4) ZlB))) (Ux (UT (ZlU P w) (Ju 5)) (Ux (Zlg (Zjb P w (Yv 2)) (Zi8 K 2 (Zc4 (Ju 6) (Zc4 (Ju 7) ZlB))) (ZlV P w K)) (UT (Yv 5) (Ju 2))))) (Ux (UT Zka (Ju 12)) (Ux (Zlg (Zjb P w (Yv 2)) (Zi8 K 2 (Zc4 (Ju 6) (Zc4 (Ju 7) ZlB))) (UT (ZiQ P w (Yv 2) (ZdB (YM (Yv 6) (YM (Yv 7) U3)))) (ZhS (Yv 12) (Yv 7) ZfA))) (ZnO (Yv 12)))))
theorem ZhD {D:Ends}{tk tm:TE}{x0 x1 x2 x3 x4 x6 x7 x9 x10 x11 x12:Option V}{bl hv:Addr}{k:List Int×Int}{h0 h1 m:Int}{S:List SE}{G:Hp}
  (hk:∀(x:Option V) (G1:Hp) (R:VK),Zi G G1->(∀t G2,Zi G1 G2->Ul G2 (kk k) t->R (.ref t) G2)->tk [x0,x1,x2,x3,x4,some (.ref bl),x6,x7,some (.ref hv),x9,x10,x,x12] G1 R)
  (hm:∀(x:Option V) (G1:Hp) (R:VK),Zi G G1->R (.int m) G1->tm [x0,x1,x2,x3,x4,some (.ref bl),x6,x7,some (.ref hv),x9,x10,x,x12] G1 R)
  (e:G bl=some (DPo P w bl (S.map toP))) (cn:Con G S) (hh:G hv=some (.tup [.int h0,.int h1])) (sz:S.length<40000)
  (kD:∀(v b:Addr) (x:Option V) (G':Hp),YC bl G G'->G' bl=some (DPo P w bl ((GZ S k b v (Zdb S k+m)).map toP))->Con G' (GZ S k b v (Zdb S k+m))->D.nx [x0,x1,x2,x3,x4,some (.ref bl),x6,x7,some (.ref hv),x9,x10,x,x12] G'):
  Zms P w K tk tm D [x0,x1,x2,x3,x4,some (.ref bl),x6,x7,some (.ref hv),x9,x10,x11,x12] G:=by
 refine ⟨_,rfl,bl,_,rfl,.inl e,cn.1,hk _ G _ (Zi.refl _) fun t G1 s1 k1=>⟨(by show 2<=sizeLine;decide),fun d fd=>?_⟩⟩
 obtain ⟨G2,z,s2,e2⟩:=lay (o:=.tup [.int 0,.int 0]) fd
 rw [z];clear z
 have s02:=s1.trans s2
 have c2:=cn.mono (fun a ws q=>s02 _ _ q)
 refine ⟨_,kk k,t,d,.inl (s02 _ _ e),c2.1,rfl,k1.mono (fun a ws q=>s2 _ _ q),rfl,?_⟩
 rw [ZaS]
 obtain ⟨av,a0,eav,hav⟩:∃(av:Addr) (a0:Int),((ZaM S k).map (·.2.2.1)).getD d=av/\G2 av=some (.tup [.int a0,.int (Zdb S k)]):=by
  unfold Zdb
  cases hv:ZaM S k with
  | none=>exact ⟨d,0,rfl,e2⟩
  | some en=>
   obtain ⟨c0,hc⟩:=c2.2.1 en (ZeT hv).1
   exact ⟨en.2.2.1,c0,rfl,hc⟩
 rw [eav]
 have hh2:=s02 _ _ hh
 refine ⟨_,rfl,av,_,_,_,rfl,rfl,YB.of hav,Zo (j:=0) rfl,_,rfl,hv,_,_,_,rfl,rfl,YB.of hh2,Zo (j:=0) rfl,_,_,rfl,rfl,?_⟩
 refine ⟨_,rfl,av,_,_,_,rfl,rfl,YB.of hav,Zo (j:=1) rfl,hm _ _ _ s02 ⟨_,_,rfl,rfl,(by show 2<=sizeLine;decide),fun v fv=>?_⟩⟩
 obtain ⟨G3,z,s3,e3⟩:=lay (o:=.tup [.int (a0+h0),.int (Zdb S k+m)]) fv
 rw [z];clear z
 have s03:=s02.trans s3
 refine ⟨_,rfl,hk _ G3 _ s03 fun b G4 s4 k4=>?_⟩
 have s04:=s03.trans s4
 have c4:=cn.mono (fun a ws q=>s04 _ _ q)
 refine ⟨bl,_,kk k,b,v,rfl,rfl,rfl,s04 _ _ e,c4.1,k4,(by rw [List.length_map,sizeLine_eq];lia),?_⟩
 rw [Zhu k b v (Zdb S k+m) c4.2.2]
 have e4:=s04 _ _ e
 have nt:∀(a:Addr) (ws:List V),G4 a=some (.tup ws)->a≠bl:=fun a ws q z=>by rw [z,e4] at q;cases q
 refine kD v b _ _ (s04.frm.trans YC.upd) Zc ((Zj8 c4 k4 (s4 _ _ e3)).mono fun a ws q=>by rw [Zh (nt a ws q)];exact q)
theorem ZgY {D:Ends}{T:TS}{x0 x2 x4 x5 x6 x7 x8 x9 x10 x11 x12:Option V}{sc:Int}{ta:Addr}{q:Str×Int}{G:Hp} (hta:G ta=some (.tup [.str q.1,.int q.2]))
  (k:∀o:Int,o=(if q.1 = "end" /\ sc=1 then 2 else 1)->T D [x0,some (.int sc),x2,some (.ref ta),x4,x5,x6,x7,x8,x9,some (.int o),x11,x12] G):
  Ux (Zks K) T D [x0,some (.int sc),x2,some (.ref ta),x4,x5,x6,x7,x8,x9,x10,x11,x12] G:=by
 refine ⟨_,rfl,ta,_,_,_,rfl,rfl,YB.of hta,Zo (j:=0) rfl,rfl,_,rfl,ZX (fun c=>?_) (fun c=>?_)⟩
 ·have ee:q.1 = "end" := by
   have:=of_decide_eq_true c
   injection this
  refine ⟨_,rfl,rfl,.inr ⟨_,rfl,_,_,rfl,rfl,k _ ?_⟩⟩
  by_cases d:sc=1
  ·rw [if_pos (show decide (V.int sc=V.int 1)=true by rw [d];exact decide_eq_true rfl),if_pos ⟨ee,d⟩];rfl
  ·rw [if_neg (show ¬decide (V.int sc=V.int 1)=true from fun z=>d (by have:=of_decide_eq_true z;injection this)),if_neg fun z=>d z.2];rfl
 ·have ne:q.1 ≠ "end" := fun z=>c (by rw [z];exact decide_eq_true rfl)
  exact .inr ⟨_,rfl,_,_,rfl,rfl,k _ (by show (1:Int)+0=_;rw [if_neg fun z=>ne z.1];rfl)⟩
theorem ZiZ {D:Ends}{x0 x8 x9 x10 x11 x12:Option V}{sc pw:Int}{st ta bl b:Addr}{h:Option Int}{q:Str×Int}{n m:Int}{ps:List Int}{L S:List SE}{en:SE}{G:Hp}
  (rs:Rd G st (DPo P w st (L.map toP))) (cL:Con G L) (hen:ZaM L (ps,pw)=some en) (hb:G b=some (.tup ((kW ps).map kV))) (e:G bl=some (DPo P w bl (S.map toP))) (cn:Con G S) (sz:S.length<30000) (okS:OkS m S)
  (hta:G ta=some (.tup [.str q.1,.int q.2])) (ft:Zf5 q n m) (pt:PtL ps) (hl:(ps.length:Int)=n) (l200:ps.length<=200) (kq:q.1 = "born" ∨ q.1 = "end" ∨ q.1 = "cross")
  (hc:q.1 = "cross" -> h≠none) (hbn:q.1 = "born" -> h=none) (hed:q.1 = "end" -> h=some (1-sc))
  (kD:∀(S':List SE) (y8 y9 y10 y11:Option V) (G':Hp),YC bl G G'->G' bl=some (DPo P w bl (S'.map toP))->Con G' S'->S'.length<=S.length+wq q->OkS m S'->(∀ φ,Wf φ S'=Wf φ S+en.2.2.2*bkT q h φ ps) ->
   D.nx [x0,some (.int sc),some (.ref st),some (.ref ta),some (oI h),some (.ref bl),some (.ref b),some (.int pw),y8,y9,y10,y11,x12] G'):
  ZlV P w K D [x0,some (.int sc),some (.ref st),some (.ref ta),some (oI h),some (.ref bl),some (.ref b),some (.int pw),x8,x9,x10,x11,x12] G:=by
 obtain ⟨c0,hva⟩:=cL.2.1 en (ZeT hen).1
 refine ⟨_,rfl,_,rfl,_,rfl,(by show 2<=sizeLine;decide),fun t ft1=>?_⟩
 obtain ⟨G1,z,s1,e1⟩:=lay (o:=.tup [.ref b,.int pw]) ft1
 rw [z];clear z
 have rs1:Rd G1 st (DPo P w st (L.map toP)):=rs.elim (fun x=>.inl (s1 _ _ x)) fun ⟨o,x⟩=>.inr ⟨o,s1 _ _ x⟩
 refine ⟨st,_,kk (ps,pw),t,en.2.2.1,rfl,rs1,(cL.mono fun a ws x=>s1 _ _ x).1,rfl,⟨b,e1,s1 _ _ hb⟩,(by rw [ZaS,hen];rfl),?_⟩
 have hb1:G1 b=some (.tup (ps.map V.int)):=by rw [<- Zkj];exact s1 _ _ hb
 refine ⟨_,rfl,b,_,rfl,.inr (YB.of hb1),fun l fl=>?_⟩
 obtain ⟨G2,z,s2,e2⟩:=lay (o:=.lst (ps.map V.int)) fl
 rw [z];clear z
 have s02:=s1.trans s2
 refine ⟨_,rfl,l,ta,q,ps,rfl,e2,s02 _ _ hta,l200,pt,ft.1,?_,kq,fun mv G3 s3=>?_,fun r p G3 mv s3 fp ep=>?_⟩
 ·intro nb
  rcases ft.2 with ⟨e,_⟩ | ⟨_,e,_⟩ | ⟨_,e,_⟩
  ·exact absurd e nb
  ·lia
  ·lia
 ·have hta3:=s3 _ _ (s02 _ _ hta)
  have s03:=s02.trans s3
  show Ux (Zks K) (Ux (ZmN P w K) (ZiJ P w K)) D [x0,some (.int sc),some (.ref st),some (.ref ta),some (oI h),some (.ref bl),some (.ref b),some (.int pw),some (.ref en.2.2.1),some V.non,x10,x11,x12] G3
  refine ZgY hta3 fun o eo=>?_
  have nn:(!decide (V.non=V.non))=false:=by simp
  have fin:ZiJ P w K D [x0,some (.int sc),some (.ref st),some (.ref ta),some (oI h),some (.ref bl),some (.ref b),some (.int pw),some (.ref en.2.2.1),some V.non,some (.int o),x11,x12] G3:=by
   refine ⟨_,rfl,rfl,_,rfl,?_⟩
   rw [nn]
   refine WE (kD S _ _ _ _ G3 s03.frm (s03 _ _ e) (cn.mono fun a ws x=>s03 _ _ x) (Nat.le_add_right _ _) okS fun φ=>?_)
   rw [ZjJ mv,Int.mul_zero,Int.add_zero]
  refine ⟨_,rfl,ta,_,_,_,rfl,rfl,YB.of hta3,Zo (j:=0) rfl,rfl,_,rfl,ZX (fun c=>?_) (fun c=>?_)⟩
  ·refine ⟨_,rfl,rfl,_,rfl,?_⟩
   rw [nn]
   exact WE (WE fin)
  ·exact WE fin
 ·have hta3:=s3 _ _ (s02 _ _ hta)
  have s03:=s02.trans s3
  show Ux (Zks K) (Ux (ZmN P w K) (ZiJ P w K)) D [x0,some (.int sc),some (.ref st),some (.ref ta),some (oI h),some (.ref bl),some (.ref b),some (.int pw),some (.ref en.2.2.1),some (.ref p),x10,x11,x12] G3
  refine ZgY hta3 fun o eo=>?_
  have nn:(!decide (V.ref p=V.non))=true:=by simp
  obtain ⟨rpt,rlen⟩:=Zjd pt hl ft mv
  have hva3:=s03 _ _ hva
  have c3:=cn.mono fun a ws x=>s03 _ _ x
  have e3:=s03 _ _ e
  have hb3:G3 b=some (.tup ((kW ps).map kV)):=s03 _ _ hb
  have w2:wq q<=2:=by unfold wq;split<;>lia
  have fin:∀(S1:List SE) (o:Int) (y11:Option V) (G4:Hp),YC bl G3 G4->G4 bl=some (DPo P w bl (S1.map toP))->Con G4 S1->S1.length+1<=S.length+wq q->(-(2 ^ 64)<o/\o<2 ^ 64)->OkS m S1->(∀ φ,Wf φ S1+(o*en.2.2.2) * φ r=Wf φ S+en.2.2.2*bkT q h φ ps) ->
    ZiJ P w K D [x0,some (.int sc),some (.ref st),some (.ref ta),some (oI h),some (.ref bl),some (.ref b),some (.int pw),some (.ref en.2.2.1),some (.ref p),some (.int o),y11,x12] G4:=by
   intro S1 o y11 G4 f4 e4 c4 sz4 ob ok4 sm
   have np:p≠bl:=fun z=>by rw [z,s02 _ _ e] at fp;cases fp
   have hp4:=f4 _ _ ep np
   have hva4:G4 en.2.2.1=some (.tup [.int c0,.int en.2.2.2]):=f4 _ _ hva3 (fun z=>by rw [z,e3] at hva3;cases hva3)
   refine ⟨_,rfl,rfl,_,rfl,?_⟩
   rw [nn]
   refine Za9 (ZhD (k:=(r,pw)) (m:=o*en.2.2.2) (h0:=c0) (h1:=en.2.2.2) (S:=S1) ?_ ?_ e4 c4 hva4 (by lia) fun v b' x G' f' e' c'=>?_)
   ·intro x G5 R s5 kR
    refine ⟨_,rfl,p,_,rfl,s5 _ _ hp4,fun u fu=>?_⟩
    obtain ⟨G6,z,s6,e6⟩:=lay (o:=.tup (r.map V.int)) fu
    rw [z];clear z
    refine ⟨_,rfl,(by show 2<=sizeLine;decide),fun t5 ft5=>?_⟩
    obtain ⟨G7,z,s7,e7⟩:=lay (o:=.tup [.ref u,.int pw]) ft5
    rw [z];clear z
    exact kR t5 G7 (s6.trans s7) ⟨u,e7,by rw [show ((kk (r,pw)).1.map kV)=r.map V.int from Zkj _];exact s7 _ _ e6⟩
   ·intro x G5 R s5 kR
    exact ⟨_,rfl,_,rfl,en.2.2.1,_,_,_,rfl,rfl,YB.of (s5 _ _ hva4),Zo (j:=1) rfl,_,_,rfl,rfl,.inl ob,kR⟩
   ·refine kD _ _ _ _ _ G' ((s03.frm.trans f4).trans f') e' c' (by have:=ZcD (r,pw) b' v (Zdb S1 (r,pw)+o*en.2.2.2) S1;lia) (Zhb ok4 ⟨rpt,rlen⟩) fun φ=>?_
    rw [ZcJ]
    exact sm φ
  have one:∀ φ,(WO q h ps=false) -> ¬(q.1 = "cross" /\ h=some 0/\Zb6 ps q.2.toNat=false)->Wf φ S+(1*en.2.2.2) * φ r=Wf φ S+en.2.2.2*bkT q h φ ps:=fun φ f0 nc=>by
   rw [ZcH mv,f0,if_neg nc,if_neg (by decide),Int.one_mul,Int.one_mul,Int.add_zero]
  have two:∀ φ,(WO q h ps=true) -> ¬(q.1 = "cross" /\ h=some 0/\Zb6 ps q.2.toNat=false)->Wf φ S+(2*en.2.2.2) * φ r=Wf φ S+en.2.2.2*bkT q h φ ps:=fun φ f1 nc=>by
   rw [ZcH mv,f1,if_neg nc,if_pos rfl,Int.add_zero,Int.mul_comm 2,Int.mul_assoc]
  have w1:1<=wq q:=by unfold wq;split<;>lia
  have eo2 : -(2 ^ 64)<o/\o<2 ^ 64:=by rw [eo];split<;>decide
  refine ⟨_,rfl,ta,_,_,_,rfl,rfl,YB.of hta3,Zo (j:=0) rfl,rfl,_,rfl,ZX (fun c=>?_) (fun c=>?_)⟩
  ·have ec:q.1 = "cross" := by
    have:=of_decide_eq_true c
    injection this
   have o1:o=1:=by rw [eo,if_neg fun z=>absurd (ec.symm.trans z.1) (by decide)]
   subst o1
   refine ⟨_,rfl,rfl,_,rfl,?_⟩
   rw [nn]
   obtain ⟨i,rfl⟩:∃i,h=some i:=by
    cases h with
    | none=>exact absurd rfl (hc ec)
    | some i=>exact ⟨i,rfl⟩
   refine Za9 ⟨_,rfl,rfl,_,rfl,ZX (fun c1=>?_) (fun c1=>?_)⟩
   ·have i0:i=0:=by
     have:=of_decide_eq_true c1
     injection this
    subst i0
    obtain ⟨kn,hkn⟩:=Int.eq_ofNat_of_zero_le ft.1
    have tw:=ZdH ft pt hl ec (h:=some 0) (w:=(r,false)) (by rw [Zcs ps q _ kq,mv];exact List.mem_cons_self)
    rw [hkn,Int.toNat_natCast] at tw
    refine ⟨_,rfl,_,rfl,ta,_,_,_,rfl,rfl,YB.of hta3,Zo (j:=1) rfl,b,kn,_,_,ps,by rw [hkn];rfl,by rw [<- Zkj];exact hb3,l200,tw,_,rfl,ZX (fun c2=>?_) (fun c2=>?_)⟩
    ·have tq:Zb6 ps q.2.toNat=false:=by
      rw [hkn,Int.toNat_natCast]
      unfold Zb6
      simpa using c2
     have f0:WO q (some 0) ps=false:=by
      unfold WO
      rw [tq,decide_eq_false (fun z=>absurd (ec.symm.trans z) (by decide))]
      simp
     refine ZhD (k:=(ps,pw+1)) (m:=en.2.2.2) (h0:=c0) (h1:=en.2.2.2) (S:=S) ?_ ?_ e3 c3 hva3 (by lia) fun v b' x G' f' e' c'=>?_
     ·intro x G5 R s5 kR
      refine ⟨_,rfl,_,rfl,_,_,rfl,rfl,(by show 2<=sizeLine;decide),fun t5 ft5=>?_⟩
      obtain ⟨G7,z,s7,e7⟩:=lay (o:=.tup [.ref b,.int (pw+1)]) ft5
      rw [z];clear z
      exact kR t5 G7 s7 ⟨b,e7,s7 _ _ (s5 _ _ hb3)⟩
     ·intro x G5 R s5 kR
      exact ⟨_,rfl,en.2.2.1,_,_,_,rfl,rfl,YB.of (s5 _ _ hva3),Zo (j:=1) rfl,kR⟩
     ·refine fin _ 1 _ G' f' e' c' ?_ ⟨by decide,by decide⟩ (Zhb okS ⟨pt,?_⟩) fun φ=>?_
      ·have:=ZcD (ps,pw+1) b' v (Zdb S (ps,pw+1)+en.2.2.2) S
       have:wq q=2:=by unfold wq;rw [if_pos ec]
       lia
      ·rcases ft.2 with ⟨x,_⟩ | ⟨_,_,x⟩ | ⟨x,_⟩
       ·exact absurd (x.symm.trans ec) (by decide)
       ·rw [x];exact hl
       ·exact absurd (x.symm.trans ec) (by decide)
      ·rw [ZcJ,ZcH mv,f0,if_neg (show ¬(false=true) by decide),if_pos ⟨ec,rfl,tq⟩,Int.one_mul,Int.one_mul,Int.mul_add,Int.add_assoc,Int.add_comm (en.2.2.2 * φ r)]
    ·have tq:Zb6 ps q.2.toNat=true:=by
      rw [hkn,Int.toNat_natCast]
      unfold Zb6
      simpa using c2
     have f1:WO q (some 0) ps=true:=by
      unfold WO
      rw [tq,decide_eq_true ec]
      simp
     exact fin S 2 _ G3 (YC.refl _ _) e3 c3 (by lia) ⟨by decide,by decide⟩ okS fun φ=>two φ f1 fun z=>by rw [tq] at z;exact absurd z.2.2 (by decide)
   ·have i0:i≠0:=fun z=>c1 (by rw [z];exact decide_eq_true rfl)
    have f0:WO q (some i) ps=false:=by
     unfold WO
     rw [decide_eq_false (fun z=>i0 (by injection z)),Bool.false_and]
    exact fin S 1 _ G3 (YC.refl _ _) e3 c3 (by lia) ⟨by decide,by decide⟩ okS fun φ=>one φ f0 fun z=>i0 (by injection z.2.1)
  ·have nc:q.1 ≠ "cross" := fun z=>c (by rw [z];exact decide_eq_true rfl)
   refine WE ?_
   rcases kq with eb | ee | ec
   ·have o1:o=1:=by rw [eo,if_neg fun z=>absurd (eb.symm.trans z.1) (by decide)]
    subst o1
    refine fin S 1 _ G3 (YC.refl _ _) e3 c3 (by lia) ⟨by decide,by decide⟩ okS fun φ=>one φ ?_ fun z=>nc z.1
    rw [hbn eb]
    rfl
   ·by_cases s1':sc=1
    ·have o2:o=2:=by rw [eo,if_pos ⟨ee,s1'⟩]
     subst o2
     refine fin S 2 _ G3 (YC.refl _ _) e3 c3 (by lia) ⟨by decide,by decide⟩ okS fun φ=>two φ ?_ fun z=>nc z.1
     unfold WO
     rw [hed ee,s1',decide_eq_true ee]
     rfl
    ·have o1:o=1:=by rw [eo,if_neg fun z=>s1' z.2]
     subst o1
     refine fin S 1 _ G3 (YC.refl _ _) e3 c3 (by lia) ⟨by decide,by decide⟩ okS fun φ=>one φ ?_ fun z=>nc z.1
     unfold WO
     rw [hed ee,decide_eq_false (fun z=>s1' (by injection z;lia)),Bool.false_and]
   ·exact absurd ec nc
def ZgG:Sp:=fun vs H Q _=>∃(l:Addr) (sc:Int) (ls:List (Str×Int)) (g:Int->Int),vs = [.ref l,.int sc]/\(sc=0∨sc=1)/\Drw H l ls/\HG sc ls g/\nX ls<=13 /\
 ∀(p:Addr) (H':Hp) (L:List SE),Zi H H'->H p=none->H' p=some (.dK (L.map fun e=>(Sum.inl e.1.2,V.ref e.2.2.1)))->Zgy H' L->(L.map fun e=>e.1.2).Nodup->L.length<=8192->Wf (fun _=>1) L=bkR ls (Wg g ls) ls.length (fun _=>1)->Q (.ref p) H'
theorem Zjp {H:Hp}{Q:VK} (l:Addr) (sc:Int) (ls:List (Str×Int)) (g:Int->Int) (hsc:sc=0∨sc=1) (dr:Drw H l ls) (hg:HG sc ls g) (n13:nX ls<=13)
  (k:∀(p:Addr) (H':Hp) (L:List SE),Zi H H'->H p=none->H' p=some (.dK (L.map fun e=>(Sum.inl e.1.2,V.ref e.2.2.1)))->Zgy H' L->(L.map fun e=>e.1.2).Nodup->L.length<=8192->Wf (fun _=>1) L=bkR ls (Wg g ls) ls.length (fun _=>1)->Q (.ref p) H'):
  Zn7 P w K { nx:=fun x H'=>Q V.non H',rt:=Q } [some (.ref l),some (.int sc),none,none,none,none,none,none,none,none,none,none,none] H:=by
 obtain ⟨xs,hl,hL,hW,hlen⟩:=id dr
 have hxl:=hL.len
 have pw13:∀i,2 ^ nX (ls.take i)<=8192:=fun i=>Nat.le_trans (Nat.pow_le_pow_right (by decide) (Nat.le_trans (ZgR ls i) n13)) (by decide)
 refine fun st0 fst=>?_
 obtain ⟨H1,z,s1,e1⟩:=lay (o:=DPo P w st0 []) fst
 rw [z];clear z
 refine ⟨(by show 0<=sizeLine;exact Nat.zero_le _),fun b0 fb0=>?_⟩
 obtain ⟨H2,z,s2,e2⟩:=lay (o:=.tup []) fb0
 rw [z];clear z
 refine ⟨(by show 2<=sizeLine;decide),fun k0 fk0=>?_⟩
 obtain ⟨H3,z,s3,e3⟩:=lay (o:=.tup [.ref b0,.int 0]) fk0
 rw [z];clear z
 refine ⟨(by show 2<=sizeLine;decide),fun v0 fv0=>?_⟩
 obtain ⟨H4,z,s4,e4⟩:=lay (o:=.tup [.int 1,.int 1]) fv0
 rw [z];clear z
 have s14:=(s2.trans s3).trans s4
 refine ⟨s14 _ _ e1,kk ([],0),k0,v0,rfl,rfl,⟨b0,s4 _ _ e3,s4 _ _ (s3 _ _ e2)⟩,?_⟩
 obtain ⟨H5,eH5⟩:∃H5,upd H4 st0 (DPo P w st0 [(kk ([],0),k0,v0)])=H5:=⟨_,rfl⟩
 rw [eH5]
 have n4:∀(a:Addr) (ws:List V),H4 a=some (.tup ws)->a≠st0:=fun a ws q z=>by rw [z,s14 _ _ e1] at q;cases q
 have t45:∀(a:Addr) (ws:List V),H4 a=some (.tup ws)->H5 a=some (.tup ws):=fun a ws q=>by rw [<- eH5,Zh (n4 a ws q)];exact q
 have sH5:Zi H H5:=fun c o e=>by rw [<- eH5,Zh (Zf e fst)];exact s14 _ _ (s1 _ _ e)
 have est5:H5 st0=some (DPo P w st0 ([((([],0),k0,v0,1):SE)].map toP)):=by rw [<- eH5];exact Zc
 have con5:Con H5 [(([],0),k0,v0,1)]:=⟨fun x hx=>by rw [List.mem_singleton.mp hx];exact ⟨b0,t45 _ _ (s4 _ _ e3),t45 _ _ (s4 _ _ (s3 _ _ e2))⟩,fun e he=>by rw [List.mem_singleton.mp he];exact ⟨1,t45 _ _ e4⟩,by simp⟩
 have hl5:=sH5 _ _ hl
 refine ⟨_,rfl,_,rfl,_,rfl,l,sc,ls,g,rfl,hsc,⟨xs,hl5,hL.same sH5,hW,hlen⟩,hg,fun hp Hb sb fhp ehp=>?_⟩
 have estb:=sb _ _ est5
 have hlb:=sb _ _ hl5
 have lhl:(lhL g ls ls.length).length=ls.length:=by unfold lhL;rw [List.length_map,List.length_range]
 have nhp:hp≠st0:=fun z=>by rw [z,est5] at fhp;cases fhp
 have nl0:l≠st0:=Zf hl fst
 refine ⟨l,hp,rfl,⟨_,Zw.of hlb⟩,⟨_,Zw.of ehp⟩,ZhG (K:=K) (a:=l) (b:=hp) (xs:=xs) (ys:=lhL g ls ls.length) (by rw [hxl,lhl]) (fun i σ G=>∃(st:Addr) (L:List SE) (n:Int) (v3 v4 v5 v6 v7 v8 v9 v10 v11:Option V),σ = [some (.ref l),some (.int sc),some (.ref st),v3,v4,v5,v6,v7,v8,v9,v10,v11,none]/\YC st0 Hb G/\(∃u,G st0=some u)/\(st=st0∨Hb st=none)/\G st=some (DPo P w st (L.map toP))/\Con G L/\L.length<=2 ^ nX (ls.take i)/\Wk (ls.take i) n/\OkS n L /\ ∀ φ,Wf φ L=bkR ls (Wg g ls) i φ)
  ⟨st0,_,0,_,_,_,_,_,_,_,_,_,rfl,YC.refl _ _,⟨_,estb⟩,.inl rfl,estb,con5.mono (fun a ws q=>sb _ _ q),by rw [List.take_zero];exact Nat.le_refl _,.nil,fun r hr=>by rw [List.mem_singleton.mp hr];exact ⟨fun i x e=>by simp at e,rfl⟩,fun φ=>by unfold Wf;simp [bkR]⟩ (fun i σ G ⟨_,_,_,_,_,_,_,_,_,_,_,_,_,f',_⟩=>⟨Zw.of (f' _ _ hlb nl0),Zw.of (f' _ _ ehp nhp)⟩) ?_ ?_⟩
 ·rintro i x y p σ G hx hy ⟨st,L,n,v3,v4,v5,v6,v7,v8,v9,v10,v11,rfl,fG,⟨u0,hu0⟩,hst,est,cL,Ll,wn,okL,sm⟩ fp
  obtain ⟨q,ta,hq,rfl,hta⟩:=hL.get hx
  have hi:i<ls.length:=(List.getElem?_eq_some_iff.mp hq).1
  have ey:y=oI (Wg g ls i):=by
   unfold lhL at hy
   rw [List.getElem?_map,List.getElem?_range hi] at hy
   injection hy with hy
   exact hy.symm
  subst ey
  obtain ⟨m,wm,ft⟩:∃m,Wk (ls.take (i+1)) m/\Zf5 q n m:=by
   obtain ⟨m,wm⟩:=GQ hW (i+1)
   have wm':=wm
   rw [List.take_add_one,hq] at wm
   obtain ⟨n',wn',ft⟩:=Zg8 (show Wk (ls.take i ++ [q]) m from wm)
   rw [ZeU wn wn']
   exact ⟨m,wm',ft⟩
  have n2:=ZaX wn
  have tl:(ls.take i).length=i:=by rw [List.length_take];lia
  have kq:q.1 = "born" ∨ q.1 = "end" ∨ q.1 = "cross" := by
   rcases ft.2 with ⟨e,_⟩ | ⟨e,_⟩ | ⟨e,_⟩
   ·exact .inl e
   ·exact .inr (.inr e)
   ·exact .inr (.inl e)
  have hc:q.1 = "cross" -> Wg g ls i≠none:=fun ec z=>by
   have kt:Uu ls W3 i=true:=by rw [WC hq (pr:=W3),ec];decide
   unfold Wg at z
   rw [kt] at z
   cases z
  have hbn:q.1 = "born" -> Wg g ls i=none:=fun eb=>by
   have kt:Uu ls W3 i=false:=by rw [WC hq (pr:=W3),eb];decide
   unfold Wg
   rw [kt]
   rfl
  have hed:q.1 = "end" -> Wg g ls i=some (1-sc):=fun ee=>by
   have kt:Uu ls W3 i=true:=by rw [WC hq (pr:=W3),ee];decide
   unfold Wg
   rw [kt,if_pos rfl,hg.atEnd hsc hW hq ee]
  refine ⟨p,_,rfl,YB.of Zc,rfl,_,_,rfl,_,_,rfl,rfl,?_⟩
  obtain ⟨G1,z,sg1,eg1⟩:=lay (o:=.tup [.ref ta,oI (Wg g ls i)]) fp
  rw [z];clear z
  refine fun bl fbl=>?_
  obtain ⟨G2,z,sg2,eg2⟩:=lay (o:=DPo P w bl []) fbl
  rw [z];clear z
  have s02:=sg1.trans sg2
  have est2:=s02 _ _ est
  have nsb:st≠bl:=Zf (sg1 _ _ est) fbl
  refine ⟨_,rfl,st,_,(L.map toP).map (fun x=>V.ref x.2.1),rfl,⟨est2,.inr ⟨_,rfl,rfl⟩⟩,fun o=>?_⟩
  obtain ⟨G3,eG3⟩:∃G3,upd G2 st (.frz o (DPo P w st (L.map toP)))=G3:=⟨_,rfl⟩
  rw [eG3]
  have fr3:YC st G2 G3:=by rw [<- eG3];exact YC.upd
  have est3:G3 st=some (.frz o (DPo P w st (L.map toP))):=by rw [<- eG3];exact Zc
  have ebl3:G3 bl=some (DPo P w bl (([]:List SE).map toP)):=fr3 _ _ eg2 (Ne.symm nsb)
  have t03:∀(a:Addr) (ws:List V),G a=some (.tup ws)->G3 a=some (.tup ws):=fun a ws q=>fr3 _ _ (s02 _ _ q) (fun z=>by rw [z,est] at q;cases q)
  have cL3:=cL.mono t03
  have fb3:∀c o,Hb c=some o->c≠st0->G3 c=some o:=fun c o e n0=>fr3 _ _ (s02 _ _ (fG _ _ e n0)) (by
   rcases hst with z | z
   ·rw [z];exact n0
   ·exact Zf e z)
  have nb0:bl≠st0:=fun z=>by rw [z,sg1 _ _ hu0] at fbl;cases fbl
  have fblb:Hb bl=none:=by
   cases hz:Hb bl with
   | none=>rfl
   | some o'=>rw [sg1 _ _ (fG _ _ hz nb0)] at fbl;cases fbl
  have u3:∃u,G3 st0=some u:=by
   by_cases z:st0=st
   ·rw [z];exact ⟨_,est3⟩
   ·exact ⟨_,fr3 _ _ (s02 _ _ hu0) z⟩
  have hta3:G3 ta=some (.tup [.str q.1,.int q.2]):=fb3 _ _ (sb _ _ (sH5 _ _ hta)) (Zf hta fst)
  have kl:((L.map toP).map (fun x=>V.ref x.2.1)).length=L.length:=by rw [List.length_map,List.length_map]
  have w2:wq q<=2:=by unfold wq;split<;>lia
  have lw:wq q*L.length<=16384:=Nat.le_trans (Nat.mul_le_mul w2 (Nat.le_trans Ll (pw13 i))) (by decide)
  refine Zfh (d:=st) (o:=o) (ks:=(L.map toP).map (fun x=>V.ref x.2.1)) (fun j σ G'=>∃(S:List SE) (v6 v7 v8 v9 v10 v11:Option V),σ = [some (.ref l),some (.int sc),some (.ref st),some (.ref ta),some (oI (Wg g ls i)),some (.ref bl),v6,v7,v8,v9,v10,v11,none]/\YC bl G3 G'/\G' bl=some (DPo P w bl (S.map toP))/\Con G' S/\S.length<=wq q*j/\OkS m S /\ ∀ φ,Wf φ S=Wf (bkT q (Wg g ls i) φ) (L.take j))
   ⟨[],_,_,_,_,_,_,rfl,YC.refl _ _,ebl3,⟨fun x hx=>(nomatch hx),fun e he=>(nomatch he),List.nodup_nil⟩,Nat.zero_le _,fun r hr=>(nomatch hr),fun φ=>rfl⟩ (fun j σ G' _ ⟨_,_,_,_,_,_,_,_,f',_⟩=>f' _ _ est3 nsb) ?_ ?_
  ·rintro j kx σ G' hkx ⟨S,v6,v7,v8,v9,v10,v11,rfl,f',ebl,cS,Sl,okS,smS⟩
   rw [List.getElem?_map,List.getElem?_map] at hkx
   obtain ⟨x0,hx0,rfl⟩:=Option.map_eq_some_iff.mp hkx
   obtain ⟨en,hen,rfl⟩:=Option.map_eq_some_iff.mp hx0
   have jl:j<L.length:=(List.getElem?_eq_some_iff.mp hen).1
   have nt:∀(a:Addr) (ws:List V),G3 a=some (.tup ws)->a≠bl:=fun a ws q z=>by rw [z,ebl3] at q;cases q
   have t3:∀(a:Addr) (ws:List V),G3 a=some (.tup ws)->G' a=some (.tup ws):=fun a ws q=>f' _ _ q (nt a ws q)
   have cL':=cL3.mono t3
   obtain ⟨b,hka,hkb⟩:=cL'.1 (toP en) (List.mem_map.mpr ⟨en,List.mem_of_getElem? hen,rfl⟩)
   obtain ⟨ptr,lr⟩:=okL en (List.mem_of_getElem? hen)
   have j1:wq q*j+wq q<=16384:=by
    have:wq q*(j+1)<=wq q*L.length:=Nat.mul_le_mul_left _ jl
    rw [Nat.mul_succ] at this
    lia
   refine ⟨en.2.1,_,rfl,YB.of hka,rfl,_,_,rfl,_,_,rfl,rfl,?_⟩
   refine ZiZ (P:=P) (w:=w) (K:=K) (L:=L) (S:=S) (en:=en) (q:=q) (n:=n) (m:=m) (ps:=en.1.1) (pw:=en.1.2) (.inr ⟨o,f' _ _ est3 nsb⟩) cL' (Zeg cL.2.2 hen) hkb ebl cS (by lia) okS (t3 _ _ hta3) ft ptr lr (by lia) kq hc hbn hed fun S' y8 y9 y10 y11 G'' f'' e'' c'' sl ok'' sm''=>?_
   refine ⟨S',_,_,_,_,_,_,rfl,f'.trans f'',e'',c'',by rw [Nat.mul_succ];lia,ok'',fun φ=>?_⟩
   rw [sm'',smS,Zc8 _ L j hen]
  ·rintro σ G' ⟨S,v6,v7,v8,v9,v10,v11,rfl,f',ebl,cS,Sl,okS,smS⟩
   rw [kl] at Sl smS
   obtain ⟨u,hu⟩:=u3
   refine ⟨_,rfl,bl,S,m,_,_,_,_,_,_,_,_,_,rfl,fun c o e n0=>f' _ _ (fb3 c o e n0) (Zf e fblb),⟨u,f' _ _ hu (Ne.symm nb0)⟩,.inr fblb,ebl,cS,?_,wm,okS,fun φ=>?_⟩
   ·rw [ZlL hq]
    exact Nat.le_trans Sl (Nat.mul_le_mul_left _ Ll)
   ·rw [smS,List.take_length,sm,Zfd hq]
 ·rintro σ G ⟨st,L,n,v3,v4,v5,v6,v7,v8,v9,v10,v11,rfl,fG,⟨u0,hu0⟩,hst,est,cL,Ll,wn,okL,sm⟩
  rw [hxl,List.take_length] at wn
  have n0:=ZeU wn hW
  rw [hxl] at sm Ll
  have ky:∀e∈L,e.1.1 = []:=fun e he=>List.eq_nil_of_length_eq_zero (by have:=(okL e he).2;lia)
  have L8:=Nat.le_trans Ll (pw13 ls.length)
  refine fun fd ffd=>?_
  obtain ⟨G2,z,s02,efd⟩:=lay (o:=.dK []) ffd
  rw [z];clear z
  have est2:=s02 _ _ est
  have nsf:st≠fd:=Zf est ffd
  have ndp:(L.map fun e=>e.1.2).Nodup:=by
   have:=cL.2.2
   refine List.pairwise_map.mpr (List.Pairwise.imp_of_mem (fun {a b} ha hb h z=>h ?_) (List.pairwise_map.mp this))
   exact Prod.ext ((ky a ha).trans (ky b hb).symm) z
  refine ⟨_,rfl,st,_,(L.map toP).map (fun x=>V.ref x.2.1),rfl,⟨est2,.inr ⟨_,rfl,rfl⟩⟩,fun o=>?_⟩
  obtain ⟨G3,eG3⟩:∃G3,upd G2 st (.frz o (DPo P w st (L.map toP)))=G3:=⟨_,rfl⟩
  rw [eG3]
  have fr3:YC st G2 G3:=by rw [<- eG3];exact YC.upd
  have est3:G3 st=some (.frz o (DPo P w st (L.map toP))):=by rw [<- eG3];exact Zc
  have efd3:G3 fd=some (.dK []):=fr3 _ _ efd (Ne.symm nsf)
  have t03:∀(a:Addr) (ws:List V),G a=some (.tup ws)->G3 a=some (.tup ws):=fun a ws q=>fr3 _ _ (s02 _ _ q) (fun z=>by rw [z,est] at q;cases q)
  have cL3:=cL.mono t03
  have kl:((L.map toP).map (fun x=>V.ref x.2.1)).length=L.length:=by rw [List.length_map,List.length_map]
  have nf0:fd≠st0:=fun z=>by rw [z,hu0] at ffd;cases ffd
  refine Zfh (d:=st) (o:=o) (ks:=(L.map toP).map (fun x=>V.ref x.2.1)) (fun j σ G'=>∃(v3 v4 v5 v6 v7 v8 v9 v10 v11:Option V),σ = [some (.ref l),some (.int sc),some (.ref st),v3,v4,v5,v6,v7,v8,v9,v10,v11,some (.ref fd)]/\YC fd G3 G'/\G' fd=some (.dK ((L.take j).map fun e=>(Sum.inl e.1.2,V.ref e.2.2.1))))
   ⟨_,_,_,_,_,_,_,_,_,rfl,YC.refl _ _,efd3⟩ (fun j σ G' _ ⟨_,_,_,_,_,_,_,_,_,_,f',_⟩=>f' _ _ est3 nsf) ?_ ?_
  ·rintro j kx σ G' hkx ⟨v3,v4,v5,v6,v7,v8,v9,v10,v11,rfl,f',ef'⟩
   rw [List.getElem?_map,List.getElem?_map] at hkx
   obtain ⟨x0,hx0,rfl⟩:=Option.map_eq_some_iff.mp hkx
   obtain ⟨en,hen,rfl⟩:=Option.map_eq_some_iff.mp hx0
   have jl:j<L.length:=(List.getElem?_eq_some_iff.mp hen).1
   have t3:∀(a:Addr) (ws:List V),G3 a=some (.tup ws)->G' a=some (.tup ws):=fun a ws q=>f' _ _ q (fun z=>by rw [z,efd3] at q;cases q)
   have cL':=cL3.mono t3
   obtain ⟨b,hka,hkb⟩:=cL'.1 (toP en) (List.mem_map.mpr ⟨en,List.mem_of_getElem? hen,rfl⟩)
   refine ⟨en.2.1,_,rfl,YB.of hka,rfl,_,_,rfl,_,_,rfl,rfl,?_⟩
   refine ⟨_,rfl,_,rfl,_,rfl,(by show 2<=sizeLine;decide),fun t ft1=>?_⟩
   obtain ⟨G4,z,s4',e4'⟩:=lay (o:=.tup [.ref b,kV (toP en).1.2]) ft1
   rw [z];clear z
   refine ⟨st,_,kk en.1,t,en.2.2.1,rfl,.inr ⟨o,s4' _ _ (f' _ _ est3 nsf)⟩,(cL'.mono fun a ws x=>s4' _ _ x).1,rfl,⟨b,e4',s4' _ _ hkb⟩,(by rw [ZaS,Zeg cL.2.2 hen];rfl),?_⟩
   refine ⟨_,rfl,_,rfl,fd,_,rfl,.inl ⟨_,Sum.inl en.1.2,s4' _ _ ef',rfl,(by rw [List.length_map,List.length_take,sizeLine_eq];lia),rfl⟩,?_⟩
   refine ⟨_,_,_,_,_,_,_,_,_,rfl,(f'.trans s4'.frm).trans YC.upd,?_⟩
   rw [Zc,List.take_add_one,hen,List.map_append]
   refine congrArg (fun z=>some (HO.dK z)) (ZcC fun h=>?_)
   rw [List.map_map] at h
   obtain ⟨e,he,z⟩:=List.mem_map.mp h
   have z:e.1.2=en.1.2:=by injection z
   obtain ⟨i',hi',rfl⟩:=List.mem_iff_getElem.mp he
   rw [List.length_take] at hi'
   have hj:(L.map fun e=>e.1.2)[i']'(by rw [List.length_map];lia)≠(L.map fun e=>e.1.2)[j]'(by rw [List.length_map];exact jl):=(List.pairwise_iff_getElem.mp ndp) i' j _ _ (by lia)
   rw [List.getElem_map,List.getElem_map] at hj
   rw [List.getElem_take] at z
   refine hj (z.trans ?_)
   have:L[j]=en:=by rw [List.getElem?_eq_getElem jl] at hen;injection hen
   rw [this]
  ·rintro σ G' ⟨v3,v4,v5,v6,v7,v8,v9,v10,v11,rfl,f',ef'⟩
   rw [kl,List.take_length] at ef'
   have t3:∀(a:Addr) (ws:List V),G3 a=some (.tup ws)->G' a=some (.tup ws):=fun a ws q=>f' _ _ q (fun z=>by rw [z,efd3] at q;cases q)
   refine ⟨_,rfl,k fd G' L (fun c o e=>?_) ?_ ef' (cL3.mono t3).2.1 ndp L8 (sm _)⟩
   ·have nc0:=Zf e fst
    have eb:=sb _ _ (sH5 _ _ e)
    have e3:G3 c=some o:=fr3 _ _ (s02 _ _ (fG _ _ eb nc0)) (by
     rcases hst with z | z
     ·rw [z];exact nc0
     ·exact Zf eb z)
    exact f' _ _ e3 (fun z=>by rw [z] at eb;rw [fG _ _ eb nf0] at ffd;cases ffd)
   ·cases hz:H fd with
    | none=>rfl
    | some o'=>rw [fG _ _ (sb _ _ (sH5 _ _ hz)) nf0] at ffd;cases ffd
abbrev Gd:Stmt:=top 50
theorem ZD:Zz ["_law_drawing_here", "_law_scale", "_law_states", "_law_letter", "_law_height", "_law_later", "_law_partners", "_law_power", "_law_here", "_law_there", "_law_often", "_law_ahead", "_law_found"] ["_law_drawing_here", "_law_scale"] (Zj Gd):={}
theorem Zk5 {fd:FuncData}{f:Addr} (F:YE K "_law_counts" "_law_counts" Gd f fd) (Y7:Yr P w K mg base 5 "_law_letter_heights" ["_law_drawing_here", "_law_scale"] Zd9) (Wl:Yr P w K mg base 1 "_law_moved_on" ["_law_partners", "_law_letter"] Zco) (Wn:Yr P w K mg base 1 "_law_is_apart" ["_law_partners", "_law_k"] Zck) (Zbd:mg "zip" = none) (YL:mg "list" = none) (Ur:mg "int" = none) (Jr:mg "tuple" = none):Yj P w K mg base Wy 6 f fd ["_law_drawing_here", "_law_scale"] ZgG:=by
 refine F.ok ZD (fun vs H Q E h=>?_) (fun cdv A outer s H vs Q E hr h=>?_)
 ·obtain ⟨l,sc,ls,g,rfl,_⟩:=h
  rfl
 ·obtain ⟨l,sc,ls,g,rfl,hsc,dr,hg,n13,k⟩:=h
  refine ⟨_,(Ze (Zn (i:=2) ZD.nd rfl (Or.inl rfl) (ZiW (P:=P) (w:=w) rfl rfl (ZaB hr) (ZA (Za (ZA Zb) (Za Zd Zb))) (ZA (Za Zd (Za Zd Zb)))))
   (Ze (Ym PassesOwn.never rfl (ZgX (K:=K) rfl (by rfl) Zbd (Za (pv 0) (Za (Zq Y7 hr (Za (pv 0) (Za (pv 1) Zb))) Zb))) (ZU (K:=K) (n:=2) rfl rfl (Zm (Zl (i:=3) ZD.nd rfl (Or.inl rfl)) (Zm (Zl (i:=4) ZD.nd rfl (Or.inl rfl)) ZP))) (Ze (Zn (i:=5) ZD.nd rfl (Or.inl rfl) (ZlA (P:=P) (w:=w) rfl rfl))
   (Ze (Ym PassesOwn.never rfl (Zeh (P:=P) (w:=w) rfl rfl (pv 2)) (ZU (K:=K) (n:=2) rfl rfl (Zm (Zl (i:=6) ZD.nd rfl (Or.inl rfl)) (Zm (Zl (i:=7) ZD.nd rfl (Or.inl rfl)) ZP))) (Ze (Zn (i:=8) ZD.nd rfl (Or.inl rfl) (ZgS (P:=P) (w:=w) rfl rfl (ZaB hr) (pv 2) (ZA (Za (pv 6) (Za (pv 7) Zb))) (fun _ _=>rfl)))
   (Ze (Zn (i:=9) ZD.nd rfl (Or.inl rfl) (Zq Wl hr (Za (Z9 (JB (K:=K) rfl) (by rfl) YL boot_list (Za (pv 6) Zb)) (Za (pv 3) Zb))))
   (Ze (Zn (i:=10) ZD.nd rfl (Or.inl rfl) (Zk Zu Zd (Z9 Gu (by rfl) Ur boot_int (Za (Zc2 (Yn Yc (Zv (ZK (K:=K) rfl) (pv 3) Zd (fun _ _=>rfl)) ZG (Zp _)) (U1 (Yn Yc (pv 1) Zd (Zp _)))) Zb))))
   (Ze (ZZ (PW.pt (Gj (Zr Yc (Zv (ZK (K:=K) rfl) (pv 3) Zd (fun _ _=>rfl)) ZG (Zp _)) (Gj (Zr Zeq (pv 9) UP (Zp _)) (GX (Zr Yc (pv 4) Zd (Zp _)))))) (Zg (ZZ (ZaK (Zq Wn hr (Za (pv 6) (Za (Zv (ZK (K:=K) rfl) (pv 3) Zd (fun _ _=>rfl)) Zb)))) (Ze (Zn (i:=11) ZD.nd rfl (Or.inl rfl) (Zfi (P:=P) (w:=w) rfl rfl (ZaB hr) (pv 5) (ZA (Za (pv 6) (Za (Zk Zu (pv 7) Zd) Zb))) (ZA (Za Zd (Za Zd Zb))) ⟨rfl,rfl,rfl,rfl⟩))
   (Zg (Z8 (ZA (Za (Zk Zu (Zv (ZK (K:=K) rfl) (pv 11) Zd (fun _ _=>rfl)) (Zv (ZK (K:=K) rfl) (pv 8) Zd (fun _ _=>rfl))) (Za (Zk Zu (Zv (ZK (K:=K) rfl) (pv 11) Zd (fun _ _=>rfl)) (Zv (ZK (K:=K) rfl) (pv 8) Zd (fun _ _=>rfl))) Zb))) (Yl (pv 5) (ZA (Za (pv 6) (Za (Zk Zu (pv 7) Zd) Zb))) (ZjH (P:=P) (w:=w) rfl rfl (ZaB hr)))))) (Zg (Zn (i:=10) ZD.nd rfl (Or.inl rfl) Zd)))) ZO)
   (Zg (ZZ (Zr Zeq (pv 9) UP (Zp _)) (Ze (Zn (i:=11) ZD.nd rfl (Or.inl rfl) (Zfi (P:=P) (w:=w) rfl rfl (ZaB hr) (pv 5) (ZA (Za (Z9 Wa (by rfl) Jr boot_tuple (Za (pv 9) Zb)) (Za (pv 7) Zb))) (ZA (Za Zd (Za Zd Zb))) ⟨rfl,rfl,rfl,rfl⟩))
   (Zg (Z8 (ZA (Za (Zk Zu (Zv (ZK (K:=K) rfl) (pv 11) Zd (fun _ _=>rfl)) (Zv (ZK (K:=K) rfl) (pv 8) Zd (fun _ _=>rfl))) (Za (Zk Zu (Zv (ZK (K:=K) rfl) (pv 11) Zd (fun _ _=>rfl)) (Zk JO (pv 10) (Zv (ZK (K:=K) rfl) (pv 8) Zd (fun _ _=>rfl)))) Zb))) (Yl (pv 5) (ZA (Za (Z9 Wa (by rfl) Jr boot_tuple (Za (pv 9) Zb)) (Za (pv 7) Zb))) (ZjH (P:=P) (w:=w) rfl rfl (ZaB hr)))))) ZO)))))))
   (Zg (Zn (i:=2) ZD.nd rfl (Or.inl rfl) (pv 5))))))
   (Ze (Zn (i:=12) ZD.nd rfl (Or.inl rfl) Zfn)
   (Ze (Ym PassesOwn.never rfl (Zeh (P:=P) (w:=w) rfl rfl (pv 2)) (ZU (K:=K) (n:=2) rfl rfl (Zm (Zl (i:=6) ZD.nd rfl (Or.inl rfl)) (Zm (Zl (i:=7) ZD.nd rfl (Or.inl rfl)) ZP))) (Zg (Z8 (ZgS (P:=P) (w:=w) rfl rfl (ZaB hr) (pv 2) (ZA (Za (pv 6) (Za (pv 7) Zb))) (fun _ _=>rfl)) (Yl (pv 12) (pv 7) (set_dict (Jb hr))))))
   (Zg (Zy (pv 12))))))),?_⟩
  exact Zjp l sc ls g hsc dr hg n13 k
theorem ZiA:∀{L:List SE}{j:Nat}{e:SE},(L.map fun e=>e.1.2).Nodup->L[j]? = some e->Y5 (L.map fun e=>((Sum.inl e.1.2:Key),V.ref e.2.2.1)) (Sum.inl e.1.2)=some (.ref e.2.2.1)
 | e0::L,0,e,_,h=>by
  simp at h
  subst h
  rw [List.map_cons,Yy rfl]
 | e0::L,j+1,e,nd,h=>by
  rw [List.map_cons,List.nodup_cons] at nd
  have h:L[j]? = some e:=by simpa using h
  rw [List.map_cons,Yz (fun z=>nd.1 (by
   injection z with z
   rw [z]
   exact List.mem_map.mpr ⟨e,List.mem_of_getElem? h,rfl⟩))]
  exact ZiA nd.2 h
theorem ZiG (L:List SE):Wf (fun _=>1) L=(L.map (·.2.2.2)).sum:=by unfold Wf;simp
def Zhs (K:PySem.W.Frag):Sp:=fun vs H Q _=>∃(a:Addr) (ns:List Int),vs = [.ref a]/\Zw K H a (ns.map V.int)/\ns.length<=63 /\ ∀H',Q (.bl true) H'
abbrev ZcY:Stmt:=top 51
theorem ZaL:Zz ["_law_script", "_law_k", "_law_drawing_here", "_law_scale", "_law_counts_here", "_law_handed", "_law_found"] ["_law_script"] (Zj ZcY):={}
theorem Zm9 {f:Addr}{fd:FuncData} (F:YE K "law" "law" ZcY f fd) (ZaJ:Yr P w K mg base 1 "_law_bag" ["_law_script", "_law_at"] (Zjh K)) (Uc:Yr P w K mg base 4 "_law_front" ["_law_bag_here", "_law_most"] ZeG) (Gm:Yr P w K mg base 5 "_law_scales" ["_law_drawing_here"] ZcG) (Gk:Yr P w K mg base 6 "_law_counts" ["_law_drawing_here", "_law_scale"] ZgG) (ZaP:Yr P w K mg base 11 "how_many" ["drawing", "scale"] Zmm) (GL:Yr P w K mg base 1 "_law_whole" ["_law_thing"] ZeB)
  (Z7:mg "range" = none) (Yt:mg "len" = none) (W8:mg "max" = none) (Zau:mg "min" = none) (YL:mg "list" = none) (Za0:mg "sum" = none):Yj P w K mg base Wy 13 f fd ["_law_script"] (Zhs K):=by
 refine F.ok ZaL (fun vs H Q E h=>?_) (fun cdv A outer s H vs Q E hr h=>?_)
 ·obtain ⟨a,ns,rfl,_⟩:=h
  rfl
 ·obtain ⟨a,ns,rfl,hS,hlen,k⟩:=h
  refine ⟨_,(Ze (Ym PassesOwn.never rfl (YX (by rfl) Z7 (Za (ZE (WG rfl) (by rfl) W8 boot_max (Za Zd (Za (ZE (Zag rfl) (by rfl) Zau boot_min (Za Zd (Za (ZE (YH (K:=K) rfl) (by rfl) Yt PySem.boot_len (Za (pv 0) Zb)) Zb))) Zb))) Zb)) (Zl (i:=1) ZaL.nd rfl (Or.inl rfl)) (Ze (Zn (i:=2) ZaL.nd rfl (Or.inl rfl) (Zq Uc hr (Za (Zq ZaJ hr (Za (pv 0) (Za (pv 1) Zb))) (Za Zd Zb))))
   (Zg (Ym PassesOwn.never rfl (Yk (K:=K) rfl (Zq Gm hr (Za (pv 2) Zb))) (Zl (i:=3) ZaL.nd rfl (Or.inl rfl)) (Ze (Zn (i:=4) ZaL.nd rfl (Or.inr rfl) (Zq Gk hr (Za (pv 2) (Za (pv 3) Zb))))
   (Ze (Zn (i:=5) ZaL.nd rfl (Or.inl rfl) (Z9 (JB (K:=K) rfl) (by rfl) YL boot_list (Za (pv 2) Zb)))
   (Ze (Zn (i:=6) ZaL.nd rfl (Or.inl rfl) (Zq ZaP hr (Za (pv 5) (Za (pv 3) Zb))))
   (Zg (ZZ (PW.pt (Zhz (ZeP (ZaK (Zq GL hr (Za (pv 6) Zb)))) (Zhz (Zr Zc9 (pv 6) (ZE (Zbx (K:=K) rfl rfl) (by rfl) Za0 boot_sum (Za (UL (Ls:=["_law_power"]) (Fs:=["_law_counts_here"]) (fi:=[4]) (Yi.of (show YT ["_law_script", "_law_k", "_law_drawing_here", "_law_scale", "_law_counts_here", "_law_handed", "_law_found"] (Zj ZcY) _ ["_law_counts_here"] [4]=true by decide +kernel)) rfl (Zeh (P:=P) (w:=w) rfl rfl (pv 4)) (fun cl C s3 H3 ex=>⟨(Zl (i:=0) (show ((["_law_power"]:List Str)++(["_law_counts_here"]:List Str)).Nodup by decide +kernel) rfl (Or.inl rfl)),Jk,(Zv (ZK (K:=K) rfl) (Zv (GU (Jb hr)) (pv 1) (pv 0) (fun _ _=>rfl)) Zd (fun _ _=>rfl))⟩)) Zb)) (Zp _)) (Zf8 (Zr (Zlz (K:=K) rfl hr.units) (pv 5) (pv 2) (Zp _)))))) (Zg (Zy Zaw)) ZO)))))))))
   (Zg (Zy Zaw))),?_⟩
  refine ⟨_,rfl,a,_,rfl,.inl hS,_,_,rfl,_,_,rfl,_,rfl,?_,?_,JS (fun i σ H'=>∃v1 v2 v3 v4 v5 v6:Option V,σ = [some (.ref a),v1,v2,v3,v4,v5,v6]/\Zi H H') ⟨none,none,none,none,none,none,rfl,Zi.refl _⟩ ?_ ?_⟩
  ·split<;>(try split)<;>lia
  ·rw [List.length_map]
   split<;>(try split)<;>lia
  ·rintro i σ H0 hi ⟨v1,v2,v3,v4,v5,v6,rfl,sm⟩
   have hi':i<1000:=by
    rw [List.length_map] at hi
    revert hi
    split<;>(try split)<;>lia
   refine ⟨_,rfl,_,rfl,a,_,ns,rfl,sm.seq hS,by lia,by lia,fun b H1 hb s1 bg1=>?_⟩
   refine ⟨b,12,rfl,bg1,by decide,by decide,fun l H2 ls hl bg2 f2 dr nx=>?_⟩
   refine ⟨_,rfl,l,ls,rfl,dr,fun p H3 scs s3 fp ep sl hsc=>?_⟩
   refine ⟨p,rfl,⟨_,Zw.of ep⟩,JI (K:=K) (a:=p) (xs:=scs.map V.int) (fun j σ G=>∃v3 v4 v5 v6:Option V,σ = [some (.ref a),some (.int (0+(i:Int))),some (.ref l),v3,v4,v5,v6]/\Zi H3 G) ⟨_,_,_,_,rfl,Zi.refl _⟩ (fun j σ G _ ⟨_,_,_,_,_,s'⟩=>Zw.of (s' _ _ ep)) ?_ ?_⟩
   ·rintro j y σ G hy ⟨v3,v4,v5,v6,rfl,sG⟩
    rw [List.getElem?_map] at hy
    obtain ⟨sc,e1,rfl⟩:=Option.map_eq_some_iff.mp hy
    obtain ⟨h01,g,hg⟩:=hsc sc (List.mem_of_getElem? e1)
    obtain ⟨xs,hxl,hL,hW,h60⟩:=id dr
    have s2G:=s3.trans sG
    have drG:Drw G l ls:=⟨xs,s2G _ _ hxl,hL.same s2G,hW,h60⟩
    refine ⟨_,rfl,_,rfl,l,sc,ls,g,rfl,h01,drG,hg,nx,fun cd G1 L sg1 fcd ecd vl nd L8 sum=>?_⟩
    refine ⟨_,rfl,l,_,rfl,.inl (Zw.of (sg1 _ _ (s2G _ _ hxl))),fun hd fhd=>?_⟩
    obtain ⟨G2,z,sg2,ehd⟩:=lay (o:=.lst xs) fhd
    rw [z];clear z
    have s02:=(s2G.trans sg1).trans sg2
    refine ⟨_,rfl,_,rfl,hd,sc,ls,g,rfl,h01,⟨xs,ehd,hL.same s02,hW,h60⟩,hg,nx,fun G3 sg3=>?_⟩
    have l3:=sg3 _ _ (s02 _ _ hxl)
    have hd3:=sg3 _ _ ehd
    have ecd3:=sg3 _ _ (sg2 _ _ ecd)
    have s13:=sg2.trans sg3
    refine ⟨_,rfl,_,rfl,true,rfl,WE ?_⟩
    refine ⟨_,rfl,_,rfl,cd,_,_,rfl,⟨ecd3,.inl ⟨_,rfl,rfl⟩⟩,fun o=>?_⟩
    obtain ⟨G4,eG4⟩:∃G4,upd G3 cd (.frz o (.dK (L.map fun e=>(Sum.inl e.1.2,V.ref e.2.2.1))))=G4:=⟨_,rfl⟩
    rw [eG4]
    have ecd4:G4 cd=some (.frz o (.dK (L.map fun e=>(Sum.inl e.1.2,V.ref e.2.2.1)))):=by rw [<- eG4];exact Zc
    have f4:YC cd G3 G4:=by rw [<- eG4];exact YC.upd
    have kl:((L.map fun e=>((Sum.inl e.1.2:Key),V.ref e.2.2.1)).map fun p=>kV p.1).length=L.length:=by rw [List.length_map,List.length_map]
    refine ZkW (d:=cd) (o:=o) (ks:=(L.map fun e=>((Sum.inl e.1.2:Key),V.ref e.2.2.1)).map fun p=>kV p.1) (by rw [kl,sizeLine_eq];lia) (fun n ys G'=>G'=G4/\ys=((L.take n).map fun e=>e.2.2.2).map V.int) ⟨rfl,rfl⟩ (fun n ys G' x=>by rw [x.2,List.length_map,List.length_map,List.length_take];lia) (fun n ys G' x=>by rw [x.1];exact ecd4) (fun n c ys G' hc x=>?_) (fun ys G' x D hD=>?_)
    ·obtain ⟨rfl,rfl⟩:=x
     rw [List.getElem?_map,List.getElem?_map] at hc
     obtain ⟨x0,hx0,rfl⟩:=Option.map_eq_some_iff.mp hc
     obtain ⟨en,hen,rfl⟩:=Option.map_eq_some_iff.mp hx0
     obtain ⟨c0,hv⟩:=vl en (List.mem_of_getElem? hen)
     have hv4:G' en.2.2.1=some (.tup [.int c0,.int en.2.2.2]):=f4 _ _ (s13 _ _ hv) (fun z=>by rw [z,ecd] at hv;cases hv)
     refine ⟨_,rfl,_,rfl,cd,.ref en.2.2.1,rfl,.inl ⟨_,Sum.inl en.1.2,.inr ⟨o,ecd4⟩,rfl,(ZiA nd hen).symm⟩,en.2.2.1,_,_,_,rfl,rfl,YB.of hv4,Zo (j:=1) rfl,rfl,?_⟩
     rw [List.take_add_one,hen,List.map_append,List.map_append]
     rfl
    ·obtain ⟨rfl,rfl⟩:=x
     rw [kl,List.take_length]
     have sD:=Zi.laid (o:=.lst ((L.map fun e=>e.2.2.2).map V.int)) hD
     refine ⟨D,_,rfl,Zw.of Zc,rfl,_,rfl,?_⟩
     rw [show (!decide (V.int (bkR ls (Wg g ls) ls.length fun _=>1)=V.int (L.map fun e=>e.2.2.2).sum))=false by rw [<- sum,ZiG];simp]
     have hd4:=sD _ _ (f4 _ _ hd3 (fun z=>by rw [z,ecd3] at hd3;cases hd3))
     have l4:=sD _ _ (f4 _ _ l3 (fun z=>by rw [z,ecd3] at l3;cases l3))
     refine WE ⟨_,rfl,_,rfl,hd,l,_,_,rfl,rfl,Zw.of hd4,Zw.of l4,rfl,fun j x y a1 a2=>?_,_,rfl,WE ?_⟩
     ·rw [a1] at a2
      cases a2
      obtain ⟨_,t,_,rfl,_⟩:=hL.get a1
      exact .same
     refine ⟨_,_,_,_,rfl,fun c o' e=>?_⟩
     have e0:=sG _ _ e
     have nc:=Zf e0 fcd
     exact sD _ _ (f4 _ _ (s13 _ _ (sg1 _ _ e0)) nc)
   ·rintro σ G ⟨v3,v4,v5,v6,rfl,sG⟩
    refine ⟨_,_,_,_,_,_,rfl,fun c o e=>?_⟩
    have nb:=Zf (sm c o e) hb
    exact sG c o (s3 c o (f2 c o (s1 c o (sm c o e)) nb))
  ·rintro σ H0 ⟨v1,v2,v3,v4,v5,v6,rfl,sm⟩
   exact k H0
end
theorem ZQ {P:Program}{w:World}{K:PySem.W.Frag}{mg:Str->Option Value}{base:Heap}{k:Nat}{x:Str}{ps:List Str}{sp:Sp}{f:Addr}{fd:FuncData} (G:Yj P w K mg base Wy k f fd ps sp) (m:mg x=some (.ref f)) (kp:PySem.W.keepIn K (.ref f)=true) (b:Binds K fd ps []):Yr P w K mg base k x ps sp:=⟨f,fd,G,m,kp,b⟩
theorem Zhh {P:Program}{w:World}{K:PySem.W.Frag}{mg:Str->Option Value}{base:Heap}{k:Nat}{x:Str}{ps:List Str}{sp:Sp}{f:Addr}{fd:FuncData} (G:Yj P w K mg base (CX1 P w) k f fd ps sp) (m:mg x=some (.ref f)) (kp:PySem.W.keepIn K (.ref f)=true) (b:Binds K fd ps []):ZhW P w K mg base k x ps sp:=⟨f,fd,G,m,kp,b⟩
section
theorem us1 {α:Type}{P:List α -> Prop} (h:∀a,P [a]):∀us:List α,us.length=1->P us
 | [_],_=>h _
theorem us2 {α:Type}{P:List α -> Prop} (h:∀a b,P [a,b]):∀us:List α,us.length=2->P us
 | [_,_],_=>h _ _
theorem us3 {α:Type}{P:List α -> Prop} (h:∀a b c,P [a,b,c]):∀us:List α,us.length=3->P us
 | [_,_,_],_=>h _ _ _
theorem us4 {α:Type}{P:List α -> Prop} (h:∀a b c d,P [a,b,c,d]):∀us:List α,us.length=4->P us
 | [_,_,_,_],_=>h _ _ _ _
theorem all_mk {l:PySem.W.OpenLaw}{w:World}{K:PySem.W.Frag}{h:Heap}{mg:Str->Option Value}{fa:Addr} (X:K.In h) (G:h.Ns mainGlobals mg) (hfa:mg "law" = some (.ref fa))
  {f0 f1 f2 f3 f4 f5 f6 f7 f8 f9 f10 f11 f12 f13 f14 f15 f16 f17 f18 f19 f20 f21 f22 f23 f24 f25 f26 f27 f28 f29 f30 f31 f32 f33 f34 f35 f36 f37 f38 f39 f40 f41 f42:Addr}{d0 d1 d2 d3 d4 d5 d6 d7 d8 d9 d10 d11 d12 d13 d14 d15 d16 d17 d18 d19 d20 d21 d22 d23 d24 d25 d26 d27 d28 d29 d30 d31 d32 d33 d34 d35 d36 d37 d38 d39 d40 d41 d42:FuncData}
  {Yf:Addr} (Uh:PySem.W.nsIn K mainGlobals "NoHeights" = some (some (.ref Yf)))
  (J5:PySem.W.excIn K Yf [.type "ValueError", .type "Exception", .type "BaseException", .type "object"] "ValueError.__new__" = true)
  (a0:PySem.W.nsIn K mainGlobals "_law_take" = some (some (.ref f0))) (l0:YE K "_law_take" "_law_take" UR f0 d0)
  (a1:PySem.W.nsIn K mainGlobals "_law_bag" = some (some (.ref f1))) (l1:YE K "_law_bag" "_law_bag" ZaF f1 d1)
  (a2:PySem.W.nsIn K mainGlobals "_law_drawing" = some (some (.ref f2))) (l2:YE K "_law_drawing" "_law_drawing" WL f2 d2)
  (a3:PySem.W.nsIn K mainGlobals "_law_plat" = some (some (.ref f3))) (l3:YE K "_law_plat" "_law_plat" We f3 d3)
  (a4:PySem.W.nsIn K mainGlobals "_law_any" = some (some (.ref f4))) (l4:YE K "_law_any" "_law_any" ZaG f4 d4)
  (a5:PySem.W.nsIn K mainGlobals "_law_whole" = some (some (.ref f5))) (l5:YE K "_law_whole" "_law_whole" Ue f5 d5)
  (a6:PySem.W.nsIn K mainGlobals "threads" = some (some (.ref f6))) (l6:YE K "threads" "threads" ZbJ f6 d6)
  (a7:PySem.W.nsIn K mainGlobals "_law_rows" = some (some (.ref f7))) (l7:YE K "_law_rows" "_law_rows" UY f7 d7)
  (a8:PySem.W.nsIn K mainGlobals "letters_of" = some (some (.ref f8))) (l8:YE K "letters_of" "letters_of" Wx f8 d8)
  (a9:PySem.W.nsIn K mainGlobals "ends_of" = some (some (.ref f9))) (l9:YE K "ends_of" "ends_of" ZbO f9 d9)
  (a10:PySem.W.nsIn K mainGlobals "names_of" = some (some (.ref f10))) (l10:YE K "names_of" "names_of" GW f10 d10)
  (a11:PySem.W.nsIn K mainGlobals "pairs_ahead" = some (some (.ref f11))) (l11:YE K "pairs_ahead" "pairs_ahead" Gf f11 d11)
  (a12:PySem.W.nsIn K mainGlobals "end_pairs" = some (some (.ref f12))) (l12:YE K "end_pairs" "end_pairs" UO f12 d12)
  (a13:PySem.W.nsIn K mainGlobals "born_with" = some (some (.ref f13))) (l13:YE K "born_with" "born_with" UH f13 d13)
  (a14:PySem.W.nsIn K mainGlobals "end_mates" = some (some (.ref f14))) (l14:YE K "end_mates" "end_mates" UD f14 d14)
  (a15:PySem.W.nsIn K mainGlobals "tour_from" = some (some (.ref f15))) (l15:YE K "tour_from" "tour_from" UW f15 d15)
  (a16:PySem.W.nsIn K mainGlobals "tours" = some (some (.ref f16))) (l16:YE K "tours" "tours" ZeI f16 d16)
  (a17:PySem.W.nsIn K mainGlobals "_law_walks" = some (some (.ref f17))) (l17:YE K "_law_walks" "_law_walks" Wv f17 d17)
  (a18:PySem.W.nsIn K mainGlobals "uppers_at_ends" = some (some (.ref f18))) (l18:YE K "uppers_at_ends" "uppers_at_ends" JX f18 d18)
  (a19:PySem.W.nsIn K mainGlobals "steps_down" = some (some (.ref f19))) (l19:YE K "steps_down" "steps_down" Ua f19 d19)
  (a20:PySem.W.nsIn K mainGlobals "turns" = some (some (.ref f20))) (l20:YE K "turns" "turns" Zcl f20 d20)
  (a21:PySem.W.nsIn K mainGlobals "heights_along" = some (some (.ref f21))) (l21:YE K "heights_along" "heights_along" Wi f21 d21)
  (a22:PySem.W.nsIn K mainGlobals "has_scale" = some (some (.ref f22))) (l22:YE K "has_scale" "has_scale" U4 f22 d22)
  (a23:PySem.W.nsIn K mainGlobals "thread_heights" = some (some (.ref f23))) (l23:YE K "thread_heights" "thread_heights" JT f23 d23)
  (a24:PySem.W.nsIn K mainGlobals "_law_heights" = some (some (.ref f24))) (l24:YE K "_law_heights" "_law_heights" Jh f24 d24)
  (a25:PySem.W.nsIn K mainGlobals "_law_curled" = some (some (.ref f25))) (l25:YE K "_law_curled" "_law_curled" J2 f25 d25)
  (a26:PySem.W.nsIn K mainGlobals "name_heights" = some (some (.ref f26))) (l26:YE K "name_heights" "name_heights" JH f26 d26)
  (a27:PySem.W.nsIn K mainGlobals "_law_name_heights" = some (some (.ref f27))) (l27:YE K "_law_name_heights" "_law_name_heights" Jt f27 d27)
  (a28:PySem.W.nsIn K mainGlobals "_law_front" = some (some (.ref f28))) (l28:YE K "_law_front" "_law_front" GS f28 d28)
  (a29:PySem.W.nsIn K mainGlobals "_law_scales" = some (some (.ref f29))) (l29:YE K "_law_scales" "_law_scales" J4 f29 d29)
  (a30:PySem.W.nsIn K mainGlobals "_law_letter_heights" = some (some (.ref f30))) (l30:YE K "_law_letter_heights" "_law_letter_heights" Y8 f30 d30)
  (a31:PySem.W.nsIn K mainGlobals "partners_born" = some (some (.ref f31))) (l31:YE K "partners_born" "partners_born" Jz f31 d31)
  (a32:PySem.W.nsIn K mainGlobals "partners_ended" = some (some (.ref f32))) (l32:YE K "partners_ended" "partners_ended" Jl f32 d32)
  (a33:PySem.W.nsIn K mainGlobals "partners_kept" = some (some (.ref f33))) (l33:YE K "partners_kept" "partners_kept" Wq f33 d33)
  (a34:PySem.W.nsIn K mainGlobals "is_tangled" = some (some (.ref f34))) (l34:YE K "is_tangled" "is_tangled" Ui f34 d34)
  (a35:PySem.W.nsIn K mainGlobals "ways_on" = some (some (.ref f35))) (l35:YE K "ways_on" "ways_on" ZbC f35 d35)
  (a36:PySem.W.nsIn K mainGlobals "_law_is_apart" = some (some (.ref f36))) (l36:YE K "_law_is_apart" "_law_is_apart" Wm f36 d36)
  (a37:PySem.W.nsIn K mainGlobals "_law_moved_on" = some (some (.ref f37))) (l37:YE K "_law_moved_on" "_law_moved_on" YG f37 d37)
  (a38:PySem.W.nsIn K mainGlobals "heights_by_name" = some (some (.ref f38))) (l38:YE K "heights_by_name" "heights_by_name" JM f38 d38)
  (a39:PySem.W.nsIn K mainGlobals "is_free" = some (some (.ref f39))) (l39:YE K "is_free" "is_free" ZbR f39 d39)
  (a40:PySem.W.nsIn K mainGlobals "how_many" = some (some (.ref f40))) (l40:YE K "how_many" "how_many" ZaI f40 d40)
  (a41:PySem.W.nsIn K mainGlobals "_law_counts" = some (some (.ref f41))) (l41:YE K "_law_counts" "_law_counts" Gd f41 d41)
  (a42:PySem.W.nsIn K mainGlobals "law" = some (some (.ref f42))) (l42:YE K "law" "law" ZcY f42 d42)
  (UB:PySem.W.nsIn K mainGlobals "enumerate" = some none)
  (Zgr:PySem.W.nsIn K mainGlobals "list" = some none)
  (Zj2:PySem.W.nsIn K mainGlobals "len" = some none)
  (ZeZ:PySem.W.nsIn K mainGlobals "range" = some none)
  (ZiD:PySem.W.nsIn K mainGlobals "abs" = some none)
  (Zi6:PySem.W.nsIn K mainGlobals "sum" = some none)
  (ZiE:PySem.W.nsIn K mainGlobals "zip" = some none)
  (Zc6:PySem.W.nsIn K mainGlobals "sorted" = some none)
  (GO:PySem.W.nsIn K mainGlobals "isinstance" = some none)
  (ZjU:PySem.W.nsIn K mainGlobals "int" = some none)
  (Zgf:PySem.W.nsIn K mainGlobals "bool" = some none)
  (Zjw:PySem.W.nsIn K mainGlobals "max" = some none)
  (Zj5:PySem.W.nsIn K mainGlobals "min" = some none)
  (GP:PySem.W.nsIn K mainGlobals "ValueError" = some none)
  (Zgo:PySem.W.nsIn K mainGlobals "dict" = some none)
  (ZeA:PySem.W.nsIn K mainGlobals "tuple" = some none):
  ∃fd:FuncData,(∀(s:Shared) (v:Value),BindsTo s fd ⟨[v],[]⟩ [("_law_script", v)]) /\ ∀base:Heap,K.In base->base.Ns mainGlobals mg->Yj l.prog w K mg base Wy 13 fa fd ["_law_script"] (Zhs K):=by
 have e:=hfa.symm.trans (PySem.W.mg_of X G a42)
 cases e
 have ZI:mg "enumerate" = none:=PySem.W.mg_none_of X G UB
 have YL:mg "list" = none:=PySem.W.mg_none_of X G Zgr
 have Yt:mg "len" = none:=PySem.W.mg_none_of X G Zj2
 have Z7:mg "range" = none:=PySem.W.mg_none_of X G ZeZ
 have Zar:mg "abs" = none:=PySem.W.mg_none_of X G ZiD
 have Za0:mg "sum" = none:=PySem.W.mg_none_of X G Zi6
 have Zbd:mg "zip" = none:=PySem.W.mg_none_of X G ZiE
 have J9:mg "sorted" = none:=PySem.W.mg_none_of X G Zc6
 have Ww:mg "isinstance" = none:=PySem.W.mg_none_of X G GO
 have Ur:mg "int" = none:=PySem.W.mg_none_of X G ZjU
 have Zf6:mg "bool" = none:=PySem.W.mg_none_of X G Zgf
 have W8:mg "max" = none:=PySem.W.mg_none_of X G Zjw
 have Zau:mg "min" = none:=PySem.W.mg_none_of X G Zj5
 have Zln:mg "ValueError" = none:=PySem.W.mg_none_of X G GP
 have Zgq:mg "dict" = none:=PySem.W.mg_none_of X G Zgo
 have Jr:mg "tuple" = none:=PySem.W.mg_none_of X G ZeA
 have U7:mg "NoHeights" = some (.ref Yf):=PySem.W.mg_of X G Uh
 have ZbZ:=l0
 have ZfP:=ZbZ.binds (ps:=["_law_bag_here", "_law_many"]) fun _ _ _ _ _ _=>us2 fun _ _=>rfl
 have Zcy:=l1
 have ZgL:=Zcy.binds (ps:=["_law_script", "_law_at"]) fun _ _ _ _ _ _=>us2 fun _ _=>rfl
 have US:=l2
 have Zc1:=US.binds (ps:=["_law_bag_here", "_law_births", "_law_most"]) fun _ _ _ _ _ _=>us3 fun _ _ _=>rfl
 have ZbV:=l3
 have Ze2:=ZbV.binds (ps:=["_law_bag_here", "_law_most"]) fun _ _ _ _ _ _=>us2 fun _ _=>rfl
 have Zcv:=l4
 have ZgE:=Zcv.binds (ps:=["_law_bag_here", "_law_most"]) fun _ _ _ _ _ _=>us2 fun _ _=>rfl
 have Zbm:=l5
 have Zer:=Zbm.binds (ps:=["_law_thing"]) fun _ _ _ _ _ _=>us1 fun _=>rfl
 have ZdQ:=l6
 have Zis:=ZdQ.binds (ps:=["drawing"]) fun _ _ _ _ _ _=>us1 fun _=>rfl
 have Zb1:=l7
 have ZfH:=Zb1.binds (ps:=["_law_drawing_here"]) fun _ _ _ _ _ _=>us1 fun _=>rfl
 have Zbn:=l8
 have ZeE:=Zbn.binds (ps:=["drawing", "kind"]) fun _ _ _ _ _ _=>us2 fun _ _=>rfl
 have ZdL:=l9
 have ZhY:=ZdL.binds (ps:=["drawing"]) fun _ _ _ _ _ _=>us1 fun _=>rfl
 have Zde:=l10
 have Zf3:=Zde.binds (ps:=["drawing"]) fun _ _ _ _ _ _=>us1 fun _=>rfl
 have Zas:=l11
 have Zdu:=Zas.binds (ps:=["drawing", "numbers"]) fun _ _ _ _ _ _=>us2 fun _ _=>rfl
 have ZbT:=l12
 have Ze9:=ZbT.binds (ps:=["drawing"]) fun _ _ _ _ _ _=>us1 fun _=>rfl
 have Zb2:=l13
 have ZfN:=Zb2.binds (ps:=["thread"]) fun _ _ _ _ _ _=>us1 fun _=>rfl
 have Zb0:=l14
 have Zfl:=Zb0.binds (ps:=["drawing"]) fun _ _ _ _ _ _=>us1 fun _=>rfl
 have Zb4:=l15
 have Zfm:=Zb4.binds (ps:=["first", "mates"]) fun _ _ _ _ _ _=>us2 fun _ _=>rfl
 have Zg0:=l16
 have Zlf:=Zg0.binds (ps:=["drawing"]) fun _ _ _ _ _ _=>us1 fun _=>rfl
 have ZaW:=l17
 have Zed:=ZaW.binds (ps:=["_law_drawing_here"]) fun _ _ _ _ _ _=>us1 fun _=>rfl
 have Gr:=l18
 have ZbH:=Gr.binds (ps:=["drawing"]) fun _ _ _ _ _ _=>us1 fun _=>rfl
 have Zbh:=l19
 have ZeD:=Zbh.binds (ps:=["tour", "uppers"]) fun _ _ _ _ _ _=>us2 fun _ _=>rfl
 have Zhi:=l20
 have ZkS:=Zhi.binds (ps:=["drawing"]) fun _ _ _ _ _ _=>us1 fun _=>rfl
 have Um:=l21
 have Zcb:=Um.binds (ps:=["tour", "uppers"]) fun _ _ _ _ _ _=>us2 fun _ _=>rfl
 have Zb5:=l22
 have Zfv:=Zb5.binds (ps:=["drawing", "scale"]) fun _ _ _ _ _ _=>us2 fun _ _=>rfl
 have GG:=l23
 have ZbK:=GG.binds (ps:=["drawing", "scale"]) fun _ _ _ _ _ _=>us2 fun _ _=>rfl
 have UZ:=l24
 have Zdf:=UZ.binds (ps:=["_law_drawing_here", "_law_scale"]) fun _ _ _ _ _ _=>us2 fun _ _=>rfl
 have Zaq:=l25
 have Zdq:=Zaq.binds (ps:=["_law_bag_here", "_law_letters", "_law_most"]) fun _ _ _ _ _ _=>us3 fun _ _ _=>rfl
 have UM:=l26
 have ZcI:=UM.binds (ps:=["drawing", "scale"]) fun _ _ _ _ _ _=>us2 fun _ _=>rfl
 have Wu:=l27
 have Zal:=Wu.binds (ps:=["_law_drawing_here", "_law_scale"]) fun _ _ _ _ _ _=>us2 fun _ _=>rfl
 have Zbl:=l28
 have ZeS:=Zbl.binds (ps:=["_law_bag_here", "_law_most"]) fun _ _ _ _ _ _=>us2 fun _ _=>rfl
 have Zap:=l29
 have Zdz:=Zap.binds (ps:=["_law_drawing_here"]) fun _ _ _ _ _ _=>us1 fun _=>rfl
 have JR:=l30
 have Uw:=JR.binds (ps:=["_law_drawing_here", "_law_scale"]) fun _ _ _ _ _ _=>us2 fun _ _=>rfl
 have Uk:=l31
 have Zb7:=Uk.binds (ps:=["partners", "k"]) fun _ _ _ _ _ _=>us2 fun _ _=>rfl
 have Gv:=l32
 have ZbE:=Gv.binds (ps:=["partners", "k"]) fun _ _ _ _ _ _=>us2 fun _ _=>rfl
 have Us:=l33
 have Zcg:=Us.binds (ps:=["partners", "k"]) fun _ _ _ _ _ _=>us2 fun _ _=>rfl
 have Zbc:=l34
 have ZeQ:=Zbc.binds (ps:=["partners", "k"]) fun _ _ _ _ _ _=>us2 fun _ _=>rfl
 have ZdP:=l35
 have Zh6:=ZdP.binds (ps:=["partners", "letter", "height"]) fun _ _ _ _ _ _=>us3 fun _ _ _=>rfl
 have Uo:=l36
 have Zb8:=Uo.binds (ps:=["_law_partners", "_law_k"]) fun _ _ _ _ _ _=>us2 fun _ _=>rfl
 have Up:=l37
 have Zb9:=Up.binds (ps:=["_law_partners", "_law_letter"]) fun _ _ _ _ _ _=>us2 fun _ _=>rfl
 have W7:=l38
 have Za7:=W7.binds (ps:=["drawing", "scale"]) fun _ _ _ _ _ _=>us2 fun _ _=>rfl
 have ZdK:=l39
 have ZhM:=ZdK.binds (ps:=["partners", "letter", "height"]) fun _ _ _ _ _ _=>us3 fun _ _ _=>rfl
 have ZcK:=l40
 have ZgC:=ZcK.binds (ps:=["drawing", "scale"]) fun _ _ _ _ _ _=>us2 fun _ _=>rfl
 have Zav:=l41
 have Zdy:=Zav.binds (ps:=["_law_drawing_here", "_law_scale"]) fun _ _ _ _ _ _=>us2 fun _ _=>rfl
 have ZlI:=l42
 have ZoS:=ZlI.binds (ps:=["_law_script"]) fun _ _ _ _ _ _=>us1 fun _=>rfl
 obtain ⟨oc,od,kV,dc,pm,an,cd,ct,sl,rfl,_,_⟩:=l42.ex
 refine ⟨PySem.W.fnOf "law" "law" (Zbj ZcY) (GY ZcY) (Zj ZcY) .none kV dc pm an cd ct,fun s v=>.of_eq rfl,fun base _ _=>?_⟩
 have Zt:Yr l.prog w K mg base 1 "_law_take" ["_law_bag_here", "_law_many"] ZaC:=ZQ (Zky ZbZ) (PySem.W.mg_of X G a0) l0.kp ZfP
 have ZaJ:Yr l.prog w K mg base 1 "_law_bag" ["_law_script", "_law_at"] (Zjh K):=ZQ (Zmo Zcy Yt Zar) (PySem.W.mg_of X G a1) l1.kp ZgL
 have WW:Yr l.prog w K mg base 2 "_law_drawing" ["_law_bag_here", "_law_births", "_law_most"] (Zgl 0):=ZQ (Zlr US Zt Z7) (PySem.W.mg_of X G a2) l2.kp Zc1
 have JE:Yr l.prog w K mg base 2 "_law_plat" ["_law_bag_here", "_law_most"] ZcR:=ZQ (ZkQ ZbV Zt Z7) (PySem.W.mg_of X G a3) l3.kp Ze2
 have ZaA:Yr l.prog w K mg base 3 "_law_any" ["_law_bag_here", "_law_most"] ZcR:=ZQ (Zm5 Zcv Zt JE WW) (PySem.W.mg_of X G a4) l4.kp ZgE
 have GL:Yr l.prog w K mg base 1 "_law_whole" ["_law_thing"] ZeB:=ZQ (Ziy Zbm Ww Ur Zf6) (PySem.W.mg_of X G a5) l5.kp Zer
 have ZbQ:Yr l.prog w K mg base 1 "threads" ["drawing"] U8:=ZQ (ZgM ZdQ YL) (PySem.W.mg_of X G a6) l6.kp Zis
 have YI:Yr l.prog w K mg base 1 "_law_rows" ["_law_drawing_here"] U8:=ZQ (ZkO Zb1 YL) (PySem.W.mg_of X G a7) l7.kp ZfH
 have GR:Yr l.prog w K mg base 1 "letters_of" ["drawing", "kind"] ZbG:=ZQ (Zf4 Zbn ZI) (PySem.W.mg_of X G a8) l8.kp ZeE
 have Jp:Yr l.prog w K mg base 2 "ends_of" ["drawing"] (Za8 fun x=>decide (x = "end")):=ZQ (Zk1 ZdL GR) (PySem.W.mg_of X G a9) l9.kp ZhY
 have JW:Yr l.prog w K mg base 1 "names_of" ["drawing"] (Za8 W3):=ZQ (ZiH Zde ZI) (PySem.W.mg_of X G a10) l10.kp Zf3
 have YY:Yr l.prog w K mg base 2 "pairs_ahead" ["drawing", "numbers"] Zcr:=ZQ (ZjN Zas ZbQ) (PySem.W.mg_of X G a11) l11.kp Zdu
 have JC:Yr l.prog w K mg base 3 "end_pairs" ["drawing"] ZeX:=ZQ (ZeV ZbT YY Jp) (PySem.W.mg_of X G a12) l12.kp Ze9
 have Je:Yr l.prog w K mg base 1 "born_with" ["thread"] Zle:=ZQ (Zn1 Zb2) (PySem.W.mg_of X G a13) l13.kp ZfN
 have UK:Yr l.prog w K mg base 4 "end_mates" ["drawing"] ZeO:=ZQ (Zkk Zb0 JC Yt) (PySem.W.mg_of X G a14) l14.kp Zfl
 have UQ:Yr l.prog w K mg base 2 "tour_from" ["first", "mates"] Zgs:=ZQ (Zlo Zb4 Je) (PySem.W.mg_of X G a15) l15.kp Zfm
 have Zae:Yr l.prog w K mg base 5 "tours" ["drawing"] Zcj:=ZQ (ZjP Zg0 UK UQ Yt Z7) (PySem.W.mg_of X G a16) l16.kp Zlf
 have GV:Yr l.prog w K mg base 2 "_law_walks" ["_law_drawing_here"] ZeH:=ZQ (ZjE ZaW YI ZI J9 Zar) (PySem.W.mg_of X G a17) l17.kp Zed
 have Yw:Yr l.prog w K mg base 4 "uppers_at_ends" ["drawing"] Zbf:=ZQ (Zit Gr Jp JC Yt) (PySem.W.mg_of X G a18) l18.kp ZbH
 have Jq:Yr l.prog w K mg base 2 "steps_down" ["tour", "uppers"] Zcq:=ZQ (Zj0 Zbh Je ZI) (PySem.W.mg_of X G a19) l19.kp ZeD
 have Zez:Yr l.prog w K mg base 6 "turns" ["drawing"] ZeN:=ZQ (ZjW Zhi Yw Jq Zae Zar Za0) (PySem.W.mg_of X G a20) l20.kp ZkS
 have Wr:Yr l.prog w K mg base 3 "heights_along" ["tour", "uppers"] ZmW:=ZQ (Znv Um Jq Yt Zbd) (PySem.W.mg_of X G a21) l21.kp Zcb
 have UN:Yr l.prog w K mg base 7 "has_scale" ["drawing", "scale"] Znd:=ZQ (Zn8 Zb5 Zez) (PySem.W.mg_of X G a22) l22.kp Zfv
 have J0:ZhW l.prog w K mg base 8 "thread_heights" ["drawing", "scale"] (Zmw Yf):=Zhh (ZnX GG U7 J5 UN Jp Zae Yw Wr Yt) (PySem.W.mg_of X G a23) l23.kp ZbK
 have WZ:Yr l.prog w K mg base 3 "_law_heights" ["_law_drawing_here", "_law_scale"] Zng:=ZQ (ZnU UZ GV YI ZI Za0 Yt Z7) (PySem.W.mg_of X G a24) l24.kp Zdf
 have Gn:Yr l.prog w K mg base 2 "_law_curled" ["_law_bag_here", "_law_letters", "_law_most"] ZeF:=ZQ (ZhK Zaq Zt YL Z7 Yt W8) (PySem.W.mg_of X G a25) l25.kp Zdq
 have WT:ZhW l.prog w K mg base 9 "name_heights" ["drawing", "scale"] (Zmz Yf):=Zhh (ZnK UM J0 YY JW) (PySem.W.mg_of X G a26) l26.kp ZcI
 have Yd:Yr l.prog w K mg base 4 "_law_name_heights" ["_law_drawing_here", "_law_scale"] Zhw:=ZQ (Zm8 Wu WZ YI ZI) (PySem.W.mg_of X G a27) l27.kp Zal
 have Uc:Yr l.prog w K mg base 4 "_law_front" ["_law_bag_here", "_law_most"] ZeG:=ZQ (ZjR Zbl Zt ZaA JE Gn Z7 Yt W8 Zau) (PySem.W.mg_of X G a28) l28.kp ZeS
 have Gm:Yr l.prog w K mg base 5 "_law_scales" ["_law_drawing_here"] ZcG:=ZQ (Zh9 Zap Yd) (PySem.W.mg_of X G a29) l29.kp Zdz
 have Y7:Yr l.prog w K mg base 5 "_law_letter_heights" ["_law_drawing_here", "_law_scale"] Zd9:=ZQ (Zk9 JR Yd YL) (PySem.W.mg_of X G a30) l30.kp Uw
 have Wj:Yr l.prog w K mg base 1 "partners_born" ["partners", "k"] ZeR:=ZQ (Zjr Uk Jr) (PySem.W.mg_of X G a31) l31.kp Zb7
 have JZ:Yr l.prog w K mg base 1 "partners_ended" ["partners", "k"] ZgB:=ZQ (Zlp Gv Jr) (PySem.W.mg_of X G a32) l32.kp ZbE
 have Ws:Yr l.prog w K mg base 1 "partners_kept" ["partners", "k"] ZeC:=ZQ (Zkb Us Jr YL) (PySem.W.mg_of X G a33) l33.kp Zcg
 have Jo:Yr l.prog w K mg base 1 "is_tangled" ["partners", "k"] Zea:=ZQ (Zls Zbc J9) (PySem.W.mg_of X G a34) l34.kp ZeQ
 have Zby:Yr l.prog w K mg base 2 "ways_on" ["partners", "letter", "height"] Zf2:=ZQ (ZkT ZdP Wj JZ Ws Jo) (PySem.W.mg_of X G a35) l35.kp Zh6
 have Wn:Yr l.prog w K mg base 1 "_law_is_apart" ["_law_partners", "_law_k"] Zck:=ZQ (ZjG Uo Zau W8) (PySem.W.mg_of X G a36) l36.kp Zb8
 have Wl:Yr l.prog w K mg base 1 "_law_moved_on" ["_law_partners", "_law_letter"] Zco:=ZQ (Zjv Up Ur) (PySem.W.mg_of X G a37) l37.kp Zb9
 have JJ:Yr l.prog w K mg base 10 "heights_by_name" ["drawing", "scale"] ZmD:=ZQ (Zoc W7 JW WT Zgq Zbd) (PySem.W.mg_of X G a38) l38.kp Za7
 have Zbz:Yr l.prog w K mg base 2 "is_free" ["partners", "letter", "height"] Zjc:=ZQ (ZmC ZdK Jo) (PySem.W.mg_of X G a39) l39.kp ZhM
 have ZaP:Yr l.prog w K mg base 11 "how_many" ["drawing", "scale"] Zmm:=ZQ (ZnJ ZcK JJ Zby Zbz ZI) (PySem.W.mg_of X G a40) l40.kp ZgC
 have Gk:Yr l.prog w K mg base 6 "_law_counts" ["_law_drawing_here", "_law_scale"] ZgG:=ZQ (Zk5 Zav Y7 Wl Wn Zbd YL Ur Jr) (PySem.W.mg_of X G a41) l41.kp Zdy
 exact Zm9 ZlI ZaJ Uc Gm Gk ZaP GL Z7 Yt W8 Zau YL Za0
theorem walk {l:PySem.W.OpenLaw}{q:Program}{loose:List Str}{XP:(Str->Option Value)->Heap->Prop}{YP:World->Heap->Prop}{d:DefRec}{K:Params->PySem.W.Frag} (hn:l.most=some 63) (hdf:d.params.defaults = [])
  (hY:∀(w:World) (h:Heap),YP w h->(K w.params).In h)
  (F:∀(w:World) (mg:Str->Option Value) (fa:Addr) (h:Heap),(K w.params).In h->h.Ns mainGlobals mg->mg d.name=some (.ref fa) ->
   ∃fd:FuncData,(∀(s:Shared) (u:Value),BindsTo s fd ⟨[u],[]⟩ [("_law_script", u)]) /\ ∀base:Heap,(K w.params).In base->base.Ns mainGlobals mg->Yj l.prog w (K w.params) mg base Wy 13 fa fd ["_law_script"] (Zhs (K w.params))):
  PySem.W.WalkO q loose XP YP l.row.toRowW d [] (fun f vs=>PySem.call f vs):=
 L2.Zkz (n:=63) (k:=13) (x := "_law_script") (CX:=fun _=>Wy) (sp:=fun w=>Zhs (K w.params)) hn (by decide) hdf ⟨rfl,by decide,by decide⟩ hY F (fun _ _ a ns hl _ hS=>⟨a,ns,rfl,hS,hl,fun _=>rfl⟩) fun _ _ _ _ _ z=>z
end
end Qk32
namespace PySem.W.Fast
def tw7473469486564322912:=0
def tw15319126677613020992:=0
def tw13101407765293712288:=0
def tw15776245824911422400:=0
def tw12083082013008277601:=0
def tw130704023593326753:=0
def tw16362611349418659137:=0
def tw31310683505360257:=0
def tw15904824034872357569:=0
def tw10637538150707335905:=0
def tw6930272066563325857:=0
def tw5527982831565740226:=0
def tw9916065485807550658:=0
def tw15888914672401014018:=0
def tw16991319704214275618:=0
def tw16613945666220420034:=0
def tw9974984453824685026:=0
def tw13605348271880355011:=0
def tw13075891755716510019:=0
def tw2135680191130537667:=0
def tw8770579638271244163:=0
def tw16444435093443833827:=0
def tw14855575268498667652:=0
def tw15989421256380285188:=0
def tw3930354194357035300:=0
def tw9342255168654888228:=0
def tw7952832597038090596:=0
def tw7073225410453729668:=0
def tw868116091425456516:=0
def tw823430091918074308:=0
def tw1918665609646953956:=0
def tw17011554626377910788:=0
def tw2834798181446156868:=0
def tw4120661720787773284:=0
def tw11134750324510771172:=0
def tw162485681726386213:=0
def tw8796889047732449413:=0
def tw1033870776151459013:=0
def tw3486744885094643941:=0
def tw3904493852823516677:=0
def tw13471509931400482501:=0
def tw17102507264507882598:=0
def tw7823542728799797350:=0
def tw14873193899079674054:=0
def tw9751505033507925222:=0
def tw1994119026082154918:=0
def tw9003038813873925542:=0
def tw2177729460171979206:=0
def tw8713780960849659334:=0
def tw11144875846426505766:=0
def tw14508832903906667078:=0
def tw7133033214561467974:=0
def tw15986126038340609638:=0
def tw1555504236164598470:=0
def tw13917387440879719110:=0
def tw15179843055982042918:=0
def tw13060531277700529958:=0
def tw3865775514412959590:=0
def tw17473533767773607814:=0
def tw123165248961927367:=0
def tw975912838743241959:=0
def tw11690827288835156231:=0
def tw13346330382998055207:=0
def tw4705340491491451271:=0
def tw2110934071727794727:=0
def tw4492701826895408775:=0
def tw9731487084613717671:=0
def tw11474735391026437863:=0
def tw4379107164051921671:=0
def tw16693251661679425319:=0
def tw16769333315982962599:=0
def tw1306988985126659047:=0
def tw7067490870070170760:=0
def tw16522312166858588328:=0
def tw9709060343123992776:=0
def tw1655980095667751336:=0
def tw2521842911434504680:=0
def tw13971844505729515048:=0
def tw10421145382771320552:=0
def tw15038204893608261673:=0
def tw8408039930611497001:=0
def tw13981713400949696937:=0
def tw6291498100308303305:=0
def tw1303393761669033769:=0
def tw11051036364718335945:=0
def tw17519830660713267850:=0
def tw18196487673219827530:=0
def tw4673276841225587658:=0
def tw13588849257822961707:=0
def tw4503822674849031243:=0
def tw17915028938373993611:=0
def tw6675702385873781995:=0
def tw4278021283439957291:=0
def tw17328522600951852523:=0
def tw14184139599406555787:=0
def tw7404574319849869963:=0
def tw9184649015299804811:=0
def tw4333811766357820107:=0
def tw7407068146861917963:=0
def tw12100329357505151915:=0
def tw8593793315181993996:=0
def tw15136017161028135980:=0
def tw18058384259572557964:=0
def tw12361540193129473228:=0
def tw8609870482941813196:=0
def tw3363949190212201132:=0
def tw17387383773989324556:=0
def tw5417908429287163981:=0
def tw8910589738583740589:=0
def tw14794913786869685741:=0
def tw3059103898766791181:=0
def tw3763615324568859469:=0
def tw12051268062972859245:=0
def tw14438751828009748461:=0
def tw2155103086753664110:=0
def tw11039034432630330510:=0
def tw14886496355108902030:=0
def tw826944498480507214:=0
def tw15140616021822508398:=0
def tw14691368684213788110:=0
def tw5965430636681981454:=0
def tw9063363822401161166:=0
def tw11395037347971696655:=0
def tw7366151944916197679:=0
def tw4136111374853564815:=0
def tw15390628412138369423:=0
def tw15336598741831658991:=0
def tw6915731228594457071:=0
def tw751038696828667407:=0
def tw966247202572379759:=0
def tw17263905795459577615:=0
def tw16803977555840904079:=0
def tw16185134864926484367:=0
def tw1276540167775236304:=0
def tw3025018432837358832:=0
def tw2862604594143078768:=0
def tw11016738344055288272:=0
def tw14478682750336252464:=0
def tw16815593827157222128:=0
def tw1063751899655484144:=0
def tw16756736913428776784:=0
def tw2946671807710039281:=0
def tw18053880497906367761:=0
def tw8045049908190081393:=0
def tw17745887167926631953:=0
def tw18094094115346553457:=0
def tw16508387484059372369:=0
def tw15007731088657608689:=0
def tw9886613087391034353:=0
def tw3478725560471671922:=0
def tw12056513010962195602:=0
def tw16944773260887913906:=0
def tw1168476690721812946:=0
def tw13424387029699857906:=0
def tw14158211214779931186:=0
def tw13950515459834648114:=0
def tw47099171597458098:=0
def tw3956096564136587154:=0
def tw7630390652384928690:=0
def tw13604789291103475634:=0
def tw15916182506161566674:=0
def tw13336143813942107155:=0
def tw2384983341792749587:=0
def tw10546757696097283091:=0
def tw8197405261512474707:=0
def tw8617503918532817139:=0
def tw6406773749913082291:=0
def tw817796198249339411:=0
def tw15251026077385499283:=0
def tw13628705027646946163:=0
def tw9442862047441219956:=0
def tw14730852112031638932:=0
def tw12239975644294606420:=0
def tw18364601188761840372:=0
def tw5036843041729851124:=0
def tw8220330826559175412:=0
def tw10977003238518220564:=0
def tw3364409399064332180:=0
def tw10752324625659384820:=0
def tw3163252619309458485:=0
def tw8444019542108130709:=0
def tw16363747909132283317:=0
def tw11189656054334160437:=0
def tw3597661809344957045:=0
def tw8445157068171550421:=0
def tw7772926354607155989:=0
def tw16771302291584870165:=0
def tw1328347892550692693:=0
def tw12540991751759861621:=0
def tw8773719820442901493:=0
def tw15831186335202198806:=0
def tw12648755800510390582:=0
def tw3230933274312765974:=0
def tw14479205024538905142:=0
def tw4207185402181463926:=0
def tw10088739665101271926:=0
def tw428807347143622711:=0
def tw732140518974811287:=0
def tw6161324549634795735:=0
def tw17864536124469032151:=0
def tw13841851090926383511:=0
def tw18240671645677267415:=0
def tw10803648591501574071:=0
def tw4523156648639032279:=0
def tw2948458798148227063:=0
def tw15038369321000721432:=0
def tw12882215880221873208:=0
def tw5654972961194031192:=0
def tw16226222894623894680:=0
def tw17924303923169871064:=0
def tw10771631777787604312:=0
def tw15916342094768218552:=0
def tw13655065607937311256:=0
def tw400690161871635128:=0
def tw3452394247382744792:=0
def tw17463744494763413208:=0
def tw9144457879345949464:=0
def tw1012981785357312824:=0
def tw12862657199763950488:=0
def tw12494297905365010392:=0
def tw587566437459035449:=0
def tw14355165355238061561:=0
def tw15814056880767072761:=0
def tw11872029061178525209:=0
def tw6036582689972106809:=0
def tw14689136792295625305:=0
def tw7112138875189030841:=0
def tw12890429882471745626:=0
def tw5463833178755978714:=0
def tw4916626936738754010:=0
def tw2203429176029005338:=0
def tw12696178044199048730:=0
def tw9485916597119065115:=0
def tw13011952179624252699:=0
def tw5709878683668940091:=0
def tw2606062611222619483:=0
def tw6262362405048825307:=0
def tw11056147618016480955:=0
def tw13189485855225255643:=0
def tw5574955958464611099:=0
def tw14712467219377549147:=0
def tw431816792183632795:=0
def tw10746050740495063995:=0
def tw3942046802862742491:=0
def tw16426774631755702428:=0
def tw1162024444868875804:=0
def tw5375827757529139772:=0
def tw13557578303229601340:=0
def tw6354731187553722397:=0
def tw2076742753766339869:=0
def tw10634549397527947645:=0
def tw1214120671650592157:=0
def tw8075172571172859293:=0
def tw13017394683777124829:=0
def tw12046570369256016381:=0
def tw16543438642110344893:=0
def tw13351294732102742749:=0
def tw17461395156160100125:=0
def tw10355975179821790109:=0
def tw645233917660714973:=0
def tw930456092463216798:=0
def tw3508635047657237822:=0
def tw3783882670701563230:=0
def tw3785090161416167966:=0
def tw16328911199498742334:=0
def tw12752615774178534238:=0
def tw2145109328902527870:=0
def tw4095880856692184030:=0
def tw10344940373737497566:=0
def tw12292522288193544223:=0
def tw6400724452892408927:=0
def tw5884640796672287:=0
def tw10393986208491422015:=0
def tw17850205257014619679:=0
def tw18140162656569182783:=0
def tw4115301805570842239:=0
def tw15038879718709765791:=0
def tw8729553244675153631:=0
def tw5200838640950453023:=0
def tw2032619505602417503:=0
def tw814167552045706678:=0
end PySem.W.Fast
open PySem PySem.W PyProof.Rows
set_option maxRecDepth 100000 in
set_option maxHeartbeats 0 in
theorem PySem.Challenge.cw_bendfronts_k32_settings_by_bandings_holds : PySem.Challenge.rw_bendfronts_k32_settings_by_bandings.Holds := by
 w_on; o_law; k_head; (case hw => w_witness2)
 k_fill
 refine Qk32.walk (l := PySem.Challenge.rw_bendfronts_k32_settings_by_bandings) rfl rfl (fun w h Y => PySem.W.kIn_of Y) ?F
 case F =>
  intro w mg fa h KX G hmg
  refine' Qk32.all_mk KX G hmg ?Uh ?J5 ?a0 ?l0 ?a1 ?l1 ?a2 ?l2 ?a3 ?l3 ?a4 ?l4 ?a5 ?l5 ?a6 ?l6 ?a7 ?l7 ?a8 ?l8 ?a9 ?l9 ?a10 ?l10 ?a11 ?l11 ?a12 ?l12 ?a13 ?l13 ?a14 ?l14 ?a15 ?l15 ?a16 ?l16 ?a17 ?l17 ?a18 ?l18 ?a19 ?l19 ?a20 ?l20 ?a21 ?l21 ?a22 ?l22 ?a23 ?l23 ?a24 ?l24 ?a25 ?l25 ?a26 ?l26 ?a27 ?l27 ?a28 ?l28 ?a29 ?l29 ?a30 ?l30 ?a31 ?l31 ?a32 ?l32 ?a33 ?l33 ?a34 ?l34 ?a35 ?l35 ?a36 ?l36 ?a37 ?l37 ?a38 ?l38 ?a39 ?l39 ?a40 ?l40 ?a41 ?l41 ?a42 ?l42 ?UB ?Zgr ?Zj2 ?ZeZ ?ZiD ?Zi6 ?ZiE ?Zc6 ?GO ?ZjU ?Zgf ?Zjw ?Zj5 ?GP ?Zgo ?ZeA
  (case Uh => k_is)
  (case J5 => k_exc)
  (case a0 => k_is)
  (case l0 => exact L2.ZM (by k_is) (by k_is) (by k_is))
  (case a1 => k_is)
  (case l1 => exact L2.ZM (by k_is) (by k_is) (by k_is))
  (case a2 => k_is)
  (case l2 => exact L2.ZM (by k_is) (by k_is) (by k_is))
  (case a3 => k_is)
  (case l3 => exact L2.ZM (by k_is) (by k_is) (by k_is))
  (case a4 => k_is)
  (case l4 => exact L2.ZM (by k_is) (by k_is) (by k_is))
  (case a5 => k_is)
  (case l5 => exact L2.ZM (by k_is) (by k_is) (by k_is))
  (case a6 => k_is)
  (case l6 => exact L2.ZM (by k_is) (by k_is) (by k_is))
  (case a7 => k_is)
  (case l7 => exact L2.ZM (by k_is) (by k_is) (by k_is))
  (case a8 => k_is)
  (case l8 => exact L2.ZM (by k_is) (by k_is) (by k_is))
  (case a9 => k_is)
  (case l9 => exact L2.ZM (by k_is) (by k_is) (by k_is))
  (case a10 => k_is)
  (case l10 => exact L2.ZM (by k_is) (by k_is) (by k_is))
  (case a11 => k_is)
  (case l11 => exact L2.ZM (by k_is) (by k_is) (by k_is))
  (case a12 => k_is)
  (case l12 => exact L2.ZM (by k_is) (by k_is) (by k_is))
  (case a13 => k_is)
  (case l13 => exact L2.ZM (by k_is) (by k_is) (by k_is))
  (case a14 => k_is)
  (case l14 => exact L2.ZM (by k_is) (by k_is) (by k_is))
  (case a15 => k_is)
  (case l15 => exact L2.ZM (by k_is) (by k_is) (by k_is))
  (case a16 => k_is)
  (case l16 => exact L2.ZM (by k_is) (by k_is) (by k_is))
  (case a17 => k_is)
  (case l17 => exact L2.ZM (by k_is) (by k_is) (by k_is))
  (case a18 => k_is)
  (case l18 => exact L2.ZM (by k_is) (by k_is) (by k_is))
  (case a19 => k_is)
  (case l19 => exact L2.ZM (by k_is) (by k_is) (by k_is))
  (case a20 => k_is)
  (case l20 => exact L2.ZM (by k_is) (by k_is) (by k_is))
  (case a21 => k_is)
  (case l21 => exact L2.ZM (by k_is) (by k_is) (by k_is))
  (case a22 => k_is)
  (case l22 => exact L2.ZM (by k_is) (by k_is) (by k_is))
  (case a23 => k_is)
  (case l23 => exact L2.ZM (by k_is) (by k_is) (by k_is))
  (case a24 => k_is)
  (case l24 => exact L2.ZM (by k_is) (by k_is) (by k_is))
  (case a25 => k_is)
  (case l25 => exact L2.ZM (by k_is) (by k_is) (by k_is))
  (case a26 => k_is)
  (case l26 => exact L2.ZM (by k_is) (by k_is) (by k_is))
  (case a27 => k_is)
  (case l27 => exact L2.ZM (by k_is) (by k_is) (by k_is))
  (case a28 => k_is)
  (case l28 => exact L2.ZM (by k_is) (by k_is) (by k_is))
  (case a29 => k_is)
  (case l29 => exact L2.ZM (by k_is) (by k_is) (by k_is))
  (case a30 => k_is)
  (case l30 => exact L2.ZM (by k_is) (by k_is) (by k_is))
  (case a31 => k_is)
  (case l31 => exact L2.ZM (by k_is) (by k_is) (by k_is))
  (case a32 => k_is)
  (case l32 => exact L2.ZM (by k_is) (by k_is) (by k_is))
  (case a33 => k_is)
  (case l33 => exact L2.ZM (by k_is) (by k_is) (by k_is))
  (case a34 => k_is)
  (case l34 => exact L2.ZM (by k_is) (by k_is) (by k_is))
  (case a35 => k_is)
  (case l35 => exact L2.ZM (by k_is) (by k_is) (by k_is))
  (case a36 => k_is)
  (case l36 => exact L2.ZM (by k_is) (by k_is) (by k_is))
  (case a37 => k_is)
  (case l37 => exact L2.ZM (by k_is) (by k_is) (by k_is))
  (case a38 => k_is)
  (case l38 => exact L2.ZM (by k_is) (by k_is) (by k_is))
  (case a39 => k_is)
  (case l39 => exact L2.ZM (by k_is) (by k_is) (by k_is))
  (case a40 => k_is)
  (case l40 => exact L2.ZM (by k_is) (by k_is) (by k_is))
  (case a41 => k_is)
  (case l41 => exact L2.ZM (by k_is) (by k_is) (by k_is))
  (case a42 => k_is)
  (case l42 => exact L2.ZM (by k_is) (by k_is) (by k_is))
  (case UB => k_is)
  (case Zgr => k_is)
  (case Zj2 => k_is)
  (case ZeZ => k_is)
  (case ZiD => k_is)
  (case Zi6 => k_is)
  (case ZiE => k_is)
  (case Zc6 => k_is)
  (case GO => k_is)
  (case ZjU => k_is)
  (case Zgf => k_is)
  (case Zjw => k_is)
  (case Zj5 => k_is)
  (case GP => k_is)
  (case Zgo => k_is)
  (case ZeA => k_is)

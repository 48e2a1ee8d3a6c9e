import PyProof.Rows.All
import Wide.All
import OpenK.AllK
import Wide.FinOn
import Lean
import PyProof.EqAt
import PyProof.EqKinds
import PyProof.TupleCall
import PyProof.AttrMissHeap
import PyProof.FactsAll.zip_1
import KE.KDictOf
import PyProof.Draws
import KE.KRevIter
import PyProof.FactsAll.range
import PyProof.Rows.RuleM_int
import KE.BitLaws
import PySem.Challenge.RW_bendfronts_k15_whole_deed_twice
set_option Elab.async false
set_option linter.all false
set_option maxRecDepth 100000
namespace L2
open PySem PySem.Spec PyProof.Rows
abbrev Key:=Sum Int Str
def Zcr:Key->Value->Bool
 | .inl k,v=>Value.isInt k v
 | .inr x,v=>Value.isStrOf x v
def Zng (w:World):Key->Int
 | .inl k=>hashInt k
 | .inr x=>hashStr w x
theorem Yg:∀{k:Key}{v:Value},Zcr k v=true->(∃i t,k=Sum.inl i/\v=Value.int i t)∨(∃x t,k=Sum.inr x/\v=Value.str x t)
 | .inl i,v,h=>by
  obtain ⟨t,e⟩:=Value.isInt_shape (k:=i) (v:=v) h
  exact .inl ⟨i,t,rfl,e⟩
 | .inr x,v,h=>by
  obtain ⟨t,e⟩:=Value.isStrOf_shape (x:=x) (v:=v) h
  exact .inr ⟨x,t,rfl,e⟩
theorem Zg1 (i:Int) (t:Tok):Zcr (.inl i) (.int i t)=true:=by simp [Zcr,Value.isInt]
theorem Zg5 (x:Str) (t:Tok):Zcr (.inr x) (.str x t)=true:=by simp [Zcr,Value.isStrOf]
theorem Zlq (a b:Int):decide ((Sum.inl a:Key)=Sum.inl b)=(a==b):=by
 by_cases e:a=b
 ·subst e;simp
 ·have h:¬(Sum.inl a:Key)=Sum.inl b:=fun q=>e (Sum.inl.inj q)
  rw [decide_eq_false h]
  exact (beq_eq_false_iff_ne.mpr e).symm
theorem ZlD (a b:Str):decide ((Sum.inr a:Key)=Sum.inr b)=decide (a=b):=by
 by_cases e:a=b
 ·subst e;simp
 ·have h:¬(Sum.inr a:Key)=Sum.inr b:=fun q=>e (Sum.inr.inj q)
  rw [decide_eq_false h,decide_eq_false e]
theorem ZlO (a:Int) (b:Str):decide ((Sum.inl a:Key)=Sum.inr b)=false:=decide_eq_false (fun q=>nomatch q)
theorem Zly (a:Str) (b:Int):decide ((Sum.inr a:Key)=Sum.inl b)=false:=decide_eq_false (fun q=>nomatch q)
def ZQ (prog:Program) (w:World):PySem.KeyKind prog w Key where
 is:=Zcr
 hash:=Zng w
 inj:=fun v a b ha hb=>by
  rcases Yg ha with ⟨i,t,rfl,rfl⟩ | ⟨x,t,rfl,rfl⟩
  ·rcases Yg hb with ⟨j,u,rfl,e⟩ | ⟨y,u,rfl,e⟩
   ·injection e with e1 _;rw [e1]
   ·exact nomatch e
  ·rcases Yg hb with ⟨j,u,rfl,e⟩ | ⟨y,u,rfl,e⟩
   ·exact nomatch e
   ·injection e with e1 _;rw [e1]
 byValue:=fun k v h=>by
  rcases Yg h with ⟨i,t,rfl,rfl⟩ | ⟨x,t,rfl,rfl⟩<;>rfl
 pyHash:=fun hv h=>by
  rcases Yg hv with ⟨i,t,rfl,rfl⟩ | ⟨x,t,rfl,rfl⟩
  ·exact wpAny_pyHash_int h
  ·exact wpAny_pyHash_str h
 eqBool:=fun hu hv h=>by
  rcases Yg hu with ⟨i,t,rfl,rfl⟩ | ⟨x,t,rfl,rfl⟩
  ·rcases Yg hv with ⟨j,u,rfl,rfl⟩ | ⟨y,u,rfl,rfl⟩
   ·rw [Zlq] at h;exact wpAny_eqBool_int h
   ·rw [ZlO] at h;exact SeqAt.EqAt.int_str i t y u _ _ _ _ h
  ·rcases Yg hv with ⟨j,u,rfl,rfl⟩ | ⟨y,u,rfl,rfl⟩
   ·rw [Zly] at h;exact SeqAt.EqAt.str_int x t j u _ _ _ _ h
   ·rw [ZlD] at h;exact wpAny_eqBool_str h
 «strs»:=fun k x t v h=>by
  rcases Yg h with ⟨i,u,rfl,e⟩ | ⟨y,u,rfl,e⟩
  ·exact nomatch e
  ·injection e with e1 _
   subst e1
   cases v<;>rfl
theorem ZdK (prog:Program) (w:World) (i:Int) (t:Tok):(ZQ prog w).is (.inl i) (.int i t)=true:=Zg1 i t
theorem Zd2 (prog:Program) (w:World) (x:Str) (t:Tok):(ZQ prog w).is (.inr x) (.str x t)=true:=Zg5 x t
inductive V where
 | non | bl (b:Bool) | int (i:Int) | str (x:Str) | byt (b:Array UInt8) | flt (b:UInt64) | ref (a:Addr) | ty (n:String)
 deriving DecidableEq
def RelV:V->Value->Prop
 | .non,u=>u=Value.none
 | .bl b,u=>u=Value.bool b
 | .int i,u=>∃t,u=Value.int i t
 | .str x,u=>∃t,u=Value.str x t
 | .byt b,u=>∃t,u=Value.bytes b t
 | .flt b,u=>∃t,u=Value.float b t
 | .ref a,u=>u=Value.ref a
 | .ty n,u=>u=Value.type n
abbrev Vals:List V->List Value->Prop:=Paired RelV
theorem Vals.length {xs:List V}{us:List Value} (r:Vals xs us):xs.length=us.length:=Paired.length r
theorem Vals.get:∀{xs:List V}{us:List Value}{i:Nat}{x:V},Vals xs us->xs[i]? = some x -> ∃u,us[i]? = some u/\RelV x u
 | _,_,_,_,.nil,e=>by simp at e
 | _,_,0,_,.cons r _,e=>by simp at e;subst e;exact ⟨_,rfl,r⟩
 | _,_,i+1,x,.cons _ t,e=>by
  obtain ⟨u,h1,h2⟩:=Vals.get (i:=i) (x:=x) t (by simpa using e)
  exact ⟨u,by simpa using h1,h2⟩
theorem Vals.set {x:V}{u:Value} (r:RelV x u):∀{xs:List V}{us:List Value} (i:Nat),Vals xs us->Vals (xs.set i x) (us.set i u)
 | _,_,_,.nil=>.nil
 | _,_,0,.cons _ t=>.cons r t
 | _,_,i+1,.cons q t=>.cons q (Vals.set r i t)
theorem Vals.append:∀{xs ys:List V}{us ws:List Value},Vals xs us->Vals ys ws->Vals (xs++ys) (us++ws)
 | _,_,_,_,.nil,s=>s
 | _,_,_,_,.cons r t,s=>.cons r (Vals.append t s)
theorem Vals.take:∀{xs:List V}{us:List Value} (n:Nat),Vals xs us->Vals (xs.take n) (us.take n)
 | _,_,0,_=>.nil
 | _,_,_+1,.nil=>.nil
 | _,_,n+1,.cons r t=>.cons r (Vals.take n t)
theorem Vals.drop:∀{xs:List V}{us:List Value} (n:Nat),Vals xs us->Vals (xs.drop n) (us.drop n)
 | _,_,0,r=>r
 | _,_,_+1,.nil=>.nil
 | _,_,n+1,.cons _ t=>Vals.drop n t
def UL:Option V->Option Value->Prop
 | some v,some u=>RelV v u
 | none,none=>True
 | _,_=>False
def KV {κ:Type}:List (κ × V)->List (κ × Value)->Prop:=Paired fun (p:κ × V) (q:κ × Value)=>p.1=q.1/\RelV p.2 q.2
def kV:Key->V
 | .inl i=>.int i
 | .inr x=>.str x
inductive HO where
 | lst (xs:List V)
 | tup (xs:List V)
 | dK (kvs:List (Key×V)) | dT (kvs:List (List Key×V))
 | set (S:Int->Bool) (n:Nat)
 | ins (C dx:Addr) (fs:List (Str×V))
 | own (x:Addr)
 | xd (fs:List (Str×V))
 | met (f x:Addr)
 | rng (lo hi:Int)
 | frz (o:Obj) (u:HO)
 | tbl (ps:Array Value)
 | ext (φ:Heap->Prop)
abbrev Hp:=Addr->Option HO
def upd (H:Hp) (a:Addr) (o:HO):Hp:=fun b=>if b=a then some o else H b
theorem Zb {H:Hp}{a:Addr}{o:HO}:upd H a o a=some o:=by unfold upd;rw [if_pos rfl]
theorem Zj {H:Hp}{a b:Addr}{o:HO} (h:b≠a):upd H a o b=H b:=by unfold upd;rw [if_neg h]
theorem Zh3 {H:Hp}{a b:Addr}{o u:HO} (h:H a=some o) (h':H b=some u) (d:o≠u):a≠b:=by
 intro e;subst e;rw [h] at h';exact d (Option.some.inj h')
theorem Zg {H:Hp}{a b:Addr}{o:HO} (h:H a=some o) (h':H b=none):a≠b:=by
 intro e;subst e;rw [h] at h';cases h'
section
variable (P:Program) (w:World)
def Z7 (H:Hp) (h:Heap) (a:Addr):HO->Prop
 | .lst xs=>xs.length<=sizeLine /\ ∃(its:List Value) (n:Nat),Vals xs its/\h.get? a=some { cls:=.type "list", data:=.seq its.toArray n }
 | .tup xs=>xs.length<=sizeLine /\ ∃its:List Value,Vals xs its/\IsTup h a its.toArray
 | .dK kvs=>kvs.length<=sizeLine/\(a==sysModules)=false /\ ∃vs,KV kvs vs/\h.DictOf (ZQ P w) a vs
 | .dT kvs=>kvs.length<=sizeLine/\(a==sysModules)=false /\ ∃xs:List (List Key×Addr×Value),
   Paired (fun (p:List Key×V) (q:List Key×Addr×Value)=>p.1=q.1/\H q.2.1=some (.tup (p.1.map kV))/\RelV p.2 q.2.2) kvs xs /\
   ∃o es ep,h.get? a=some o/\o.ExactDict/\o.data = .dict es ep/\es.toList=xs.map (entryOfKey (tupleKind (ZQ P w)))/\(xs.map (·.1)).Nodup
 | .set S n=>h.SetOf (intKind P w) a S n
 | .ins C dx fs=>H dx=some (.own a)/\fs.length<=1000/\dx≠a/\h.get? a=some (PySem.W.instObj C dx) /\
   ∃mA,h.Ns1 dx mA/\(∀f,UL (fs.lookup f) (mA f))/\PySem.Within mA (fs.map (·.1))
 | .own _=>∃o,h.get? a=some o
 | .xd fs=>∃mA,h.Ns1 a mA /\ ∀f,UL (fs.lookup f) (mA f)
 | .rng lo hi=>∃t u v,h.get? a=some { cls:=.type "range", data:=.fields #[.int lo t,.int hi u,.int 1 v] }
 | .frz o u=>h.get? a=some o/\Z7 H h a u
 | .tbl ps=>h.get? a=some { cls:=.none,data:=.fields ps }
 | .met f x=>h.get? a=some (PySem.W.methodObj (.ref f) (.ref x))
 | .ext φ=>φ h/\(∃o,h.get? a=some o) /\ ∀h1 h2:Heap,φ h1->(∀o,h1.get? a=some o->h2.get? a=some o) -> φ h2
def Wy (H:Hp) (h:Heap):Prop:=∀a o,H a=some o->Z7 P w H h a o
end
section
variable {P:Program}{w:World}{H H':Hp}{h h':Heap}{a:Addr}{o:HO}
theorem Z7.lt (x:Z7 P w H h a o):a<h.objs.size:=by
 cases o with
 | lst xs=>obtain ⟨_,_,_,_,e⟩:=x;exact Heap.lt_size e
 | tup xs=>obtain ⟨_,_,_,p⟩:=x;exact p.lt
 | dK kvs=>obtain ⟨_,_,_,_,o,_,_,e,_⟩:=x;exact Heap.lt_size e
 | dT kvs=>obtain ⟨_,_,_,_,o,_,_,e,_⟩:=x;exact Heap.lt_size e
 | set S n=>obtain ⟨o,_,_,_,e,_⟩:=x;exact Heap.lt_size e
 | ins C dx fs=>obtain ⟨_,_,_,e,_⟩:=x;exact Heap.lt_size e
 | own y=>obtain ⟨_,e⟩:=x;exact Heap.lt_size e
 | xd fs=>obtain ⟨_,⟨_,_,_,e,_⟩,_⟩:=x;exact Heap.lt_size e
 | rng lo hi=>obtain ⟨_,_,_,e⟩:=x;exact Heap.lt_size e
 | frz ob u=>obtain ⟨e,_⟩:=x;exact Heap.lt_size e
 | tbl ps=>exact Heap.lt_size (show h.get? a=some _ from x)
 | met f y=>exact Heap.lt_size (show h.get? a=some _ from x)
 | ext φ=>obtain ⟨_,⟨_,e⟩,_⟩:=x;exact Heap.lt_size e
theorem Paired.mapP {α β:Type}{F G:α -> β -> Prop}:∀{l₁:List α}{l₂:List β},Paired F l₁ l₂->(∀a b,F a b->G a b)->Paired G l₁ l₂
 | _,_,.nil,_=>.nil
 | _,_,.cons r t,f=>.cons (f _ _ r) (Paired.mapP t f)
theorem Z7.stay (x:Z7 P w H h a o) (k:∀b u,(b=a∨H b=some (.own a))->h.get? b=some u->h'.get? b=some u)
  (ho:∀b,H b=some (.own a)->H' b=some (.own a)) (ht:∀b xs,H b=some (.tup xs)->H' b=some (.tup xs)):Z7 P w H' h' a o:=by
 induction o with
 | lst xs=>obtain ⟨z,its,n,r,e⟩:=x;exact ⟨z,its,n,r,k _ _ (.inl rfl) e⟩
 | tup xs=>obtain ⟨z,its,r,ob,e,c⟩:=x;exact ⟨z,its,r,ob,k _ _ (.inl rfl) e,c⟩
 | dK kvs=>obtain ⟨z,y,vs,r,ob,es,ep,e,c⟩:=x;exact ⟨z,y,vs,r,ob,es,ep,k _ _ (.inl rfl) e,c⟩
 | dT kvs=>
  obtain ⟨z,y,xs,r,ob,es,ep,e,c⟩:=x
  exact ⟨z,y,xs,Paired.mapP r fun p q z=>⟨z.1,ht _ _ z.2.1,z.2.2⟩,ob,es,ep,k _ _ (.inl rfl) e,c⟩
 | set S n=>obtain ⟨ob,es,ep,t,e,c⟩:=x;exact ⟨ob,es,ep,t,k _ _ (.inl rfl) e,c⟩
 | ins C dx fs=>
  obtain ⟨d,z,ne,e,mA,⟨od,es,ep,e2,c⟩,r⟩:=x
  exact ⟨ho _ d,z,ne,k _ _ (.inl rfl) e,mA,⟨od,es,ep,k _ _ (.inr d) e2,c⟩,r⟩
 | own y=>obtain ⟨ob,e⟩:=x;exact ⟨ob,k _ _ (.inl rfl) e⟩
 | xd fs=>obtain ⟨mA,⟨od,es,ep,e,c⟩,r⟩:=x;exact ⟨mA,⟨od,es,ep,k _ _ (.inl rfl) e,c⟩,r⟩
 | rng lo hi=>obtain ⟨t,u,v,e⟩:=x;exact ⟨t,u,v,k _ _ (.inl rfl) e⟩
 | frz ob u ih=>obtain ⟨e,q⟩:=x;exact ⟨k _ _ (.inl rfl) e,ih q⟩
 | tbl ps=>
  have e:h.get? a=some { cls:=.none,data:=.fields ps }:=x
  show h'.get? a=some { cls:=.none,data:=.fields ps }
  exact k a _ (.inl rfl) e
 | met f y=>
  have e:h.get? a=some (PySem.W.methodObj (.ref f) (.ref y)):=x
  show h'.get? a=some (PySem.W.methodObj (.ref f) (.ref y))
  exact k a _ (.inl rfl) e
 | ext φ=>obtain ⟨p,⟨o,e⟩,st⟩:=x;exact ⟨st _ _ p fun o q=>k _ _ (.inl rfl) q,⟨o,k _ _ (.inl rfl) e⟩,st⟩
theorem Wy.lt (x:Wy P w H h) (e:H a=some o):a<h.objs.size:=(x a o e).lt
theorem Wy.fresh (x:Wy P w H h) (e:h.objs.size<=a):H a=none:=by
 cases q:H a with
 | none=>rfl
 | some u=>exact absurd (Nat.lt_of_lt_of_le (x.lt q) e) (Nat.lt_irrefl _)
theorem Wy.kept (x:Wy P w H h) (k:∀b u,h.get? b=some u->h'.get? b=some u):Wy P w H h':=fun a o e=>
 (x a o e).stay (fun b u _ q=>k b u q) (fun _ q=>q) fun _ _ q=>q
theorem Wy.laid (x:Wy P w H h) (k:∀b u,h.get? b=some u->h'.get? b=some u) (hp:h.objs.size<=a) (new:Z7 P w (upd H a o) h' a o):Wy P w (upd H a o) h':=fun b u e=>by
 have hn:=x.fresh hp
 by_cases hb:b=a
 ·subst hb;rw [Zb] at e;cases e;exact new
 ·rw [Zj hb] at e
  exact (x b u e).stay (fun c v _ q=>k c v q) (fun c q=>by rw [Zj (Zg q hn)];exact q) fun c xs q=>by rw [Zj (Zg q hn)];exact q
end
def Rd (H:Hp) (a:Addr) (u:HO):Prop:=H a=some u ∨ ∃o,H a=some (.frz o u)
theorem Rd.ok {P:Program}{w:World}{H:Hp}{h:Heap}{a:Addr}{u:HO} (r:Rd H a u) (x:Wy P w H h):Z7 P w H h a u:=by
 rcases r with r | ⟨o,r⟩
 ·exact x a u r
 ·obtain ⟨_,q⟩:=x a _ r
  exact q
def Mut:Option HO->Prop
 | some (.lst _)=>True
 | some (.dK _)=>True
 | some (.dT _)=>True
 | some (.set _ _)=>True
 | some (.ins _ _ _)=>True
 | some (.ext _)=>True
 | _=>False
section
variable {P:Program}{w:World}{H:Hp}{h h':Heap}{x e:Addr}{o':HO}
theorem Wy.write (ok:Wy P w H h) (mu:Mut (H x)) (he:e=x∨H e=some (.own x)) (k:∀b u,b≠e->h.get? b=some u->h'.get? b=some u) (heo:∃u,h'.get? e=some u)
  (new:Z7 P w (upd H x o') h' x o'):Wy P w (upd H x o') h':=fun b u q=>by
 have nown:∀c y,H c=some (.own y)->c≠x:=fun c y r z=>by subst z;rw [r] at mu;exact mu
 have ntup:∀c xs,H c=some (.tup xs)->c≠x:=fun c xs r z=>by subst z;rw [r] at mu;exact mu
 by_cases hb:b=x
 ·subst hb;rw [Zb] at q;cases q;exact new
 ·rw [Zj hb] at q
  by_cases hbe:b=e
  ·have q':H b=some (.own x):=by
    rcases he with z | z
    ·exact absurd (hbe.trans z) hb
    ·rw [hbe];exact z
   rw [q] at q';cases q'
   obtain ⟨v,hv⟩:=heo
   exact ⟨v,by rw [hbe];exact hv⟩
  ·refine (ok b u q).stay (fun c v hc r=>k c v ?_ r) (fun c r=>by rw [Zj (nown c b r)];exact r) fun c xs r=>by rw [Zj (ntup c xs r)];exact r
   rcases hc with rfl | hc
   ·exact hbe
   ·rintro rfl
    rcases he with z | z
    ·exact nown c b hc z
    ·rw [hc] at z;cases z;exact hb rfl
end
structure Un (fs ex:List Addr) (H H':Hp) (h h':Heap):Prop where
 keep:∀b o,h.get? b=some o->H b=none->b∉fs->b∉ex->h'.get? b=some o
 slot:∀b o,h.get? b=some o->H b=none->b∈fs->b∉ex -> ∃sl,h'.get? b=some { o with slots:=sl }
 free:∀b o,h.get? b=some o->H b=none->b∉ex->H' b=none
 there:∀b o,h.get? b=some o->b∉ex -> ∃o',h'.get? b=some o'
 tups:∀b xs,H b=some (.tup xs)->H' b=some (.tup xs)
 frzs:∀b o u,H b=some (.frz o u)->H' b=some (.frz o u)
 tbls:∀b ps,H b=some (.tbl ps) -> ∃more,H' b=some (.tbl (ps++more))
section
variable {fs fs' ex ex':List Addr}{H H1 H2:Hp}{h h1 h2 h':Heap}{a x e:Addr}{o:HO}
theorem Un.any (u:Un fs ex H H1 h h1) {b:Addr}{ob:Obj} (q:h.get? b=some ob) (n:H b=none) (hx:b∉ex):∃sl,h1.get? b=some { ob with slots:=sl }:=by
 by_cases hb:b∈fs
 ·exact u.slot b ob q n hb hx
 ·exact ⟨ob.slots,u.keep b ob q n hb hx⟩
theorem Un.kept (k:∀b u,h.get? b=some u->h'.get? b=some u):Un fs ex H H h h':=
 ⟨fun b ob q _ _ _=>k b ob q,fun b ob q _ _ _=>⟨ob.slots,k b ob q⟩,fun _ _ _ n _=>n,fun b ob q _=>⟨ob,k b ob q⟩,fun _ _ q=>q,fun _ _ _ q=>q,fun _ ps q=>⟨#[],by rw [q];simp⟩⟩
theorem Un.refl:Un fs ex H H h h:=Un.kept fun _ _ q=>q
theorem Un.laid (k:∀b u,h.get? b=some u->h'.get? b=some u) (hp:h.objs.size<=a) (hn:H a=none):Un fs ex H (upd H a o) h h' where
 keep:=fun b u q _ _ _=>k b u q
 slot:=fun b u q _ _ _=>⟨u.slots,k b u q⟩
 free:=fun b u q n _=>by rw [Zj (Nat.ne_of_lt (Nat.lt_of_lt_of_le (Heap.lt_size q) hp))];exact n
 there:=fun b u q _=>⟨u,k b u q⟩
 tups:=fun b xs q=>by rw [Zj (Zg q hn)];exact q
 frzs:=fun b u xs q=>by rw [Zj (Zg q hn)];exact q
 tbls:=fun b ps q=>⟨#[],by rw [Zj (Zg q hn),q];simp⟩
theorem Un.write (mu:Mut (H x)) (he:e=x∨H e=some (.own x)) (k:∀b u,b≠e->h.get? b=some u->h'.get? b=some u) (heo:∃u,h'.get? e=some u):Un fs ex H (upd H x o) h h':=by
 have hx:∀b,H b=none->b≠x:=fun b n z=>by subst z;rw [n] at mu;exact mu
 have hb:∀b,H b=none->b≠e:=fun b n z=>by
  subst z
  rcases he with r | r
  ·exact hx b n r
  ·rw [n] at r;cases r
 have hm:∀b u,H b=some u -> ¬Mut (some u)->b≠x:=fun b u q nm z=>by subst z;rw [q] at mu;exact nm mu
 refine ⟨fun b u q n _ _=>k b u (hb b n) q,fun b u q n _ _=>⟨u.slots,k b u (hb b n) q⟩,fun b u q n _=>by rw [Zj (hx b n)];exact n,fun b u q _=>?_,
  fun b xs q=>by rw [Zj (hm b _ q fun z=>z)];exact q,fun b u xs q=>by rw [Zj (hm b _ q fun z=>z)];exact q,fun b ps q=>⟨#[],by rw [Zj (hm b _ q fun z=>z),q];simp⟩⟩
 by_cases hbe:b=e
 ·subst hbe;exact heo
 ·exact ⟨u,k b u hbe q⟩
end
def trk (h:Heap) (H:Hp):List Addr:=(List.range h.objs.size).filter fun a=>(H a).isSome
def Zc3 (h:Heap) (H:Hp):Heap:=PySem.W.hideAll h (trk h H)
theorem Zgp (h:Heap) (H:Hp):(Zc3 h H).objs.size=h.objs.size:=PySem.W.hideAll_size _ _
theorem ZiY {h:Heap}{H:Hp}{b:Addr}{o:Obj} (e:h.get? b=some o) (n:H b=none):(Zc3 h H).get? b=some o:=
 PySem.W.hideAll_get _ e fun hm=>by
  have q:(H b).isSome=true:=(List.mem_filter.mp hm).2
  rw [n] at q;simp at q
theorem Zjw {h:Heap}{H:Hp}{b:Addr}{o:Obj} (e:(Zc3 h H).get? b=some o):h.get? b=some o/\H b=none:=by
 have e':h.get? b=some o:=PySem.W.of_hideAll (trk h H) e
 refine ⟨e',?_⟩
 cases q:H b with
 | none=>rfl
 | some x=>
  have hm:b∈trk h H:=List.mem_filter.mpr ⟨List.mem_range.mpr (Heap.lt_size e'),by simp [q]⟩
  have z:(Zc3 h H).get? b=none:=PySem.W.hideAll_none (trk h H) hm
  rw [z] at e;cases e
def Uh (g h:Heap) (L:Addr):List (Addr×Obj):=(List.range h.objs.size).filterMap fun a=>if a=L∨(g.get? a).isSome=true then none else (h.get? a).map fun o=>(a,o)
theorem Gn {g h:Heap}{L a:Addr}{o:Obj} (h1:a≠L) (h2:g.get? a=none) (h3:h.get? a=some o):(a,o)∈Uh g h L:=
 List.mem_filterMap.mpr ⟨a,List.mem_range.mpr (Heap.lt_size h3),by simp [h1,h2,h3]⟩
theorem ZbB {g h:Heap}{L:Addr}{p:Addr×Obj} (hp:p∈Uh g h L):p.1≠L/\g.get? p.1=none/\h.get? p.1=some p.2:=by
 obtain ⟨b,_,e⟩:=List.mem_filterMap.mp hp
 split at e
 ·cases e
 ·rename_i hn
  cases q:h.get? b with
  | none=>rw [q] at e;simp at e
  | some u=>
   rw [q] at e
   simp only [Option.map_some,Option.some.injEq] at e
   subst e
   refine ⟨fun z=>hn (.inl z),?_,q⟩
   show g.get? b=none
   cases r:g.get? b with
   | none=>rfl
   | some v=>exact (hn (.inr (by simp [r]))).elim
def rest (g h:Heap) (L d:Addr):List (Addr×Obj):=(Uh g h L).filter fun p=>decide (p.1≠d)
theorem Ziv {g h:Heap}{L:Addr}:News g L h (Uh g h L):=fun p hp=>let ⟨a,b,c⟩:=ZbB hp;⟨c,a,b⟩
structure Mod (K:PySem.W.Frag) (mg:Str->Option Value) (base:Heap):Prop where
 kin:K.In base
 glob:base.Ns mainGlobals mg
 blt:∃mb,base.Ns builtinsNs mb /\ ∀x:Str,x ≠ "__name__" -> mb x=bootBuiltins x
 nolimit:base.NoLimit
structure Cx where
 prog:Program
 w:World
 K:PySem.W.Frag
 mg:Str->Option Value
 base:Heap
 A:Around
 N:List Str
 s₀:Shared
 H₀:Hp
 env:Env
 outer:List Env
 stack:List Env
 ex:List Addr
 fn:Str->Bool
 calm:Bool
 pn:List (Addr×Obj)
 xe:Value->Shared->Prop
def W9 (l:List Env):List Addr:=l.filterMap (·.frame)
abbrev Cx.fs (X:Cx):List Addr:=W9 X.outer
def Vis (sc:Scope) (x:Str):Prop:=sc.names.lookup x=some .local∨sc.names.lookup x=some .cell∨sc.names.lookup x=some .free
def Loc (sc:Scope) (x:Str):Prop:=sc.names.lookup x=some .local∨sc.names.lookup x=some .cell
def Look (env:Env) (h:Heap) (m:Str->Option Value) (x:Str) (u:Value):Prop:=
 (env.kindOf x=some .local/\m x=some u)∨((env.kindOf x=some .cell∨env.kindOf x=some .free) /\ ∃c,env.cells.lookup x=some c/\h.IsCell c (some u))
structure Cx.Ok (X:Cx):Prop where
 mod:Mod X.K X.mg X.base
 kind:X.env.scope.kind = .function
 glob:X.env.globals=mainGlobals
 blt:X.env.builtins=builtinsNs
 above:X.s₀.heap.objs.size<=X.env.locals
 inj:∀x y c,X.env.cells.lookup x=some c->X.env.cells.lookup y=some c->x=y
 has:∀x,(X.env.kindOf x=some .cell∨X.env.kindOf x=some .free) -> ∃c,X.env.cells.lookup x=some c
 cab:∀x c,X.fn x=true->X.env.cells.lookup x=some c->X.s₀.heap.objs.size<=c
 hd:X.calm=true->X.A.handled=none
 frames:X.A.frames=some X.stack
 stk:X.stack=X.outer∨(X.stack=X.env::X.outer/\X.env.frame=some X.env.locals)
 exf:∀b∈X.ex,b≠X.env.locals /\ ∀x c,X.env.cells.lookup x=some c->c≠b
 bs:∀b o,X.base.get? b=some o->X.s₀.heap.get? b=some o/\X.H₀ b=none
 bsz:X.base.objs.size<=X.s₀.heap.objs.size
 noex:∀b o,X.base.get? b=some o->b∉X.ex
 exfs:∀b∈X.ex,b∉X.fs
 funs:X.s₀.heap.FunFrames X.base X.outer
 frf:∀b∈X.fs,X.H₀ b=none
structure Inv (X:Cx) (pins:List (Addr×Obj)) (σ:List (Option V)) (H:Hp) (s:Shared):Prop where
 ok:X.Ok
 os:s.os=X.s₀.os
 bare:AllBare s.gens
 base:Un X.fs X.ex X.H₀ H X.s₀.heap s.heap
 loc:∃m,s.heap.Ns X.env.locals m /\ ∀(i:Nat) (x:Str) (v:V),X.N[i]? = some x -> σ[i]? = some (some v)->Vis X.env.scope x -> ∃u,RelV v u/\Look X.env s.heap m x u
 cell:∀x c,X.env.cells.lookup x=some c -> ∃v,s.heap.IsCell c v
 free:H X.env.locals=none
 freeC:∀x c,X.env.cells.lookup x=some c->H c=none
 pin:∀p∈X.pn++pins,s.heap.get? p.1=some p.2/\H p.1=none/\p.1≠X.env.locals/\p.1∉X.fs /\ ∀v,p.2.data ≠ .cell v
 hok:Wy X.prog X.w H s.heap
 len:σ.length=X.N.length
section
variable {X:Cx}{pins:List (Addr×Obj)} {σ:List (Option V)}{H H':Hp}{s:Shared}{h':Heap}
theorem Cx.Ok.nofr (ok:X.Ok) {b:Addr}{o:Obj} (e:X.base.get? b=some o):b∉X.fs:=fun hb=>by
 have:=(ok.funs.mem hb).1
 rw [e] at this;cases this
theorem Inv.bs (I:Inv X pins σ H s):∀b o,X.base.get? b=some o->s.heap.get? b=some o/\H b=none:=fun b o e=>
 ⟨I.base.keep b o (I.ok.bs b o e).1 (I.ok.bs b o e).2 (I.ok.nofr e) (I.ok.noex b o e),I.base.free b o (I.ok.bs b o e).1 (I.ok.bs b o e).2 (I.ok.noex b o e)⟩
theorem Inv.bk (I:Inv X pins σ H s):∀b o,X.base.get? b=some o->s.heap.get? b=some o:=fun b o e=>(I.bs b o e).1
theorem Inv.mod (I:Inv X pins σ H s):Mod X.K X.mg X.base:=I.ok.mod
theorem Inv.kIn (I:Inv X pins σ H s):X.K.In s.heap:=I.ok.mod.kin.keeps I.bk
theorem Inv.fr (I:Inv X pins σ H s):∃m,Fr X.base X.env.locals s.heap m:=
 let ⟨m,hn,_⟩:=I.loc
 ⟨m,hn,I.bk,Nat.le_trans I.ok.bsz I.ok.above⟩
theorem Inv.lt (I:Inv X pins σ H s):X.env.locals<s.heap.objs.size:=let ⟨_,hn,_⟩:=I.loc;hn.lt
theorem Inv.sz (I:Inv X pins σ H s):X.s₀.heap.objs.size<=s.heap.objs.size:=Nat.le_trans I.ok.above (Nat.le_of_lt I.lt)
theorem Inv.nofs (I:Inv X pins σ H s) {a:Addr} (h:s.heap.objs.size<=a):a∉X.fs:=fun hb=>by
 obtain ⟨_,o,ho,_⟩:=I.ok.funs.mem hb
 exact absurd (Nat.lt_of_lt_of_le (Heap.lt_size ho) (Nat.le_trans I.sz h)) (Nat.lt_irrefl _)
theorem Inv.cne (I:Inv X pins σ H s):∀x c,X.env.cells.lookup x=some c->c≠X.env.locals:=fun x c e z=>by
 obtain ⟨v,o,ho,hd⟩:=I.cell x c e
 obtain ⟨m,⟨o',es,ep,ho',hd',_⟩,_⟩:=I.loc
 rw [z,ho'] at ho;cases ho;rw [hd'] at hd;cases hd
theorem Inv.funs (I:Inv X pins σ H s):s.heap.FunFrames X.base X.outer:=by
 have all:∀(l:List Env),(∀b∈W9 l,b∈X.fs)->X.s₀.heap.FunFrames X.base l->s.heap.FunFrames X.base l:=by
  intro l
  induction l with
  | nil=>intro _ _;trivial
  | cons env r ih=>
   intro hs hl
   obtain ⟨hk,⟨L,o,hf,hn,ho,hd⟩,hr⟩:=hl
   have hL:L∈X.fs:=hs L (by unfold W9;rw [List.filterMap_cons,hf];exact List.mem_cons_self)
   obtain ⟨sl,e⟩:=I.base.slot L o ho (I.ok.frf L hL) hL fun z=>I.ok.exfs L z hL
   exact ⟨hk,⟨L,_,hf,hn,e,hd⟩,ih (fun b hb=>hs b (by unfold W9;rw [List.filterMap_cons,hf];exact List.mem_cons_of_mem _ hb)) hr⟩
 exact all X.outer (fun _ hb=>hb) I.ok.funs
theorem Inv.stack (I:Inv X pins σ H s):s.heap.FunFrames X.base X.stack:=by
 rcases I.ok.stk with e | ⟨e,hf⟩
 ·rw [e];exact I.funs
 ·rw [e]
  obtain ⟨m,hn,_⟩:=I.loc
  refine .cons (by rw [I.ok.kind];decide) hf hn ?_ I.funs
  exact Heap.get?_none_of_le (Nat.le_trans I.ok.bsz I.ok.above)
theorem Inv.stkSub (I:Inv X pins σ H s):∀b∈W9 X.stack,b∈X.env.locals::X.fs:=fun b hb=>by
 rcases I.ok.stk with e | ⟨e,hf⟩
 ·rw [e] at hb;exact List.mem_cons_of_mem _ hb
 ·rw [e] at hb
  unfold W9 at hb
  rw [List.filterMap_cons,hf] at hb
  exact hb
theorem Inv.stkFree (I:Inv X pins σ H s):∀b∈W9 X.stack,H b=none:=fun b hb=>by
 rcases List.mem_cons.mp (I.stkSub b hb) with e | hb
 ·rw [e];exact I.free
 ·obtain ⟨_,o,ho,_⟩:=I.ok.funs.mem hb
  exact I.base.free b o ho (I.ok.frf b hb) fun z=>I.ok.exfs b z hb
theorem Inv.step {g':Array GenState}{t':Nat}{d':Drawn}{ch:List Addr} (I:Inv X pins σ H s)
  (hch:∀b∈ch,(b∈X.ex∨X.s₀.heap.objs.size<=b)/\b≠X.env.locals/\(∀x c,X.env.cells.lookup x=some c->c≠b) /\ ∀p∈X.pn++pins,p.1≠b)
  (keep:∀b o,b≠X.env.locals->b∉X.fs->b∉ch->s.heap.get? b=some o->H b=none->h'.get? b=some o)
  (slot:∀b o,b≠X.env.locals->b∈X.fs->b∉ch->s.heap.get? b=some o->H b=none -> ∃sl,h'.get? b=some { o with slots:=sl }) (free:∀b o,b∉ch->s.heap.get? b=some o->H b=none->H' b=none)
  (there:∀b o,b∉ch->s.heap.get? b=some o -> ∃o',h'.get? b=some o')
  (tups:∀b xs,H b=some (.tup xs)->H' b=some (.tup xs)) (frzs:∀b o u,H b=some (.frz o u)->H' b=some (.frz o u)) (tbls:∀b ps,H b=some (.tbl ps) -> ∃more,H' b=some (.tbl (ps++more)))
  (ns:∀m,s.heap.Ns X.env.locals m->h'.Ns X.env.locals m) (hok:Wy X.prog X.w H' h') (hg:AllBare g'):
  Inv X pins σ H' { s with heap:=h',gens:=g',drawn:=d',toks:=t' }:=by
 have neL:∀b o,X.s₀.heap.get? b=some o->b≠X.env.locals:=fun b o e=>Nat.ne_of_lt (Nat.lt_of_lt_of_le (Heap.lt_size e) I.ok.above)
 have neC:∀b o,X.s₀.heap.get? b=some o->b∉X.ex->b∉ch:=fun b o e hx hb=>by
  rcases (hch b hb).1 with z | z
  ·exact hx z
  ·exact absurd (Nat.lt_of_lt_of_le (Heap.lt_size e) z) (Nat.lt_irrefl _)
 have cellK:∀x c,X.env.cells.lookup x=some c -> ∀v,s.heap.IsCell c v->h'.IsCell c v:=fun x c e v ⟨o,ho,hd⟩=>by
  have nch:c∉ch:=fun z=>(hch c z).2.2.1 x c e rfl
  by_cases hc:c∈X.fs
  ·obtain ⟨sl,q⟩:=slot c o (I.cne x c e) hc nch ho (I.freeC x c e)
   exact ⟨_,q,hd⟩
  ·exact ⟨o,keep c o (I.cne x c e) hc nch ho (I.freeC x c e),hd⟩
 refine ⟨I.ok,I.os,hg,⟨fun b o e n hb hx=>?_,fun b o e n hb hx=>?_,fun b o e n hx=>?_,fun b o e hx=>?_,fun b xs e=>tups b xs (I.base.tups b xs e),fun b o xs e=>frzs b o xs (I.base.frzs b o xs e),fun b ps e=>?_⟩,?_,fun x c e=>?_,?_,fun x c e=>?_,fun p hp=>?_,hok,I.len⟩
 ·exact keep b o (neL b o e) hb (neC b o e hx) (I.base.keep b o e n hb hx) (I.base.free b o e n hx)
 ·obtain ⟨sl,e1⟩:=I.base.slot b o e n hb hx
  obtain ⟨sl',e2⟩:=slot b _ (neL b o e) hb (neC b o e hx) e1 (I.base.free b o e n hx)
  exact ⟨sl',e2⟩
 ·obtain ⟨o',e1⟩:=I.base.there b o e hx
  exact free b o' (neC b o e hx) e1 (I.base.free b o e n hx)
 ·obtain ⟨o',e1⟩:=I.base.there b o e hx
  exact there b o' (neC b o e hx) e1
 ·obtain ⟨m1,e1⟩:=I.base.tbls b ps e
  obtain ⟨m2,e2⟩:=tbls b _ e1
  exact ⟨m1++m2,by rw [e2,Array.append_assoc]⟩
 ·obtain ⟨m,hn,hl⟩:=I.loc
  refine ⟨m,ns m hn,fun i x v e1 e2 e3=>?_⟩
  obtain ⟨u,r,l⟩:=hl i x v e1 e2 e3
  refine ⟨u,r,?_⟩
  rcases l with l | ⟨k,c,e,z⟩
  ·exact .inl l
  ·exact .inr ⟨k,c,e,cellK x c e _ z⟩
 ·obtain ⟨v,z⟩:=I.cell x c e
  exact ⟨v,cellK x c e v z⟩
 ·obtain ⟨m,⟨o,_,_,ho,_⟩,_⟩:=I.loc
  exact free _ o (fun z=>(hch _ z).2.1 rfl) ho I.free
 ·obtain ⟨v,o,ho,hd⟩:=I.cell x c e
  exact free c o (fun z=>(hch c z).2.2.1 x c e rfl) ho (I.freeC x c e)
 ·obtain ⟨e,n,ne,nf,d⟩:=I.pin p hp
  have nch:p.1∉ch:=fun z=>(hch p.1 z).2.2.2 p hp rfl
  exact ⟨keep p.1 p.2 ne nf nch e n,free p.1 p.2 nch e n,ne,nf,d⟩
theorem Inv.un {t':Nat} (I:Inv X pins σ H s) (u:Un X.fs [] H H' s.heap h') (hok:Wy X.prog X.w H' h'):Inv X pins σ H' { s with heap:=h',toks:=t' }:=by
 obtain ⟨m,⟨o,es,ep,ho,r⟩,_⟩:=id I.loc
 obtain ⟨sl,hL⟩:=u.any ho I.free (by simp)
 exact I.step (g':=s.gens) (d':=s.drawn) (ch:=[]) (fun _ z=>nomatch z) (fun b o _ hb _ e n=>u.keep b o e n hb (by simp)) (fun b o _ hb _ e n=>u.slot b o e n hb (by simp)) (fun b o _ e n=>u.free b o e n (by simp)) (fun b o _ e=>u.there b o e (by simp)) u.tups u.frzs u.tbls (fun m' hm=>by
  obtain ⟨o',es',ep',ho',r'⟩:=hm
  rw [ho] at ho';cases ho'
  exact ⟨_,es',ep',hL,r'⟩) hok I.bare
theorem Inv.call {g':Array GenState}{t':Nat}{d':Drawn}{ch:List Addr} (I:Inv X pins σ H s) (u:Un (W9 X.stack) ch H H' s.heap h') (hok:Wy X.prog X.w H' h') (hg:AllBare g')
  (hch:∀b∈ch,(b∈X.ex∨X.s₀.heap.objs.size<=b)/\b≠X.env.locals/\(∀x c,X.env.cells.lookup x=some c->c≠b) /\ ∀p∈X.pn++pins,p.1≠b):
  Inv X pins σ H' { s with heap:=h',gens:=g',drawn:=d',toks:=t' }:=by
 obtain ⟨m,⟨o,es,ep,ho,r⟩,_⟩:=id I.loc
 obtain ⟨sl,hL⟩:=u.any ho I.free fun z=>(hch _ z).2.1 rfl
 exact I.step (ch:=ch) hch (fun b o hL hb hc e n=>u.keep b o e n (fun z=>(List.mem_cons.mp (I.stkSub b z)).elim hL hb) hc) (fun b o _ _ hc e n=>u.any e n hc) (fun b o hc e n=>u.free b o e n hc) (fun b o hc e=>u.there b o e hc) u.tups u.frzs u.tbls (fun m' hm=>by
  obtain ⟨o',es',ep',ho',r'⟩:=hm
  rw [ho] at ho';cases ho'
  exact ⟨_,es',ep',hL,r'⟩) hok hg
theorem Inv.turned {t':Nat}{it:Addr} (I:Inv X pins σ H s) (k:∀b o,b≠it->s.heap.get? b=some o->h'.get? b=some o) (hn:H it=none) (hL:it≠X.env.locals)
  (h1:it∈X.ex∨X.s₀.heap.objs.size<=it) (h2:∀x c,X.env.cells.lookup x=some c->c≠it) (h3:∀p∈X.pn++pins,p.1≠it):Inv X pins σ H { s with heap:=h',toks:=t' }:=by
 have nit:∀b u,H b=some u->b≠it:=fun b u e z=>by rw [z,hn] at e;cases e
 refine I.step (g':=s.gens) (d':=s.drawn) (ch:=[it]) (fun b hb=>?_) (fun b o _ _ hc e _=>k b o (fun z=>hc (by simp [z])) e) (fun b o _ _ hc e _=>⟨o.slots,k b o (fun z=>hc (by simp [z])) e⟩) (fun _ _ _ _ n=>n)
  (fun b o hc e=>⟨o,k b o (fun z=>hc (by simp [z])) e⟩) (fun _ _ e=>e) (fun _ _ _ e=>e) (fun b ps e=>⟨#[],by rw [e];simp⟩) (fun m hm=>?_) (fun b u e=>?_) I.bare
 ·have e:b=it:=by simpa using hb
  subst e
  exact ⟨h1,hL,h2,h3⟩
 ·obtain ⟨o,es,ep,ho,r⟩:=hm
  exact ⟨o,es,ep,k _ o (Ne.symm hL) ho,r⟩
 ·refine (I.hok b u e).stay (fun c v hc q=>k c v ?_ q) (fun _ q=>q) fun _ _ q=>q
  rcases hc with z | z
  ·rw [z];exact nit b u e
  ·exact nit c _ z
theorem Inv.tok (I:Inv X pins σ H s) (t:Nat):Inv X pins σ H { s with toks:=t }:=I.un (h':=s.heap) (t':=t) Un.refl I.hok
theorem Inv.kept {t':Nat} (I:Inv X pins σ H s) (k:∀b u,s.heap.get? b=some u->h'.get? b=some u):Inv X pins σ H { s with heap:=h',toks:=t' }:=I.un (Un.kept k) (I.hok.kept k)
theorem Inv.laid {a:Addr}{o:HO}{t':Nat} (I:Inv X pins σ H s) (k:∀b u,s.heap.get? b=some u->h'.get? b=some u) (hp:s.heap.objs.size<=a) (new:Z7 X.prog X.w (upd H a o) h' a o):
  Inv X pins σ (upd H a o) { s with heap:=h',toks:=t' }:=I.un (Un.laid k hp (I.hok.fresh hp)) (I.hok.laid k hp new)
theorem Inv.write {x e:Addr}{o:HO}{t':Nat} (I:Inv X pins σ H s) (mu:Mut (H x)) (he:e=x∨H e=some (.own x)) (k:∀b u,b≠e->s.heap.get? b=some u->h'.get? b=some u) (heo:∃u,h'.get? e=some u)
  (new:Z7 X.prog X.w (upd H x o) h' x o):Inv X pins σ (upd H x o) { s with heap:=h',toks:=t' }:=I.un (Un.write mu he k heo) (I.hok.write mu he k heo new)
theorem Inv.pins_of {pins':List (Addr×Obj)} (I:Inv X pins σ H s) (h:∀p∈pins',s.heap.get? p.1=some p.2/\H p.1=none/\p.1≠X.env.locals/\p.1∉X.fs /\ ∀v,p.2.data ≠ .cell v):Inv X pins' σ H s:=
 ⟨I.ok,I.os,I.bare,I.base,I.loc,I.cell,I.free,I.freeC,fun p hp=>(List.mem_append.mp hp).elim (fun z=>I.pin p (List.mem_append_left _ z)) (h p),I.hok,I.len⟩
theorem ZdP {N:List Str} (hN:N.Nodup) {i j:Nat}{x:Str} (a:N[i]? = some x) (b:N[j]? = some x):i=j:=by
 obtain ⟨h1,e1⟩:=List.getElem?_eq_some_iff.mp a
 obtain ⟨h2,e2⟩:=List.getElem?_eq_some_iff.mp b
 exact (List.getElem_inj hN).mp (e1.trans e2.symm)
theorem Zap {M:Model}{A:Around}{E:Value->Shared->Prop}{i:Nat}{x:Str}{v:V}{u:Value}{Q:Unit->Shared->Prop} (I:Inv X pins σ H s) (hN:X.N.Nodup) (hi:X.N[i]? = some x) (hx:Loc X.env.scope x) (r:RelV v u)
  (h:∀s',Inv X pins (σ.set i (some v)) H s'->(∃a,Heap.SameBut a s.heap s'.heap/\(a=X.env.locals∨X.env.cells.lookup x=some a))->Q () s') (hf:X.fn x=true∨X.env.scope.names.lookup x=some .local:=by first | exact .inl rfl | exact .inr rfl | assumption):wpAny M A (storeName X.env x u) Q E s:=by
 obtain ⟨m,hn,hl⟩:=id I.loc
 have hcls:(X.env.scope.kind == .class||(X.env.scope.kind == .module&&X.env.locals != X.env.globals))=false:=by rw [I.ok.kind];rfl
 have hiσ:i < σ.length:=by rw [I.len];exact (List.getElem?_eq_some_iff.mp hi).1
 have cne:=I.cne
 have tracked:∀{a:Addr}{h':Heap},(∃o,s.heap.get? a=some o/\H a=none)->Heap.SameBut a s.heap h'->Wy X.prog X.w H h':=fun {a h'} ha hs b ob e=>by
  obtain ⟨_,_,hfree⟩:=ha
  refine (I.hok b ob e).stay (fun c w' hc q=>(hs.2 c ?_).trans q) (fun _ q=>q) fun _ _ q=>q
  rintro rfl
  rcases hc with rfl | hc
  ·rw [hfree] at e;cases e
  ·rw [hfree] at hc;cases hc
 rcases hx with hk | hk
 ·refine wpAny_storeName_local hk hn (fun h' hn' hs=>?_) hcls
  obtain ⟨oL,_,_,hoL,_⟩:=id hn
  refine h _ ⟨I.ok,I.os,I.bare,⟨fun b o e n hb hx=>?_,fun b o e n hb hx=>?_,I.base.free,fun b o e hx=>?_,I.base.tups,I.base.frzs,I.base.tbls⟩,⟨_,hn',fun j y v' e1 e2 e3=>?_⟩,fun y c e=>?_,I.free,I.freeC,fun p hp=>?_,tracked ⟨oL,hoL,I.free⟩ hs,by simpa using I.len⟩ ⟨_,hs,.inl rfl⟩
  ·exact (hs.2 b (Nat.ne_of_lt (Nat.lt_of_lt_of_le (Heap.lt_size e) I.ok.above))).trans (I.base.keep b o e n hb hx)
  ·obtain ⟨sl,e1⟩:=I.base.slot b o e n hb hx
   exact ⟨sl,(hs.2 b (Nat.ne_of_lt (Nat.lt_of_lt_of_le (Heap.lt_size e) I.ok.above))).trans e1⟩
  ·obtain ⟨o',e1⟩:=I.base.there b o e hx
   exact ⟨o',(hs.2 b (Nat.ne_of_lt (Nat.lt_of_lt_of_le (Heap.lt_size e) I.ok.above))).trans e1⟩
  ·by_cases hj:j=i
   ·subst hj
    rw [hi] at e1;cases e1
    rw [List.getElem?_set_self hiσ] at e2
    cases e2
    exact ⟨u,r,.inl ⟨hk,by simp⟩⟩
   ·rw [List.getElem?_set_ne (Ne.symm hj)] at e2
    obtain ⟨u',r',q⟩:=hl j y v' e1 e2 e3
    refine ⟨u',r',?_⟩
    rcases q with ⟨k,e⟩ | ⟨k,c,e,z⟩
    ·refine .inl ⟨k,?_⟩
     have:y≠x:=fun e=>hj (ZdP hN e1 (e ▸ hi))
     simp [this,e]
    ·exact .inr ⟨k,c,e,z.sameBut hs (cne y c e)⟩
  ·obtain ⟨w',z⟩:=I.cell y c e
   exact ⟨w',z.sameBut hs (cne y c e)⟩
  ·obtain ⟨e,n,ne,nf,d⟩:=I.pin p hp
   exact ⟨(hs.2 p.1 ne).trans e,n,ne,nf,d⟩
 ·have hfn:X.fn x=true:=by
   rcases hf with z | z
   ·exact z
   ·rw [z] at hk;cases hk
  obtain ⟨c,hc⟩:=I.ok.has x (.inl hk)
  obtain ⟨w',z⟩:=I.cell x c hc
  refine wpAny_storeName_cell I.ok.kind hk hc z (fun h' hc' hs=>?_)
  obtain ⟨oc,hoc,hocd⟩:=id z
  refine h { s with heap:=h' } ⟨I.ok,I.os,I.bare,⟨fun b o e n hb hx=>?_,fun b o e n hb hx=>?_,I.base.free,fun b o e hx=>?_,I.base.tups,I.base.frzs,I.base.tbls⟩,⟨m,hn.sameBut hs (Ne.symm (cne x c hc)),fun j y v' e1 e2 e3=>?_⟩,fun y c' e=>?_,I.free,I.freeC,fun p hp=>?_,tracked ⟨oc,hoc,I.freeC x c hc⟩ hs,by simpa using I.len⟩ ⟨c,hs,.inr hc⟩
  ·exact (hs.2 b (Nat.ne_of_lt (Nat.lt_of_lt_of_le (Heap.lt_size e) (I.ok.cab x c hfn hc)))).trans (I.base.keep b o e n hb hx)
  ·obtain ⟨sl,e1⟩:=I.base.slot b o e n hb hx
   exact ⟨sl,(hs.2 b (Nat.ne_of_lt (Nat.lt_of_lt_of_le (Heap.lt_size e) (I.ok.cab x c hfn hc)))).trans e1⟩
  ·obtain ⟨o',e1⟩:=I.base.there b o e hx
   exact ⟨o',(hs.2 b (Nat.ne_of_lt (Nat.lt_of_lt_of_le (Heap.lt_size e) (I.ok.cab x c hfn hc)))).trans e1⟩
  ·by_cases hj:j=i
   ·subst hj
    rw [hi] at e1;cases e1
    rw [List.getElem?_set_self hiσ] at e2
    cases e2
    exact ⟨u,r,.inr ⟨.inl hk,c,hc,hc'⟩⟩
   ·rw [List.getElem?_set_ne (Ne.symm hj)] at e2
    obtain ⟨u',r',q⟩:=hl j y v' e1 e2 e3
    refine ⟨u',r',?_⟩
    rcases q with q | ⟨k,c',e,z'⟩
    ·exact .inl q
    ·refine .inr ⟨k,c',e,z'.sameBut hs ?_⟩
     rintro rfl
     exact hj (ZdP hN e1 (I.ok.inj _ _ _ e hc ▸ hi))
  ·by_cases hcc:c'=c
   ·subst hcc;exact ⟨_,hc'⟩
   ·obtain ⟨w2,z2⟩:=I.cell y c' e
    exact ⟨w2,z2.sameBut hs hcc⟩
  ·obtain ⟨e,n,ne,nf,d⟩:=I.pin p hp
   refine ⟨(hs.2 p.1 ?_).trans e,n,ne,nf,d⟩
   intro q
   rw [q,hoc] at e
   have q':oc=p.2:=Option.some.inj e
   exact d w' (by rw [<- q'];exact hocd)
theorem ZdE {M:Model}{A:Around}{E:Value->Shared->Prop}{i:Nat}{x:Str}{v:V}{u:Value}{Q:Unit->Shared->Prop} (I:Inv X pins σ H s) (hN:X.N.Nodup) (hi:X.N[i]? = some x) (hx:Loc X.env.scope x) (r:RelV v u)
  (h:∀s',Inv X pins (σ.set i (some v)) H s'->Q () s') (hf:X.fn x=true∨X.env.scope.names.lookup x=some .local:=by first | exact .inl rfl | exact .inr rfl | assumption):wpAny M A (storeName X.env x u) Q E s:=
 Zap I hN hi hx r (fun s' I' _=>h s' I') hf
theorem Inv.call' {s':Shared}{ch:List Addr} (I:Inv X pins σ H s) (ho:s'.os=s.os) (u:Un (W9 X.stack) ch H H' s.heap s'.heap) (hok:Wy X.prog X.w H' s'.heap) (hg:AllBare s'.gens)
  (hch:∀b∈ch,(b∈X.ex∨X.s₀.heap.objs.size<=b)/\b≠X.env.locals/\(∀x c,X.env.cells.lookup x=some c->c≠b) /\ ∀p∈X.pn++pins,p.1≠b):Inv X pins σ H' s':=by
 obtain ⟨h',g',d',t',o'⟩:=s'
 have e:o'=s.os:=ho
 subst e
 exact I.call (g':=g') (t':=t') (d':=d') u hok hg hch
end
abbrev XK:=Value->Option Addr->Hp->Prop
abbrev St:=List (Option V)
abbrev VK:=V->Hp->Prop
abbrev TE:=St->Hp->VK->Prop
abbrev TT:=St->Hp->(Bool->Hp->Prop)->Prop
abbrev TA:=St->Hp->(List V->Hp->Prop)->Prop
structure Ends where
 nx:St->Hp->Prop
 rt:VK
 bk:St->Hp->Prop:=fun _ _=>False
 ct:St->Hp->Prop:=fun _ _=>False
abbrev TS:=Ends->St->Hp->Prop
def EP (X:Cx) (pins:List (Addr×Obj)) (σ:St) (Q:VK) (u:Value) (s':Shared):Prop:=∃v H',Inv X pins σ H' s'/\RelV v u/\Q v H'
def TP (X:Cx) (pins:List (Addr×Obj)) (σ:St) (Q:Bool->Hp->Prop) (b:Bool) (s':Shared):Prop:=∃H',Inv X pins σ H' s'/\Q b H'
def AP (X:Cx) (pins:List (Addr×Obj)) (σ:St) (Q:List V->Hp->Prop) (us:List Value) (s':Shared):Prop:=∃vs H',Inv X pins σ H' s'/\Vals vs us/\Q vs H'
def SP (X:Cx) (pins:List (Addr×Obj)) (D:Ends) (f:Flow) (s':Shared):Prop:=
 match f with
 | .next=>∃ σ' H',Inv X pins σ' H' s'/\D.nx σ' H'
 | .brk=>∃ σ' H',Inv X pins σ' H' s'/\D.bk σ' H'
 | .cont=>∃ σ' H',Inv X pins σ' H' s'/\D.ct σ' H'
 | .ret u=>∃v σ' H',Inv X pins σ' H' s'/\RelV v u/\D.rt v H'
def PE (X:Cx) (e:Expr) (t:TE):Prop:=
 ∀(pins:List (Addr×Obj)) (s:Shared) (σ:St) (H:Hp) (Q:VK),Inv X pins σ H s->t σ H Q->wpAny (model X.prog X.w) X.A (eval e X.env) (EP X pins σ Q) X.xe s
def PT (X:Cx) (e:Expr) (t:TT):Prop:=
 ∀(pins:List (Addr×Obj)) (s:Shared) (σ:St) (H:Hp) (Q:Bool->Hp->Prop),Inv X pins σ H s->t σ H Q->wpAny (model X.prog X.w) X.A (isTrue e X.env (eval e X.env)) (TP X pins σ Q) X.xe s
def PW (X:Cx) (e:Expr) (t:TT):Prop:=
 ∀(whole:Sem Value) (pins:List (Addr×Obj)) (s:Shared) (σ:St) (H:Hp) (Q:Bool->Hp->Prop),Inv X pins σ H s->t σ H Q->wpAny (model X.prog X.w) X.A (isTrue e X.env whole) (TP X pins σ Q) X.xe s
theorem PW.pt {X:Cx}{e:Expr}{t:TT} (h:PW X e t):PT X e t:=h _
def PA (X:Cx) (es:List Expr) (t:TA):Prop:=
 ∀(pos:Pos) (pins:List (Addr×Obj)) (s:Shared) (σ:St) (H:Hp) (Q:List V->Hp->Prop),Inv X pins σ H s->t σ H Q->wpAny (model X.prog X.w) X.A (spliced (backTo pos (starEach es X.env))) (AP X pins σ Q) X.xe s
def PS (X:Cx) (st:Stmt) (t:TS):Prop:=
 ∀(pins:List (Addr×Obj)) (s:Shared) (σ:St) (H:Hp) (D:Ends),Inv X pins σ H s->t D σ H->wpAny (model X.prog X.w) X.A (exec st X.env) (SP X pins D) X.xe s
def PSs (X:Cx) (st:List Stmt) (t:TS):Prop:=
 ∀(pins:List (Addr×Obj)) (s:Shared) (σ:St) (H:Hp) (D:Ends),Inv X pins σ H s->t D σ H->wpAny (model X.prog X.w) X.A (execs st X.env) (SP X pins D) X.xe s
theorem Yq {α:Type}{t:Sem α}{Q Q':α -> Shared->Prop}{M:Model}{A:Around}{E:Value->Shared->Prop}{s:Shared} (h:wpAny M A t Q E s) (hQ:∀a s,Q a s->Q' a s):wpAny M A t Q' E s:=wpAny_mono h hQ fun _ _ x=>x
section
variable {X:Cx}
def Zht (i:Nat):TE:=fun σ H Q=>∃v,σ[i]? = some (some v)/\Q v H
def tC (v:V):TE:=fun _ H Q=>Q v H
theorem ZkX {i:Nat}{x:Str}{pos:Pos} (hN:X.N[i]? = some x) (hv:Vis X.env.scope x) (hd:(x==("__debug__" : Str))=false:=by decide) (hcd:(x==("__classdict__" : Str))=false:=by decide):PE X (.Name x pos) (Zht i):=by
 intro pins s σ H Q I h
 obtain ⟨v,e,h⟩:=h
 obtain ⟨m,hn,hl⟩:=I.loc
 obtain ⟨u,r,l⟩:=hl i x v hN e hv
 have fin:EP X pins σ Q u s:=⟨v,H,I,r,h⟩
 rcases l with ⟨hk,hm⟩ | ⟨hk,c,hc,hcell⟩
 ·exact wpAny_Name (wpAny_loadName_local I.ok.kind hk hn hm fin) hd
 ·rcases hk with hk | hk
  ·exact wpAny_Name (wpAny_loadName_cell I.ok.kind hk hc hcell fin) hd
  ·exact wpAny_Name (wpAny_loadName_free I.ok.kind hk hc hcell fin hcd) hd
theorem Zf {i j pos}:PE X (.Constant (.int i) j pos) (tC (.int i)):=fun _ _ _ H _ I h=>wpAny_Constant_int ⟨.int i,H,I.tok _,⟨_,rfl⟩,h⟩
theorem ZbJ {b j pos}:PE X (.Constant (.bool b) j pos) (tC (.bl b)):=fun _ _ _ H _ I h=>Constant_bool ⟨.bl b,H,I,rfl,h⟩
theorem ZV {x j pos}:PE X (.Constant (.str x) j pos) (tC (.str x)):=fun _ _ _ H _ I h=>Calls.Constant_str ⟨.str x,H,I.tok _,⟨_,rfl⟩,h⟩
def Gl (X:Cx) (x:Str):Prop:=X.env.kindOf x=some .globalImplicit
theorem WZ {E:Value->Shared->Prop}{pins:List (Addr×Obj)}{s:Shared} {σ:St}{H:Hp}{x:Str}{u:Value}{pos:Pos}{Q:Value->Shared->Prop} (I:Inv X pins σ H s) (hg:Gl X x) (hm:X.mg x=some u) (h:Q u s)
  (hd:(x==("__debug__" : Str))=false:=by decide):wpAny (model X.prog X.w) X.A (eval (.Name x pos) X.env) Q E s:=
 Calls.Name_function_global I.ok.kind hg (Calls.loadGlobal_global (by rw [I.ok.glob];exact I.mod.glob.keeps I.bk) hm h) hd
theorem Wq {E:Value->Shared->Prop}{pins:List (Addr×Obj)}{s:Shared} {σ:St}{H:Hp}{x:Str}{u:Value}{pos:Pos}{Q:Value->Shared->Prop} (I:Inv X pins σ H s) (hg:Gl X x) (hm:X.mg x=none) (hv:bootBuiltins x=some u) (h:Q u s)
  (hn:x ≠ "__name__" := by decide) (hd:(x==("__debug__" : Str))=false:=by decide):wpAny (model X.prog X.w) X.A (eval (.Name x pos) X.env) Q E s:=by
 obtain ⟨mb,h1,h2⟩:=I.mod.blt
 exact Calls.Name_function_global I.ok.kind hg (Calls.loadGlobal_builtin (by rw [I.ok.glob];exact I.mod.glob.keeps I.bk) hm (by rw [I.ok.blt];exact h1.keeps I.bk) ((h2 x hn).trans hv) h) hd
theorem ZjL {x:Str}{v:V}{u:Value}{pos:Pos} (hg:Gl X x) (hm:X.mg x=some u) (r:RelV v u) (hd:(x==("__debug__" : Str))=false:=by decide):PE X (.Name x pos) (tC v):=
 fun _ _ _ H _ I h=>WZ I hg hm ⟨v,H,I,r,h⟩ hd
variable {a b:Expr}{ta tb:TE}{pos:Pos}
def PC (X:Cx) (op:CmpOp) (a b:Expr) (t:TE):Prop:=
 ∀(pins:List (Addr×Obj)) (s:Shared) (σ:St) (H:Hp) (Q:VK),Inv X pins σ H s->t σ H Q ->
  wpAny (model X.prog X.w) X.A (eval a X.env) (fun v s₁=>wpAny (model X.prog X.w) X.A (eval b X.env) (fun u s₂=>wpAny (model X.prog X.w) X.A (compareOp op v u) (EP X pins σ Q) X.xe s₂) X.xe s₁) X.xe s
def tB (t:TE):TT:=fun σ H Q=>t σ H fun x H1=>∃c,x = .bl c/\Q c H1
theorem ZkY {op:CmpOp}{t:TE} (h:PC X op a b t) (h1:behindInMarks op b=false:=by first | exact nobehind _ (by decide) (by decide) | rfl):PT X (.Compare a [op] [b] pos) (tB t):=by
 intro pins s σ H Q I hw
 refine wpAny_isTrue_Compare1 (Yq (h pins s σ H _ I hw) fun v s1 h1=>Yq h1 fun u s2 h2=>Yq h2 fun c s3 ⟨x,H1,I1,r1,q1⟩=>?_) h1
 obtain ⟨d,rfl,q⟩:=q1
 cases r1
 exact wpAny_truthy_bool ⟨H1,I1,q⟩
theorem ZhA {e:Expr}{t:TE} (h:PE X e t) (he:∀whole,isTrue e X.env whole=(do let v <- whole;standAt e.pos;holding [v] (truthy v)):=by intro _;rfl):PT X e (tB t):=by
 intro pins s σ H Q I hw
 refine isTrue_plain (Yq (h pins s σ H _ I hw) fun v s1 ⟨x,H1,I1,r1,q1⟩=>?_) (he _)
 obtain ⟨d,rfl,q⟩:=q1
 cases r1
 exact wpAny_truthy_bool ⟨H1,I1,q⟩
variable {tA tB':TT}{rest:List Expr}
def Zm0 (t u:TT):TT:=fun σ H Q=>t σ H fun c H1=>if c=true then u σ H1 Q else Q false H1
def tOr (t u:TT):TT:=fun σ H Q=>t σ H fun c H1=>if c=true then Q true H1 else u σ H1 Q
def ZnC (t:TT):TT:=fun σ H Q=>t σ H fun c H1=>Q (!c) H1
theorem Zaj (ha:PT X a tA):PW X (.BoolOp .And [a] pos) tA:=by
 intro wh pins s σ H Q I h
 refine isTrue_and (Yq (ha pins s σ H Q I h) fun c s1 e=>?_)
 cases c with
 | true=>exact isTrue_and_nil e
 | false=>exact e
theorem ZlU (ha:PT X a tA):PW X (.BoolOp .Or [a] pos) tA:=by
 intro wh pins s σ H Q I h
 refine isTrue_or (Yq (ha pins s σ H Q I h) fun c s1 e=>?_)
 cases c with
 | false=>exact isTrue_or_nil e
 | true=>exact e
theorem ZaD (ha:PT X a tA) (hb:PW X (.BoolOp .And (b::rest) pos) tB'):PW X (.BoolOp .And (a::b::rest) pos) (Zm0 tA tB'):=by
 intro wh pins s σ H Q I h
 refine isTrue_and (Yq (ha pins s σ H _ I h) fun c s1 ⟨H1,I1,q1⟩=>?_)
 cases c with
 | true=>exact hb wh pins s1 σ H1 Q I1 q1
 | false=>exact ⟨H1,I1,q1⟩
theorem ZmT (ha:PT X a tA) (hb:PW X (.BoolOp .Or (b::rest) pos) tB'):PW X (.BoolOp .Or (a::b::rest) pos) (tOr tA tB'):=by
 intro wh pins s σ H Q I h
 refine isTrue_or (Yq (ha pins s σ H _ I h) fun c s1 ⟨H1,I1,q1⟩=>?_)
 cases c with
 | true=>exact ⟨H1,I1,q1⟩
 | false=>exact hb wh pins s1 σ H1 Q I1 q1
theorem ZlV (ha:PT X a tA):PT X (.UnaryOp .Not a pos) (ZnC tA):=by
 intro pins s σ H Q I h
 exact isTrue_not (ha pins s σ H (fun c H1=>Q (!c) H1) I h)
def tIf (t:TT) (ta tb:TE):TE:=fun σ H Q=>t σ H fun c H1=>if c=true then ta σ H1 Q else tb σ H1 Q
theorem Zha {c:Expr} (hc:PT X c tA) (ha:PE X a ta) (hb:PE X b tb):PE X (.IfExp c a b pos) (tIf tA ta tb):=by
 intro pins s σ H Q I h
 refine wpAny_IfExp (Yq (hc pins s σ H _ I h) fun d s1 ⟨H1,I1,q1⟩=>?_)
 cases d with
 | true=>exact ha pins s1 σ H1 Q I1 q1
 | false=>exact hb pins s1 σ H1 Q I1 q1
end
def Zp (K:PySem.W.Frag) (H:Hp) (a:Addr) (xs:List V):Prop:=
 Rd H a (.lst xs) ∨
  ∃(o:Obj) (its:Array Value) (n:Nat),K.lookup a=some o/\o.cls = .type "list" /\ o.dict=none/\o.data = .seq its n/\its.size<=sizeLine/\Vals xs its.toList
def Gh (K:PySem.W.Frag) (H:Hp) (a:Addr) (xs:List V):Prop:=
 Rd H a (.tup xs) ∨
  ∃(o:Obj) (its:Array Value) (n:Nat),K.lookup a=some o/\o.cls = .type "tuple" /\ o.data = .seq its n/\its.size<=sizeLine/\Vals xs its.toList
def Znz:Value->Option V
 | .none=>some .non
 | .bool b=>some (.bl b)
 | .int i _=>some (.int i)
 | .str x _=>some (.str x)
 | .bytes b _=>some (.byt b)
 | .float b _=>some (.flt b)
 | .ref a=>some (.ref a)
 | .type n=>some (.ty n)
 | _=>none
theorem RelV.abs {x:V}{u:Value} (r:RelV x u):Znz u=some x:=by
 cases x with
 | non=>cases r;rfl
 | bl _=>cases r;rfl
 | int _=>obtain ⟨t,rfl⟩:=r;rfl
 | str _=>obtain ⟨t,rfl⟩:=r;rfl
 | byt _=>obtain ⟨t,rfl⟩:=r;rfl
 | flt _=>obtain ⟨t,rfl⟩:=r;rfl
 | ref _=>cases r;rfl
 | ty _=>cases r;rfl
theorem RelV.inj {x y:V}{u:Value} (r:RelV x u) (q:RelV y u):x=y:=Option.some.inj (r.abs.symm.trans q.abs)
theorem Vals.inj:∀{xs ys:List V}{us:List Value},Vals xs us->Vals ys us->xs=ys
 | _,_,_,.nil,.nil=>rfl
 | _,_,_,.cons r t,.cons r' t'=>by rw [r.inj r',Vals.inj t t']
section
variable {X:Cx}{pins:List (Addr×Obj)} {σ:St}{H:Hp}{s:Shared}{a:Addr}{xs ys:List V}
theorem Zp.of {K:PySem.W.Frag} (h:H a=some (.lst xs)):Zp K H a xs:=.inl (.inl h)
theorem Gh.of {K:PySem.W.Frag} (h:H a=some (.tup xs)):Gh K H a xs:=.inl (.inl h)
theorem Inv.list (I:Inv X pins σ H s) (h:Zp X.K H a xs):∃its:List Value,Vals xs its/\PlainL s.heap a its.toArray/\xs.length<=sizeLine:=by
 rcases h with h | ⟨o,its,n,hk,hc,hd,hs,hz,r⟩
 ·obtain ⟨z,its,n,r,e⟩:=h.ok I.hok
  exact ⟨its,r,⟨_,n,e,rfl,rfl,rfl⟩,z⟩
 ·refine ⟨its.toList,r,⟨o,n,I.kIn a o hk,hc,hd,by simpa using hs⟩,?_⟩
  have e:=r.length
  simp only [Array.length_toList] at e
  lia
theorem Inv.tuple (I:Inv X pins σ H s) (h:Gh X.K H a xs):∃its:List Value,Vals xs its/\IsTup s.heap a its.toArray/\xs.length<=sizeLine:=by
 rcases h with h | ⟨o,its,n,hk,hc,hs,hz,r⟩
 ·obtain ⟨z,its,r,p⟩:=h.ok I.hok
  exact ⟨its,r,p,z⟩
 ·refine ⟨its.toList,r,⟨o,I.kIn a o hk,hc,n,by simpa using hs⟩,?_⟩
  have e:=r.length
  simp only [Array.length_toList] at e
  lia
theorem Inv.list_inj (I:Inv X pins σ H s) (h:Zp X.K H a xs) (h':Zp X.K H a ys):xs=ys:=by
 obtain ⟨its,r,⟨o,n,e,_,_,d⟩,_⟩:=I.list h
 obtain ⟨its',r',⟨o',n',e',_,_,d'⟩,_⟩:=I.list h'
 rw [e] at e';cases e'
 rw [d] at d'
 injection d' with d1 _
 have:its=its':=by simpa using congrArg Array.toList d1
 subst this
 exact r.inj r'
theorem Inv.tuple_inj (I:Inv X pins σ H s) (h:Gh X.K H a xs) (h':Gh X.K H a ys):xs=ys:=by
 obtain ⟨its,r,⟨o,e,_,n,d⟩,_⟩:=I.tuple h
 obtain ⟨its',r',⟨o',e',_,n',d'⟩,_⟩:=I.tuple h'
 rw [e] at e';cases e'
 rw [d] at d'
 injection d' with d1 _
 have:its=its':=by simpa using congrArg Array.toList d1
 subst this
 exact r.inj r'
end
abbrev Cx.wish (X:Cx) (E:Value->Shared->Prop):Cx:={ X with xe:=E }
abbrev Cx.nox (X:Cx):Cx:=X.wish fun _ _=>False
theorem Cx.Ok.wish {X:Cx} (ok:X.Ok) (E:Value->Shared->Prop):(X.wish E).Ok:=
 ⟨ok.mod,ok.kind,ok.glob,ok.blt,ok.above,ok.inj,ok.has,ok.cab,ok.hd,ok.frames,ok.stk,ok.exf,ok.bs,ok.bsz,ok.noex,ok.exfs,ok.funs,ok.frf⟩
theorem Cx.Ok.unwish {X:Cx}{E:Value->Shared->Prop} (ok:(X.wish E).Ok):X.Ok:=
 ⟨ok.mod,ok.kind,ok.glob,ok.blt,ok.above,ok.inj,ok.has,ok.cab,ok.hd,ok.frames,ok.stk,ok.exf,ok.bs,ok.bsz,ok.noex,ok.exfs,ok.funs,ok.frf⟩
section
variable {X:Cx}{pins:List (Addr×Obj)} {σ:St}{H:Hp}{s:Shared}{E:Value->Shared->Prop}
theorem Inv.wish (I:Inv X pins σ H s) (E:Value->Shared->Prop):Inv (X.wish E) pins σ H s:=⟨I.ok.wish E,I.os,I.bare,I.base,I.loc,I.cell,I.free,I.freeC,I.pin,I.hok,I.len⟩
theorem Inv.unwish (I:Inv (X.wish E) pins σ H s):Inv X pins σ H s:=⟨I.ok.unwish,I.os,I.bare,I.base,I.loc,I.cell,I.free,I.freeC,I.pin,I.hok,I.len⟩
theorem SP.unwish {D:Ends}{f:Flow}{s':Shared} (h:SP (X.wish E) pins D f s'):SP X pins D f s':=by
 cases f with
 | next=>obtain ⟨σ',H',I,q⟩:=h;exact ⟨σ',H',I.unwish,q⟩
 | brk=>obtain ⟨σ',H',I,q⟩:=h;exact ⟨σ',H',I.unwish,q⟩
 | cont=>obtain ⟨σ',H',I,q⟩:=h;exact ⟨σ',H',I.unwish,q⟩
 | ret u=>obtain ⟨v,σ',H',I,r,q⟩:=h;exact ⟨v,σ',H',I.unwish,r,q⟩
theorem PSs.nox {st:List Stmt}{t:TS} (h:PSs X.nox st t):PSs X st t:=fun pins s σ H D I hw=>
 wpAny_mono (h pins s σ H D (I.wish _) hw) (fun _ _ q=>q.unwish) fun _ _ z=>False.elim z
end
section
variable {X:Cx}{st:Stmt}{rest:List Stmt}{t u:TS}{e:Expr}{te:TE}{pos:Pos}
def ZmZ:TS:=fun D σ H=>D.nx σ H
def Zmp (t u:TS):TS:=fun D σ H=>t { D with nx:=u D } σ H
theorem Yd:PSs X [] ZmZ:=fun _ _ σ H _ I h=>wpAny_execs_nil ⟨σ,H,I,h⟩
theorem Ze (h1:PS X st t) (h2:PSs X rest u):PSs X (st::rest) (Zmp t u):=by
 intro pins s σ H D I h
 refine wpAny_execs_cons (Yq (h1 pins s σ H { D with nx:=u D } I h) fun f s1 q=>?_)
 cases f with
 | next=>
  obtain ⟨σ',H',I',q⟩:=q
  exact h2 pins s1 σ' H' D I' q
 | ret v=>exact q
 | brk=>exact q
 | cont=>exact q
theorem Zi (h1:PS X st t):PSs X [st] t:=by
 intro pins s σ H D I h
 refine wpAny_execs_cons (Yq (h1 pins s σ H D I h) fun f s1 q=>?_)
 cases f with
 | next=>exact wpAny_execs_nil q
 | ret v=>exact q
 | brk=>exact q
 | cont=>exact q
theorem Inv.quiet {pins:List (Addr×Obj)} {σ:St}{H:Hp}{s:Shared} (I:Inv X pins σ H s):interactive X.env=false:=by simp [interactive,I.ok.kind]
def ZmR (te:TE):TS:=fun D σ H=>te σ H fun _ H1=>D.nx σ H1
theorem Yj (he:PE X e te) (hs:swapsWith e none pos.line X.env=pure false:=by rfl):PS X (.Expr e pos) (ZmR te):=by
 intro pins s σ H D I h
 exact wpAny_Expr_any (Yq (he pins s σ H _ I h) fun v s1 ⟨x,H1,I1,r1,q1⟩=>⟨σ,H1,I1,q1⟩) I.quiet hs
def ZnF (te:TE):TS:=fun D σ H=>te σ H D.rt
theorem Zz (he:PE X e te):PS X (.Return (some e) pos) (ZnF te):=by
 intro pins s σ H D I h
 exact wpAny_Return_some (Yq (he pins s σ H _ I h) fun v s1 ⟨x,H1,I1,r1,q1⟩=>⟨x,σ,H1,I1,r1,q1⟩)
def ZmV (c:TT) (t u:TS):TS:=fun D σ H=>c σ H fun b H1=>if b=true then t D σ H1 else u D σ H1
theorem YY {c:Expr}{a b:List Stmt}{tc:TT} (hc:PT X c tc) (ha:PSs X a t) (hb:PSs X b u):PS X (.If c a b pos) (ZmV tc t u):=by
 intro pins s σ H D I h
 refine wpAny_If (Yq (hc pins s σ H _ I h) fun d s1 ⟨H1,I1,q1⟩=>?_)
 cases d with
 | true=>exact ha pins s1 σ H1 D I1 q1
 | false=>exact hb pins s1 σ H1 D I1 q1
end
abbrev TG:=V->St->Hp->(St->Hp->Prop)->Prop
abbrev TGs:=List V->St->Hp->(St->Hp->Prop)->Prop
def PG (X:Cx) (target:Expr) (t:TG):Prop:=
 ∀(pins:List (Addr×Obj)) (s:Shared) (σ:St) (H:Hp) (v:V) (u:Value) (Q:St->Hp->Prop),Inv X pins σ H s->RelV v u->t v σ H Q ->
  wpAny (model X.prog X.w) X.A (assign target X.env u) (fun _ s'=>∃ σ' H',Inv X pins σ' H' s'/\Q σ' H') X.xe s
def PGs (X:Cx) (ts:List Expr) (t:TGs):Prop:=
 ∀(pins:List (Addr×Obj)) (s:Shared) (σ:St) (H:Hp) (vs:List V) (us:List Value) (Q:St->Hp->Prop),Inv X pins σ H s->Vals vs us->t vs σ H Q ->
  wpAny (model X.prog X.w) X.A (assignInOrder ((assignEach ts X.env).map (·.2)) us) (fun _ s'=>∃ σ' H',Inv X pins σ' H' s'/\Q σ' H') X.xe s
abbrev Zlx:=V->V->V->Hp->(Hp->Prop)->Prop
def ZkZ (X:Cx) (t:Zlx):Prop:=
 ∀(pins:List (Addr×Obj)) (s:Shared) (σ:St) (H:Hp) (o i v:V) (ov iv u:Value) (Q:Hp->Prop),Inv X pins σ H s->RelV o ov->RelV i iv->RelV v u->t o i v H Q ->
  wpAny (model X.prog X.w) X.A (setItem ov iv u) (fun _ s'=>∃H',Inv X pins σ H' s'/\Q H') X.xe s
section
variable {X:Cx}{pos:Pos}
def Jf (i:Nat):TG:=fun v σ H Q=>Q (σ.set i (some v)) H
theorem Zn {i:Nat}{x:Str} (hN:X.N.Nodup) (hi:X.N[i]? = some x) (hx:Loc X.env.scope x) (hf:X.fn x=true∨X.env.scope.names.lookup x=some .local:=by first | exact .inl rfl | exact .inr rfl | assumption):PG X (.Name x pos) (Jf i):=by
 intro pins s σ H v u Q I r h
 exact wpAny_assign_Name (ZdE I hN hi hx r (fun s' I'=>⟨_,H,I',h⟩) hf)
def Znj:TGs:=fun vs σ H Q=>vs = []/\Q σ H
def ZmG (t:TG) (u:TGs):TGs:=fun vs σ H Q=>∃v r,vs=v::r/\t v σ H fun σ' H'=>u r σ' H' Q
theorem WQ:PGs X [] Znj:=by
 intro pins s σ H vs us Q I r h
 obtain ⟨e,h⟩:=h
 subst e
 cases r
 exact assignInOrder_nil ⟨σ,H,I,h⟩
theorem Yf {e:Expr}{es:List Expr}{t:TG}{u:TGs} (h1:PG X e t) (h2:PGs X es u)
  (hs:(assignEach (e::es) X.env).map (·.2)=assign e X.env::(assignEach es X.env).map (·.2):=by rfl):PGs X (e::es) (ZmG t u):=by
 intro pins s σ H vs us Q I r h
 obtain ⟨v,vr,e1,h⟩:=h
 subst e1
 cases r with
 | cons r rr=>
  rw [hs]
  refine assignInOrder_cons (Yq (h1 pins s σ H _ _ _ I r h) fun _ s1 ⟨σ1,H1,I1,q1⟩=>?_)
  exact h2 pins s1 σ1 H1 _ _ Q I1 rr q1
def ZmA (K:PySem.W.Frag) (n:Nat) (t:TGs):TG:=fun v σ H Q=>∃a xs,v = .ref a/\Gh K H a xs/\xs.length=n/\t xs σ H Q
theorem Zlz {es:List Expr}{k:Nat}{t:TGs}{n:Nat} (hc:X.calm=true) (h:PGs X es t)
  (hn:(assignEach es X.env).length=n:=by rfl) (hst:(assignEach es X.env).findIdx? (·.1)=none:=by rfl):PG X (.Tuple es k pos) (ZmA X.K n t):=by
 intro pins s σ H v u Q I r hw
 obtain ⟨a,xs,e1,hq,hl,hw⟩:=hw
 subst e1
 cases r
 obtain ⟨its,rv,ht,hz⟩:=I.tuple hq
 refine assign_Tuple_tuple (I.ok.hd hc) ht (by simp [hn,<- hl,rv.length]) hst fun h' hx=>?_
 have I1:Inv X pins σ H { s with heap:=h' }:=I.kept (t':=s.toks) fun b o e=>hx b o (Nat.ne_of_lt (Heap.lt_size e)) e
 exact h pins _ σ H xs _ Q I1 (by simpa using rv) hw
def Znx (to ti:TE) (t:Zlx):TG:=fun v σ H Q=>to σ H fun o H1=>ti σ H1 fun i H2=>t o i v H2 fun H3=>Q σ H3
theorem JC {o i:Expr}{to ti:TE}{t:Zlx} (ho:PE X o to) (hi:PE X i ti) (hs:ZkZ X t)
  (ha:∀v,assign (.Subscript o i pos) X.env v=(do
   let ov <- holding [v] (eval o X.env)
   let iv <- holding [v,ov] (eval i X.env)
   standAt pos
   holding [v,ov,iv] (setItem ov iv v)
   release [v,ov,iv] []):=by intro _;rfl):PG X (.Subscript o i pos) (Znx to ti t):=by
 intro pins s σ H v u Q I r h
 rw [ha]
 refine wpAny_bind (wpAny_holding (Yq (ho pins s σ H _ I h) fun ov s1 ⟨x,H1,I1,r1,q1⟩=>?_))
 refine wpAny_bind (wpAny_holding (Yq (hi pins s1 σ H1 _ I1 q1) fun iv s2 ⟨y,H2,I2,r2,q2⟩=>?_))
 refine wpAny_bind (wpAny_standAt (wpAny_bind (wpAny_holding (Yq (hs pins s2 σ H2 x y v ov iv u _ I2 r1 r2 r q2) fun _ s3 ⟨H3,I3,q3⟩=>?_))))
 exact wpAny_release ⟨σ,H3,I3,q3⟩
def Zj6 (te:TE) (g:TG):TS:=fun D σ H=>te σ H fun x H1=>g x σ H1 D.nx
theorem YE {tg e:Expr}{te:TE}{g:TG} (he:PE X e te) (hg:PG X tg g) (hs:swapsWithSole [tg] e pos.line X.env=pure false:=by rfl) (hw:swappedStores [tg] e X.env=pure none:=by rfl)
  (h1:(assignEach [tg] X.env).map (·.2) = [assign tg X.env]:=by rfl):PS X (.Assign [tg] e pos) (Zj6 te g):=by
 intro pins s σ H D I h
 refine wpAny_Assign_stores (Yq (he pins s σ H _ I h) fun v s1 ⟨x,H1,I1,r1,q1⟩=>?_) hs hw
 rw [h1]
 exact Yq (hg pins s1 σ H1 x v _ I1 r1 q1) fun _ s2 q=>q
theorem Zq {i:Nat}{x:Str}{e:Expr}{te:TE}{pos':Pos} (hN:X.N.Nodup) (hi:X.N[i]? = some x) (hx:Loc X.env.scope x) (he:PE X e te) (hs:swapsWith e (some (.Name x pos')) pos.line X.env=pure false:=by rfl) (hf:X.fn x=true∨X.env.scope.names.lookup x=some .local:=by first | exact .inl rfl | exact .inr rfl | assumption):
  PS X (.Assign [.Name x pos'] e pos) (Zj6 te (Jf i)):=by
 intro pins s σ H D I h
 refine wpAny_Assign_Name (Yq (he pins s σ H _ I h) fun v s1 ⟨y,H1,I1,r1,q1⟩=>?_) hs
 exact ZdE I1 hN hi hx r1 (fun s2 I2=>⟨_,H1,I2,q1⟩) hf
end
section
variable {X:Cx}{pos:Pos}
def Zhx (c:TT) (tb:TS):TS:=fun D σ H=>∃W:Nat->St->Hp->Prop,(∃m,W m σ H) /\ ∀m σ H,W m σ H ->
 c σ H fun b H1=>if b=true then ∃N:St->Hp->Prop,(∀ σ' H',N σ' H' -> ∃m',m'<m/\W m' σ' H')/\tb { D with nx:=N,ct:=N,bk:=D.nx } σ H1 else D.nx σ H1
theorem ZiC {c:Expr}{body:List Stmt}{tc:TT}{tb:TS} (hp:PassesOwn (model X.prog X.w) X.A X.env X.xe) (hc:PT X c tc) (hb:PSs X body tb):PS X (.While c body [] pos) (Zhx tc tb):=by
 intro pins s σ H D I h
 obtain ⟨W,⟨m0,w0⟩,turn⟩:=h
 refine wpAny_While (codeAny_whileLoop (fun n s'=>∃ σ' H',Inv X pins σ' H' s'/\W n σ' H') ?_ m0 ⟨σ,H,I,w0⟩)
 rintro n s1 ⟨σ1,H1,I1,w1⟩
 refine wpAny_passesOwn hp (Yq (hc pins s1 σ1 H1 _ I1 (turn n σ1 H1 w1)) fun b s2 ⟨H2,I2,q2⟩=>?_)
 cases b with
 | true=>
  obtain ⟨N,hN,q2⟩:=q2
  rw [if_pos rfl]
  refine wpAny_passesOwn hp (Yq (hb pins s2 σ1 H2 _ I2 q2) fun f s3 q3=>?_)
  cases f with
  | next=>
   obtain ⟨σ3,H3,I3,n3⟩:=q3
   obtain ⟨m',hm,w3⟩:=hN σ3 H3 n3
   exact ⟨m',hm,σ3,H3,I3,w3⟩
  | cont=>
   obtain ⟨σ3,H3,I3,n3⟩:=q3
   obtain ⟨m',hm,w3⟩:=hN σ3 H3 n3
   exact ⟨m',hm,σ3,H3,I3,w3⟩
  | brk=>exact q3
  | ret v=>exact q3
 | false=>
  rw [if_neg Bool.false_ne_true]
  exact wpAny_execs_nil ⟨σ1,H2,I2,q2⟩
end
structure It where
 go:Nat->Hp->Prop
 yld:Nat->Hp->V->Hp->Prop
 stop:Nat->Hp->Prop
def UB (X:Cx) (pins:List (Addr×Obj)) (H:Hp) (b:Addr):Prop:=
 H b=none/\b≠X.env.locals/\b∉X.fs/\(b∈X.ex∨X.s₀.heap.objs.size<=b)/\(∀x c,X.env.cells.lookup x=some c->c≠b) /\ ∀p∈X.pn++pins,p.1≠b
theorem Inv.fpOk {X:Cx}{pins:List (Addr×Obj)} {σ:St}{H H':Hp}{s:Shared}{b:Addr} (I:Inv X pins σ H s) (hb:s.heap.objs.size<=b) (hn:H' b=none):UB X pins H' b:=by
 refine ⟨hn,Nat.ne_of_gt (Nat.lt_of_lt_of_le I.lt hb),I.nofs hb,.inr (Nat.le_trans I.sz hb),fun x c e z=>?_,fun p hp z=>?_⟩
 ·obtain ⟨v,q⟩:=I.cell x c e
  exact absurd (Nat.lt_of_lt_of_le q.lt (by rw [z];exact hb)) (Nat.lt_irrefl _)
 ·exact absurd (Nat.lt_of_lt_of_le (Heap.lt_size (I.pin p hp).1) (by rw [z];exact hb)) (Nat.lt_irrefl _)
structure Turn (P:Program) (w:World) (K:PySem.W.Frag) (tg:Expr) (J:It) (fp:List Addr) (it:Addr) (tn:Nat->Heap->Prop):Prop where
 mem:it∈fp
 obj:∀i h,tn i h -> ∀b∈fp,∃o,h.get? b=some o /\ ∀v,o.data ≠ .cell v
 keep:∀i h h',tn i h->(∀b∈fp,∀o,h.get? b=some o->h'.get? b=some o)->tn i h'
 item:∀(X:Cx),X.prog=P->X.w=w->X.K=K->X.calm=true -> ∀(i:Nat) (pins:List (Addr×Obj)) (s:Shared) (σ:St) (H:Hp) (E:Value->Shared->Prop),Inv X pins σ H s->(∀b∈fp,UB X pins H b)->tn i s.heap->J.go i H ->
  wpAny (model P w) X.A (pyNext (.ref it)) (fun r s1=>∃u,r=some u /\
   wpAny (model P w) X.A (letOwnedTupleGo tg (.ref it) u) (fun _ s2=>∃x H',Inv X pins σ H' s2/\RelV x u/\J.yld i H x H'/\tn (i+1) s2.heap /\ ∀b∈fp,H' b=none) E s1) E s
 done:∀(X:Cx),X.prog=P->X.w=w->X.K=K->X.calm=true -> ∀(i:Nat) (pins:List (Addr×Obj)) (s:Shared) (σ:St) (H:Hp) (E:Value->Shared->Prop),Inv X pins σ H s->(∀b∈fp,UB X pins H b)->tn i s.heap->J.stop i H ->
  wpAny (model P w) X.A (pyNext (.ref it)) (fun r s1=>r=none/\Inv X pins σ H s1) E s
 self:∀(A:Around) (i:Nat) (s:Shared) (Q:Value->Shared->Prop) (E:Value->Shared->Prop),tn i s.heap->Q (.ref it) s->wpAny (model P w) A (pyIter (.ref it)) Q E s
abbrev TI:=St->Hp->(It->Hp->Prop)->Prop
def PIE (X:Cx) (pins:List (Addr×Obj)) (σ:St) (tg:Expr) (R:It->Hp->Prop) (itv:Value) (s2:Shared):Prop:=
 ∃(it:Addr) (fp:List Addr) (tn:Nat->Heap->Prop) (J:It) (H':Hp),itv = .ref it/\Inv X pins σ H' s2/\Turn X.prog X.w X.K tg J fp it tn/\tn 0 s2.heap/\(∀b∈fp,UB X pins H' b)/\R J H'
def PI (X:Cx) (tg iter:Expr) (wi:TI):Prop:=
 ∀(pins:List (Addr×Obj)) (s:Shared) (σ:St) (H:Hp) (R:It->Hp->Prop),Inv X pins σ H s->wi σ H R ->
  wpAny (model X.prog X.w) X.A (eval iter X.env) (fun v s1=>wpAny (model X.prog X.w) X.A (pyIter v) (PIE X pins σ tg R) X.xe s1) X.xe s
theorem ZfC {M:Model}{A:Around}{E:Value->Shared->Prop}{s:Shared}{tg:Expr}{it:Addr}{u:Value}{o:Obj}{n:String}{vs:Array Value}{Q:Unit->Shared->Prop} (ho:s.heap.get? it=some o) (hc:o.cls = .type n) (hd:o.data = .fields vs)
    (hn:["enumerate", "zip", "dict_itemiterator", "dict_reverseitemiterator", "odict_iterator", "itertools.zip_longest", "itertools.pairwise"].contains n=false) (hQ:Q () s):wpAny M A (letOwnedTupleGo tg (.ref it) u) Q E s:=by
  unfold letOwnedTupleGo
  cases tg<;>first
    | exact wpAny_pure hQ
    | (cases u<;>first
        | exact wpAny_pure hQ
        | (refine wpAny_bind (wpAny_load ho ?_)
           rw [hc,hd]
           show wpAny M A (if (["enumerate", "zip", "dict_itemiterator", "dict_reverseitemiterator", "odict_iterator", "itertools.zip_longest", "itertools.pairwise"].contains n&&vs[0]? == some (rawInt _))=true then _ else _) Q E s
           rw [if_neg (by intro h;rw [hn,Bool.false_and] at h;cases h)]
           exact wpAny_pure hQ))
def Itl (K:PySem.W.Frag) (a:Addr):It:=
 ⟨fun i H=>∃xs x,Zp K H a xs/\xs[i]? = some x,fun i H x H'=>H'=H /\ ∀xs,Zp K H a xs->xs[i]? = some x,fun i H=>∃xs,Zp K H a xs/\xs.length<=i⟩
def Itr (lo:Int) (n:Nat):It:=⟨fun i _=>i<n,fun i H x H'=>H'=H/\x = .int (lo+i),fun i _=>n<=i⟩
theorem Zco {P:Program}{w:World}{K:PySem.W.Frag}{tg:Expr} (a it:Addr):Turn P w K tg (Itl K a) [it] it (fun i h=>h.IsListIter it a i) where
 mem:=by simp
 obj:=fun i h st b hb=>by
  have e:b=it:=by simpa using hb
  subst e
  obtain ⟨o,e,c,d⟩:=st
  exact ⟨o,e,fun v z=>by rw [d] at z;cases z⟩
 keep:=fun i h h' st k=>st.at fun o e=>k it (by simp) o e
 item:=by
  intro X hP hw hK hc i pins s σ H E I hf st hg
  subst hP hw hK
  obtain ⟨xs,x,hq,hx⟩:=hg
  obtain ⟨its,rv,p,hz⟩:=I.list hq
  obtain ⟨u,hu,ru⟩:=rv.get hx
  obtain ⟨f0,f1,f2,f3,f4,f5⟩:=hf it (by simp)
  refine wpAny_pyNext_list_item st p.isList (x:=u) (by simpa using hu) fun h' st' sb=>?_
  have I1:Inv X pins σ H { s with heap:=h' }:=I.turned (t':=s.toks) (fun b o hb e=>(sb.2 b hb).trans e) f0 f1 f3 f4 f5
  obtain ⟨o,e,c,d⟩:=id st'
  exact ⟨u,rfl,ZfC (s:={ s with heap:=h' }) e c d (by decide) ⟨x,H,I1,ru,⟨rfl,fun ys hy=>by rw [I.list_inj hy hq];exact hx⟩,st',fun b hb=>(hf b hb).1⟩⟩
 done:=by
  intro X hP hw hK hc i pins s σ H E I hf st hg
  subst hP hw hK
  obtain ⟨xs,hq,hx⟩:=hg
  obtain ⟨its,rv,p,hz⟩:=I.list hq
  obtain ⟨f0,f1,f2,f3,f4,f5⟩:=hf it (by simp)
  have hl:=rv.length
  exact wpAny_pyNext_list_end (I.ok.hd hc) st p.isList (by simp;lia) fun h' eb=>⟨rfl,I.turned (t':=s.toks) (fun b o hb e=>eb b o hb e) f0 f1 f3 f4 f5⟩
 self:=fun _ _ _ _ _ st h=>wpAny_pyIter_listiter st h
theorem ZbA {P:Program}{w:World}{K:PySem.W.Frag}{tg:Expr} (it:Addr) (lo:Int) (n:Nat):Turn P w K tg (Itr lo n) [it] it (fun i h=>IsRangeIter h it (lo+(i:Nat)*1) ((n:Int)-(i:Nat)) 1) where
 mem:=by simp
 obj:=fun i h st b hb=>by
  have e:b=it:=by simpa using hb
  subst e
  exact ⟨_,st,fun v z=>by
   have z':Data.fields _=Data.cell v:=z
   cases z'⟩
 keep:=fun i h h' st k=>k it (by simp) _ st
 item:=by
  intro X hP hw hK hc i pins s σ H E I hf st hg
  subst hP hw hK
  obtain ⟨f0,f1,f2,f3,f4,f5⟩:=hf it (by simp)
  have W:=Walks.range (prog:=X.prog) (w:=X.w) (I.ok.hd hc) it lo 1 n
  refine W.item i s _ _ hg st fun v h' tk hv st' kk=>?_
  obtain ⟨t,rfl⟩:=hv
  have I1:Inv X pins σ H { s with heap:=h',toks:=tk }:=I.turned (fun b o hb e=>kk b o (by simpa using hb) e) f0 f1 f3 f4 f5
  refine ⟨_,rfl,ZfC (s:={ s with heap:=h',toks:=tk }) (n := "range_iterator") st' rfl rfl (by decide) ⟨.int (lo+i),H,I1,⟨t,?_⟩,⟨rfl,rfl⟩,st',fun b hb=>(hf b hb).1⟩⟩
  rw [Int.mul_one]
 done:=by
  intro X hP hw hK hc i pins s σ H E I hf st hg
  subst hP hw hK
  obtain ⟨f0,f1,f2,f3,f4,f5⟩:=hf it (by simp)
  exact wpAny_pyNext_range_end (I.ok.hd hc) st (by have:n<=i:=hg;lia) fun h' eb=>⟨rfl,I.turned (t':=s.toks) (fun b o hb e=>eb b o hb e) f0 f1 f3 f4 f5⟩
 self:=fun _ _ _ _ _ st h=>wpAny_pyIter_rangeiter st h
section
variable {X:Cx}{tg:Expr}
def ZkB (K:PySem.W.Frag) (tl:TE):TI:=fun σ H R=>tl σ H fun x H1=>∃a,x = .ref a/\(∃xs,Zp K H1 a xs)/\R (Itl K a) H1
theorem ZjK {l:Expr}{tl:TE} (hl:PE X l tl):PI X tg l (ZkB X.K tl):=by
 intro pins s σ H R I h
 refine Yq (hl pins s σ H _ I h) fun v s1 ⟨x,H1,I1,r1,q1⟩=>?_
 obtain ⟨a,e,⟨xs,hq⟩,q⟩:=q1
 subst e
 cases r1
 obtain ⟨its,rv,p,hz⟩:=I1.list hq
 refine wpAny_pyIter_list p.isList ?_
 refine ⟨s1.heap.objs.size,[s1.heap.objs.size],_,_,H1,rfl,I1.kept (t':=s1.toks) fun b o e=>Heap.get?_push_of_some _ e,Zco a _,⟨_,Heap.get?_push_size _ rfl,rfl,rfl⟩,fun b hb=>?_,q⟩
 have e:b=s1.heap.objs.size:=by simpa using hb
 subst e
 exact I1.fpOk (Nat.le_refl _) (I1.hok.fresh (Nat.le_refl _))
theorem ZdV {pins:List (Addr×Obj)} {σ:St}{H:Hp}{s:Shared}{R:It->Hp->Prop}{E:Value->Shared->Prop}{lo hi:Int}{t u v:Tok}{tk:Nat} (I:Inv X pins σ H s) (h1 : -(2 ^ 62)<=lo) (h2:lo<2 ^ 62) (h3 : -(2 ^ 62)<=hi) (h4:hi<2 ^ 62)
  (q:R (Itr lo (hi-lo).toNat) H):wpAny (model X.prog X.w) X.A (pyIter (.ref s.heap.objs.size)) (PIE X pins σ tg R) E { s with heap:=s.heap.push { cls:=.type "range", data:=.fields #[.int lo t,.int hi u,.int 1 v] },toks:=tk }:=by
 refine wpAny_pyIter_range (IsRange.new ..) (small_one h1 h2 h3 h4) ?_
 have I1:Inv X pins σ H { s with heap:=s.heap.push { cls:=.type "range", data:=.fields #[.int lo t,.int hi u,.int 1 v] },toks:=tk }:=I.kept fun b o e=>Heap.get?_push_of_some _ e
 refine ⟨(s.heap.push { cls:=.type "range", data:=.fields #[.int lo t,.int hi u,.int 1 v] }).objs.size,[(s.heap.push { cls:=.type "range", data:=.fields #[.int lo t,.int hi u,.int 1 v] }).objs.size],_,_,H,rfl,
  I1.kept (t':=tk) fun b o e=>Heap.get?_push_of_some _ e,ZbA _ lo (hi-lo).toNat,?_,fun b hb=>?_,q⟩
 ·have e1:lo+((0:Nat):Int)*1=lo:=by simp
  have e2:(((hi-lo).toNat:Nat):Int)-((0:Nat):Int)=Builtin.Range.rangeSize lo hi 1:=by rw [rangeSize_one];split<;>lia
  show IsRangeIter _ _ (lo+((0:Nat):Int)*1) ((((hi-lo).toNat:Nat):Int)-((0:Nat):Int)) 1
  rw [e1,e2]
  exact Heap.get?_push_size _ rfl
 ·have e:b=(s.heap.push { cls:=.type "range", data:=.fields #[.int lo t,.int hi u,.int 1 v] }).objs.size:=by simpa using hb
  subst e
  exact I1.fpOk (Nat.le_refl _) (I1.hok.fresh (Nat.le_refl _))
def Zmk (ta:TA):TI:=fun σ H R=>ta σ H fun vs H1=>∃j:Int,vs = [.int j] /\ -(2 ^ 62)<=j/\j<2 ^ 62/\R (Itr 0 j.toNat) H1
def ZmS (ta:TA):TI:=fun σ H R=>ta σ H fun vs H1=>∃i j:Int,vs = [.int i,.int j]/\(-(2 ^ 62)<=i/\i<2 ^ 62 /\ -(2 ^ 62)<=j/\j<2 ^ 62)/\R (Itr i (j-i).toNat) H1
theorem Ya {a:Expr}{ta:TA}{p pos:Pos} (hg:Gl X "range") (hm:X.mg "range" = none) (ha:PA X [a] ta) (hs:starEach [a] X.env = [(false,eval a X.env)]:=by rfl):PI X tg (.Call (.Name "range" p) [a] [] pos) (Zmk ta):=by
 intro pins s σ H R I h
 refine Call_ (Wq I hg hm boot_range (PyProof.Rows.callWith_type1 (Yq (ha pos pins s σ H _ I h) fun us s1 ⟨vs,H1,I1,r1,q1⟩=>?_) hs rfl))
 obtain ⟨j,e,q1,q2,q⟩:=q1
 subst e
 cases r1 with
 | cons r rr=>
  cases rr
  obtain ⟨t,rfl⟩:=r
  exact call_range_1 (ZdV I1 (by lia) (by lia) q1 q2 (by simpa using q))
theorem Ub {a b:Expr}{ta:TA}{p pos:Pos} (hg:Gl X "range") (hm:X.mg "range" = none) (ha:PA X [a,b] ta) (hs:starEach [a,b] X.env = [(false,eval a X.env),(false,eval b X.env)]:=by rfl) (hs2:starEach [b] X.env = [(false,eval b X.env)]:=by rfl):
  PI X tg (.Call (.Name "range" p) [a,b] [] pos) (ZmS ta):=by
 intro pins s σ H R I h
 refine Call_ (Wq I hg hm boot_range (PyProof.Rows.callWith_type1 (Yq (ha pos pins s σ H _ I h) fun us s1 ⟨vs,H1,I1,r1,q1⟩=>?_) (by rw [hs,hs2]) (by rw [hs2];rfl)))
 obtain ⟨i,j,e,⟨q1,q2,q3,q4⟩,q⟩:=q1
 subst e
 cases r1 with
 | cons r rr=>
  cases rr with
  | cons r' rr=>
   cases rr
   obtain ⟨t,rfl⟩:=r
   obtain ⟨t',rfl⟩:=r'
   exact call_range_2 (ZdV I1 q1 q2 q3 q4 q)
def Zme (wi:TI) (g:TG) (tb:TS):TS:=fun D σ H=>wi σ H fun J H1=>∃W:Nat->Nat->St->Hp->Prop,(∃m,W 0 m σ H1) /\ ∀i m σ H,W i m σ H ->
 (J.stop i H/\D.nx σ H)∨(J.go i H /\ ∃N:St->Hp->Prop,(∀ σ' H',N σ' H' -> ∃m',m'<m/\W (i+1) m' σ' H') /\ ∀x H',J.yld i H x H'->g x σ H' fun σ2 H2=>tb { D with nx:=N,ct:=N,bk:=D.nx } σ2 H2)
def Zay (fp:List Addr) (h:Heap):List (Addr×Obj):=fp.filterMap fun b=>(h.get? b).map fun o=>(b,o)
theorem Jp {fp:List Addr}{h:Heap}{b:Addr}{o:Obj} (hb:b∈fp) (e:h.get? b=some o):(b,o)∈Zay fp h:=List.mem_filterMap.mpr ⟨b,hb,by rw [e];rfl⟩
theorem ZgZ {fp:List Addr}{h:Heap}{p:Addr×Obj} (hp:p∈Zay fp h):p.1∈fp/\h.get? p.1=some p.2:=by
 obtain ⟨b,hb,e⟩:=List.mem_filterMap.mp hp
 cases q:h.get? b with
 | none=>rw [q] at e;cases e
 | some o=>
  rw [q] at e
  have e':(b,o)=p:=Option.some.inj e
  subst e'
  exact ⟨hb,q⟩
theorem Inv.pinned {pins:List (Addr×Obj)} {σ:St}{H:Hp}{s:Shared}{fp:List Addr} (I:Inv X pins σ H s) (hf:∀b∈fp,UB X pins H b) (ho:∀b∈fp,∃o,s.heap.get? b=some o /\ ∀v,o.data ≠ .cell v):Inv X (pins++Zay fp s.heap) σ H s:=
 I.pins_of fun p hp=>(List.mem_append.mp hp).elim (fun z=>I.pin p (List.mem_append_right _ z)) fun z=>by
  obtain ⟨hb,e⟩:=ZgZ z
  obtain ⟨f0,f1,f2,_⟩:=hf p.1 hb
  obtain ⟨o,e',d⟩:=ho p.1 hb
  rw [e] at e';cases e'
  exact ⟨e,f0,f1,f2,d⟩
theorem Inv.unpinned {pins pl:List (Addr×Obj)} {σ:St}{H:Hp}{s:Shared} (I:Inv X (pins++pl) σ H s):Inv X pins σ H s:=I.pins_of fun p hp=>I.pin p (List.mem_append_right _ (List.mem_append_left _ hp))
theorem Yh {iter:Expr}{body:List Stmt}{wi:TI}{g:TG}{tb:TS}{pos:Pos} (hp:PassesOwn (model X.prog X.w) X.A X.env X.xe) (hc:X.calm=true) (hi:PI X tg iter wi) (hg:PG X tg g) (hb:PSs X body tb)
  (hs:∀x,foldedSetIterable iter X.env x=pure x:=by intro _;rfl):PS X (.For tg iter body [] pos) (Zme wi g tb):=by
 intro pins s σ H D I h
 refine wpAny_For (Yq (hi pins s σ H _ I h) fun v s1 h1=>Yq h1 fun itv s2 h2=>?_) hs
 obtain ⟨it,fp,tn,J,H2,e,I2,T,st2,f2,W,⟨m0,w0⟩,turn⟩:=h2
 subst e
 have stat:∀{H':Hp},(∀b∈fp,H' b=none) -> ∀b∈fp,UB X pins H' b:=fun hn b hb=>⟨hn b hb,(f2 b hb).2⟩
 refine codeAny_forLoop_any (fun n s'=>∃i σ' H',Inv X pins σ' H' s'/\tn i s'.heap/\(∀b∈fp,H' b=none)/\W i n σ' H') ?_ m0 ⟨0,σ,H2,I2,st2,fun b hb=>(f2 b hb).1,w0⟩
 rintro n s3 ⟨i,σ3,H3,I3,st3,fr3,w3⟩
 rcases turn i n σ3 H3 w3 with ⟨stop,qn⟩ | ⟨go,N,hN,step⟩
 ·refine wpAny_passesOwn hp (Yq (T.done X rfl rfl rfl hc i pins s3 σ3 H3 X.xe I3 (stat fr3) st3 stop) fun r s4 ⟨hr,I4⟩=>?_)
  subst hr
  exact wpAny_execs_nil ⟨σ3,H3,I4,qn⟩
 ·refine wpAny_passesOwn hp (Yq (T.item X rfl rfl rfl hc i pins s3 σ3 H3 X.xe I3 (stat fr3) st3 go) fun r s4 ⟨u,hr,h4⟩=>?_)
  subst hr
  refine wpAny_passesOwn hp (Yq h4 fun _ s5 ⟨x,H5,I5,r5,y5,st5,fr5⟩=>?_)
  have I5':=I5.pinned (stat fr5) (T.obj _ _ st5)
  refine wpAny_passesOwn hp (Yq (hg _ s5 σ3 H5 x u _ I5' r5 (step x H5 y5)) fun _ s6 ⟨σ6,H6,I6,q6⟩=>?_)
  refine wpAny_passesOwn hp (Yq (hb _ s6 σ6 H6 _ I6 q6) fun f s7 q7=>?_)
  have again:∀{σ7:St}{H7:Hp},Inv X (pins++Zay fp s5.heap) σ7 H7 s7->N σ7 H7 -> ∃m,m<n /\ ∃i σ' H',Inv X pins σ' H' s7/\tn i s7.heap/\(∀b∈fp,H' b=none)/\W i m σ' H':=fun {σ7 H7} I7 n7=>by
   obtain ⟨m',hm,w7⟩:=hN σ7 H7 n7
   refine ⟨m',hm,i+1,σ7,H7,I7.unpinned,T.keep _ _ _ st5 fun b hb o e=>(I7.pin (b,o) (List.mem_append_right _ (List.mem_append_right _ (Jp hb e)))).1,fun b hb=>?_,w7⟩
   obtain ⟨o,e,d⟩:=T.obj _ _ st5 b hb
   exact (I7.pin (b,o) (List.mem_append_right _ (List.mem_append_right _ (Jp hb e)))).2.1
  cases f with
  | next=>obtain ⟨σ7,H7,I7,n7⟩:=q7;exact again I7 n7
  | cont=>obtain ⟨σ7,H7,I7,n7⟩:=q7;exact again I7 n7
  | brk=>obtain ⟨σ7,H7,I7,q7⟩:=q7;exact ⟨σ7,H7,I7.unpinned,q7⟩
  | ret v=>obtain ⟨x7,σ7,H7,I7,r7,q7⟩:=q7;exact ⟨x7,σ7,H7,I7.unpinned,r7,q7⟩
end
theorem Jx {K:PySem.W.Frag}{a:Addr}{xs:List V}{g:TG}{tb:TS}{D:Ends} {σ:St}{H:Hp} (Pv:Nat->St->Hp->Prop) (h0:Pv 0 σ H) (hl:∀i σ H,i<=xs.length->Pv i σ H->Zp K H a xs)
  (hs:∀i x σ H,xs[i]? = some x->Pv i σ H->g x σ H fun σ2 H2=>tb { D with nx:=Pv (i+1),ct:=Pv (i+1),bk:=D.nx } σ2 H2) (hd:∀ σ H,Pv xs.length σ H->D.nx σ H):
  ∃W:Nat->Nat->St->Hp->Prop,(∃m,W 0 m σ H) /\ ∀i m σ H,W i m σ H ->
   ((Itl K a).stop i H/\D.nx σ H)∨((Itl K a).go i H /\ ∃N:St->Hp->Prop,(∀ σ' H',N σ' H' -> ∃m',m'<m/\W (i+1) m' σ' H') /\ ∀x H',(Itl K a).yld i H x H'->g x σ H' fun σ2 H2=>tb { D with nx:=N,ct:=N,bk:=D.nx } σ2 H2):=by
 refine ⟨fun i m σ H=>m=xs.length-i/\i<=xs.length/\Pv i σ H,⟨xs.length,by simp,Nat.zero_le _,h0⟩,?_⟩
 rintro i m σ H ⟨rfl,hi,p⟩
 have q:=hl i σ H hi p
 by_cases hlt:i<xs.length
 ·refine .inr ⟨⟨xs,xs[i],q,by simp [hlt]⟩,Pv (i+1),fun σ' H' p'=>⟨xs.length-(i+1),by lia,rfl,hlt,p'⟩,fun x H' y=>?_⟩
  obtain ⟨e,y⟩:=y
  subst e
  exact hs i x σ _ (y xs q) p
 ·have e:i=xs.length:=by lia
  subst e
  exact .inl ⟨⟨xs,q,Nat.le_refl _⟩,hd σ H p⟩
theorem Yk {lo:Int}{n:Nat}{g:TG}{tb:TS}{D:Ends} {σ:St}{H:Hp} (Pv:Nat->St->Hp->Prop) (h0:Pv 0 σ H)
  (hs:∀i σ H,i<n->Pv i σ H->g (.int (lo+i)) σ H fun σ2 H2=>tb { D with nx:=Pv (i+1),ct:=Pv (i+1),bk:=D.nx } σ2 H2) (hd:∀ σ H,Pv n σ H->D.nx σ H):
  ∃W:Nat->Nat->St->Hp->Prop,(∃m,W 0 m σ H) /\ ∀i m σ H,W i m σ H ->
   ((Itr lo n).stop i H/\D.nx σ H)∨((Itr lo n).go i H /\ ∃N:St->Hp->Prop,(∀ σ' H',N σ' H' -> ∃m',m'<m/\W (i+1) m' σ' H') /\ ∀x H',(Itr lo n).yld i H x H'->g x σ H' fun σ2 H2=>tb { D with nx:=N,ct:=N,bk:=D.nx } σ2 H2):=by
 refine ⟨fun i m σ H=>m=n-i/\i<=n/\Pv i σ H,⟨n,by simp,Nat.zero_le _,h0⟩,?_⟩
 rintro i m σ H ⟨rfl,hi,p⟩
 by_cases hlt:i<n
 ·refine .inr ⟨hlt,Pv (i+1),fun σ' H' p'=>⟨n-(i+1),by lia,rfl,hlt,p'⟩,fun x H' y=>?_⟩
  obtain ⟨e,y⟩:=y
  subst e y
  exact hs i σ _ hlt p
 ·have e:i=n:=by lia
  subst e
  exact .inl ⟨Nat.le_refl _,hd σ H p⟩
theorem Zit {c:TT}{tb:TS}{D:Ends} {σ:St}{H:Hp} (Pv:St->Hp->Prop) (μ:St->Hp->Nat) (h0:Pv σ H)
  (hs:∀ σ H,Pv σ H->c σ H fun b H1=>if b=true then tb { D with nx:=fun σ' H'=>Pv σ' H' /\ μ σ' H' < μ σ H,ct:=fun σ' H'=>Pv σ' H' /\ μ σ' H' < μ σ H,bk:=D.nx } σ H1 else D.nx σ H1)
  (mono:∀ σ H Q Q',(∀b H1,Q b H1->Q' b H1)->c σ H Q->c σ H Q'):Zhx c tb D σ H:=by
 refine ⟨fun m σ H=>m = μ σ H/\Pv σ H,⟨_,rfl,h0⟩,?_⟩
 rintro m σ H ⟨rfl,p⟩
 refine mono σ H _ _ (fun b H1 q=>?_) (hs σ H p)
 cases b with
 | true=>exact ⟨_,fun σ' H' ⟨p',l⟩=>⟨_,l,rfl,p'⟩,q⟩
 | false=>exact q
abbrev R2:=V->V->Hp->VK->Prop
def OpR (X:Cx) (f:Value->Value->Sem Value) (r:R2):Prop:=
 ∀(pins:List (Addr×Obj)) (s:Shared) (σ:St) (H:Hp) (x y:V) (v u:Value) (Q:VK),Inv X pins σ H s->RelV x v->RelV y u->r x y H Q ->
  wpAny (model X.prog X.w) X.A (f v u) (EP X pins σ Q) X.xe s
def UnR (X:Cx) (f:Value->Sem Value) (r:V->Hp->VK->Prop):Prop:=
 ∀(pins:List (Addr×Obj)) (s:Shared) (σ:St) (H:Hp) (x:V) (v:Value) (Q:VK),Inv X pins σ H s->RelV x v->r x H Q ->
  wpAny (model X.prog X.w) X.A (f v) (EP X pins σ Q) X.xe s
def Ja (X:Cx) (f:Value) (r:List V->Hp->VK->Prop):Prop:=
 ∀(pins:List (Addr×Obj)) (s:Shared) (σ:St) (H:Hp) (xs:List V) (us:List Value) (Q:VK),Inv X pins σ H s->Vals xs us->r xs H Q ->
  wpAny (model X.prog X.w) X.A (call f us) (EP X pins σ Q) X.xe s
def tOp (r:R2) (ta tb:TE):TE:=fun σ H Q=>ta σ H fun x H1=>tb σ H1 fun y H2=>r x y H2 Q
def tUn (r:V->Hp->VK->Prop) (ta:TE):TE:=fun σ H Q=>ta σ H fun x H1=>r x H1 Q
def rI (C:Int->Int->Prop) (g:Int->Int->V):R2:=fun x y H Q=>∃i j,x = .int i/\y = .int j/\C i j/\Q (g i j) H
def rI0 (g:Int->Int->V):R2:=fun x y H Q=>∃i j,x = .int i/\y = .int j/\Q (g i j) H
def rU (g:Int->V):V->Hp->VK->Prop:=fun x H Q=>∃i,x = .int i/\Q (g i) H
section
variable {X:Cx}{a b c:Expr}{ta tb tc:TE}{pos:Pos}
theorem ZlQ (ha:PE X a ta) (hb:PE X b tb) {pins:List (Addr×Obj)}{s:Shared} {σ:St}{H:Hp}{R:V->V->Hp->Prop} (I:Inv X pins σ H s)
  (h:ta σ H fun x H1=>tb σ H1 fun y H2=>R x y H2) {Q:Value->Shared->Prop}{f:Value->Value->Sem Value}
  (hf:∀v u s2 x y H2,Inv X pins σ H2 s2->RelV x v->RelV y u->R x y H2->wpAny (model X.prog X.w) X.A (f v u) Q X.xe s2):
  wpAny (model X.prog X.w) X.A (eval a X.env) (fun v s₁=>wpAny (model X.prog X.w) X.A (eval b X.env) (fun u s₂=>wpAny (model X.prog X.w) X.A (f v u) Q X.xe s₂) X.xe s₁) X.xe s:=by
 refine Yq (ha pins s σ H _ I h) fun v s1 ⟨x,H1,I1,r1,q1⟩=>?_
 refine Yq (hb pins s1 σ H1 _ I1 q1) fun u s2 ⟨y,H2,I2,r2,q2⟩=>?_
 exact hf v u s2 x y H2 I2 r1 r2 q2
theorem Zm {op:Operator}{r:R2} (ho:OpR X (binaryOp op) r) (ha:PE X a ta) (hb:PE X b tb):PE X (.BinOp a op b pos) (tOp r ta tb):=by
 intro pins s σ H Q I h
 exact wpAny_BinOp (ZlQ ha hb I h fun v u s2 x y H2 I2 rx ry q=>ho pins s2 σ H2 x y v u Q I2 rx ry q)
theorem Zh4 {op:UnaryOp}{r:V->Hp->VK->Prop} (ho:UnR X (unaryOp op) r) (ha:PE X a ta):PE X (.UnaryOp op a pos) (tUn r ta):=by
 intro pins s σ H Q I h
 exact UnaryOp_ (Yq (ha pins s σ H _ I h) fun v s1 ⟨x,H1,I1,r1,q1⟩=>ho pins s1 σ H1 x v Q I1 r1 q1)
theorem opI {f:Value->Value->Sem Value}{C:Int->Int->Prop}{g:Int->Int->Int}
  (rule:∀(i j:Int) (t u:Tok) (s:Shared) (Q:Value->Shared->Prop) (E:Value->Shared->Prop),C i j->Q (.int (g i j) s.toks) { s with toks:=s.toks+1 } -> wpAny (model X.prog X.w) X.A (f (.int i t) (.int j u)) Q E s):
  OpR X f (rI C fun i j=>.int (g i j)):=by
 intro pins s σ H x y v u Q I rx ry h
 obtain ⟨i,j,rfl,rfl,hc,q⟩:=h
 obtain ⟨t,rfl⟩:=rx
 obtain ⟨t',rfl⟩:=ry
 exact rule i j t t' s _ _ hc ⟨.int (g i j),H,I.tok _,⟨_,rfl⟩,q⟩
theorem ZmL {f:Value->Value->Sem Value}{g:Int->Int->Int}
  (rule:∀(i j:Int) (t u:Tok) (s:Shared) (Q:Value->Shared->Prop) (E:Value->Shared->Prop),Q (.int (g i j) s.toks) { s with toks:=s.toks+1 } -> wpAny (model X.prog X.w) X.A (f (.int i t) (.int j u)) Q E s):
  OpR X f (rI0 fun i j=>.int (g i j)):=by
 intro pins s σ H x y v u Q I rx ry h
 obtain ⟨i,j,rfl,rfl,q⟩:=h
 obtain ⟨t,rfl⟩:=rx
 obtain ⟨t',rfl⟩:=ry
 exact rule i j t t' s _ _ ⟨.int (g i j),H,I.tok _,⟨_,rfl⟩,q⟩
theorem Zlk {f:Value->Value->Sem Value}{g:Int->Int->Bool}
  (rule:∀(i j:Int) (t u:Tok) (s:Shared) (Q:Value->Shared->Prop) (E:Value->Shared->Prop),Q (.bool (g i j)) s->wpAny (model X.prog X.w) X.A (f (.int i t) (.int j u)) Q E s):
  OpR X f (rI0 fun i j=>.bl (g i j)):=by
 intro pins s σ H x y v u Q I rx ry h
 obtain ⟨i,j,rfl,rfl,q⟩:=h
 obtain ⟨t,rfl⟩:=rx
 obtain ⟨t',rfl⟩:=ry
 exact rule i j t t' s _ _ ⟨.bl (g i j),H,I,rfl,q⟩
def Znm (i j:Int):Prop:=0<j/\j<1073741824
def ZnJ (i j:Int):Prop:=0<=j/\j<=1000000/\i.natAbs<2 ^ 64
def ZkS (i j:Int):Prop:=(-(2 ^ 64)<i/\i<2 ^ 64)∨(-(2 ^ 64)<j/\j<2 ^ 64)
theorem ZkS.ok {i j:Int} (h:ZkS i j):IntMulOk i j:=by
 rcases h with ⟨h1,h2⟩ | ⟨h1,h2⟩
 ·exact .of_left (intBits_le_64 h1 h2)
 ·exact .of_right (intBits_le_64 h1 h2)
theorem ZA:OpR X (binaryOp .Add) (rI0 fun i j=>.int (i+j)):=ZmL fun _ _ _ _ _ _ _ q=>add_int q
theorem YI:OpR X (binaryOp .Sub) (rI0 fun i j=>.int (i-j)):=ZmL fun _ _ _ _ _ _ _ q=>sub_int q
theorem Wm:OpR X (binaryOp .Mult) (rI ZkS fun i j=>.int (i*j)):=opI fun _ _ _ _ _ _ _ hc q=>mul_int q hc.ok
theorem UR:OpR X (binaryOp .FloorDiv) (rI Znm fun i j=>.int (i / j)):=opI fun i j _ _ _ _ _ hc q=>by
 have h1:(0:Int)<j:=hc.1
 have h2:j<1073741824:=hc.2
 exact floordiv_int (by lia) (by rw [Int.fdiv_eq_ediv_of_nonneg i (by lia)];exact q) (.inl (PyProof.noPylong_small (by lia)))
theorem JG:OpR X (binaryOp .Mod) (rI (fun _ j=>0<j) fun i j=>.int (i % j)):=opI fun i j _ _ _ _ _ hc q=>by
 have h1:(0:Int)<j:=hc
 exact mod_int' (by lia) (by rw [Int.fmod_eq_emod_of_nonneg i (by lia)];exact q)
theorem ZcP:OpR X (binaryOp .Pow) (rI ZnJ fun i j=>.int (i ^ j.toNat)):=opI fun _ _ _ _ _ _ _ hc q=>pow_int_small hc.1 hc.2.1 hc.2.2 q
theorem unI {f:Value->Sem Value}{g:Int->Int}
  (rule:∀(i:Int) (t:Tok) (s:Shared) (Q:Value->Shared->Prop) (E:Value->Shared->Prop),Q (.int (g i) s.toks) { s with toks:=s.toks+1 } -> wpAny (model X.prog X.w) X.A (f (.int i t)) Q E s):
  UnR X f (rU fun i=>.int (g i)):=by
 intro pins s σ H x v Q I rx h
 obtain ⟨i,rfl,q⟩:=h
 obtain ⟨t,rfl⟩:=rx
 exact rule i t s _ _ ⟨.int (g i),H,I.tok _,⟨_,rfl⟩,q⟩
theorem ZeJ:UnR X (unaryOp .USub) (rU fun i=>.int (-i)):=unI fun _ _ _ _ _ q=>neg_int q
end
def Zm2:V->V->Bool
 | .non,.non=>true | .non,.int _=>true | .int _,.non=>true | .non,.bl _=>true | .bl _,.non=>true | .non,.str _=>true | .str _,.non=>true
 | .int _,.int _=>true | .bl _,.bl _=>true | .str _,.str _=>true | .byt _,.byt _=>true
 | .int _,.str _=>true | .str _,.int _=>true | .bl _,.str _=>true | .str _,.bl _=>true
 | _,_=>false
def rEq:R2:=fun x y H Q=>Zm2 x y=true/\Q (.bl (decide (x=y))) H
def rNe:R2:=fun x y H Q=>Zm2 x y=true/\Q (.bl (!decide (x=y))) H
theorem ZfO {i j:Int}:decide (V.int i=V.int j)=(i==j):=by
 rw [Bool.eq_iff_iff]
 simp
theorem ZhV {i j:Bool}:decide (V.bl i=V.bl j)=(i==j):=by
 rw [Bool.eq_iff_iff]
 simp
theorem Zfn {i j:Str}:decide (V.str i=V.str j)=(i==j):=by
 rw [Bool.eq_iff_iff]
 simp
theorem Zf0 {i j:Array UInt8}:decide (V.byt i=V.byt j)=(i.toList==j.toList):=by
 rw [Bool.eq_iff_iff]
 cases i
 cases j
 simp
section
variable {X:Cx}{a b c:Expr}{ta tb tc:TE}{pos:Pos}
theorem ZO {pins:List (Addr×Obj)} {σ:St}{H:Hp}{s:Shared}{Q:VK}{k k':Bool} (I:Inv X pins σ H s) (q:Q (.bl k) H) (e:k=k'):EP X pins σ Q (.bool k') s:=by
 subst e
 exact ⟨.bl k,H,I,rfl,q⟩
theorem U0:OpR X (compareOp .Eq) rEq:=by
 intro pins s σ H x y v u Q I rx ry h
 obtain ⟨hs,q⟩:=h
 cases x with
 | non=>
  cases rx
  cases y with
  | non=>cases ry;exact PySem.EqNone.eq_none_none (ZO I q (by simp))
  | bl j=>cases ry;exact PySem.EqNone.eq_none_bool (ZO I q (by simp))
  | int j=>obtain ⟨t',rfl⟩:=ry;exact PySem.EqNone.eq_none_int (ZO I q (by simp))
  | str j=>obtain ⟨t',rfl⟩:=ry;exact PySem.EqNone.eq_none_str (ZO I q (by simp))
  | _=>exact absurd (show false=true from hs) Bool.false_ne_true
 | bl i=>
  cases rx
  cases y with
  | non=>cases ry;exact PySem.EqNone.eq_bool_none (ZO I q (by simp))
  | bl j=>cases ry;exact eq_bool (ZO I q ZhV)
  | str j=>obtain ⟨t',rfl⟩:=ry;exact PySem.EqMixed.eq_bool_str (ZO I q (by simp))
  | _=>exact absurd (show false=true from hs) Bool.false_ne_true
 | int i=>
  obtain ⟨t,rfl⟩:=rx
  cases y with
  | non=>cases ry;exact PySem.EqNone.eq_int_none (ZO I q (by simp))
  | int j=>obtain ⟨t',rfl⟩:=ry;exact eq_int (ZO I q ZfO)
  | str j=>obtain ⟨t',rfl⟩:=ry;exact PySem.EqMixed.eq_int_str (ZO I q (by simp))
  | _=>exact absurd (show false=true from hs) Bool.false_ne_true
 | str i=>
  obtain ⟨t,rfl⟩:=rx
  cases y with
  | non=>cases ry;exact PySem.EqNone.eq_str_none (ZO I q (by simp))
  | bl j=>cases ry;exact PySem.EqMixed.eq_str_bool (ZO I q (by simp))
  | int j=>obtain ⟨t',rfl⟩:=ry;exact PySem.EqMixed.eq_str_int (ZO I q (by simp))
  | str j=>obtain ⟨t',rfl⟩:=ry;exact eq_str (ZO I q Zfn)
  | _=>exact absurd (show false=true from hs) Bool.false_ne_true
 | byt i=>
  obtain ⟨t,rfl⟩:=rx
  cases y with
  | byt j=>obtain ⟨t',rfl⟩:=ry;exact PySem.W.eq_bytes (ZO I q Zf0)
  | _=>exact absurd (show false=true from hs) Bool.false_ne_true
 | _=>cases y<;>exact absurd (show false=true from hs) Bool.false_ne_true
theorem ZkC:OpR X (compareOp .NotEq) rNe:=by
 intro pins s σ H x y v u Q I rx ry h
 obtain ⟨hs,q⟩:=h
 cases x with
 | non=>
  cases rx
  cases y with
  | non=>cases ry;exact PySem.EqNone.ne_none_none (ZO I q (by simp))
  | bl j=>cases ry;exact PySem.EqNone.ne_none_bool (ZO I q (by simp))
  | int j=>obtain ⟨t',rfl⟩:=ry;exact PySem.EqNone.ne_none_int (ZO I q (by simp))
  | str j=>obtain ⟨t',rfl⟩:=ry;exact PySem.EqNone.ne_none_str (ZO I q (by simp))
  | _=>exact absurd (show false=true from hs) Bool.false_ne_true
 | bl i=>
  cases rx
  cases y with
  | non=>cases ry;exact PySem.EqNone.ne_bool_none (ZO I q (by simp))
  | bl j=>cases ry;exact ne_bool (ZO I q (congrArg not ZhV))
  | str j=>obtain ⟨t',rfl⟩:=ry;exact PySem.EqMixed.ne_bool_str (ZO I q (by simp))
  | _=>exact absurd (show false=true from hs) Bool.false_ne_true
 | int i=>
  obtain ⟨t,rfl⟩:=rx
  cases y with
  | non=>cases ry;exact PySem.EqNone.ne_int_none (ZO I q (by simp))
  | int j=>obtain ⟨t',rfl⟩:=ry;exact ne_int (ZO I q (congrArg not ZfO))
  | str j=>obtain ⟨t',rfl⟩:=ry;exact PySem.EqMixed.ne_int_str (ZO I q (by simp))
  | _=>exact absurd (show false=true from hs) Bool.false_ne_true
 | str i=>
  obtain ⟨t,rfl⟩:=rx
  cases y with
  | non=>cases ry;exact PySem.EqNone.ne_str_none (ZO I q (by simp))
  | bl j=>cases ry;exact PySem.EqMixed.ne_str_bool (ZO I q (by simp))
  | int j=>obtain ⟨t',rfl⟩:=ry;exact PySem.EqMixed.ne_str_int (ZO I q (by simp))
  | str j=>obtain ⟨t',rfl⟩:=ry;exact ne_str (ZO I q (congrArg not Zfn))
  | _=>exact absurd (show false=true from hs) Bool.false_ne_true
 | byt i=>
  obtain ⟨t,rfl⟩:=rx
  cases y with
  | byt j=>obtain ⟨t',rfl⟩:=ry;exact PySem.W.ne_bytes (ZO I q (congrArg not Zf0))
  | _=>exact absurd (show false=true from hs) Bool.false_ne_true
 | _=>cases y<;>exact absurd (show false=true from hs) Bool.false_ne_true
theorem Zf6:OpR X (compareOp .Lt) (rI0 fun i j=>.bl (decide (i<j))):=Zlk fun _ _ _ _ _ _ _ q=>lt_int q
theorem US:OpR X (compareOp .Gt) (rI0 fun i j=>.bl (decide (j<i))):=Zlk fun _ _ _ _ _ _ _ q=>gt_int q
theorem ZmQ:OpR X (compareOp .GtE) (rI0 fun i j=>.bl (decide (j<=i))):=Zlk fun _ _ _ _ _ _ _ q=>ge_int q
theorem ZP (b:Expr) {op:CmpOp} (h:op ≠ .In:=by decide) (h2:op ≠ .NotIn:=by decide):behindInMarks op b=false:=by
 have e1:(op==CmpOp.In)=false:=by cases op<;>first | rfl | exact absurd rfl h
 have e2:(op==CmpOp.NotIn)=false:=by cases op<;>first | rfl | exact absurd rfl h2
 cases b<;>simp [behindInMarks,e1,e2]
theorem Zj3 {op:CmpOp}{r:R2} (ho:OpR X (compareOp op) r) (ha:PE X a ta) (hb:PE X b tb) (hm:behindInMarks op b=false):PE X (.Compare a [op] [b] pos) (tOp r ta tb):=by
 intro pins s σ H Q I h
 exact wpAny_Compare1 (ZlQ ha hb I h fun v u s2 x y H2 I2 rx ry q=>ho pins s2 σ H2 x y v u Q I2 rx ry q) hm
def ZmP (t:TE):TT:=fun σ H Q=>t σ H fun x H'=>∃k,x = .bl k/\Q k H'
theorem ZH {op:CmpOp}{r:R2} (ho:OpR X (compareOp op) r) (ha:PE X a ta) (hb:PE X b tb) (hm:behindInMarks op b=false):PT X (.Compare a [op] [b] pos) (ZmP (tOp r ta tb)):=by
 intro pins s σ H Q I h
 refine wpAny_isTrue_Compare1 (Yq (ha pins s σ H _ I h) fun v s1 ⟨x,H1,I1,r1,q1⟩=>Yq (hb pins s1 σ H1 _ I1 q1) fun u s2 ⟨y,H2,I2,r2,q2⟩=>
  Yq (ho pins s2 σ H2 x y v u _ I2 r1 r2 q2) fun c s3 ⟨z,H3,I3,r3,k,e,q3⟩=>?_) hm
 subst e
 cases r3
 exact wpAny_truthy_bool ⟨H3,I3,q3⟩
theorem Zdv:(sizeLine:Nat)<2 ^ 63:=by rw [sizeLine_eq];decide
theorem vals1 {x:V}{us:List Value} (r:Vals [x] us):∃u,us = [u]/\RelV x u:=by
 cases r with
 | cons r1 r2=>cases r2;exact ⟨_,rfl,r1⟩
theorem vals2 {x y:V}{us:List Value} (r:Vals [x,y] us):∃u w',us = [u,w']/\RelV x u/\RelV y w':=by
 cases r with
 | cons r1 r2=>
  cases r2 with
  | cons r3 r4=>cases r4;exact ⟨_,_,rfl,r1,r3⟩
theorem Zed:Ja X (.builtin "abs") (fun xs H Q=>∃i,xs = [.int i]/\Q (.int (if i<0 then -i else i)) H):=by
 intro pins s σ H xs us Q I r h
 obtain ⟨i,rfl,q⟩:=h
 obtain ⟨u,rfl,t,rfl⟩:=vals1 r
 exact call_abs_int fun u tk=>⟨.int (if i<0 then -i else i),H,I.tok _,⟨_,rfl⟩,q⟩
theorem ZcB (hc:X.calm=true):Ja X (.builtin "max") (fun xs H Q=>∃i j,xs = [.int i,.int j]/\Q (.int (if j>i then j else i)) H):=by
 intro pins s σ H xs us Q I r h
 obtain ⟨i,j,rfl,q⟩:=h
 obtain ⟨u,w',rfl,⟨t,rfl⟩,⟨t',rfl⟩⟩:=vals2 r
 refine max_two_ints (I.ok.hd hc) fun h' tk k=>⟨_,H,I.kept k,?_,q⟩
 by_cases hj:j>i
 ·rw [if_pos hj,if_pos hj];exact ⟨_,rfl⟩
 ·rw [if_neg hj,if_neg hj];exact ⟨_,rfl⟩
theorem Zg0 (hc:X.calm=true):Ja X (.builtin "min") (fun xs H Q=>∃i j,xs = [.int i,.int j]/\Q (.int (if j<i then j else i)) H):=by
 intro pins s σ H xs us Q I r h
 obtain ⟨i,j,rfl,q⟩:=h
 obtain ⟨u,w',rfl,⟨t,rfl⟩,⟨t',rfl⟩⟩:=vals2 r
 refine min_two_ints (I.ok.hd hc) fun h' tk k=>⟨_,H,I.kept k,?_,q⟩
 by_cases hj:j<i
 ·rw [if_pos hj,if_pos hj];exact ⟨_,rfl⟩
 ·rw [if_neg hj,if_neg hj];exact ⟨_,rfl⟩
end
structure ZjI (h:Heap) (x dx C:Addr) (mA:Str->Option Value):Prop where
 obj:h.get? x=some (PySem.W.instObj C dx)
 ns:h.Ns1 dx mA
 ne:dx≠x
theorem Zgy {h:Heap}{dx:Addr}{mA:Str->Option Value} (n:h.Ns1 dx mA):∃od,h.get? dx=some od /\ ∀name,PySem.W.lookIn name od=some (mA name):=by
 obtain ⟨o,es,ep,ho,hd,hk,_,hm⟩:=n
 refine ⟨o,ho,fun name=>?_⟩
 have e:=hm name
 unfold nsFind findBy at e
 rw [<- Array.find?_toList] at e
 unfold PySem.W.lookIn
 rw [hd]
 dsimp only
 split
 ·rename_i y q
  rw [q] at e
  exact congrArg some e
 ·rename_i q
  rw [q] at e
  have a:es.toList.any (·.refKey)=false:=by
   rw [List.any_eq_false]
   intro y hy
   obtain ⟨z,t,hkey⟩:=hk y (Array.mem_toList_iff.mp hy)
   simp [DictEntry.refKey,hkey]
  have a':¬es.toList.any (·.refKey)=true:=by rw [a];exact Bool.false_ne_true
  rw [if_neg a']
  exact congrArg some e
theorem ZjI.look {h:Heap}{x dx C:Addr}{mA:Str->Option Value} (I:ZjI h x dx C mA):∃od,PySem.W.InstAt h x (PySem.W.instObj C dx) C (some od) /\ ∀name,PySem.W.lookIn name od=some (mA name):=
 let ⟨od,ho,hl⟩:=Zgy I.ns
 ⟨od,⟨I.obj,rfl,rfl,ho⟩,hl⟩
section
variable {prog:Program}{w:World}{A:Around}{E:Value->Shared->Prop}{s:Shared}{K:PySem.W.Frag}{x dx C f:Addr}{mA:Str->Option Value}{name:Str}{v:Value}
theorem ZiR {pl:Sem Bool}{Q:Value×List Value->Shared->Prop} (X:K.In s.heap) (I:ZjI s.heap x dx C mA) (hg:PySem.W.plainGet K C name=true)
  (hf:PySem.W.findIn K (.ref C) name=some (some (.ref f))) (ht:PySem.W.isFn K (.ref f)=true) (hv:mA name=none) (h:Q (.ref f,[.ref x]) s):
  wpAny (model prog w) A (getMethod (.ref x) name pl) Q E s:=by
 obtain ⟨od,J,hl⟩:=I.look
 exact PySem.W.method_fn X J (PySem.W.plainGet_of hg).1 (PySem.W.plainGet_of hg).2 hf (beq_iff_eq.mp ht) (by show (PySem.W.lookIn name od).map (·.isSome)=some false;rw [hl,hv];rfl) h
theorem ZgI {R:Result->Shared->Prop} (X:K.In s.heap) (hm:PySem.W.makesIn K C=true)
  (hi:PySem.W.findIn K (.ref C) "__init__" = some (some (.builtin "object.__init__")))
  (hb:∀self,PySem.W.Looks (model prog w) s.heap (bindSpecial (.builtin "object.__init__") self) (.builtin "object.__init__", [self]))
  (h:codeAny (model prog w) (A.under (.builtin "type.__call__" ⟨[.ref C],[]⟩)) (.call (.builtin "object.__init__") ⟨[.ref (s.heap.objs.size+1)],[]⟩) (PySem.W.InitBack (s.heap.objs.size+1) R)
   { s with heap:=(s.heap.push PySem.W.emptyDict).push (PySem.W.instObj C s.heap.objs.size) }):
  codeAny (model prog w) A (.call (.ref C) ⟨[],[]⟩) R s:=by
 obtain ⟨hh,g,d,t,os⟩:=s
 exact PySem.W.make_core (PySem.W.makes_of X hm) (PySem.W.looks_findIn X hi) hb (.inr ⟨rfl,rfl⟩) h
end
theorem UL.some_of {v:V}{o:Option Value} (r:UL (some v) o):∃u,o=some u/\RelV v u:=by
 cases o with
 | none=>exact (show False from r).elim
 | some u=>exact ⟨u,rfl,r⟩
theorem UL.none_of {o:Option Value} (r:UL none o):o=none:=by
 cases o with
 | none=>rfl
 | some u=>exact (show False from r).elim
section
variable {P:Program}{w:World}{H H':Hp}{h h':Heap}{a C dx:Addr}{fs fs':List (Str×V)}
theorem Zkc (hok:Wy P w H h) (e:H a=some (.ins C dx fs)):∃mA,ZjI h a dx C mA/\(∀f,UL (fs.lookup f) (mA f))/\PySem.Within mA (fs.map (·.1))/\fs.length<=1000/\H dx=some (.own a):=by
 obtain ⟨d,z,ne,ob,mA,n,r,q⟩:=(show Z7 P w H h a (.ins C dx fs) from hok a _ e)
 exact ⟨mA,⟨ob,n,ne⟩,r,q,z,d⟩
end
structure Cls (K:PySem.W.Frag) (C:Addr):Prop where
 pg:PySem.W.plainGet K C Str.empty=true
 hd:PySem.W.hasDictIn K C=true
 po:PySem.W.plainOver K C=true
 sa:PySem.W.findIn K (.ref C) "__setattr__" = some (some (.builtin "object.__setattr__"))
theorem Cls.get {K:PySem.W.Frag}{C:Addr} (c:Cls K C) (f:Str):PySem.W.plainGet K C f=true:=c.pg
structure Con (K:PySem.W.Frag) (C:Addr) (f:Str) (v:V) (u:Value):Prop where
 at_:PySem.W.findIn K (.ref C) f=some (some u)
 rel:RelV v u
 get:PySem.W.specialIn K u "__get__" = some none
 cp:PySem.W.copiedNames.contains f=false
structure Meth (K:PySem.W.Frag) (C:Addr) (m:Str) (f:Addr):Prop where
 at_:PySem.W.findIn K (.ref C) m=some (some (.ref f))
 fn:PySem.W.isFn K (.ref f)=true
 kp:PySem.W.keepIn K (.ref f)=true
section
variable {X:Cx}{pins:List (Addr×Obj)} {σ:St}{H:Hp}{s:Shared}{a C dx:Addr}{fs:List (Str×V)}{f:Str}{v:V}{A:Around}{E:Value->Shared->Prop}
theorem Zbz {m:Str}{g:Addr}{pl:Sem Bool}{Q:Value×List Value->Shared->Prop} (I:Inv X pins σ H s) (e:H a=some (.ins C dx fs)) (c:Cls X.K C) (k:Meth X.K C m g) (l:fs.lookup m=none)
  (h:Q (.ref g,[.ref a]) s):wpAny (model X.prog X.w) A (getMethod (.ref a) m pl) Q E s:=by
 obtain ⟨mA,O,r,_,_,_⟩:=Zkc I.hok e
 have hn:mA m=none:=UL.none_of (by rw [<- l];exact r m)
 exact ZiR I.kIn O (c.get m) k.at_ k.fn hn h
theorem Inv.made (I:Inv X pins σ H s):Inv X pins σ (upd (upd H s.heap.objs.size (.own (s.heap.objs.size+1))) (s.heap.objs.size+1) (.ins C s.heap.objs.size []))
  { s with heap:=(s.heap.push PySem.W.emptyDict).push (PySem.W.instObj C s.heap.objs.size) }:=by
 have e1:(s.heap.push PySem.W.emptyDict).get? s.heap.objs.size=some PySem.W.emptyDict:=Heap.get?_push_size s.heap rfl
 have e2:((s.heap.push PySem.W.emptyDict).push (PySem.W.instObj C s.heap.objs.size)).get? (s.heap.objs.size+1)=some (PySem.W.instObj C s.heap.objs.size):=by
  have:=Heap.get?_push_size (s.heap.push PySem.W.emptyDict) (o:=PySem.W.instObj C s.heap.objs.size) rfl
  rwa [Heap.size_push] at this
 have e3:(s.heap.push PySem.W.emptyDict).Ns s.heap.objs.size (fun _=>none):=⟨PySem.W.emptyDict,#[],_,e1,rfl,(fun e he=>absurd he (by simp)),fun _=>rfl⟩
 have I1:=I.laid (a:=s.heap.objs.size) (o:=.own (s.heap.objs.size+1)) (h':=s.heap.push PySem.W.emptyDict) (t':=s.toks) (fun b u q=>Heap.get?_push_of_some _ q) (Nat.le_refl _) ⟨_,e1⟩
 refine I1.laid (a:=s.heap.objs.size+1) (o:=.ins C s.heap.objs.size []) (t':=s.toks) (fun b u q=>Heap.get?_push_of_some _ q) (Nat.le_of_eq (Heap.size_push _ _)) ?_
 have ne:s.heap.objs.size≠s.heap.objs.size+1:=Nat.ne_of_lt (Nat.lt_succ_self _)
 refine ⟨by rw [Zj ne,Zb],Nat.zero_le _,ne,e2,fun _=>none,(Heap.Ns1.of_empty e3).at fun o q=>Heap.get?_push_of_some _ q,fun _=>True.intro,fun y hy=>absurd rfl hy⟩
end
section
variable {X:Cx}{pins:List (Addr×Obj)} {σ:St}{H:Hp}{s:Shared}{A:Around}{E:Value->Shared->Prop}{Q:Value->Shared->Prop}{c:Value}{b:Bool}
inductive ZbN (K:PySem.W.Frag) (H:Hp):V->Value->Prop where
 | non:ZbN K H .non (.type "NoneType")
 | bl (x:Bool):ZbN K H (.bl x) (.type "bool")
 | int (i:Int):ZbN K H (.int i) (.type "int")
 | str (x:Str):ZbN K H (.str x) (.type "str")
 | flt (x:UInt64):ZbN K H (.flt x) (.type "float")
 | lst {a:Addr}{xs:List V} (e:H a=some (.lst xs)):ZbN K H (.ref a) (.type "list")
 | frz {a:Addr}{o:Obj}{xs:List V} (e:H a=some (.frz o (.lst xs))):ZbN K H (.ref a) (.type "list")
 | tup {a:Addr}{xs:List V} (e:H a=some (.tup xs)):ZbN K H (.ref a) (.type "tuple")
 | dK {a:Addr}{kvs:List (Key×V)} (e:H a=some (.dK kvs)):ZbN K H (.ref a) (.type "dict")
 | dT {a:Addr}{kvs:List (List Key×V)} (e:H a=some (.dT kvs)):ZbN K H (.ref a) (.type "dict")
 | ins {a C dx:Addr}{fs:List (Str×V)} (e:H a=some (.ins C dx fs)) (cl:Cls K C) (ha:PySem.W.findIn K (.ref C) "__class__" = some (some (.builtin "object.__class__")))
   (hn:PySem.W.specialIn K (.builtin "object.__class__") "__get__" = some (some (.builtin "getset_descriptor.__get__"))) (htk:PySem.W.takesIn K (.builtin "object.__class__")=some true)
   (hm:PySem.W.mroIn K C (.type "object")=some true):ZbN K H (.ref a) (.ref C)
end
structure Ji (k:Nat) (A:Around):Prop where
 hd:A.handled=none
 dp:A.depth+3*k+5<recursionLimit
 un:A.units+16*k+200<cLine
theorem Ji.mono {j k:Nat}{A:Around} (r:Ji k A) (h:j<=k):Ji j A:=⟨r.hd,by have:=r.dp;lia,by have:=r.un;lia⟩
theorem Ji.deeper {k:Nat}{A:Around} (r:Ji (k+1) A) (env:Env):Ji k (A.deeper env):=
 ⟨r.hd,by have:=r.dp;show A.depth+1+3*k+5<_;lia,by have:=r.un;show A.units+3+16*k+200<_;lia⟩
theorem Ji.depth {k:Nat}{A:Around} (r:Ji k A):A.depth<recursionLimit:=by have:=r.dp;lia
theorem Ji.units {k:Nat}{A:Around} (r:Ji k A):A.units+64<cLine:=by have:=r.un;lia
def Zk6:TA:=fun _ H Q=>Q [] H
def ZmC (ta:TE) (tr:TA):TA:=fun σ H Q=>ta σ H fun x H1=>tr σ H1 fun xs H2=>Q (x::xs) H2
section
variable {X:Cx}{e:Expr}{es:List Expr}{te:TE}{t:TA}{pos:Pos}
theorem Zc:PA X [] Zk6:=fun _ _ _ _ H Q I h=>Calls.spliced_nil ⟨[],H,I,.nil,h⟩
theorem Za (ha:PE X e te) (hr:PA X es t) (hs:starEach (e::es) X.env=(false,eval e X.env)::starEach es X.env:=by rfl):PA X (e::es) (ZmC te t):=by
 intro pos pins s σ H Q I h
 rw [hs]
 show wpAny _ _ (spliced ((false,eval e X.env)::backTo pos (starEach es X.env))) _ _ s
 refine Calls.spliced_cons (Yq (ha pins s σ H _ I h) fun u s1 ⟨x,H1,I1,r1,q1⟩=>?_)
 exact Yq (hr pos pins s1 σ H1 _ I1 q1) fun us s2 ⟨xs,H2,I2,r2,q2⟩=>⟨x::xs,H2,I2,.cons r1 r2,q2⟩
def Zny (t:TA):TE:=fun σ H Q=>t σ H fun xs H1=>xs.length<=sizeLine /\ ∀p,H1 p=none->Q (.ref p) (upd H1 p (.tup xs))
def ZnG (t:TA):TE:=fun σ H Q=>t σ H fun xs H1=>xs.length<=sizeLine /\ ∀p,H1 p=none->Q (.ref p) (upd H1 p (.lst xs))
theorem Yo {x1} (h:PA X es t):PE X (.Tuple es x1 pos) (Zny t):=by
 intro pins s σ H Q I hq
 refine wpAny_Tuple_spliced (Yq (h pos pins s σ H _ I hq) fun us s1 ⟨xs,H1,I1,r,z,q⟩=>⟨by rw [<- r.length];exact z,?_⟩)
 have hf:H1 s1.heap.objs.size=none:=I1.hok.fresh (Nat.le_refl _)
 refine ⟨.ref s1.heap.objs.size,upd H1 s1.heap.objs.size (.tup xs),I1.laid (t':=s1.toks) (fun b u e=>Heap.get?_push_of_some _ e) (Nat.le_refl _) ?_,rfl,q _ hf⟩
 exact ⟨z,us,r,⟨_,Heap.get?_push_size _ rfl,rfl,_,rfl⟩⟩
theorem Z4 (h:PA X es t):PE X (.List es pos) (ZnG t):=by
 intro pins s σ H Q I hq
 refine wpAny_List_spliced (Yq (h pos pins s σ H _ I hq) fun us s1 ⟨xs,H1,I1,r,z,q⟩=>⟨by rw [<- r.length];exact z,?_⟩)
 have hf:H1 s1.heap.objs.size=none:=I1.hok.fresh (Nat.le_refl _)
 refine ⟨.ref s1.heap.objs.size,upd H1 s1.heap.objs.size (.lst xs),I1.laid (t':=s1.toks) (fun b u e=>Heap.get?_push_of_some _ e) (Nat.le_refl _) ?_,rfl,q _ hf⟩
 exact ⟨z,us,0,r,Heap.get?_push_size _ rfl⟩
end
abbrev Sp:=List V->Hp->VK->XK->Prop
abbrev CXT:=List Env->Hp->Shared->XK->Value->Shared->Prop
structure Zem (P:Program) (w:World) (K:PySem.W.Frag) (mg:Str->Option Value) (base:Heap) (A:Around) (outer:List Env) (s:Shared) (H:Hp):Prop where
 frames:A.frames=some outer
 mod:Mod K mg base
 bs:∀b o,base.get? b=some o->s.heap.get? b=some o/\H b=none
 bsz:base.objs.size<=s.heap.objs.size
 funs:s.heap.FunFrames base outer
 frf:∀b∈W9 outer,H b=none
 hok:Wy P w H s.heap
 bare:AllBare s.gens
def CE (outer:List Env) (P:Program) (w:World) (H:Hp) (s:Shared) (Q:VK) (u:Value) (s':Shared):Prop:=
 ∃v H',s'.os=s.os/\AllBare s'.gens/\Un (W9 outer) [] H H' s.heap s'.heap/\Wy P w H' s'.heap/\RelV v u/\Q v H'
def CR (CX:CXT) (outer:List Env) (P:Program) (w:World) (H:Hp) (s:Shared) (Q:VK) (E:XK) (r:Result) (s':Shared):Prop:=
 match r with
 | .ok (.ret u)=>CE outer P w H s Q u s'
 | .ok _=>False
 | .error e=>CX outer H s E e s'
structure Z6 (P:Program) (w:World) (K:PySem.W.Frag) (mg:Str->Option Value) (base:Heap) (CX:CXT) (k:Nat) (f:Addr) (fd:FuncData) (ps:List Str) (sp:Sp):Prop where
 len:∀vs H Q E,sp vs H Q E->vs.length=ps.length
 run:∀(A:Around) (outer:List Env) (s:Shared) (H:Hp) (args:Args) (us:List Value) (vs:List V) (Q:VK) (E:XK),Ji k A->Zem P w K mg base A outer s H->BindsTo s fd args (ps.zip us)->Vals vs us->sp vs H Q E ->
  codeAny (model P w) A (.call (.ref f) args) (CR CX outer P w H s Q E) s
section
variable {X:Cx}{pins:List (Addr×Obj)} {σ:St}{H:Hp}{s s':Shared}
theorem Inv.env0 (I:Inv X pins σ H s):Zem X.prog X.w X.K X.mg X.base X.A X.stack s H:=
 ⟨I.ok.frames,I.ok.mod,I.bs,Nat.le_trans I.ok.bsz I.sz,I.stack,I.stkFree,I.hok,I.bare⟩
theorem Inv.after {Q:VK}{u:Value} (I:Inv X pins σ H s) (h:CE X.stack X.prog X.w H s Q u s'):EP X pins σ Q u s':=by
 obtain ⟨v,H',os,bare,un,hok,r,q⟩:=h
 obtain ⟨hh,g,d,t,os'⟩:=s'
 obtain rfl:os'=s.os:=os
 exact ⟨v,H',I.call (h':=hh) (g':=g) (d':=d) (t':=t) (ch:=[]) un hok bare (fun b z=>absurd z (by simp)),r,q⟩
end
def Zhi (sp:Sp) (dvs:List V) (E:XK) (t:TA):TE:=fun σ H Q=>t σ H fun vs H1=>sp (vs++dvs) H1 Q E
def ZfX (C:Addr) (m:Str) (sp:Sp) (dvs:List V) (E:XK) (ta:TE) (t:TA):TE:=fun σ H Q=>ta σ H fun x H1=>∃a dx fs,x = .ref a/\H1 a=some (.ins C dx fs)/\fs.lookup m=none /\
 t σ H1 fun vs H2=>sp (x::(vs++dvs)) H2 Q E
def Binds (K:PySem.W.Frag) (fd:FuncData) (ps:List Str) (ds:List Value):Prop:=
 ∀(s:Shared) (us:List Value),K.In s.heap->(us++ds).length=ps.length->BindsTo s fd ⟨us,[]⟩ (ps.zip (us++ds))
theorem Binds.all {K:PySem.W.Frag}{fd:FuncData}{ps:List Str} (h:∀us:List Value,us.length=ps.length->bindArgs fd ⟨us,[]⟩=pure (ps.zip us)):Binds K fd ps []:=fun s us _ hl=>by
 rw [List.append_nil] at hl ⊢
 exact .of_eq (h us hl)
def Passes (CX:CXT) (X:Cx) (E:XK):Prop:=∀(pins:List (Addr×Obj)) (σ:St) (H:Hp) (s:Shared) (e:Value) (s':Shared),Inv X pins σ H s->CX X.stack H s E e s'->X.xe e s'
section
variable {X:Cx}{CX:CXT}{k:Nat}{f C:Addr}{fd:FuncData}{ps:List Str}{sp:Sp}{dvs:List V}{ds:List Value}{E:XK}{x m:Str}{p pos apos:Pos}{e o:Expr}{es:List Expr}{ta:TE}{t:TA}
theorem Ze3 {pins:List (Addr×Obj)} {σ:St}{H:Hp}{s:Shared}{Q:VK}{us:List Value}{vs:List V} (F:Z6 X.prog X.w X.K X.mg X.base CX k f fd ps sp) (hr:Ji k X.A) (hb:Binds X.K fd ps ds) (hd:Vals dvs ds) (hx:Passes CX X E)
  (I:Inv X pins σ H s) (r:Vals vs us) (h:sp (vs++dvs) H Q E):wpAny (model X.prog X.w) X.A (call (.ref f) us) (EP X pins σ Q) X.xe s:=by
 have r2:Vals (vs++dvs) (us++ds):=r.append hd
 have hl:(us++ds).length=ps.length:=by rw [<- r2.length];exact F.len _ _ _ _ h
 refine wpAny_call (codeAny_mono (F.run X.A X.stack s H ⟨us,[]⟩ (us++ds) (vs++dvs) Q E hr I.env0 (hb s us I.kIn hl) r2 h) fun r s' hq=>?_)
 cases r with
 | error e=>exact hx pins σ H s e s' I hq
 | ok fl=>
  cases fl with
  | ret u=>exact I.after hq
  | next=>exact False.elim hq
  | brk=>exact False.elim hq
  | cont=>exact False.elim hq
theorem ZfZ (F:Z6 X.prog X.w X.K X.mg X.base CX k f fd ps sp) (hr:Ji k X.A) (hg:Gl X x) (hm:X.mg x=some (.ref f)) (hk:PySem.W.keepIn X.K (.ref f)=true) (hb:Binds X.K fd ps ds) (hd:Vals dvs ds) (hx:Passes CX X E)
  (ha:PA X (e::es) t) (hdb:(x==("__debug__" : Str))=false:=by decide) (he:starEach (e::es) X.env=(false,eval e X.env)::starEach es X.env:=by rfl) (hpl:(backTo pos (starEach es X.env)).any (·.1)=false:=by rfl):
  PE X (.Call (.Name x p) (e::es) [] pos) (Zhi sp dvs E t):=by
 intro pins s σ H Q I h
 refine wpAny_Call_Name_kw (WZ I hg hm ?_ hdb)
 refine PySem.W.callWith_K (h₀:=X.base) I.ok.mod.kin hk (Yq (ha pos pins s σ H _ I h) fun us s1 ⟨vs,H1,I1,r,q⟩=>⟨I1.kIn,?_⟩) he hpl
 exact Ze3 F hr hb hd hx I1 r q
theorem Zka {pl:Sem Bool} (he:PE X o ta) (c:Cls X.K C) (hm:Meth X.K C m f) (F:Z6 X.prog X.w X.K X.mg X.base CX k f fd ps sp) (hr:Ji k X.A) (hb:Binds X.K fd ps ds) (hd:Vals dvs ds) (hx:Passes CX X E) (ha:PA X (e::es) t)
  (hst:starEach (e::es) X.env=(false,eval e X.env)::starEach es X.env:=by rfl) (hpl:(backTo pos (starEach es X.env)).any (·.1)=false:=by rfl)
  (ht:eval (.Call (.Attribute o m apos) (e::es) [] pos) X.env=(do
   let ov <- eval o X.env
   standAt apos.atName
   let (f,first) <- holding [ov] (getMethod ov m pl)
   callWith pos f first (backTo pos (starEach (e::es) X.env)) (backToKw pos (keywordEach [] X.env))):=by rfl):
  PE X (.Call (.Attribute o m apos) (e::es) [] pos) (ZfX C m sp dvs E ta t):=by
 intro pins s σ H Q I h
 refine PySem.W.methodCall_KW (pl:=pl) (Yq (he pins s σ H _ I h) fun u s1 ⟨x,H1,I1,rx,a,dx,fs,ex,ea,l,q⟩=>?_) ht
 subst ex
 obtain rfl:u=Value.ref a:=rx
 refine Zbz I1 ea c hm l ?_
 refine PySem.W.callWith_K (first:=[.ref a]) (h₀:=X.base) I.ok.mod.kin hm.kp (Yq (ha pos pins s1 σ H1 _ I1 q) fun us s2 ⟨vs,H2,I2,r,q2⟩=>⟨I2.kIn,?_⟩) hst hpl
 exact Ze3 (us:=.ref a::us) (vs:=.ref a::vs) F hr hb hd hx I2 (.cons rfl r) q2
theorem Zhm {pl:Sem Bool} (he:PE X o ta) (c:Cls X.K C) (hm:Meth X.K C m f) (F:Z6 X.prog X.w X.K X.mg X.base CX k f fd ps sp) (hr:Ji k X.A) (hb:Binds X.K fd ps ds) (hd:Vals dvs ds) (hx:Passes CX X E)
  (ht:eval (.Call (.Attribute o m apos) [] [] pos) X.env=(do
   let ov <- eval o X.env
   standAt apos.atName
   let (f,first) <- holding [ov] (getMethod ov m pl)
   callWith pos f first (backTo pos (starEach [] X.env)) (backToKw pos (keywordEach [] X.env))):=by rfl):
  PE X (.Call (.Attribute o m apos) [] [] pos) (ZfX C m sp dvs E ta Zk6):=by
 intro pins s σ H Q I h
 refine PySem.W.methodCall_KW (pl:=pl) (Yq (he pins s σ H _ I h) fun u s1 ⟨x,H1,I1,rx,a,dx,fs,ex,ea,l,q⟩=>?_) ht
 subst ex
 obtain rfl:u=Value.ref a:=rx
 refine Zbz I1 ea c hm l ?_
 exact PySem.W.callWith_K0 (first:=[.ref a]) I1.kIn hm.kp (Ze3 (us:=[.ref a]) (vs:=[.ref a]) F hr hb hd hx I1 (.cons rfl .nil) q)
structure Mk (K:PySem.W.Frag) (C f:Addr):Prop where
 makes:PySem.W.makesIn K C=true
 init:PySem.W.findIn K (.ref C) "__init__" = some (some (.ref f))
 fn:PySem.W.isFn K (.ref f)=true
 kp:PySem.W.keepIn K (.ref C)=true
end
section
variable {X:Cx}{CX:CXT}{k:Nat}{f C:Addr}{fd:FuncData}{ps ks:List Str}{sp:Sp}{E:XK}{x m:Str}{p pos apos kpos:Pos}{e o:Expr}{es:List Expr}{kws:List Keyword}{te ta:TE}{t tk:TA}{nm:Option Str}
structure ZnD (K:PySem.W.Frag) (fd:FuncData) (ps ks:List Str) (g:List Value->List Value->List Value) (gV:List V->List V->List V):Prop where
 to:∀(s:Shared) (us ws:List Value),K.In s.heap->(g us ws).length=ps.length->BindsTo s fd ⟨us,ks.zip ws⟩ (ps.zip (g us ws))
 rel:∀{vs:List V}{us:List Value}{zs:List V}{ws:List Value},Vals vs us->Vals zs ws->Vals (gV vs zs) (g us ws)
variable {g:List Value->List Value->List Value}{gV:List V->List V->List V}
end
structure Zw (N P:List Str) (sc:Scope):Prop where
 kind:sc.kind = .function:=by rfl
 co:sc.isCoroutine=false:=by rfl
 gen:sc.isGenerator=false:=by rfl
 nd:N.Nodup:=by decide +kernel
 pre:N.take P.length=P:=by rfl
 par:∀x∈P,sc.names.lookup x=some .local∨sc.names.lookup x=some .cell:=by decide +kernel
 nofree:∀y∈sc.names,y.2 ≠ .free:=by decide +kernel
theorem Zcb {kindOf:Str->Option NameKind}{x:Str}:∀{binds:List (Str×Value)}{m:Str->Option Value},(∀v,(x,v)∉binds)->bindL kindOf binds m x=m x
 | [],_,_=>rfl
 | (n,v)::r,m,h=>by
  unfold bindL
  rw [Zcb fun w hw=>h w (List.mem_cons_of_mem _ hw)]
  split
  ·have:x≠n:=by rintro rfl;exact h v List.mem_cons_self
   simp [this]
  ·rfl
theorem Zcn {kindOf:Str->Option NameKind}{x:Str}:∀{binds:List (Str×Value)}{m:Str->Option Value},(∀v,(x,v)∉binds)->bindC kindOf binds m x=m x
 | [],_,_=>rfl
 | (n,v)::r,m,h=>by
  unfold bindC
  rw [Zcn fun w hw=>h w (List.mem_cons_of_mem _ hw)]
  split
  ·rfl
  ·have:x≠n:=by rintro rfl;exact h v List.mem_cons_self
   simp [this]
theorem Zce {kindOf:Str->Option NameKind}{x:Str}{v:Value}:∀{P:List Str}{vs:List Value}{i:Nat}{m:Str->Option Value},P.Nodup->P[i]? = some x->vs[i]? = some v->kindOf x=some .local ->
  bindL kindOf (P.zip vs) m x=some v
 | [],_,_,_,_,h,_,_=>by simp at h
 | _::_,[],_,_,_,_,h,_=>by simp at h
 | p::P,w::vs,0,m,nd,h1,h2,hk=>by
  simp at h1 h2;subst h1;subst h2
  show bindL kindOf ((p,w)::P.zip vs) m p=_
  unfold bindL
  rw [Zcb fun v hv=>(List.nodup_cons.mp nd).1 (List.of_mem_zip hv).1,if_pos hk]
  simp
 | p::P,w::vs,i+1,m,nd,h1,h2,hk=>by
  show bindL kindOf ((p,w)::P.zip vs) m x=_
  unfold bindL
  exact Zce (i:=i) (List.nodup_cons.mp nd).2 (by simpa using h1) (by simpa using h2) hk
theorem ZcC {kindOf:Str->Option NameKind}{x:Str}{v:Value}:∀{P:List Str}{vs:List Value}{i:Nat}{m:Str->Option Value},P.Nodup->P[i]? = some x->vs[i]? = some v->kindOf x≠some .local ->
  bindC kindOf (P.zip vs) m x=some v
 | [],_,_,_,_,h,_,_=>by simp at h
 | _::_,[],_,_,_,_,h,_=>by simp at h
 | p::P,w::vs,0,m,nd,h1,h2,hk=>by
  simp at h1 h2;subst h1;subst h2
  show bindC kindOf ((p,w)::P.zip vs) m p=_
  unfold bindC
  rw [Zcn fun v hv=>(List.nodup_cons.mp nd).1 (List.of_mem_zip hv).1,if_neg hk]
  simp
 | p::P,w::vs,i+1,m,nd,h1,h2,hk=>by
  show bindC kindOf ((p,w)::P.zip vs) m x=_
  unfold bindC
  exact ZcC (i:=i) (List.nodup_cons.mp nd).2 (by simpa using h1) (by simpa using h2) hk
def start (N:List Str) (vs:List V):St:=vs.map some++List.replicate (N.length-vs.length) none
def Jw (CX:CXT) (P:Program) (w:World) (K:PySem.W.Frag) (mg:Str->Option Value) (base:Heap) (N:List Str) (qual:Str) (scope:Scope) (f:Addr) (cd:Value) (A:Around) (outer:List Env) (s:Shared) (H:Hp) (E:XK):Cx where
 prog:=P
 w:=w
 K:=K
 mg:=mg
 base:=base
 A:=A.deeper (envOfC qual scope s.heap.objs.size f cd)
 N:=N
 s₀:=s
 H₀:=H
 env:=envOfC qual scope s.heap.objs.size f cd
 outer:=outer
 stack:=envOfC qual scope s.heap.objs.size f cd::outer
 ex:=[]
 calm:=true
 fn:=fun _=>true
 pn:=[]
 xe:=fun e s'=>wpAny (model P w) (A.deeper (envOfC qual scope s.heap.objs.size f cd)) (leaving (envOfC qual scope s.heap.objs.size f cd) e) (fun _ s''=>CX outer H s E e s'') (fun e' s''=>CX outer H s E e' s'') s'
theorem ZdB {sc:Scope}{n:Nat}{x:Str} (h:sc.names.lookup x=some .cell):∃c,(cellsFrom n sc.names []).lookup x=some c:=by
 have q:=PySem.W.cellsFrom_some sc.names n [] (.inl h)
 exact Option.isSome_iff_exists.mp q
theorem ZcA {CX:CXT}{P:Program}{w:World}{K:PySem.W.Frag}{mg:Str->Option Value}{base:Heap}{N ps:List Str}{qual:Str}{scope:Scope}{f:Addr}{cd:Value}{A:Around}{outer:List Env}{s s1:Shared}{H:Hp}{E:XK}{us:List Value}{vs:List V}
  (S:Zw N ps scope) (hd:A.handled=none) (e0:Zem P w K mg base A outer s H) (hl:vs.length=ps.length) (r:Vals vs us)
  (x:InCallC s s.heap.objs.size (bindL (envOfC qual scope s.heap.objs.size f cd).kindOf (ps.zip us) fun _=>none) (cellsFrom (s.heap.objs.size+1) scope.names []) (bindC (envOfC qual scope s.heap.objs.size f cd).kindOf (ps.zip us) fun _=>none) s1):
  Inv (Jw CX P w K mg base N qual scope f cd A outer s H E) [] (start N vs) H s1:=by
 have hpl:ps.length<=N.length:=by have:=congrArg List.length S.pre;rw [List.length_take] at this;lia
 obtain ⟨h1,tk,rfl,hk⟩:=x.done
 have noA:∀b:Addr,b∉(Jw CX P w K mg base N qual scope f cd A outer s H E).ex:=fun b z=>absurd (show b∈([]:List Addr) from z) (by simp)
 refine ⟨⟨e0.mod,S.kind,rfl,rfl,Nat.le_refl _,fun y z c h1 h2=>?_,fun y hy=>?_,fun y c _ h=>?_,fun _=>hd,Around.frames_deeper e0.frames,.inr ⟨rfl,rfl⟩,fun b z=>absurd z (noA b),e0.bs,e0.bsz,fun b _ _=>noA b,fun b z=>absurd z (noA b),e0.funs,e0.frf⟩,
  rfl,e0.bare,Un.kept hk,⟨_,x.toInCall.ns,fun i y v h1 h2 h3=>?_⟩,fun y c h=>⟨_,x.cell y c h⟩,e0.hok.fresh (Nat.le_refl _),fun y c h=>?_,fun p hp=>absurd (show p∈([]:List (Addr×Obj)) from hp) (by simp),e0.hok.kept hk,?_⟩
 ·exact name_of_addr x.apart (PySem.mem_of_lookup h1) (PySem.mem_of_lookup h2)
 ·have hy:scope.names.lookup y=some .cell∨scope.names.lookup y=some .free:=hy
  rcases hy with hy | hy
  ·exact ZdB hy
  ·exact absurd rfl (S.nofree _ (PySem.mem_of_lookup hy))
 ·exact Nat.le_of_lt (x.above y c (PySem.mem_of_lookup h))
 ·have hi:i<vs.length:=by
   unfold start at h2
   by_cases hi:i<vs.length
   ·exact hi
   ·rw [List.getElem?_append_right (by simpa using hi)] at h2
    rw [List.getElem?_replicate] at h2
    split at h2<;>cases h2
  have ha:vs[i]? = some v:=by
   unfold start at h2
   rw [List.getElem?_append_left (by simpa using hi),List.getElem?_map] at h2
   cases e:vs[i]? with
   | none=>rw [e] at h2;cases h2
   | some a=>rw [e] at h2;cases h2;rfl
  obtain ⟨u,hu,rv⟩:=r.get ha
  have hp:ps[i]? = some y:=by
   rw [<- S.pre,List.getElem?_take_of_lt (by lia)];exact h1
  have ndP:ps.Nodup:=by rw [<- S.pre];exact S.nd.sublist (List.take_sublist _ _)
  refine ⟨u,rv,?_⟩
  rcases S.par y (List.mem_of_getElem? hp) with k | k
  ·exact .inl ⟨k,Zce ndP hp hu k⟩
  ·obtain ⟨c,e⟩:=ZdB (n:=s.heap.objs.size+1) k
   refine .inr ⟨.inl k,c,e,?_⟩
   have q:=x.cell y c e
   rw [ZcC ndP hp hu (by show scope.names.lookup y≠_;rw [k];decide)] at q
   exact q
 ·exact e0.hok.fresh (Nat.le_of_lt (x.above y c (PySem.mem_of_lookup h)))
 ·unfold start
  show _=N.length
  rw [List.length_append,List.length_map,List.length_replicate]
  lia
theorem ZkO {CX:CXT}{P:Program}{w:World}{K:PySem.W.Frag}{mg:Str->Option Value}{base:Heap}{k:Nat}{f:Addr}{name qual:Str}{params:Arguments}{body:List Stmt}{scope:Scope}{dV kV doc pm cdv ct oc:Value}{an od:Option Addr}
  {osl:Array (Option Value)}{N ps:List Str}{sp:Sp} (lk:K.lookup f=some ⟨oc,od,.func (PySem.W.fnOf name qual params body scope dV kV doc pm an cdv ct),osl⟩) (hcd:PySem.W.codeIn K cdv qual=true) (S:Zw N ps scope)
  (len:∀vs H Q E,sp vs H Q E->vs.length=ps.length)
  (hbody:∀(A:Around) (outer:List Env) (s:Shared) (H:Hp) (vs:List V) (Q:VK) (E:XK),Ji k (A.deeper (envOfC qual scope s.heap.objs.size f cdv))->sp vs H Q E ->
   ∃t,PSs (Jw CX P w K mg base N qual scope f cdv A outer s H E) body t/\t { nx:=fun _ H'=>Q .non H',rt:=Q } (start N vs) H):
  Z6 P w K mg base CX (k+1) f (PySem.W.fnOf name qual params body scope dV kV doc pm an cdv ct) ps sp:=by
 refine ⟨len,fun A outer s H args us vs Q E hr e0 hb r hsp=>?_⟩
 have hl:=len _ _ _ _ hsp
 have KX:K.In s.heap:=e0.mod.kin.keeps fun b o e=>(e0.bs b o e).1
 have lim:s.heap.NoLimit:=e0.mod.nolimit.keeps fun b o e=>(e0.bs b o e).1
 have hkind:∀y∈ps.zip us,scope.names.lookup y.1=some .local∨(scope.names.lookup y.1=some .cell/\((cellsFrom (s.heap.objs.size+1) scope.names []).lookup y.1).isSome=true):=fun ⟨n,v⟩ hy=>by
  rcases S.par n (List.of_mem_zip hy).1 with q | q
  ·exact .inl q
  ·exact .inr ⟨q,PySem.W.cellsFrom_some _ _ _ (.inl q)⟩
 refine codeAny_call_function hr.depth (KX _ _ lk) rfl S.co S.gen rfl (PySem.W.codeRec_of KX hcd) (hb _ _ _ _ ?_)
 refine wpAny_newFunctionEnv_cells S.kind hkind fun env he s1 x=>?_
 subst he
 refine ⟨lim.keeps x.toInCall.keep,codeAny_func ?_⟩
 obtain ⟨t,ht,hq⟩:=hbody A outer s H vs Q E (hr.deeper _) hsp
 have I:Inv (Jw CX P w K mg base N qual scope f cdv A outer s H E) [] (start N vs) H s1:=ZcA S hr.hd e0 hl r x
 refine wpAny_mono (ht [] s1 (start N vs) H _ I hq) (fun fl s' hs=>?_) fun e s' hs=>hs
 have fin:∀{σ':St}{H':Hp}{v:V}{u:Value},Inv (Jw CX P w K mg base N qual scope f cdv A outer s H E) [] σ' H' s'->RelV v u->Q v H'->CE outer P w H s Q u s':=
  fun {σ' H' v u} J rv q=>⟨v,H',J.os,J.bare,J.base,J.hok,rv,q⟩
 cases fl with
 | ret u=>
  obtain ⟨v,σ',H',J,rv,q⟩:=hs
  exact fin J rv q
 | next=>
  obtain ⟨σ',H',J,q⟩:=hs
  exact fin (v:=V.non) (u:=Value.none) J rfl q
 | brk=>
  obtain ⟨_,_,_,q⟩:=hs
  exact False.elim q
 | cont=>
  obtain ⟨_,_,_,q⟩:=hs
  exact False.elim q
section
variable {X:Cx}{x:Str}{p pos:Pos}{e:Expr}{es:List Expr}{t:TA}{id T:String}{r:List V->Hp->VK->Prop}
def tCB (r:List V->Hp->VK->Prop) (t:TA):TE:=fun σ H Q=>t σ H fun vs H1=>r vs H1 Q
theorem ZG (hc:Ja X (.builtin id) r) (hg:Gl X x) (hm:X.mg x=none) (hv:bootBuiltins x=some (.builtin id)) (ha:PA X (e::es) t) (hn:x ≠ "__name__" := by decide) (hdb:(x==("__debug__" : Str))=false:=by decide)
  (he:starEach (e::es) X.env=(false,eval e X.env)::starEach es X.env:=by rfl) (hpl:(backTo pos (starEach es X.env)).any (·.1)=false:=by rfl):PE X (.Call (.Name x p) (e::es) [] pos) (tCB r t):=by
 intro pins s σ H Q I h
 refine wpAny_Call_Name_kw (Wq I hg hm hv ?_ hn hdb)
 exact PyProof.Rows.callWith_builtin1 (Yq (ha pos pins s σ H _ I h) fun us s1 ⟨vs,H1,I1,r1,q1⟩=>hc pins s1 σ H1 vs us Q I1 r1 q1) he hpl
theorem Zav (hc:Ja X (.type T) r) (hg:Gl X x) (hm:X.mg x=none) (hv:bootBuiltins x=some (.type T)) (ha:PA X (e::es) t) (hn:x ≠ "__name__" := by decide) (hdb:(x==("__debug__" : Str))=false:=by decide)
  (he:starEach (e::es) X.env=(false,eval e X.env)::starEach es X.env:=by rfl) (hpl:(backTo pos (starEach es X.env)).any (·.1)=false:=by rfl):PE X (.Call (.Name x p) (e::es) [] pos) (tCB r t):=by
 intro pins s σ H Q I h
 refine wpAny_Call_Name_kw (Wq I hg hm hv ?_ hn hdb)
 exact PyProof.Rows.callWith_type1 (Yq (ha pos pins s σ H _ I h) fun us s1 ⟨vs,H1,I1,r1,q1⟩=>hc pins s1 σ H1 vs us Q I1 r1 q1) he hpl
end
end L2
namespace HT
open PySem PyProof.Rows
def lexLt:List Int->List Int->Bool
 | [],[]=>false
 | [],_::_=>true
 | _::_,[]=>false
 | x::xs,y::ys=>if x=y then lexLt xs ys else decide (x<y)
section
open PySem.SeqAt
open PySem.AutoSeq1 (wpAny_loadPart')
open PySem.MeetsSeq PySem.MeetsSeq2 PySem.MeetsSeq3
end
section
variable {prog:Program}{w:World}{A:Around}{E:Value->Shared->Prop}{s:Shared}
theorem Zjc {t b:Addr}{vs ws:List Value}{Q:Value->Shared->Prop} (ht:IsTup s.heap t vs.toArray) (hb:IsTup s.heap b ws.toArray) (hv:vs ≠ [])
  (h1:ws = []->Q (.ref t) s) (h2:ws ≠ []->Q (.ref s.heap.objs.size) { s with heap:=s.heap.push { cls:=.type "tuple", data:=.seq (vs++ws).toArray } })
  (hsz:vs.length+ws.length<=sizeLine):wpAny (model prog w) A (binaryOp .Add (.ref t) (.ref b)) Q E s:=by
 obtain ⟨⟨cls,dd,data,sl⟩,ho,hc,n,hd⟩:=id ht
 obtain ⟨⟨cls2,dd2,data2,sl2⟩,ho2,hc2,n2,hd2⟩:=id hb
 simp only at hc hd hc2 hd2
 subst hc hd hc2 hd2
 have e:vs.toArray++ws.toArray=(vs++ws).toArray:=by simp
 by_cases hw:ws = []
 ·exact concat_meets ⟨_,ho,rfl⟩ ⟨_,ho2,rfl⟩ noFill_tuple_add seq_tuple_add PySem.F.slot_tuple_add PySem.F.entry_tuple_add (PySem.F.args_tuple_add_2 _ _)
   (tuple_addW1 t b vs.toArray ws.toArray n n2 dd dd2 sl sl2 (by simpa using hv) (by simp [hw])) ⟨ho,ho2,h1 hw⟩
 ·refine concat_meets ⟨_,ho,rfl⟩ ⟨_,ho2,rfl⟩ noFill_tuple_add seq_tuple_add PySem.F.slot_tuple_add PySem.F.entry_tuple_add (PySem.F.args_tuple_add_2 _ _)
   (tuple_addW2 t b vs.toArray ws.toArray n n2 dd dd2 sl sl2 (by simpa using hv) (by simpa using hw) (by rw [List.size_toArray,List.size_toArray];exact hsz)) ⟨ho,ho2,?_⟩
  rw [e]
  exact h2 hw
def Jj (n d:Nat):Option Int->Nat
 | none=>d
 | some v=>if v<0 then (v+(n:Int)).toNat else min v.toNat n
theorem U1 (n d:Nat):Jj n d none=d:=rfl
theorem Uj (n d k:Nat):Jj n d (some (k:Int))=min k n:=by
 show (if (k:Int)<0 then ((k:Int)+(n:Int)).toNat else min (k:Int).toNat n)=min k n
 rw [if_neg (by lia),Int.toNat_natCast]
theorem Zl0 (n d:Nat) (hd:d<=n) (o:Option Int):Jj n d o<=n:=by
 cases o with
 | none=>exact hd
 | some v=>
  show (if v<0 then (v+(n:Int)).toNat else min v.toNat n)<=n
  by_cases hv:v<0
  ·rw [if_pos hv];lia
  ·rw [if_neg hv];exact Nat.min_le_right _ _
theorem ZfK (v:Int) (n d:Nat):(if v<0 then max (v+(n:Int)) 0 else min v (n:Int))=((Jj n d (some v):Nat):Int):=by
 show (if v<0 then max (v+(n:Int)) 0 else min v (n:Int))=(((if v<0 then (v+(n:Int)).toNat else min v.toNat n):Nat):Int)
 by_cases hv:v<0
 ·simp only [if_pos hv];lia
 ·simp only [if_neg hv];lia
theorem ZeZ (lo hi:Option Int) (n:Nat):Builtin.Slice.sliceAdjust lo hi 1 (n:Int)=(((Jj n 0 lo:Nat):Int),((Jj n n hi:Nat):Int)):=by
 have h1:¬((1:Int)<0):=by lia
 unfold Builtin.Slice.sliceAdjust
 simp only [h1,if_false]
 refine Prod.ext ?_ ?_
 ·cases lo with
  | none=>rfl
  | some v=>exact ZfK v n 0
 ·cases hi with
  | none=>rfl
  | some v=>exact ZfK v n n
theorem Zer (i j:Nat):Builtin.Slice.slicePlaces (i:Int) (j:Int) 1=j-i:=by
 unfold Builtin.Slice.slicePlaces
 have h1:(1:Int)>0:=by lia
 simp only [h1,if_true,Int.ediv_one]
 split<;>lia
theorem ZbO {v:Value}{o:Option Int}{Q:Option Int->Shared->Prop} (p:IsPart v o) (h:Q o s):wpAny (model prog w) A (Builtin.Slice.slicePartIndex v) Q E s:=by
 cases p with
 | none=>exact slicePart_none h
 | int i t=>exact slicePart_int h
theorem Zaw {sl:Addr}{vl vu:Value}{lo hi:Option Int}{n:Nat}{Q:Int×Int×Nat->Shared->Prop} (hs:s.heap.IsSliceOf sl vl vu .none) (pl:IsPart vl lo) (pu:IsPart vu hi)
  (h:Q (((Jj n 0 lo:Nat):Int),1,Jj n n hi-Jj n 0 lo) s):wpAny (model prog w) A (Builtin.Slice.sliceApplied (.ref sl) (pure (n:Int))) Q E s:=by
 obtain ⟨os,hos,hcs,hds⟩:=id hs
 unfold Builtin.Slice.sliceApplied Builtin.Slice.sliceFields
 refine wpAny_bind (wpAny_bind (wpAny_field hos hds (x:=vl) rfl (wpAny_bind (wpAny_field hos hds (x:=vu) rfl (wpAny_bind (wpAny_field hos hds (x:=.none) rfl (wpAny_pure ?_)))))))
 refine wpAny_bind (slicePart_none ?_)
 show wpAny _ _ (if ((1:Int)==0)=true then _ else _) _ _ s
 rw [if_neg (by decide)]
 refine wpAny_bind (ZbO pl (wpAny_bind (ZbO pu (wpAny_bind (wpAny_pure ?_)))))
 show wpAny _ _ (match Builtin.Slice.sliceAdjust lo hi 1 (n:Int) with | (lo,hi)=>pure (lo,(1:Int),Builtin.Slice.slicePlaces lo hi 1)) _ _ s
 rw [ZeZ lo hi n]
 show wpAny _ _ (pure (((Jj n 0 lo:Nat):Int),(1:Int),Builtin.Slice.slicePlaces ((Jj n 0 lo:Nat):Int) ((Jj n n hi:Nat):Int) 1)) _ _ s
 rw [Zer]
 exact wpAny_pure h
theorem ZiI (xs:Array Value) (i k:Nat):((List.range k).filterMap fun (m:Nat)=>xs[((i:Int)+(m:Int)*1).toNat]?).toArray=((xs.toList.drop i).take k).toArray:=by
 have e:(fun (m:Nat)=>xs[((i:Int)+(m:Int)*1).toNat]?)=fun m=>xs[i+m]?:=by
  funext m
  have:((i:Int)+(m:Int)*1).toNat=i+m:=by lia
  rw [this]
 rw [e]
 have:=pick_run xs i k
 rw [List.filterMap_map] at this
 have e2:((fun x=>xs[x]?) ∘ fun x=>i+x)=fun m=>xs[i+m]?:=rfl
 rw [e2] at this
 rw [this]
theorem U3 {t sl:Addr}{items:Array Value}{vl vu:Value}{lo hi:Option Int}{Q:Value->Shared->Prop} (ht:IsTup s.heap t items) (hs:s.heap.IsSliceOf sl vl vu .none) (pl:IsPart vl lo) (pu:IsPart vu hi)
  (hw:¬(Jj items.size 0 lo=0/\Jj items.size items.size hi=items.size))
  (h:Q (.ref s.heap.objs.size) { s with heap:=s.heap.push { cls:=.type "tuple", data:=.seq ((items.toList.drop (Jj items.size 0 lo)).take (Jj items.size items.size hi-Jj items.size 0 lo)).toArray } })
  (hsz:items.size<=sizeLine):wpAny (model prog w) A (getItem (.ref t) (.ref sl)) Q E s:=by
 have htake:sizeOk (.seq ((items.toList.drop (Jj items.size 0 lo)).take (Jj items.size items.size hi-Jj items.size 0 lo)).toArray):=by
  show ((items.toList.drop (Jj items.size 0 lo)).take (Jj items.size items.size hi-Jj items.size 0 lo)).toArray.size<=sizeLine
  rw [List.size_toArray,List.length_take,List.length_drop,Array.length_toList]
  lia
 have hj:Jj items.size items.size hi<=items.size:=Zl0 _ _ (Nat.le_refl _) hi
 obtain ⟨os,hos,hcs,hds⟩:=id hs
 have hTs:s.TypeIs (.ref sl) "slice" := ⟨os,hos,hcs⟩
 unfold getItem
 try with_reducible refine wpAny_holding ?_
 first | refine wpAny_bind (wpAny_pure ?_) | skip
 refine wpAny_bind (wpAny_sequenceKey ht.typeIs (by decide) ?_)
 refine wpAny_bind (wpAny_callSpecial?_slot (name:=Str.ofString "__getitem__") ht.typeIs PyProof.Rows.slot_tuple_getitem
  (wpAny_call_entry PyProof.Rows.slot_tuple_getitem ht.typeIs entry_tuple_getitem ?_ (args_tuple_getitem _ _)))
 show wpAny _ _ (Builtin.Tuple.tupleItemsOf (.ref t) >>= _) _ _ s
 refine wpAny_bind (tupleItemsOf_ ht ?_)
 refine wpAny_bind (wpAny_typeOf hTs ?_)
 rw [if_pos (by decide)]
 refine wpAny_bind (Zaw hs pl pu ?_)
 have hno:¬((((Jj items.size 0 lo:Nat):Int)==0&&(1:Int)==1&&(Jj items.size items.size hi-Jj items.size 0 lo)==items.size)=true):=by
  intro q
  rw [Bool.and_eq_true,Bool.and_eq_true] at q
  have q1:((Jj items.size 0 lo:Nat):Int)=0:=eq_of_beq q.1.1
  have q2:Jj items.size items.size hi-Jj items.size 0 lo=items.size:=eq_of_beq q.2
  exact hw ⟨by lia,by lia⟩
 show wpAny _ _ (if (((Jj items.size 0 lo:Nat):Int)==0&&(1:Int)==1&&(Jj items.size items.size hi-Jj items.size 0 lo)==items.size)=true then _ else _) _ _ s
 rw [if_neg hno,ZiI]
 first
  | exact wpAny_bind (m:=Builtin.Tuple.tupleExact _) (wpAny_newObj_type (wpAny_pure ⟨_,rfl,wpAny_pure h⟩) htake)
  | exact wpAny_bind (m:=Builtin.Tuple.tupleExact _) (wpAny_newObj_type (wpAny_bind (wpAny_pure (wpAny_pure ⟨_,rfl,wpAny_pure h⟩))) htake)
  | exact wpAny_bind (wpAny_bind (m:=Builtin.Tuple.tupleExact _) (wpAny_newObj_type (wpAny_pure (wpAny_pure ⟨_,rfl,wpAny_pure h⟩)) htake))
  | exact wpAny_bind (wpAny_bind (m:=Builtin.Tuple.tupleExact _) (wpAny_newObj_type (wpAny_pure ⟨_,rfl,wpAny_pure h⟩) htake))
end
end HT
namespace L2
open PySem PySem.Spec PyProof.Rows
abbrev TO:=St->Hp->(Option Int->Hp->Prop)->Prop
def PO (X:Cx) (e:Option Expr) (t:TO):Prop:=
 ∀(pins:List (Addr×Obj)) (s:Shared) (σ:St) (H:Hp) (Q:Option Int->Hp->Prop),Inv X pins σ H s->t σ H Q ->
  wpAny (model X.prog X.w) X.A (evalPart e X.env) (fun u s'=>∃o H',Inv X pins σ H' s'/\IsPart u o/\Q o H') X.xe s
def ZfH:TO:=fun _ H Q=>Q none H
def ZmI (t:TE):TO:=fun σ H Q=>t σ H fun x H1=>∃i,x = .int i/\Q (some i) H1
section
variable {X:Cx}{e:Expr}{te:TE}{lo hi:Option Expr}{tl th:TO}{pos p2:Pos}
theorem Jg:PO X none ZfH:=by
 intro pins s σ H Q I h
 rw [evalPart_none]
 exact wpAny_pure ⟨none,H,I,.none,h⟩
theorem ZZ (h:PE X e te):PO X (some e) (ZmI te):=by
 intro pins s σ H Q I hw
 rw [evalPart_some]
 refine Yq (h pins s σ H _ I hw) fun u s1 ⟨x,H1,I1,r1,q1⟩=>?_
 obtain ⟨i,rfl,q⟩:=q1
 obtain ⟨t,rfl⟩:=r1
 exact ⟨some i,H1,I1,.int i t,q⟩
def SlR (X:Cx) (r:V->Option Int->Option Int->Hp->VK->Prop):Prop:=
 ∀(pins:List (Addr×Obj)) (s:Shared) (σ:St) (H:Hp) (x:V) (v vl vu:Value) (lo hi:Option Int) (sl:Addr) (Q:VK),Inv X pins σ H s->RelV x v->s.heap.IsSliceOf sl vl vu .none->IsPart vl lo->IsPart vu hi->r x lo hi H Q ->
  ∃T id,typeLookup (.type T) "__getitem__" = pure (some (.builtin id))/\s.TypeIs v T/\wpAny (model X.prog X.w) X.A (getItem v (.ref sl)) (EP X pins σ Q) X.xe s
def tSl (r:V->Option Int->Option Int->Hp->VK->Prop) (te:TE) (tl th:TO):TE:=fun σ H Q=>te σ H fun x H1=>tl σ H1 fun l H2=>th σ H2 fun u H3=>r x l u H3 Q
theorem Yw {r:V->Option Int->Option Int->Hp->VK->Prop} (hr:SlR X r) (he:PE X e te) (hl:PO X lo tl) (hu:PO X hi th):PE X (.Subscript e (.Slice lo hi none p2) pos) (tSl r te tl th):=by
 intro pins s σ H Q I h
 refine Subscript_ (Yq (he pins s σ H _ I h) fun v s1 ⟨x,H1,I1,r1,q1⟩=>?_)
 refine wpAny_Slice (Yq (hl pins s1 σ H1 _ I1 q1) fun vl s2 ⟨l,H2,I2,pl,q2⟩=>Yq (hu pins s2 σ H2 _ I2 q2) fun vu s3 ⟨u,H3,I3,pu,q3⟩=>?_)
 rw [evalPart_none]
 refine wpAny_pure ?_
 have I4:Inv X pins σ H3 { s3 with heap:=s3.heap.push { cls:=.type "slice", data:=.fields #[vl,vu,.none] } }:=I3.kept (t':=s3.toks) fun b ob q=>Heap.get?_push_of_some _ q
 obtain ⟨T,id,hT,ht,hg⟩:=hr pins { s3 with heap:=s3.heap.push { cls:=.type "slice", data:=.fields #[vl,vu,.none] } } σ H3 x v vl vu l u s3.heap.objs.size Q I4 r1 (Heap.IsSliceOf.new ..) pl pu q3
 show wpAny (model X.prog X.w) X.A (subscriptTail e (.Slice lo hi none p2) v (.ref s3.heap.objs.size)) (EP X pins σ Q) X.xe { s3 with heap:=s3.heap.push { cls:=.type "slice", data:=.fields #[vl,vu,.none] } }
 exact tail_any (ops:=[.ref s3.heap.objs.size,v]) ht hT hg (by with_unfolding_all rfl)
def JI (xs:List V) (lo hi:Option Int):List V:=(xs.drop (HT.Jj xs.length 0 lo)).take (HT.Jj xs.length xs.length hi-HT.Jj xs.length 0 lo)
theorem ZaN (xs:List V) (lo hi:Option Int):(JI xs lo hi).length<=xs.length:=by
 unfold JI
 rw [List.length_take,List.length_drop]
 lia
def ZjN (K:PySem.W.Frag):V->Option Int->Option Int->Hp->VK->Prop:=fun x lo hi H Q=>∃a xs,x = .ref a/\Gh K H a xs /\
 ¬(HT.Jj xs.length 0 lo=0/\HT.Jj xs.length xs.length hi=xs.length) /\ ∀p,H p=none->Q (.ref p) (upd H p (.tup (JI xs lo hi)))
theorem Zla:SlR X (ZjN X.K):=by
 intro pins s σ H x v vl vu lo hi sl Q I rx hs pl pu h
 obtain ⟨a,xs,rfl,hx,hw,q⟩:=h
 cases rx
 obtain ⟨its,r,ht,hz⟩:=I.tuple hx
 have hlen:its.toArray.size=xs.length:=by rw [List.size_toArray];exact r.length.symm
 refine ⟨"tuple", _,PyProof.Rows.slot_tuple_getitem.lookup,ht.typeIs,?_⟩
 refine HT.U3 ht hs pl pu (by rw [hlen];exact hw) ?_ (by rw [hlen];exact hz)
 rw [hlen]
 refine ⟨.ref s.heap.objs.size,_,I.laid (t':=s.toks) (o:=.tup (JI xs lo hi)) (fun b ob q=>Heap.get?_push_of_some _ q) (Nat.le_refl _) ?_,rfl,q _ (I.hok.fresh (Nat.le_refl _))⟩
 exact ⟨Nat.le_trans (ZaN xs lo hi) hz,_,(r.drop (HT.Jj xs.length 0 lo)).take (HT.Jj xs.length xs.length hi-HT.Jj xs.length 0 lo),IsTup.new _ _⟩
end
def ixN (n:Nat) (i:Int):Option Nat:=if 0<=i then (if i<n then some i.toNat else none) else if -(n:Int)<=i then some (i+n).toNat else none
def atI {α:Type} (xs:List α) (i:Int):Option α:=(ixN xs.length i).bind fun j=>xs[j]?
theorem Zf8 {n:Nat}{i:Int}{j:Nat} (h:ixN n i=some j):seqIndex? i n=some j/\j<n /\ -(n:Int)<=i/\i<n:=by
 unfold ixN at h
 by_cases h0:0<=i
 ·rw [if_pos h0] at h
  by_cases h1:i<n
  ·rw [if_pos h1] at h
   have e:i.toNat=j:=Option.some.inj h
   exact ⟨by rw [seqIndex_of h0 h1,e],by lia,by lia,h1⟩
  ·rw [if_neg h1] at h;cases h
 ·rw [if_neg h0] at h
  by_cases h1 : -(n:Int)<=i
  ·rw [if_pos h1] at h
   have e:(i+n).toNat=j:=Option.some.inj h
   exact ⟨by rw [seqIndex_neg (by lia) h1,e],by lia,h1,by lia⟩
  ·rw [if_neg h1] at h;cases h
theorem Zfr {α:Type}{xs:List α}{i:Int}{v:α} (h:atI xs i=some v):∃j,seqIndex? i xs.length=some j/\xs[j]? = some v/\j<xs.length /\ -(xs.length:Int)<=i/\i<xs.length:=by
 unfold atI at h
 cases e:ixN xs.length i with
 | none=>rw [e] at h;cases h
 | some j=>
  rw [e] at h
  obtain ⟨h1,h2,h3,h4⟩:=Zf8 e
  exact ⟨j,h1,h,h2,h3,h4⟩
theorem Zs {α:Type}{xs:List α}{j:Nat}{v:α} (h:xs[j]? = some v):atI xs (j:Int)=some v:=by
 have hj:j<xs.length:=(List.getElem?_eq_some_iff.mp h).1
 have e:ixN xs.length (j:Int)=some j:=by
  unfold ixN
  rw [if_pos (by lia),if_pos (by lia)];simp
 unfold atI;rw [e];exact h
def ZjE (b:Expr):Prop:=∀o i,subscripted b false o i=operate [o,i] (getItem o i)
def IxR (X:Cx) (r:R2):Prop:=
 ∀(value slice:Expr) (pins:List (Addr×Obj)) (s:Shared) (σ:St) (H:Hp) (x y:V) (v u:Value) (Q:VK),Inv X pins σ H s->RelV x v->RelV y u->r x y H Q ->
  subscripted slice false v u=operate [v,u] (getItem v u)->wpAny (model X.prog X.w) X.A (subscriptTail value slice v u) (EP X pins σ Q) X.xe s
def MtR (X:Cx) (id:String) (r:V->List V->Hp->VK->Prop):Prop:=
 ∀(pins:List (Addr×Obj)) (s:Shared) (σ:St) (H:Hp) (x:V) (xs:List V) (v:Value) (us:List Value) (Q:VK),Inv X pins σ H s->RelV x v->Vals xs us->r x xs H Q ->
  wpAny (model X.prog X.w) X.A (call (.builtin id) (v::us)) (EP X pins σ Q) X.xe s
section
variable {X:Cx}{a b:Expr}{ta tb:TE}{pos:Pos}
theorem Zx {r:R2} (hr:IxR X r) (ha:PE X a ta) (hb:PE X b tb) (hs:ZjE b):PE X (.Subscript a b pos) (tOp r ta tb):=by
 intro pins s σ H Q I h
 exact Subscript_ (ZlQ ha hb I h fun v u s2 x y H2 I2 rx ry q=>hr a b pins s2 σ H2 x y v u Q I2 rx ry q (hs _ _))
def Zj9 (K:PySem.W.Frag):R2:=fun x y H Q=>∃p xs i v,x = .ref p/\y = .int i/\Zp K H p xs/\atI xs i=some v/\Q v H
def ZmY (K:PySem.W.Frag):R2:=fun x y H Q=>∃p xs i v,x = .ref p/\y = .int i/\Gh K H p xs/\atI xs i=some v/\Q v H
theorem Zjq:IxR X (Zj9 X.K):=by
 intro value slice pins s σ H x y v u Q I rx ry h hs
 obtain ⟨p,xs,i,z,rfl,rfl,hq,he,q⟩:=h
 cases rx
 obtain ⟨t,rfl⟩:=ry
 obtain ⟨its,r,pl,hz⟩:=I.list hq
 obtain ⟨j,h1,h2,h3,h4,h5⟩:=Zfr he
 obtain ⟨w,ew,rw'⟩:=r.get h2
 have hl:=r.length
 have hn:=Zdv
 have fin:EP X pins σ Q w s:=⟨z,H,I,rw',q⟩
 by_cases h0:0<=i
 ·have hj:i.toNat=j:=by
   rw [seqIndex_of h0 h5] at h1
   exact Option.some.inj h1
  exact item_listR pl.isList h0 (by lia) (by rw [hj];simpa using ew) fin hs
 ·have hj:(i+(its.toArray.size:Int)).toNat=j:=by
   rw [seqIndex_neg (by lia) h4] at h1
   rw [List.size_toArray,<- hl]
   exact Option.some.inj h1
  exact subscriptTail_builtinR (x:=w) pl.isList.typeIs slot_list_getitem.lookup
   (wpAny_getItem_list_neg (Q:=fun r s'=>r=w/\EP X pins σ Q r s') pl.isList (by lia) (by rw [List.size_toArray]<;>lia) (by lia) (by rw [hj];simpa using ew) ⟨rfl,fin⟩) hs
theorem ZlY:IxR X (ZmY X.K):=by
 intro value slice pins s σ H x y v u Q I rx ry h hs
 obtain ⟨p,xs,i,z,rfl,rfl,hq,he,q⟩:=h
 cases rx
 obtain ⟨t,rfl⟩:=ry
 obtain ⟨its,r,pl,hz⟩:=I.tuple hq
 obtain ⟨j,h1,h2,h3,h4,h5⟩:=Zfr he
 obtain ⟨w,ew,rw'⟩:=r.get h2
 have hl:=r.length
 have hn:=Zdv
 have fin:EP X pins σ Q w s:=⟨z,H,I,rw',q⟩
 exact subscriptTail_builtinR (x:=w) pl.typeIs slot_tuple_getitem.lookup
  (getItem_tuple (j:=j) (Q:=fun r s'=>r=w/\EP X pins σ Q r s') pl (by lia) (by lia) (by rw [List.size_toArray,<- hl];exact h1) (by simpa using ew) ⟨rfl,fin⟩) hs
theorem Zfi (its:List Value) (n j:Nat) (u:Value):Obj.mapSeq (·.setIfInBounds j u) { cls:=.type "list", data:=.seq its.toArray n } = { cls:=.type "list", data:=.seq (its.set j u).toArray n }:=by
 simp [Obj.mapSeq]
theorem Inv.lst {pins:List (Addr×Obj)} {σ:St}{H:Hp}{s:Shared}{p:Addr}{xs:List V} (I:Inv X pins σ H s) (h:H p=some (.lst xs)):
  ∃(its:List Value) (n:Nat),Vals xs its/\s.heap.get? p=some { cls:=.type "list", data:=.seq its.toArray n } /\ xs.length<=sizeLine:=by
 obtain ⟨z,its,n,r,e⟩:=I.hok p _ h
 exact ⟨its,n,r,e,z⟩
theorem Inv.lstUpd {pins:List (Addr×Obj)} {σ:St}{H:Hp}{s:Shared}{p:Addr}{xs ys:List V}{its its':List Value}{n n':Nat}{f:Obj->Obj} (I:Inv X pins σ H s) (h:H p=some (.lst xs))
  (ho:s.heap.get? p=some { cls:=.type "list", data:=.seq its.toArray n }) (hf:f { cls:=.type "list", data:=.seq its.toArray n } = { cls:=.type "list", data:=.seq its'.toArray n' }) (r:Vals ys its') (hz:ys.length<=sizeLine) (t:Nat):
  Inv X pins σ (upd H p (.lst ys)) { s with heap:=s.heap.update p f,toks:=t }:=by
 have e:(s.heap.update p f).get? p=some { cls:=.type "list", data:=.seq its'.toArray n' }:=by
  rw [Heap.get?_update_self f ho (by rw [hf]<;>rfl),hf]
 refine I.write (x:=p) (e:=p) (by rw [h];trivial) (.inl rfl) (fun b u hb q=>(Heap.get?_update_other _ _ (Ne.symm hb)).trans q) ⟨_,e⟩ ?_
 exact ⟨hz,its',n',r,e⟩
def Zmn:V->V->V->Hp->(Hp->Prop)->Prop:=fun o i v H Q=>∃p xs k j,o = .ref p/\i = .int k/\H p=some (.lst xs)/\ixN xs.length k=some j/\Q (upd H p (.lst (xs.set j v)))
theorem set_list:ZkZ X Zmn:=by
 intro pins s σ H o i v ov iv u Q I ro ri rv h
 obtain ⟨p,xs,k,j,rfl,rfl,hp,hj,q⟩:=h
 cases ro
 obtain ⟨t,rfl⟩:=ri
 obtain ⟨its,n,r,ho,hz⟩:=I.lst hp
 obtain ⟨h1,h2,h3,h4⟩:=Zf8 hj
 have hl:=r.length
 have hn:=Zdv
 have I':Inv X pins σ (upd H p (.lst (xs.set j v))) { s with heap:=s.heap.update p (Obj.mapSeq (·.setIfInBounds j u)) }:=
  I.lstUpd hp ho (Zfi its n j u) (r.set rv j) (by rw [List.length_set];exact hz) s.toks
 by_cases h0:0<=k
 ·have hk:k.toNat=j:=by
   rw [seqIndex_of h0 h4] at h1
   exact Option.some.inj h1
  exact PySem.W.ki_setAt ho h0 (by lia) (by rw [List.size_toArray,<- hl];exact h4) (by rw [hk];exact ⟨_,I',q⟩)
 ·have hk:(k+(its.toArray.size:Int)).toNat=j:=by
   rw [seqIndex_neg (by lia) h3] at h1
   rw [List.size_toArray,<- hl]
   exact Option.some.inj h1
  exact PySem.W.ki_setBack ho (by lia) (by rw [List.size_toArray,<- hl];exact h3) (by lia) (by rw [hk];exact ⟨_,I',q⟩)
theorem ZcS (lo hi:Option Int) (n:Nat):(sliceBounds lo hi none n).1=((HT.Jj n 0 lo:Nat):Int)/\(sliceBounds lo hi none n).2.1=((HT.Jj n n hi:Nat):Int)/\(sliceBounds lo hi none n).2.2=1:=by
 refine ⟨?_,?_,rfl⟩
 ·cases lo with
  | none=>simp [sliceBounds,HT.Jj]
  | some i=>
   simp only [sliceBounds,HT.Jj,Option.getD_none,show (1:Int)>0 by decide,if_true]
   by_cases h:i<0
   ·simp only [h,if_true]<;>lia
   ·simp only [h,if_false]<;>lia
 ·cases hi with
  | none=>simp [sliceBounds,HT.Jj]
  | some i=>
   simp only [sliceBounds,HT.Jj,Option.getD_none,show (1:Int)>0 by decide,if_true]
   by_cases h:i<0
   ·simp only [h,if_true]<;>lia
   ·simp only [h,if_false]<;>lia
theorem Zb7 (its:List Value) (lo hi:Option Int):slicePick its.toArray lo hi none=((its.drop (HT.Jj its.length 0 lo)).take (HT.Jj its.length its.length hi-HT.Jj its.length 0 lo)).toArray:=by
 obtain ⟨h1,h2,h3⟩:=ZcS lo hi its.toArray.size
 unfold slicePick
 rw [h1,h2,h3]
 simp only [sliceRange_one,pick_run,List.size_toArray]<;>rfl
def Zmy (K:PySem.W.Frag):V->Option Int->Option Int->Hp->VK->Prop:=fun x lo hi H Q=>∃a xs,x = .ref a/\Zp K H a xs /\ ∀p,H p=none->Q (.ref p) (upd H p (.lst (JI xs lo hi)))
theorem Zku:SlR X (Zmy X.K):=by
 intro pins s σ H x v vl vu lo hi sl Q I rx hs pl pu h
 obtain ⟨a,xs,rfl,hx,q⟩:=h
 cases rx
 obtain ⟨its,r,ht,hz⟩:=I.list hx
 have hlen:=r.length
 refine ⟨"list", _,slot_list_getitem.lookup,ht.isList.typeIs,?_⟩
 refine wpAny_getItem_list_slice ht.isList hs pl pu .none (by simp) ?_ (by rw [List.size_toArray]<;>lia)
 rw [Zb7,<- hlen]
 refine ⟨.ref s.heap.objs.size,_,I.laid (t':=s.toks) (o:=.lst (JI xs lo hi)) (fun b ob q=>Heap.get?_push_of_some _ q) (Nat.le_refl _) ?_,rfl,q _ (I.hok.fresh (Nat.le_refl _))⟩
 exact ⟨Nat.le_trans (ZaN xs lo hi) hz,_,0,(r.drop (HT.Jj xs.length 0 lo)).take (HT.Jj xs.length xs.length hi-HT.Jj xs.length 0 lo),Heap.get?_push_size _ rfl⟩
def Wx:V->Bool
 | .non=>true
 | .bl _=>true
 | .int _=>true
 | .str _=>true
 | _=>false
def eqV:V->V->Bool
 | .non,.non=>true
 | .bl a,.bl b=>a==b
 | .bl a,.int b=>(if a then 1 else 0)==b
 | .int a,.bl b=>a==(if b then 1 else 0)
 | .int a,.int b=>a==b
 | .str a,.str b=>a==b
 | _,_=>false
theorem ZiH {A:Around}{s:Shared}{y x:V}{u v:Value} (ry:RelV y u) (rx:RelV x v) (fy:Wx y=true) (fx:Wx x=true):SeqAt.EqAt A s u v (eqV y x):=by
 cases y with
 | non=>
  cases ry
  cases x with
  | non=>cases rx;exact SeqAt.EqAt.same _
  | bl b=>cases rx;exact SeqAt.EqAt.none_bool b
  | int b=>obtain ⟨t,rfl⟩:=rx;exact SeqAt.EqAt.none_int b t
  | str b=>obtain ⟨t,rfl⟩:=rx;exact SeqAt.EqAt.none_str b t
  | _=>exact absurd (show false=true from fx) Bool.false_ne_true
 | bl a=>
  cases ry
  cases x with
  | non=>cases rx;exact SeqAt.EqAt.bool_none a
  | bl b=>cases rx;exact SeqAt.EqAt.bool_bool a b
  | int b=>obtain ⟨t,rfl⟩:=rx;exact SeqAt.EqAt.bool_int a b t
  | str b=>obtain ⟨t,rfl⟩:=rx;exact SeqAt.EqAt.bool_str a b t
  | _=>exact absurd (show false=true from fx) Bool.false_ne_true
 | int a=>
  obtain ⟨t',rfl⟩:=ry
  cases x with
  | non=>cases rx;exact SeqAt.EqAt.int_none a t'
  | bl b=>cases rx;exact SeqAt.EqAt.int_bool a t' b
  | int b=>obtain ⟨t,rfl⟩:=rx;exact SeqAt.EqAt.int_int a t' b t
  | str b=>obtain ⟨t,rfl⟩:=rx;exact SeqAt.EqAt.int_str a t' b t
  | _=>exact absurd (show false=true from fx) Bool.false_ne_true
 | str a=>
  obtain ⟨t',rfl⟩:=ry
  cases x with
  | non=>cases rx;exact SeqAt.EqAt.str_none a t'
  | bl b=>cases rx;exact SeqAt.EqAt.str_bool a t' b
  | int b=>obtain ⟨t,rfl⟩:=rx;exact SeqAt.EqAt.str_int a t' b t
  | str b=>obtain ⟨t,rfl⟩:=rx;exact SeqAt.EqAt.str_str a t' b t
  | _=>exact absurd (show false=true from fx) Bool.false_ne_true
 | _=>exact absurd (show false=true from fy) Bool.false_ne_true
def eqU (x:V) (u:Value):Bool:=match u with
 | .none=>eqV .non x
 | .bool b=>eqV (.bl b) x
 | .int i _=>eqV (.int i) x
 | .str z _=>eqV (.str z) x
 | _=>false
theorem ZhS {x y:V}{u:Value} (r:RelV y u) (f:Wx y=true):eqU x u=eqV y x:=by
 cases y with
 | non=>cases r;rfl
 | bl b=>cases r;rfl
 | int i=>obtain ⟨t,rfl⟩:=r;rfl
 | str z=>obtain ⟨t,rfl⟩:=r;rfl
 | _=>exact absurd (show false=true from f) Bool.false_ne_true
theorem Zef {A:Around}{s:Shared}{x:V}{v:Value} (rx:RelV x v) (fx:Wx x=true):∀{xs:List V}{us:List Value},Vals xs us->xs.all Wx=true -> ∀u∈us,SeqAt.EqAt A s u v (eqU x u)
 | _,_,.nil,_=>fun u hu=>by cases hu
 | y::xs,u::us,.cons r t,f=>fun u' hu=>by
  rw [List.all_cons,Bool.and_eq_true] at f
  rcases List.mem_cons.mp hu with rfl | hu
  ·rw [ZhS r f.1];exact ZiH r rx f.1 fx
  ·exact Zef rx fx t f.2 u' hu
theorem Zdo:Ja X (.builtin "len") (fun xs H Q=>∃p ys,xs = [.ref p]/\(Zp X.K H p ys∨Gh X.K H p ys)/\Q (.int ys.length) H):=by
 intro pins s σ H xs us Q I r h
 obtain ⟨p,ys,rfl,hq,q⟩:=h
 obtain ⟨u,rfl,rx⟩:=vals1 r
 cases rx
 have hn:=Zdv
 rcases hq with hq | hq
 ·obtain ⟨its,r',pl,hz⟩:=I.list hq
  have hlen:=r'.length
  exact Calls.call_len_list pl.isList (by simp only [List.size_toArray]<;>lia) ⟨.int ys.length,H,I.tok _,⟨s.toks+1,by rw [List.size_toArray,hlen]⟩,q⟩
 ·obtain ⟨its,r',pl,hz⟩:=I.tuple hq
  have hlen:=r'.length
  exact len_tuple pl (by simp only [List.size_toArray]<;>lia) ⟨.int ys.length,H,I.tok _,⟨s.toks+1,by rw [List.size_toArray,hlen]⟩,q⟩
theorem Zda:Ja X (.type "list") (fun xs H Q=>∃p ys,xs = [.ref p]/\(Zp X.K H p ys∨Gh X.K H p ys) /\ ∀l,H l=none->Q (.ref l) (upd H l (.lst ys))):=by
 intro pins s σ H xs us Q I r h
 obtain ⟨p,ys,rfl,hq,q⟩:=h
 obtain ⟨u,rfl,rx⟩:=vals1 r
 cases rx
 have fin:∀(its:List Value),Vals ys its->ys.length<=sizeLine -> ∀(h':Heap) (c':Nat),(∀b o',s.heap.get? b=some o'->h'.get? b=some o') ->
   h'.get? s.heap.objs.size=some { cls:=.type "list", dict:=none,data:=.seq its.toArray c',slots:=#[] } -> EP X pins σ Q (.ref s.heap.objs.size) { s with heap:=h' }:=fun its r' hz h' c' kp e=>
  ⟨.ref s.heap.objs.size,_,I.laid (t':=s.toks) kp (Nat.le_refl _) (show Z7 X.prog X.w _ h' _ (.lst ys) from ⟨hz,its,c',r',e⟩),rfl,q _ (I.hok.fresh (Nat.le_refl _))⟩
 rcases hq with hq | hq
 ·obtain ⟨its,r',pl,hz⟩:=I.list hq
  have hlen:=r'.length
  obtain ⟨o,ho,hc,n,hd⟩:=pl.isList
  exact call_list_seq p (.inl rfl) ho hc hd (fun h' c' kp e=>fin its r' hz h' c' kp e) (by simp only [List.size_toArray]<;>lia)
 ·obtain ⟨its,r',pl,hz⟩:=I.tuple hq
  have hlen:=r'.length
  obtain ⟨o,ho,hc,n,hd⟩:=pl
  exact call_list_seq p (.inr rfl) ho hc hd (fun h' c' kp e=>fin its r' hz h' c' kp e) (by simp only [List.size_toArray]<;>lia)
theorem Zb1:Ja X (.type "tuple") (fun xs H Q=>∃p ys,xs = [.ref p]/\((Zp X.K H p ys /\ ∀l,H l=none->Q (.ref l) (upd H l (.tup ys)))∨(Gh X.K H p ys/\Q (.ref p) H))):=by
 intro pins s σ H xs us Q I r h
 obtain ⟨p,ys,rfl,h⟩:=h
 obtain ⟨u,rfl,rx⟩:=vals1 r
 cases rx
 rcases h with ⟨hq,q⟩ | ⟨hq,q⟩
 ·obtain ⟨its,r',pl,hz⟩:=I.list hq
  have hlen:=r'.length
  refine call_tuple_list pl.isList (fun h' kp=>?_) (by simp only [List.size_toArray]<;>lia)
  have I1:Inv X pins σ H { s with heap:=h' }:=I.kept (t':=s.toks) kp
  have I2:Inv X pins σ (upd H h'.objs.size (.tup ys)) { s with heap:=h'.push { cls:=.type "tuple", data:=.seq its.toArray } }:=
   I1.laid (t':=s.toks) (fun b o e=>Heap.get?_push_of_some _ e) (Nat.le_refl _) (show Z7 X.prog X.w _ _ _ (.tup ys) from ⟨hz,its,r',IsTup.new _ _⟩)
  exact ⟨.ref h'.objs.size,_,I2,rfl,q _ (I1.hok.fresh (Nat.le_refl _))⟩
 ·obtain ⟨its,r',pl,hz⟩:=I.tuple hq
  exact call_tuple_same pl ⟨.ref p,H,I,rfl,q⟩
def tyV (K:PySem.W.Frag) (T:String) (x:V) (H:Hp):Prop:=match x with
 | .str _=>T = "str"
 | .int _=>T = "int"
 | .ref p=>(T = "list" /\ ∃xs,Zp K H p xs)∨(T = "tuple" /\ ∃o,K.lookup p=some o/\o.cls = .type "tuple" /\ o.dict=none) ∨
   (T = "dict" /\ ((∃kvs,H p=some (.dK kvs)) ∨ ∃kvs,H p=some (.dT kvs)))∨(T = "set" /\ ∃S n,H p=some (.set S n))
 | _=>False
theorem Zhr {pins:List (Addr×Obj)} {σ:St}{H:Hp}{s:Shared}{T:String}{x:V}{v:Value} (I:Inv X pins σ H s) (r:RelV x v) (ty:tyV X.K T x H):
  s.TypeIs v T /\ ∀a,v = .ref a -> ∃ob,s.heap.get? a=some ob/\ob.dict=none:=by
 cases x with
 | str z=>
  obtain ⟨t,rfl⟩:=r
  cases (show T = "str" from ty)
  exact ⟨typeIs_str s z t,fun _ e=>nomatch e⟩
 | int i=>
  obtain ⟨t,rfl⟩:=r
  cases (show T = "int" from ty)
  exact ⟨typeIs_int s i t,fun _ e=>nomatch e⟩
 | ref p=>
  cases r
  rcases ty with ⟨rfl,xs,hq⟩ | ⟨rfl,o,hk,hc,hd⟩ | ⟨rfl,hk⟩ | ⟨rfl,S,n,hk⟩
  ·obtain ⟨its,_,pl,_⟩:=I.list hq
   refine ⟨pl.isList.typeIs,fun a e=>?_⟩
   cases e
   obtain ⟨o,n,e,c,hd,_⟩:=pl
   exact ⟨o,e,hd⟩
  ·refine ⟨⟨o,I.kIn p o hk,hc⟩,fun a e=>?_⟩
   cases e
   exact ⟨o,I.kIn _ o hk,hd⟩
  ·have z:∃o,s.heap.get? p=some o/\o.ExactDict:=by
    rcases hk with ⟨kvs,hk⟩ | ⟨kvs,hk⟩
    ·obtain ⟨_,_,_,_,o,_,_,e,ex,_⟩:=I.hok p _ hk
     exact ⟨o,e,ex⟩
    ·obtain ⟨_,_,_,_,o,_,_,e,ex,_⟩:=I.hok p _ hk
     exact ⟨o,e,ex⟩
   obtain ⟨o,e,ex⟩:=z
   refine ⟨⟨o,e,ex.1⟩,fun a e2=>?_⟩
   cases e2
   exact ⟨o,e,ex.2.1⟩
  ·obtain ⟨o,_,_,_,e,ex,_⟩:=I.hok p _ hk
   refine ⟨⟨o,e,ex.1⟩,fun a e2=>?_⟩
   cases e2
   exact ⟨o,e,ex.2.1⟩
 | _=>exact False.elim ty
def ZlI (K:PySem.W.Frag) (T:String) (r:V->List V->Hp->VK->Prop) (to:TE):TE:=fun σ H Q=>to σ H fun x H1=>tyV K T x H1/\r x [] H1 Q
def tBM (K:PySem.W.Frag) (T:String) (r:V->List V->Hp->VK->Prop) (to:TE) (t:TA):TE:=fun σ H Q=>to σ H fun x H1=>tyV K T x H1/\t σ H1 fun xs H2=>r x xs H2 Q
variable {o e:Expr}{es:List Expr}{to:TE}{t:TA}{name:Str}{apos cpos:Pos}{T id:String}{r:V->List V->Hp->VK->Prop}
theorem ZlT (pa:PlainAttrs T) (slot:Slot T name id) (hty:typeOf (.builtin id)=pure (.type "method_descriptor")) (hm:MtR X id r) (ho:PE X o to)
  (hbase:attributeBase o name X.env (eval o X.env)=eval o X.env:=by rfl) (hline:(apos.endLine==cpos.line)=true:=by rfl):PE X (.Call (.Attribute o name apos) [] [] cpos) (ZlI X.K T r to):=by
 intro pins s σ H Q I h
 refine wpAny_Call_method0_late hbase hline (Yq (ho pins s σ H _ I h) fun v s1 ⟨x,H1,I1,r1,ty,q1⟩=>?_)
 obtain ⟨h1,h2⟩:=Zhr I1 r1 ty
 exact ⟨T,id,pa,slot,hty,h1,h2,Calls.callWith_builtin rfl (PySem.evalArgs_none (hm pins s1 σ H1 x [] v [] Q I1 r1 .nil q1))⟩
theorem Wz (pa:PlainAttrs T) (slot:Slot T name id) (hty:typeOf (.builtin id)=pure (.type "method_descriptor")) (hm:MtR X id r) (ho:PE X o to) (ha:PA X (e::es) t)
  (hbase:attributeBase o name X.env (eval o X.env)=eval o X.env:=by rfl)
  (hfew:((backTo cpos (starEach (e::es) X.env)).all (fun x=>!x.1)&&(backToKw cpos (keywordEach [] X.env)).all (fun x=>x.1.isSome)
   && decide ((e::es).length+([]:List Keyword).length+(if ([]:List Keyword).isEmpty then 0 else 1)<30))=true:=by rfl)
  (hline:(apos.endLine==cpos.line)=true:=by rfl) (hs:starEach (e::es) X.env=(false,eval e X.env)::starEach es X.env:=by rfl) (hplain:(backTo cpos (starEach es X.env)).any (·.1)=false:=by rfl):
  PE X (.Call (.Attribute o name apos) (e::es) [] cpos) (tBM X.K T r to t):=by
 intro pins s σ H Q I h
 refine wpAny_Call_method_late hbase hfew hline rfl (Yq (ho pins s σ H _ I h) fun v s1 ⟨x,H1,I1,r1,ty,q1⟩=>?_)
 obtain ⟨h1,h2⟩:=Zhr I1 r1 ty
 refine ⟨T,id,pa,slot,hty,h1,h2,?_⟩
 have hA:=ha cpos pins s1 σ H1 _ I1 q1
 rw [hs] at hA ⊢
 refine Calls.callWith_builtin (by show (false||(backTo cpos (starEach es X.env)).any (·.1))=false;rw [hplain]<;>rfl) (Calls.evalArgs_plain ?_)
 exact Yq hA fun us s2 ⟨vs,H2,I2,r2,q2⟩=>hm pins s2 σ H2 x vs v us Q I2 r1 r2 q2
end
def MtM (X:Cx) (id:String) (r:V->List V->Hp->VK->Prop):Prop:=
 ∀(pins:List (Addr×Obj)) (s:Shared) (σ:St) (H:Hp) (x:V) (xs:List V) (v:Value) (us:List Value) (Q:VK),Inv X pins σ H s->RelV x v->Vals xs us->r x xs H Q ->
  wpAny (model X.prog X.w) X.A (call (.builtin id) (v::us)) (EP X pins σ Q) X.xe s
theorem Vals.one:∀{x:V}{us:List Value},Vals [x] us -> ∃u,us = [u]/\RelV x u
 | _,_,.cons r .nil=>⟨_,rfl,r⟩
theorem Vals.two:∀{x y:V}{us:List Value},Vals [x,y] us -> ∃u v,us = [u,v]/\RelV x u/\RelV y v
 | _,_,_,.cons r (.cons q .nil)=>⟨_,_,rfl,r,q⟩
theorem Vals.zero:∀{us:List Value},Vals [] us->us = []
 | _,.nil=>rfl
theorem Vals.dropLast {xs:List V}{us:List Value} (h:Vals xs us):Vals xs.dropLast us.dropLast:=by
 induction h with
 | nil=>exact .nil
 | cons r t ih=>
  cases t with
  | nil=>exact .nil
  | cons q t'=>exact .cons r ih
theorem ZeV {α:Type} (l:List α):l.eraseIdx (l.length-1)=l.dropLast:=by
 induction l with
 | nil=>rfl
 | cons a r ih=>
  cases r with
  | nil=>rfl
  | cons b r=>
   have e:(a::b::r).length-1=((b::r).length-1)+1:=by
    have h1:(a::b::r).length=r.length+2:=rfl
    have h2:(b::r).length=r.length+1:=rfl
    lia
   rw [e,List.eraseIdx_cons_succ,ih]
   all_goals rfl
section
variable {X:Cx}{pins:List (Addr×Obj)} {σ:St}{H:Hp}{s:Shared}{l b:Addr}{xs ys zs:List V}
theorem Inv.lset {its its':List Value}{n:Nat}{f:Array Value->Array Value}{t':Nat} (I:Inv X pins σ H s) (hH:H l=some (.lst xs))
  (e:s.heap.get? l=some { cls:=.type "list", data:=.seq its.toArray n }) (hf:f its.toArray=its'.toArray) (hv:Vals ys its') (hz:ys.length<=sizeLine):
  Inv X pins σ (upd H l (.lst ys)) { s with heap:=s.heap.update l (Obj.mapSeq f),toks:=t' }:=by
 have q:=PySem.IsL.update e f
 rw [hf] at q
 refine I.write (x:=l) (e:=l) (by rw [hH];exact trivial) (.inl rfl) (fun b' u hb hu=>(Heap.get?_update_other s.heap (Obj.mapSeq f) (Ne.symm hb)).trans hu) ⟨_,q⟩ ?_
 exact ⟨hz,its',_,hv,q⟩
theorem Inv.lnew {its:List Value}{t':Nat} (I:Inv X pins σ H s) (hv:Vals ys its) (hz:ys.length<=sizeLine):
  Inv X pins σ (upd H s.heap.objs.size (.lst ys)) { s with heap:=s.heap.push { cls:=.type "list", data:=.seq its.toArray },toks:=t' }:=
 I.laid (fun _ _ q=>Heap.get?_push_of_some _ q) (Nat.le_refl _) ⟨hz,its,0,hv,Heap.get?_push_size _ rfl⟩
theorem Inv.fresh (I:Inv X pins σ H s):H s.heap.objs.size=none:=I.hok.fresh (Nat.le_refl _)
theorem Inv.lstM (I:Inv X pins σ H s) (hH:H l=some (.lst xs)):xs.length<=sizeLine /\ ∃(its:List Value) (n:Nat),Vals xs its/\xs.length=its.length/\s.heap.get? l=some { cls:=.type "list", data:=.seq its.toArray n }:=by
 obtain ⟨z,its,n,r,e⟩:=I.hok l _ hH
 exact ⟨z,its,n,r,r.length,e⟩
theorem Zby {n:Nat} (h:n<=sizeLine):Builtin.List.listTooLong n=false:=by
 unfold Builtin.List.listTooLong
 exact decide_eq_false (by lia)
end
section
variable {X:Cx}
def Zf1:V->List V->Hp->VK->Prop:=fun x vs H Q=>∃l xs y,x = .ref l/\vs = [y]/\H l=some (.lst xs)/\xs.length<sizeLine/\Q .non (upd H l (.lst (xs ++ [y])))
theorem Y2:MtM X "list.append" Zf1:=by
 intro pins s σ H x vs v us Q I rx rv h
 obtain ⟨l,xs,y,rfl,rfl,hH,hz,q⟩:=h
 cases rx
 obtain ⟨u,rfl,ru⟩:=rv.one
 obtain ⟨z,its,n,r,hl,e⟩:=I.lstM hH
 refine call_meets F.slot_list_append ⟨_,e,rfl⟩ F.entry_list_append (F.args_list_append_2 _ _) (PySem.list_append l its.toArray n u (by rw [List.size_toArray];lia)) ⟨e,?_⟩
 refine ⟨.non,_,I.lset (its':=its ++ [u]) hH e (by simp) (r.append (.cons ru .nil)) ?_,rfl,q⟩
 rw [List.length_append,List.length_singleton]
 lia
def ZjD:V->List V->Hp->VK->Prop:=fun x vs H Q=>∃l b xs zs,x = .ref l/\vs = [.ref b]/\H l=some (.lst xs)/\H b=some (.lst zs)/\xs.length+zs.length<=sizeLine/\Q .non (upd H l (.lst (xs++zs)))
theorem ZgD:MtM X "list.extend" ZjD:=by
 intro pins s σ H x vs v us Q I rx rv h
 obtain ⟨l,b,xs,zs,rfl,rfl,hH,hB,hz,q⟩:=h
 cases rx
 obtain ⟨u,rfl,ru⟩:=rv.one
 cases ru
 obtain ⟨z,its,n,r,hl,e⟩:=I.lstM hH
 obtain ⟨z2,its2,n2,r2,hl2,e2⟩:=I.lstM hB
 have hsz:its.toArray.size+its2.toArray.size<=sizeLine:=by rw [List.size_toArray,List.size_toArray];lia
 have hlong:¬(!its.toArray.isEmpty&&Builtin.List.listTooLong (its.toArray.size+its2.toArray.size))=true:=by
  rw [Zby hsz,Bool.and_false]
  exact Bool.false_ne_true
 refine call_meets F.slot_list_extend ⟨_,e,rfl⟩ F.entry_list_extend (F.args_list_extend_2 _ _)
  (AutoSeq1.list_extend_list_list_0 l its.toArray n b its2.toArray n2 hlong (by rw [List.size_toArray];lia) (by lia)) ⟨e,e2,?_⟩
 refine ⟨.non,_,I.lset (its':=its++its2) hH e (by simp) (r.append r2) ?_,rfl,q⟩
 rw [List.length_append]
 lia
def ZnE:V->List V->Hp->VK->Prop:=fun x vs H Q=>∃l xs y,x = .ref l/\vs = []/\H l=some (.lst xs)/\xs[xs.length-1]? = some y/\Q y (upd H l (.lst xs.dropLast))
theorem Zll:MtM X "list.pop" ZnE:=by
 intro pins s σ H x vs v us Q I rx rv h
 obtain ⟨l,xs,y,rfl,rfl,hH,hy,q⟩:=h
 cases rx
 have hus:=rv.zero
 subst hus
 obtain ⟨z,its,n,r,hl,e⟩:=I.lstM hH
 obtain ⟨u,hu,ru⟩:=r.get hy
 have hy':its.toArray[its.toArray.size-1]? = some u:=by
  show its.toArray[its.length-1]? = some u
  rw [<- Array.getElem?_toList,<- hl]
  exact hu
 refine call_meets F.slot_list_pop ⟨_,e,rfl⟩ F.entry_list_pop (F.args_list_pop_1 _) (MeetsSeq.list_pop_last l its.toArray n u hy' (by rw [List.size_toArray];lia)) ⟨e,?_⟩
 refine ⟨y,_,I.lset (its':=its.dropLast) hH e ?_ r.dropLast ?_,ru,q⟩
 ·show its.toArray.eraseIdxIfInBounds (its.toArray.size-1)=its.dropLast.toArray
  rw [List.size_toArray,List.eraseIdxIfInBounds_toArray,ZeV]
 ·rw [List.length_dropLast]
  lia
def Znq:R2:=fun x y H Q=>∃l b xs zs,x = .ref l/\y = .ref b/\H l=some (.lst xs)/\H b=some (.lst zs)/\xs.length+zs.length<=sizeLine /\ ∀p,H p=none->Q (.ref p) (upd H p (.lst (xs++zs)))
theorem Zat:OpR X (binaryOp .Add) Znq:=by
 intro pins s σ H x y v u Q I rx ry h
 obtain ⟨l,b,xs,zs,rfl,rfl,hH,hB,hz,q⟩:=h
 cases rx
 cases ry
 obtain ⟨z,its,n,r,hl,e⟩:=I.lstM hH
 obtain ⟨z2,its2,n2,r2,hl2,e2⟩:=I.lstM hB
 refine PySem.P.add_list e e2 ?_ (by rw [List.size_toArray,List.size_toArray];lia)
 have ea:its.toArray++its2.toArray=(its++its2).toArray:=by simp
 rw [ea]
 exact ⟨.ref _,_,I.lnew (t':=s.toks) (r.append r2) (by rw [List.length_append];lia),rfl,q _ I.fresh⟩
end
section
variable {prog:Program}{w:World}{A:Around}{E:Value->Shared->Prop}{s:Shared}
theorem ZgE (its its2:List Value) (a c:Nat):its.toArray.extract 0 a++its2.toArray++its.toArray.extract c its.toArray.size=(its.take a++its2++its.drop c).toArray:=by
  apply Array.toList_inj.mp
  first
    | (simp
       exact List.take_of_length_le (by simp))
    | simp [List.take_of_length_le]
    | simp
theorem Zes {a c n:Nat} (hac:a<=c) (hc:c<=n):sliceBounds (some (a:Int)) (some (c:Int)) none n=((a:Int),(c:Int),1):=by
 simp only [sliceBounds,Option.getD_none]
 have h1:¬((a:Int)<0):=by lia
 have h2:¬((c:Int)<0):=by lia
 simp only [h1,h2,if_false,show (1:Int)>0 by decide,if_true]
 congr 1
 ·lia
 ·congr 1;lia
set_option maxRecDepth 100000 in
theorem ZbY {l b sl:Addr}{items new:Array Value}{n n2:Nat}{vl vu:Value}{a c:Nat}{Q:Unit->Shared->Prop}
    (e:s.heap.get? l=some { cls:=.type "list", data:=.seq items n }) (e2:s.heap.get? b=some { cls:=.type "list", data:=.seq new n2 }) (hne:l≠b)
    (hs:s.heap.IsSliceOf sl vl vu .none) (pl:IsPart vl (some (a:Int))) (pu:IsPart vu (some (c:Int))) (hac:a<=c) (hc:c<=items.size)
    (hsz:items.size+new.size<=sizeLine) (h:Q () { s with heap:=s.heap.update l (Obj.mapSeq fun xs=>xs.extract 0 a++new++xs.extract c xs.size) }):
    wpAny (model prog w) A (setItem (.ref l) (.ref sl) (.ref b)) Q E s:=by
  have hl:s.heap.IsList l items:=PySem.IsL.isList e
  have hb:s.heap.IsList b new:=PySem.IsL.isList e2
  obtain ⟨os,hos,hcs,hds⟩:=id hs
  have hTs:s.TypeIs (.ref sl) "slice" := ⟨os,hos,hcs⟩
  have hstep:¬((rawPart none==rawInt 0)=true):=Bool.false_ne_true
  have hsame:Builtin.List.listSameRef (.ref l) (.ref b)=false:=by
    unfold Builtin.List.listSameRef
    exact beq_eq_false_iff_ne.mpr hne
  have hmax:(max (a:Int) (c:Int)).toNat=c:=by lia
  have hz':((fun xs:Array Value=>xs.extract 0 a++new++xs.extract c xs.size) items).size<=sizeLine+1:=by
    simp only [Array.size_append,Array.size_extract]
    lia
  unfold setItem
  try with_reducible refine wpAny_holding ?_
  first | refine wpAny_bind (wpAny_pure ?_) | skip
  refine wpAny_bind (wpAny_sequenceKey hl.typeIs (by decide) ?_)
  refine wpAny_bind (wpAny_callSpecial?_slot (name:=Str.ofString "__setitem__") hl.typeIs slot_list_setitem
    (wpAny_call_entry slot_list_setitem hl.typeIs entry_list_setitem ?_ (args_list_setitem _ _ _)))
  show wpAny _ _ (Builtin.List.listSubscript? (.ref sl) >>= _) _ _ s
  refine wpAny_bind ?_
  unfold Builtin.List.listSubscript?
  refine wpAny_bind (wpAny_specialOf hTs slice_no_index ?_)
  simp only [Option.isNone_none,if_true]
  refine wpAny_pure ?_
  show wpAny _ _ (typeOf (.ref sl) >>= _) _ _ s
  refine wpAny_bind (wpAny_typeOf hTs ?_)
  first
    | rw [if_neg (by decide)]
    | refine PySem.W.KFB.if_not (by decide) ?_
  rw [listSliceParts_eq]
  refine wpAny_bind (wpAny_bind (wpAny_field hos hds (x:=.none) rfl (wpAny_bind (wpAny_listPart .none ?_))))
  rw [if_neg hstep]
  refine wpAny_bind (wpAny_field hos hds (x:=vl) rfl (wpAny_bind (wpAny_listPart pl ?_)))
  refine wpAny_bind (wpAny_field hos hds (x:=vu) rfl (wpAny_bind (wpAny_listPart pu (wpAny_pure ?_))))
  first
    | simp only [hsame,Bool.false_eq_true,if_false]
    | refine PySem.W.KFB.if_not hsame ?_
    | (dsimp only
       rw [if_neg (by rw [hsame];exact Bool.false_ne_true)])
  refine wpAny_bind (m:=Builtin.List.listAllItems (.ref b) "must assign iterable to extended slice") ?_
  unfold Builtin.List.listAllItems
  refine wpAny_bind (wpAny_typeOf hb.typeIs ?_)
  first
    | refine PySem.W.KFB.if_so (by decide) ?_
    | rw [if_pos (by decide)]
    | simp only [beq_self_eq_true,Bool.true_or,if_true]
  unfold Builtin.List.listItems
  refine wpAny_bind (wpAny_seqItems e2 rfl (wpAny_pure ?_))
  refine wpAny_bind (wpAny_bind (wpAny_seqItems e rfl (wpAny_pure ?_)))
  refine wpAny_bind (wpAny_of_eq ((sliceIndices_raw (some (a:Int)) (some (c:Int)) none items.size (by simp)).trans (congrArg (pure:Int×Int×Int->Sem (Int×Int×Int)) (Zes hac hc))) ?_)
  show wpAny _ _ (if ((1:Int)==1)=true then _ else _) _ _ s
  rw [if_pos (by decide)]
  refine wpAny_bind (wpAny_rule ?_)
  first
    | simp only [Zby hsz,Bool.false_eq_true,if_false]
    | refine PySem.W.KFB.if_not (Zby hsz) ?_
  first | refine wpAny_bind (wpAny_pure ?_) | skip
  show wpAny _ _ (updateSeq l (fun xs=>xs.extract 0 ((a:Int)).toNat++new++xs.extract (max (a:Int) (c:Int)).toNat xs.size) >>= _) _ _ s
  rw [hmax,Int.toNat_natCast]
  refine wpAny_bind (wpAny_updateSeq (hz:=Nat.le_trans (Nat.le_add_right _ _) hsz) (_hz':=hz') e rfl ?_)
  refine wpAny_bind (wpAny_letGo ?_)
  first
    | exact wpAny_bind (wpAny_pure (wpAny_pure ⟨.none,rfl,wpAny_pure h⟩))
    | exact wpAny_pure ⟨.none,rfl,wpAny_pure h⟩
end
section
variable {X:Cx}
theorem ZgK {pins:List (Addr×Obj)}{s:Shared} {σ:St}{H:Hp}{l b sl:Addr}{xs ys:List V}{a c:Int}{vl vu:Value}{Q:Unit->Shared->Prop} (I:Inv X pins σ H s)
  (hH:H l=some (.lst xs)) (hB:H b=some (.lst ys)) (hne:l≠b) (hs:s.heap.IsSliceOf sl vl vu .none) (ra:RelV (.int a) vl) (rc:RelV (.int c) vu) (h0:0<=a) (hac:a<=c) (hc:c<=xs.length)
  (hz:xs.length+ys.length<=sizeLine) (h:∀s',Inv X pins σ (upd H l (.lst (xs.take a.toNat++ys++xs.drop c.toNat))) s'->Q () s'):
  wpAny (model X.prog X.w) X.A (setItem (.ref l) (.ref sl) (.ref b)) Q X.xe s:=by
 obtain ⟨ta,rfl⟩:=ra
 obtain ⟨tc,rfl⟩:=rc
 obtain ⟨z,its,n,r,hl,e⟩:=I.lstM hH
 obtain ⟨z2,its2,n2,r2,hl2,e2⟩:=I.lstM hB
 obtain ⟨a',rfl⟩:=Int.eq_ofNat_of_zero_le h0
 obtain ⟨c',rfl⟩:=Int.eq_ofNat_of_zero_le (Int.le_trans h0 hac)
 simp only [Int.toNat_natCast] at h
 refine ZbY (a:=a') (c:=c') e e2 hne hs (.int _ _) (.int _ _) (by lia) (by rw [List.size_toArray];lia) (by rw [List.size_toArray,List.size_toArray];lia) (h _ ?_)
 refine I.lset (its':=its.take a'++its2++its.drop c') (t':=s.toks) hH e ?_ (Vals.append (Vals.append (r.take _) r2) (r.drop _)) ?_
 ·exact ZgE its its2 a' c'
 ·rw [List.length_append,List.length_append,List.length_take,List.length_drop]
  lia
end
end L2
namespace Att
open PySem PySem.W PySem.Calls PyProof.Rows
theorem ZaU {P:Params}{h:Heap}:∀(ns:List Int) (vs:List Value),WellAll P h vs (ns.map WData.int)->IntsAre vs ns:=by
 intro ns
 induction ns with
 | nil=>
  intro vs w
  rw [List.map_nil] at w
  cases w
  exact .nil
 | cons n ns ih=>
  intro vs w
  rw [List.map_cons] at w
  cases w with
  | cons a b=>
   cases a
   exact .cons _ _ (ih _ b)
theorem Zgo {l:OpenLaw}{n:Nat} (hn:l.most=some n) {P:Params}{h:Heap}{args:List WData}{vals:List Value}
  (hpre:l.row.toRowW.claim.pre args=true) (hwl:WellAll P h vals args):
  ∃a vs ns,vals = [Value.ref a]/\args = [WData.list (ns.map WData.int)]/\h.get? a=some { cls:=.type "list", data:=.seq vs.toArray } /\ IntsAre vs ns/\ns.length<=n:=by
 have hsh:WShape.hasAll [] args [.list .int]=true:=(pre_splitW hpre).1
 have hc:l.pre.holds [] { args:=args } = true:=(pre_splitW hpre).2
 obtain ⟨d,r,rfl,h1,h2⟩:=hasAllW_cons hsh
 obtain rfl:=hasAllW_nil h2
 obtain ⟨xs,rfl,h3⟩:=hasW_list h1
 obtain ⟨ns,rfl⟩:=items_int h3
 have hlen:ns.length<=n:=by
  unfold OpenLaw.pre at hc
  have h4:(WTm.not (.lt (.lit (.int (n:Int))) (.len (.arg 0)))).holds [] { args:=[.list (ns.map .int)] } = true:=by
   have h4:=(holds_andW hc).1
   rw [hn] at h4
   exact h4
  have h5:=condW_of h4 (w_not (w_lt w_lit (w_len_list (w_arg rfl))))
  rw [List.length_map] at h5
  refine Nat.le_of_not_lt fun q=>?_
  have q':(n:Int)<((ns.length:Nat):Int):=by lia
  first
   | (rw [decide_eq_true q'] at h5;exact absurd h5 (by decide))
   | (simp at h5;lia)
 cases hwl with
 | cons w1 w2=>
  cases w2
  cases w1 with
  | list ho hall=>exact ⟨_,_,ns,rfl,rfl,ho,ZaU ns _ hall,hlen⟩
theorem ZgC (l:OpenLaw) (args:List WData):l.row.toRowW.claim.post args (.bool true) args=true:=
 postW_of (r:=l.row.toRowW) (X:=(true==true))
  (show WShape.has [] (.bool true) .bool=true by first | rfl | decide | simp [WShape.has,WShape.arms,WShape.armsAll])
  (show (WTm.eq .res (.lit (.bool true))).value [] { args:=args,res:=some (.bool true),after:=args } = some (.bool (true==true)) from w_eq_bool (w_res rfl) w_lit) rfl
theorem ZdF {l:OpenLaw}{n:Nat}{q:Program}{loose:List Str}{XP:(Str->Option Value)->Heap->Prop}{YP:World->Heap->Prop}{d:DefRec}
  (hn:l.most=some n) (hdf:d.params.defaults = [])
  (call:∀(w:World) (s₀ s₁:Shared) (mg mb:Str->Option Value) (fa:Addr) (o:Obj) (pm cd doc:Value) (a:Addr) (vs:List Value) (ns:List Int),
   Ground q loose [] XP w s₀ mg mb s₁.heap->YP w s₁.heap ->
   s₁.heap.get? fa=some o->o.data = .func (docDef d.name d.params d.body d.scope pm cd doc)->s₁.heap.CodeRec cd d.name->mg d.name=some (.ref fa) ->
   s₁.heap.get? a=some { cls:=.type "list", data:=.seq vs.toArray } -> IntsAre vs ns->ns.length<=n->s₁.gens = #[] ->
   codeAny (model l.prog w) callerA (.call (.ref fa) ⟨[.ref a],[]⟩) (fun r s'=>r = .ok (.ret (.bool true))/\OldK s₁.heap s'.heap/\s'.os=s₁.os/\AllBare s'.gens) s₁):
  WalkO q loose XP YP l.row.toRowW d [] (fun f vs=>PySem.call f vs):=by
 intro w s₀ s₁ mg mb G Y fa o pm cd doc dV kV ho hd hcd hD hmg hg args vals as hpre hlay hrd hwl hlo
 obtain rfl:dV = .none:=Dflts.none hD hdf
 obtain rfl:kV = .none:=Dflts.noKw hD
 obtain ⟨a,vs,ns,rfl,rfl,hobj,hints,hlen⟩:=Zgo hn hpre hwl
 refine enter_call (codeAny_mono (call w s₀ s₁ mg mb fa o pm cd doc a vs ns G Y ho (fd_plain hd) hcd hmg hobj hints hlen hg) fun r s' hq=>?_)
 obtain ⟨rfl,h2,h3,h4⟩:=hq
 exact ⟨.inl ⟨.bool true,.bool true,[],rfl,fun _=>rfl,.bool true,ZgC l _,fun _=>⟨List.Pairwise.nil,fun _ hm=>(nomatch hm)⟩⟩,h2,h3,h4⟩
section
variable {prog:Program}{w:World}{A:Around}{E:Value->Shared->Prop}{s:Shared}{K:Frag}
def ledger (h:Heap) (L d:Addr):List (Addr×Obj):=(List.range h.objs.size).filterMap fun a=>if a=L∨a=d then none else (h.get? a).map fun o=>(a,o)
end
end Att
namespace L2
open PySem PySem.Spec PyProof.Rows
theorem Zcx:∀{vs:List Value}{ns:List Int},IntsAre vs ns->Vals (ns.map V.int) vs
 | _,_,.nil=>.nil
 | _,_,.cons n t h=>.cons ⟨t,rfl⟩ (Zcx h)
def ZkV (H:Hp):Prop:=∀b,H b=none ∨ ∃o xs,H b=some (.frz o (.lst xs))
theorem Zi2 {P:Program}{w:World}{K:PySem.W.Frag}{mg mb:Str->Option Value}{CX:CXT}{k:Nat}{fa a:Addr}{fd:FuncData}{x:Str}{sp:Sp}{s₁:Shared}{vs:List Value}{ns:List Int}
  (KX:K.In s₁.heap) (hns:s₁.heap.Ns mainGlobals mg) (hb:s₁.heap.Ns builtinsNs mb) (hbb:∀x:Str,x ≠ "__name__" -> mb x=bootBuiltins x) (hlim:s₁.heap.NoLimit) (hg:s₁.gens = #[])
  (ha:s₁.heap.get? a=some { cls:=.type "list", data:=.seq vs.toArray }) (hi:IntsAre vs ns) (hl:ns.length<=sizeLine) (hr:Ji k callerA)
  (F:∀base:Heap,K.In base->base.Ns mainGlobals mg->Z6 P w K mg base CX k fa fd [x] sp) (hbind:∀(s:Shared) (u:Value),BindsTo s fd ⟨[u],[]⟩ [(x,u)])
  (hsp:∀H:Hp,ZkV H->Zp K H a (ns.map V.int)->sp [.ref a] H (fun v _=>v = .bl true) fun _ _ _=>False)
  (hCX:∀H e s',CX [] H s₁ (fun _ _ _=>False) e s'->False):
  codeAny (model P w) callerA (.call (.ref fa) ⟨[.ref a],[]⟩) (fun r s'=>r = .ok (.ret (.bool true))/\OldK s₁.heap s'.heap/\s'.os=s₁.os/\AllBare s'.gens) s₁:=by
 have rv:=Zcx hi
 have lenV:=hi.length
 have core:∀H:Hp,ZkV H->Zp K H a (ns.map V.int)->Wy P w H s₁.heap->(∀b,H b≠none->b=a)->(H a≠none->K.lookup a=none) ->
   codeAny (model P w) callerA (.call (.ref fa) ⟨[.ref a],[]⟩) (fun r s'=>r = .ok (.ret (.bool true))/\OldK s₁.heap s'.heap/\s'.os=s₁.os/\AllBare s'.gens) s₁:=by
  intro H hO hS hok hA hK
  have base_of:∀{b:Addr}{o:Obj},s₁.heap.get? b=some o->H b=none->(Zc3 s₁.heap H).get? b=some o:=fun e n=>ZiY e n
  have noA:∀{b:Addr}{o:Obj}{es:Array DictEntry}{ep:Nat},s₁.heap.get? b=some o->o.data = .dict es ep->H b=none:=fun {b o es ep} e d=>by
   cases q:H b with
   | none=>rfl
   | some u=>
    have e':b=a:=hA b (by rw [q];simp)
    subst e'
    rw [ha] at e;cases e
    have d':Data.seq vs.toArray _=Data.dict es ep:=d
    cases d'
  have nsK:∀{b:Addr}{m:Str->Option Value},s₁.heap.Ns b m->(Zc3 s₁.heap H).Ns b m:=fun {b m} ⟨o,es,ep,e,d,r⟩=>⟨o,es,ep,base_of e (noA e d),d,r⟩
  have hKb:K.In (Zc3 s₁.heap H):=fun b o e=>base_of (KX b o e) (by
   cases q:H b with
   | none=>rfl
   | some u=>
    have e':b=a:=hA b (by rw [q];simp)
    subst e'
    rw [hK (by rw [q];simp)] at e;cases e)
  have hM:Mod K mg (Zc3 s₁.heap H):=⟨hKb,nsK hns,⟨mb,nsK hb,hbb⟩,let ⟨mc,h1,h2⟩:=hlim;⟨mc,nsK h1,h2⟩⟩
  have e0:Zem P w K mg (Zc3 s₁.heap H) callerA [] s₁ H:=⟨rfl,hM,fun b o e=>Zjw e,Nat.le_of_eq (Zgp _ _),trivial,fun b hb=>absurd (show b∈([]:List Addr) from hb) (by simp),hok,.of_eq hg⟩
  refine codeAny_mono ((F _ hKb (nsK hns)).run callerA [] s₁ H ⟨[.ref a],[]⟩ [.ref a] [.ref a] _ _ hr e0 (hbind s₁ (.ref a)) (.cons rfl .nil) (hsp H hO hS)) fun r s' h=>?_
  cases r with
  | error e=>exact (hCX H e s' h).elim
  | ok fl=>
   cases fl with
   | next=>exact False.elim h
   | brk=>exact False.elim h
   | cont=>exact False.elim h
   | ret u=>
    obtain ⟨v,H',os,bare,un,hok',r',q⟩:=h
    have q':v = .bl true:=q
    subst q'
    obtain rfl:u=Value.bool true:=r'
    refine ⟨rfl,OldK.of_keep fun b o e=>?_,os,bare⟩
    cases q:H b with
    | none=>exact un.keep b o e q (by intro z;exact absurd (show b∈([]:List Addr) from z) (by simp)) (by simp)
    | some u=>
     rcases hO b with z | ⟨ob,xs,z⟩
     ·rw [q] at z;cases z
     ·have z2:=un.frzs b ob _ z
      obtain ⟨e1,_⟩:=hok b _ z
      obtain ⟨e2,_⟩:=hok' b _ z2
      rw [e] at e1;cases e1
      exact e2
 cases hk:K.lookup a with
 | some o=>
  have e:=KX a o hk
  rw [ha] at e
  cases e
  refine core (fun _=>none) (fun _=>.inl rfl) (.inr ⟨_,vs.toArray,_,hk,rfl,rfl,rfl,by rw [List.size_toArray,lenV];exact hl,by simpa using rv⟩) (fun b u z=>by have z':(none:Option HO)=some u:=z;cases z') (fun b z=>absurd rfl z) fun z=>absurd rfl z
 | none=>
  refine core (fun b=>if b=a then some (.frz { cls:=.type "list", data:=.seq vs.toArray } (.lst (ns.map V.int))) else none) (fun b=>?_) (.inl (.inr ⟨{ cls:=.type "list", data:=.seq vs.toArray },if_pos rfl⟩)) (fun b u z=>?_) (fun b z=>?_) fun _=>hk
  ·by_cases hb:b=a
   ·exact .inr ⟨_,_,if_pos hb⟩
   ·exact .inl (if_neg hb)
  ·by_cases hb:b=a
   ·have z':=(if_pos hb).symm.trans z
    cases z'
    subst hb
    exact ⟨ha,by rw [List.length_map];exact hl,vs,_,rv,ha⟩
   ·have z':=(if_neg hb).symm.trans z
    cases z'
  ·by_cases hb:b=a
   ·exact hb
   ·exact absurd (if_neg hb) z
abbrev KOf {K:PySem.W.Frag}{h:Heap} (_:K.In h):PySem.W.Frag:=K
theorem Zjs {l:PySem.W.OpenLaw}{n k:Nat}{q:Program}{loose:List Str}{XP:(Str->Option Value)->Heap->Prop}{YP:World->Heap->Prop}{d:DefRec}{K:Params->PySem.W.Frag}{CX:World->CXT}{sp:World->Sp}{x:Str}
  (hn:l.most=some n) (hn2:n<=sizeLine) (hdf:d.params.defaults = []) (hr:Ji k callerA)
  (hY:∀(w:World) (h:Heap),YP w h->(K w.params).In h)
  (F:∀(w:World) (mg:Str->Option Value) (fa:Addr) (h:Heap),(K w.params).In h->h.Ns mainGlobals mg->mg d.name=some (.ref fa) ->
   ∃fd:FuncData,(∀(s:Shared) (u:Value),BindsTo s fd ⟨[u],[]⟩ [(x,u)]) /\
    ∀base:Heap,(K w.params).In base->base.Ns mainGlobals mg->Z6 l.prog w (K w.params) mg base (CX w) k fa fd [x] (sp w))
  (hsp:∀(w:World) (H:Hp) (a:Addr) (ns:List Int),ns.length<=n->ZkV H->Zp (K w.params) H a (ns.map V.int)->sp w [.ref a] H (fun v _=>v = .bl true) fun _ _ _=>False)
  (hCX:∀(w:World) (H:Hp) (s:Shared) (e:Value) (s':Shared),CX w [] H s (fun _ _ _=>False) e s'->False):
  PySem.W.WalkO q loose XP YP l.row.toRowW d [] (fun f vs=>PySem.call f vs):=by
 refine Att.ZdF hn hdf fun w s₀ s₁ mg mb fa o pm cd doc a vs ns G Y ho hd hcd hmg hobj hints hlen hg=>?_
 have KX:=hY w _ Y
 obtain ⟨fd,hb,hF⟩:=F w mg fa _ KX G.T.g hmg
 exact Zi2 KX G.T.g G.T.b G.T.builtins G.T.nolimit hg hobj hints (Nat.le_trans hlen hn2) hr hF hb (fun H hO hS=>hsp w H a ns hlen hO hS) fun H e s'=>hCX w H s₁ e s'
def U5 (s:Stmt):Arguments:=match s with
 | .FunctionDef _ a _ _ _ _ _ _ _ _=>a
 | _=>{ posonlyargs:=[],args:=[],vararg:=none,kwonlyargs:=[],kw_defaults:=[],kwarg:=none,defaults:=[] }
def We (s:Stmt):List Stmt:=match s with
 | .FunctionDef _ _ b _ _ _ _ _ _ _=>b
 | _=>[]
def Zh (s:Stmt):Scope:=match s with
 | .FunctionDef _ _ _ _ _ _ sc _ _ _=>sc
 | _=>{ kind:=.function,names:=[],isGenerator:=false,isCoroutine:=false }
abbrev WW:CXT:=fun _ _ _ _ _ _=>False
abbrev E0:XK:=fun _ _ _=>False
theorem ZhF {X:Cx}:Passes WW X E0:=fun _ _ _ _ _ _ _ h=>h.elim
structure YH (K:PySem.W.Frag) (x qual:Str) (st:Stmt) (f:Addr) (fd:FuncData):Prop where
 ex:∃(oc:Value) (od:Option Addr) (kV doc pm:Value) (an:Option Addr) (cdv ct:Value) (osl:Array (Option Value)),
  fd=PySem.W.fnOf x qual (U5 st) (We st) (Zh st) .none kV doc pm an cdv ct/\K.lookup f=some ⟨oc,od,.func fd,osl⟩/\PySem.W.codeIn K cdv qual=true
 kp:PySem.W.keepIn K (.ref f)=true
section
variable {P:Program}{w:World}{K:PySem.W.Frag}{mg:Str->Option Value}{base:Heap}
theorem YH.ok {x qual:Str}{st:Stmt}{f:Addr}{fd:FuncData}{N ps:List Str}{k:Nat}{sp:Sp} (F:YH K x qual st f fd) (S:Zw N ps (Zh st)) (len:∀vs H Q E,sp vs H Q E->vs.length=ps.length)
  (hbody:∀(cdv:Value) (A:Around) (outer:List Env) (s:Shared) (H:Hp) (vs:List V) (Q:VK) (E:XK),Ji k (A.deeper (envOfC qual (Zh st) s.heap.objs.size f cdv))->sp vs H Q E ->
   ∃t,PSs (Jw WW P w K mg base N qual (Zh st) f cdv A outer s H E).nox (We st) t/\t { nx:=fun _ H'=>Q .non H',rt:=Q } (start N vs) H):Z6 P w K mg base WW (k+1) f fd ps sp:=by
 obtain ⟨oc,od,kV,doc,pm,an,cdv,ct,osl,rfl,lk,hcd⟩:=F.ex
 refine ZkO lk hcd S len fun A outer s H vs Q E hr hsp=>?_
 obtain ⟨t,h,q⟩:=hbody cdv A outer s H vs Q E hr hsp
 exact ⟨t,h.nox,q⟩
theorem YH.binds {x qual:Str}{st:Stmt}{f:Addr}{fd:FuncData}{ps:List Str} (F:YH K x qual st f fd)
  (h:∀(kV doc pm:Value) (an:Option Addr) (cdv ct:Value) (us:List Value),us.length=ps.length->bindArgs (PySem.W.fnOf x qual (U5 st) (We st) (Zh st) .none kV doc pm an cdv ct) ⟨us,[]⟩=pure (ps.zip us)):Binds K fd ps []:=by
 obtain ⟨oc,od,kV,doc,pm,an,cdv,ct,osl,rfl,lk,hcd⟩:=F.ex
 exact .all (h kV doc pm an cdv ct)
theorem ZN {x qual:Str}{st:Stmt}{f:Addr}{oc:Value}{od an:Option Addr}{osl:Array (Option Value)}{kV doc pm cdv ct:Value} (l:K.lookup f=some ⟨oc,od,.func (PySem.W.fnOf x qual (U5 st) (We st) (Zh st) .none kV doc pm an cdv ct),osl⟩)
  (c:PySem.W.codeIn K cdv qual=true) (k:PySem.W.keepIn K (.ref f)=true):YH K x qual st f (PySem.W.fnOf x qual (U5 st) (We st) (Zh st) .none kV doc pm an cdv ct):=⟨⟨oc,od,kV,doc,pm,an,cdv,ct,osl,rfl,l,c⟩,k⟩
end
theorem ZfS {A:Around}{k:Nat} (hr:Ji k A):A.units+1<cLine:=Nat.lt_of_le_of_lt (Nat.add_le_add_left (by decide:1<=64) _) hr.units
theorem Z9 {n:Nat} (h:n<=1000):n<sizeLine:=Nat.lt_of_le_of_lt h (by decide)
section
variable {X:Cx}
theorem pv (i:Nat) {x:Str}{pos:Pos} (hN:X.N[i]? = some x:=by rfl) (hv:Vis X.env.scope x:=by first | exact Or.inl rfl | exact Or.inr (Or.inl rfl) | exact Or.inr (Or.inr rfl)) (hd:(x==("__debug__" : Str))=false:=by decide)
  (hcd:(x==("__classdict__" : Str))=false:=by decide):PE X (.Name x pos) (Zht i):=ZkX hN hv hd hcd
end
theorem ZgM {A B:Prop} (h:B):if false=true then A else B:=by
 rw [if_neg Bool.false_ne_true]
 exact h
theorem Ux {A B:Prop} (h:A):if true=true then A else B:=by
 rw [if_pos rfl]
 exact h
theorem Gg {c A B:Prop} [Decidable c] (h1:c->A) (h2:¬c->B):if c then A else B:=by
 by_cases h:c
 ·rw [if_pos h]
  exact h1 h
 ·rw [if_neg h]
  exact h2 h
def Zd (H H':Hp):Prop:=∀b o,H b=some o->H' b=some o
theorem Zd.refl (H:Hp):Zd H H:=fun _ _ h=>h
theorem Zd.trans {H H1 H2:Hp} (a:Zd H H1) (b:Zd H1 H2):Zd H H2:=fun c o h=>b c o (a c o h)
theorem Zd.free {H H':Hp} (e:Zd H H') {l:Addr} (h:H' l=Option.none):H l=Option.none:=by
 cases q:H l with
 | none=>rfl
 | some o=>
  rw [e l o q] at h
  cases h
theorem Zd.seq {K:PySem.W.Frag}{H H':Hp}{a:Addr}{xs:List V} (e:Zd H H') (h:Zp K H a xs):Zp K H' a xs:=by
 rcases h with (h | ⟨o,h⟩) | h
 ·exact .inl (.inl (e _ _ h))
 ·exact .inl (.inr ⟨o,e _ _ h⟩)
 ·exact .inr h
end L2
set_option maxHeartbeats 4000000
namespace L2
open PySem PySem.Spec PyProof.Rows
section
variable {prog:Program}{w:World}{A:Around}{R:Result->Shared->Prop}{s:Shared}
theorem ZgS {elt target iter:Expr}{ifs:List Expr}{scope:Scope}{pos:Pos}{it acc:Value}{env:Env} (I:Nat->Shared->Prop)
  (turn:∀n s,I n s->wpAny (model prog w) A (pyNext it) (fun r s₁=>match r with
   | none=>R (.ok .next) s₁
   | some v=>wpAny (model prog w) A (letOwnedTupleGo target it v) (fun _ s₁'=>wpAny (model prog w) A (assign target env v) (fun _ s₂=>
     wpAny (model prog w) A (forIn ifs true fun c r=>if r=true then do let ok <- isTrue c env (eval c env);pure (ForInStep.yield ok) else pure (ForInStep.yield r)) (fun ok s₃=>
      if ok=true then wpAny (model prog w) A (eval elt env) (fun x s₄=>
       wpAny (model prog w) A (call (.builtin "list.append") [acc,x]) (fun _ s₅=>∃m,m<n/\I m s₅) (fun _ _=>False) s₄) (fun _ _=>False) s₃
      else ∃m,m<n/\I m s₃) (fun _ _=>False) s₂) (fun _ _=>False) s₁') (fun _ _=>False) s₁) (fun _ _=>False) s)
  (n:Nat) (h:I n s):codeAny (model prog w) A (.compLoop (.ListComp elt [⟨target,iter,ifs,0⟩] scope pos) 0 it acc env) R s:=by
 refine codeAny_loop rfl I (fun n s hI=>?_) n h
 show wpAny _ A ((compTurn (.ListComp elt [⟨target,iter,ifs,0⟩] scope pos) 0 it acc env).onRaise (fun x=>do noteFrame x env;theTreesLotGoes x)) _ _ s
 refine wpAny_noted ?_
 rw [compTurn_list]
 refine wpAny_bind (wpAny_standAt (wpAny_bind (wpAny_mono (turn n s hI) (fun r s₁ h₁=>?_) fun _ _ h'=>h'.elim)))
 cases r with
 | none=>exact wpAny_pure h₁
 | some v=>
  refine wpAny_bind (wpAny_mono h₁ (fun _ s₁' h₁'=>?_) fun _ _ h'=>h'.elim)
  refine wpAny_bind (wpAny_mono h₁' (fun _ s₂ h₂=>wpAny_bind (wpAny_mono h₂ (fun ok s₃ h₃=>?_) fun _ _ h'=>h'.elim)) fun _ _ h'=>h'.elim)
  cases ok with
  | false=>exact wpAny_pure ⟨rfl,h₃⟩
  | true=>
   exact wpAny_bind (wpAny_bind (wpAny_mono h₃ (fun x s₄ h₄=>wpAny_bind (wpAny_mono h₄ (fun _ s₅ h₅=>wpAny_pure (wpAny_pure ⟨rfl,h₅⟩)) fun _ _ h'=>h'.elim)) fun _ _ h'=>h'.elim))
end
theorem Zdq (env:Env) (f:Str×NameKind->List (Str×Addr)->Sem (ForInStep (List (Str×Addr))))
  (hf:∀n k r,f (n,k) r=if (k==NameKind.free)=true then (do let a <- cellOf env n;pure (ForInStep.yield ((n,a)::r))) else pure (ForInStep.yield r)):
  ∀(ns:List (Str×NameKind)) (acc:List (Str×Addr)),(∀y∈ns,y.2 = .free -> ∃c,env.cells.lookup y.1=some c)->(∀x c,acc.lookup x=some c->env.cells.lookup x=some c) ->
   ∃cl,forIn ns acc f=pure cl/\(∀x c,cl.lookup x=some c->env.cells.lookup x=some c)/\(∀y∈ns,y.2 = .free -> ∃c,cl.lookup y.1=some c)/\(∀x c,acc.lookup x=some c -> ∃c',cl.lookup x=some c')
 | [],acc,_,ha=>⟨acc,by rw [List.forIn_nil],ha,fun _ h=>(nomatch h),fun x c h=>⟨c,h⟩⟩
 | (n,k)::r,acc,hn,ha=>by
  rw [List.forIn_cons,hf]
  by_cases hk:k = .free
  ·subst hk
   obtain ⟨c,hc⟩:=hn (n,.free) List.mem_cons_self rfl
   have hc':env.cells.lookup n=some c:=hc
   have e1:cellOf env n=pure c:=by unfold cellOf;rw [hc']
   obtain ⟨cl,h1,h2,h3,h4⟩:=Zdq env f hf r ((n,c)::acc) (fun y hy=>hn y (List.mem_cons_of_mem _ hy)) (fun x c' hx=>by
    rw [List.lookup_cons] at hx
    cases e:x==n with
    | true=>
     rw [e] at hx
     have:x=n:=by simpa using e
     subst this
     rw [<- Option.some.inj hx];exact hc'
    | false=>rw [e] at hx;exact ha x c' hx)
   refine ⟨cl,?_,h2,fun y hy hyf=>?_,fun x c' hx=>?_⟩
   ·rw [if_pos (by rfl),e1]
    exact h1
   ·rcases List.mem_cons.mp hy with e | hy
    ·subst e
     exact h4 n c (by simp)
    ·exact h3 y hy hyf
   ·cases e:x==n with
    | true=>exact h4 x c (by rw [List.lookup_cons,e])
    | false=>exact h4 x c' (by rw [List.lookup_cons,e];exact hx)
  ·have hk':(k==NameKind.free)=false:=by simpa using hk
   obtain ⟨cl,h1,h2,h3,h4⟩:=Zdq env f hf r acc (fun y hy=>hn y (List.mem_cons_of_mem _ hy)) ha
   refine ⟨cl,?_,h2,fun y hy hyf=>?_,h4⟩
   ·rw [hk',if_neg Bool.false_ne_true]
    exact h1
   ·rcases List.mem_cons.mp hy with e | hy
    ·subst e
     exact absurd hyf hk
    ·exact h3 y hy hyf
theorem ZcN {scope:Scope}{env:Env} (h:∀y∈scope.names,y.2 = .free -> ∃c,env.cells.lookup y.1=some c):
  ∃cl,closureFor scope env=pure cl/\(∀x c,cl.lookup x=some c->env.cells.lookup x=some c)/\(∀y∈scope.names,y.2 = .free -> ∃c,cl.lookup y.1=some c):=by
 obtain ⟨cl,h1,h2,h3,_⟩:=Zdq env (fun x r=>match x with
  | (n,k)=>if (k==NameKind.free)=true then (do let a <- cellOf env n;pure (ForInStep.yield ((n,a)::r))) else pure (ForInStep.yield r)) (fun _ _ _=>rfl) scope.names [] h (fun x c q=>by simp at q)
 refine ⟨cl,?_,h2,h3⟩
 unfold closureFor
 refine Eq.trans ?_ h1
 have e:∀(m:Sem (List (Str×Addr))),(m >>= fun r=>(pure r >>= fun r=>pure r))=m:=fun m=>by simp only [pure_bind,bind_pure]
 exact e _
def ZaV (n:Nat) (fi:List Nat) (σ:St):St:=List.replicate n none++fi.map fun i=>σ.getD i none
def Wd:TT:=fun _ H Q=>Q true H
def PTs (X:Cx) (ifs:List Expr) (t:TT):Prop:=
 ∀(pins:List (Addr×Obj)) (s:Shared) (σ:St) (H:Hp) (Q:Bool->Hp->Prop),Inv X pins σ H s->t σ H Q ->
  wpAny (model X.prog X.w) X.A (forIn ifs true fun c r=>if r=true then do let ok <- isTrue c X.env (eval c X.env);pure (ForInStep.yield ok) else pure (ForInStep.yield r)) (TP X pins σ Q) X.xe s
theorem ZW {X:Cx}:PTs X [] Wd:=fun pins s σ H Q I h=>wpAny_tests_nil ⟨H,I,h⟩
theorem ZfF {X:Cx}{c:Expr}{t:TT} (h:PT X c t):PTs X [c] t:=fun pins s σ H Q I q=>wpAny_tests_one (h pins s σ H Q I q)
structure ZJ (N:List Str) (osc scope:Scope) (Ls Fs:List Str) (fi:List Nat):Prop where
 kind:scope.kind = .function
 cells:∀y∈scope.names,y.2 ≠ .cell
 names:∀y∈scope.names,y.2 = .local->scope.names.lookup y.1=some .local
 fre:∀x∈Fs,scope.names.lookup x=some .free
 all:∀y∈scope.names,y.2 = .free->osc.names.lookup y.1=some .cell∨osc.names.lookup y.1=some .free
 ix:fi.map (fun i=>N[i]?)=Fs.map some
def blk (X:Cx) (scope:Scope) (N:List Str) (cl:List (Str×Addr)) (C:Addr) (s3:Shared) (H3:Hp) (ex:List Addr):Cx:=
 { X with N:=N,s₀:=s3,H₀:=H3,env:=compEnvC scope cl C X.env,outer:=X.stack,stack:=X.stack,ex:=ex,fn:=fun _=>false,pn:=[],xe:=fun _ _=>False }
theorem Zab {env:Env}:∀{names:List (Str×NameKind)}{x:Str},(∀y∈names,y.2 ≠ .cell) ->
    ((names.map fun (n,k)=>if (k==NameKind.free&&env.scope.kind == .function&&env.kindOf n==some .cell) then (n,NameKind.cell) else (n,k)).lookup x=some .cell ∨
     (names.map fun (n,k)=>if (k==NameKind.free&&env.scope.kind == .function&&env.kindOf n==some .cell) then (n,NameKind.cell) else (n,k)).lookup x=some .free) -> ∃y∈names,y.1=x/\y.2 = .free
  | [],_,_,h=>by simp at h
  | (n,k)::r,x,hc,h=>by
    have ih:=@Zab env r x (fun y hy=>hc y (List.mem_cons_of_mem _ hy))
    cases hx:x==n with
    | true=>
      have e:x=n:=by simpa using hx
      subst e
      by_cases hb:(k==NameKind.free&&env.scope.kind == .function&&env.kindOf x==some .cell)=true
      · have:k = .free:=by
          simp only [Bool.and_eq_true,beq_iff_eq] at hb
          exact hb.1.1
        exact ⟨(x,k),List.mem_cons_self,rfl,this⟩
      · simp only [List.map_cons,if_neg hb,List.lookup_cons,hx] at h
        rcases h with h | h
        · exact absurd (Option.some.inj h) (hc (x,k) List.mem_cons_self)
        · exact ⟨(x,k),List.mem_cons_self,rfl,Option.some.inj h⟩
    | false=>
      have h':((r.map fun (n,k)=>if (k==NameKind.free&&env.scope.kind == .function&&env.kindOf n==some .cell) then (n,NameKind.cell) else (n,k)).lookup x=some .cell ∨
        (r.map fun (n,k)=>if (k==NameKind.free&&env.scope.kind == .function&&env.kindOf n==some .cell) then (n,NameKind.cell) else (n,k)).lookup x=some .free):=by
        by_cases hb:(k==NameKind.free&&env.scope.kind == .function&&env.kindOf n==some .cell)=true
        · simpa only [List.map_cons,if_pos hb,List.lookup_cons,hx] using h
        · simpa only [List.map_cons,if_neg hb,List.lookup_cons,hx] using h
      obtain ⟨y,hy,z⟩:=ih h'
      exact ⟨y,List.mem_cons_of_mem _ hy,z⟩
theorem U7 {env:Env}{x:Str}:∀{names:List (Str×NameKind)},names.lookup x=some .free ->
    ((names.map fun (n,k)=>if (k==NameKind.free&&env.scope.kind == .function&&env.kindOf n==some .cell) then (n,NameKind.cell) else (n,k)).lookup x=some .cell ∨
     (names.map fun (n,k)=>if (k==NameKind.free&&env.scope.kind == .function&&env.kindOf n==some .cell) then (n,NameKind.cell) else (n,k)).lookup x=some .free)
  | [],h=>by simp at h
  | (n,k)::r,h=>by
    cases hx:x==n with
    | true=>
      have e:x=n:=by simpa using hx
      subst e
      rw [List.lookup_cons,hx] at h
      have hk:k = .free:=Option.some.inj h
      subst hk
      by_cases hb:(NameKind.free==NameKind.free&&env.scope.kind == .function&&env.kindOf x==some .cell)=true
      · left;simp only [List.map_cons,if_pos hb,List.lookup_cons,hx]
      · right;simp only [List.map_cons,if_neg hb,List.lookup_cons,hx]
    | false=>
      rw [List.lookup_cons,hx] at h
      have ih:=@U7 env x r h
      by_cases hb:(k==NameKind.free&&env.scope.kind == .function&&env.kindOf n==some .cell)=true
      · simpa only [List.map_cons,if_pos hb,List.lookup_cons,hx] using ih
      · simpa only [List.map_cons,if_neg hb,List.lookup_cons,hx] using ih
theorem aLt {h:Heap}{b:Addr}{o:Obj} (e:h.get? b=some o):@LT.lt Nat _ b h.objs.size:=Heap.lt_size e
def LcW (J:It) (σ:St) (g:TG) (tc:TT) (te:TE) (H:Hp) (Q:VK):Prop:=
 ∃W:Nat->Nat->List V->Hp->Prop,(∃m,W 0 m [] H) /\ ∀i m ys H,W i m ys H ->
  (J.stop i H/\ys.length<=sizeLine /\ ∀D,H D=none->Q (.ref D) (upd H D (.lst ys))) ∨
  (J.go i H/\ys.length<=sizeLine /\ ∃N:List V->Hp->Prop,(∀ys' H',N ys' H' -> ∃m',m'<m/\W (i+1) m' ys' H') /\ ∀x H',J.yld i H x H'->g x σ H' fun σ2 H2=>
   tc σ2 H2 fun b H3=>if b=true then te σ2 H3 fun y H4=>N (ys ++ [y]) H4 else N ys H3)
def tLc (n:Nat) (fi:List Nat) (wi:TI) (g:TG) (tc:TT) (te:TE):TE:=fun σ H Q=>wi σ H fun J H1=>LcW J (ZaV n fi σ) g tc te H1 Q
section
variable {X:Cx}{pins:List (Addr×Obj)} {σ:St}{tg elt iter:Expr}{ifs:List Expr}{scope:Scope}{pos:Pos}{Ls Fs:List Str}{fi:List Nat}{g:TG}{tc:TT}{te:TE}
structure Zcm (X:Cx) (tg:Expr) (J:It) (fp:List Addr) (it:Addr) (tn:Nat->Heap->Prop):Prop where
 obj:∀i h,tn i h -> ∀b∈fp,∃o,h.get? b=some o /\ ∀v,o.data ≠ .cell v
 keep:∀i h h',tn i h->(∀b∈fp,∀o,h.get? b=some o->h'.get? b=some o)->tn i h'
 item:∀(i:Nat) (pins:List (Addr×Obj)) (s:Shared) (σ:St) (H:Hp) (E:Value->Shared->Prop),Inv X pins σ H s->(∀b∈fp,UB X pins H b)->tn i s.heap->J.go i H ->
  wpAny (model X.prog X.w) X.A (pyNext (.ref it)) (fun r s1=>∃u,r=some u /\
   wpAny (model X.prog X.w) X.A (letOwnedTupleGo tg (.ref it) u) (fun _ s2=>∃x H',Inv X pins σ H' s2/\RelV x u/\J.yld i H x H'/\tn (i+1) s2.heap /\ ∀b∈fp,H' b=none) E s1) E s
 done:∀(i:Nat) (pins:List (Addr×Obj)) (s:Shared) (σ:St) (H:Hp) (E:Value->Shared->Prop),Inv X pins σ H s->(∀b∈fp,UB X pins H b)->tn i s.heap->J.stop i H ->
  wpAny (model X.prog X.w) X.A (pyNext (.ref it)) (fun r s1=>r=none/\Inv X pins σ H s1) E s
 self:∀(A:Around) (i:Nat) (s:Shared) (Q:Value->Shared->Prop) (E:Value->Shared->Prop),tn i s.heap->Q (.ref it) s->wpAny (model X.prog X.w) A (pyIter (.ref it)) Q E s
theorem Turn.at {X:Cx}{tg:Expr}{J:It}{fp:List Addr}{it:Addr}{tn:Nat->Heap->Prop} (T:Turn X.prog X.w X.K tg J fp it tn) (hc:X.calm=true):Zcm X tg J fp it tn:=⟨T.obj,T.keep,T.item X rfl rfl rfl hc,T.done X rfl rfl rfl hc,T.self⟩
theorem ZbM {H2:Hp}{s2:Shared}{it:Addr}{fp:List Addr}{tn:Nat->Heap->Prop}{J:It}{cl:List (Str×Addr)}{Q:VK}{E:Value->Shared->Prop}{RR:Value->Addr->Result->Shared->Prop}
  (S:ZJ X.N X.env.scope scope Ls Fs fi)
  (hb:∀C s3 H3 ex,PG (blk X scope (Ls++Fs) cl C s3 H3 ex) tg g/\PTs (blk X scope (Ls++Fs) cl C s3 H3 ex) ifs tc/\PE (blk X scope (Ls++Fs) cl C s3 H3 ex) elt te)
  (hcl1:∀x c,cl.lookup x=some c->X.env.cells.lookup x=some c) (hcl2:∀y∈scope.names,y.2 = .free -> ∃c,cl.lookup y.1=some c)
  (I2:Inv X pins σ H2 s2) (TX:∀C s3 H3 ex,Zcm (blk X scope (Ls++Fs) cl C s3 H3 ex) tg J fp it tn) (st2:tn 0 s2.heap) (f2:∀b∈fp,UB X pins H2 b)
  (hW:∃W:Nat->Nat->List V->Hp->Prop,(∃m,W 0 m [] H2) /\ ∀i m ys H,W i m ys H ->
   (J.stop i H/\ys.length<=sizeLine /\ ∀D,H D=none->Q (.ref D) (upd H D (.lst ys))) ∨
   (J.go i H/\ys.length<=sizeLine /\ ∃N:List V->Hp->Prop,(∀ys' H',N ys' H' -> ∃m',m'<m/\W (i+1) m' ys' H') /\ ∀x H',J.yld i H x H'->g x (ZaV Ls.length fi σ) H' fun σ2 H2=>
    tc σ2 H2 fun b H3=>if b=true then te σ2 H3 fun y H4=>N (ys ++ [y]) H4 else N ys H3))
  (fin:∀D C H' s' m,Inv X pins σ H' s'->Q (.ref D) H'->s'.heap.Ns C m->UB X pins H' C->RR (.ref D) C (.ok .next) s'):
  wpAny (model X.prog X.w) X.A (newList []) (fun acc s₃=>wpAny (model X.prog X.w) X.A (newFunctionEnv scope X.env.globals cl [] X.env.qual none .none (some X.env)) (fun cenv s₄=>
   codeAny (model X.prog X.w) X.A (.compStart (.ListComp elt [⟨tg,iter,ifs,0⟩] scope pos) 0 (.ref it) acc { cenv with scope:=relabel scope X.env }) (RR acc cenv.locals) s₄) E s₃) E s2:=by
 refine wpAny_newObj_type (wpAny_newFunctionEnv S.cells (by intro y hy;simp at hy) (fun h₁ hns₁ hsb₁=>?_) S.kind)
 dsimp only at hns₁ hsb₁ ⊢
 generalize hH3:s2.heap.push { cls:=.type "list", dict:=none,data:=.seq ([]:List Value).toArray } = h3 at hns₁ hsb₁ ⊢
 generalize hC:h3.objs.size=C at hns₁ hsb₁ ⊢
 generalize hD:s2.heap.objs.size=D
 have hCD:C=D+1:=by rw [<- hC,<- hH3,Heap.size_push,hD]
 have k23:∀b o,s2.heap.get? b=some o->h3.get? b=some o:=fun b o e=>by rw [<- hH3];exact Heap.get?_push_of_some _ e
 have k34:∀b o,h3.get? b=some o->h₁.get? b=some o:=fun b o e=>hsb₁.extBut b o (Nat.ne_of_lt (by have:=aLt e;lia)) (Heap.get?_push_of_some _ e)
 have hDo:h3.get? D=some { cls:=.type "list", data:=.seq ([]:List Value).toArray }:=by rw [<- hH3,<- hD];exact Heap.get?_push_size _ rfl
 obtain ⟨W,⟨m0,w0⟩,turn⟩:=hW
 have T:=TX C { s2 with heap:=h3 } H2 (D::fp)
 have I3:Inv X pins σ H2 { s2 with heap:=h3 }:=I2.kept (t':=s2.toks) k23
 have frD:H2 D=none:=by rw [<- hD];exact I2.fresh
 have frC:H2 C=none:=I2.hok.fresh (by lia)
 have DL:D≠X.env.locals:=Nat.ne_of_gt (by have:@LT.lt Nat _ X.env.locals s2.heap.objs.size:=I2.lt;lia)
 have CL:C≠X.env.locals:=Nat.ne_of_gt (by have:@LT.lt Nat _ X.env.locals s2.heap.objs.size:=I2.lt;lia)
 have cellLt:∀x c,X.env.cells.lookup x=some c -> @LT.lt Nat _ c D:=fun x c e=>by
  obtain ⟨v,q⟩:=I2.cell x c e
  have:@LT.lt Nat _ c s2.heap.objs.size:=q.lt
  lia
 have fpLt:∀b∈fp,@LT.lt Nat _ b D:=fun b hb=>by
  obtain ⟨o,e,_⟩:=T.obj _ _ st2 b hb
  have:=aLt e
  lia
 have exLoc:∀b∈D::fp,b≠C/\(∀x c,X.env.cells.lookup x=some c->c≠b):=fun b hb=>by
  rcases List.mem_cons.mp hb with e | hb
  ·subst e
   exact ⟨Nat.ne_of_lt (by lia),fun x c e=>Nat.ne_of_lt (cellLt x c e)⟩
  ·exact ⟨Nat.ne_of_lt (by have:=fpLt b hb;lia),(f2 b hb).2.2.2.2.1⟩
 have ok':(blk X scope (Ls++Fs) cl C { s2 with heap:=h3 } H2 (D::fp)).Ok:=by
  refine ⟨I2.ok.mod,S.kind,I2.ok.glob,I2.ok.blt,?_,fun x y c e1 e2=>I2.ok.inj x y c (hcl1 x c e1) (hcl1 y c e2),fun x hx=>?_,fun x c hx=>absurd hx Bool.false_ne_true,I2.ok.hd,I2.ok.frames,.inl rfl,
   fun b hb=>⟨(exLoc b hb).1,fun x c e=>(exLoc b hb).2 x c (hcl1 x c e)⟩,I3.bs,Nat.le_trans I2.ok.bsz I3.sz,fun b o e hb=>?_,fun b hb=>?_,I3.stack,I3.stkFree⟩
  ·show h3.objs.size<=C
   lia
  ·obtain ⟨y,hy,e1,e2⟩:=Zab S.cells hx
   obtain ⟨c,q⟩:=hcl2 y hy e2
   exact ⟨c,e1 ▸ q⟩
  ·rcases List.mem_cons.mp hb with z | hb
   ·exact absurd z (Nat.ne_of_lt (by have:=aLt (I2.bk b o e);lia))
   ·rcases (f2 b hb).2.2.2.1 with z | z
    ·exact I2.ok.noex b o e z
    ·have h1:@LT.lt Nat _ b X.base.objs.size:=aLt e
     have h2:@LE.le Nat _ X.base.objs.size X.s₀.heap.objs.size:=I2.ok.bsz
     have h3:@LE.le Nat _ X.s₀.heap.objs.size b:=z
     lia
  ·intro hz
   have hz':=I2.stkSub b hz
   rcases List.mem_cons.mp hb with e | hb
   ·subst e
    rcases List.mem_cons.mp hz' with z | z
    ·exact DL z
    ·exact I2.nofs (by lia) z
   ·rcases List.mem_cons.mp hz' with z | z
    ·exact (f2 b hb).2.1 z
    ·exact (f2 b hb).2.2.1 z
 obtain ⟨m2,hn2,hl2⟩:=id I2.loc
 have cap:∀(i:Nat) (x:Str) (v:V),(Ls++Fs)[i]? = some x->(ZaV Ls.length fi σ)[i]? = some (some v) -> ∃u c,RelV v u/\((relabel scope X.env).names.lookup x=some .cell∨(relabel scope X.env).names.lookup x=some .free) /\
   cl.lookup x=some c/\X.env.cells.lookup x=some c/\s2.heap.IsCell c (some u):=by
  intro i x v e1 e2
  unfold ZaV at e2
  by_cases hi:i<Ls.length
  ·rw [List.getElem?_append_left (by simpa using hi),List.getElem?_replicate,if_pos hi] at e2
   cases e2
  ·have hi':Ls.length<=i:=Nat.le_of_not_lt hi
   rw [List.getElem?_append_right hi'] at e1
   rw [List.getElem?_append_right (by simpa using hi'),List.length_replicate,List.getElem?_map] at e2
   cases e3:fi[i-Ls.length]? with
   | none=>rw [e3] at e2;cases e2
   | some j=>
    rw [e3] at e2
    have e4:σ.getD j none=some v:=Option.some.inj e2
    have e5:X.N[j]? = some x:=by
     have q:=congrArg (fun l=>l[i-Ls.length]?) S.ix
     simp only [List.getElem?_map,e3,e1,Option.map_some] at q
     exact Option.some.inj q
    have e6:σ[j]? = some (some v):=by
     rw [List.getD_eq_getElem?_getD] at e4
     cases e7:σ[j]? with
     | none=>rw [e7] at e4;cases e4
     | some z=>rw [e7] at e4;exact congrArg some e4
    have fx:=S.fre x (List.mem_of_getElem? e1)
    have al:=S.all (x,.free) (PySem.mem_of_lookup fx) rfl
    have vis:Vis X.env.scope x:=by
     rcases al with z | z
     ·exact .inr (.inl z)
     ·exact .inr (.inr z)
    obtain ⟨u,ru,lk⟩:=hl2 j x v e5 e6 vis
    rcases lk with ⟨k,_⟩ | ⟨k,c,ec,hcell⟩
    ·have k':X.env.scope.names.lookup x=some .local:=k
     rcases al with z | z
     ·rw [show X.env.scope.names.lookup x=some .cell from z] at k';cases k'
     ·rw [show X.env.scope.names.lookup x=some .free from z] at k';cases k'
    ·obtain ⟨c',ec'⟩:=hcl2 (x,.free) (PySem.mem_of_lookup fx) rfl
     have:c'=c:=Option.some.inj ((hcl1 x c' ec').symm.trans ec)
     subst this
     exact ⟨u,c',ru,U7 fx,ec',ec,hcell⟩
 have capLen:(ZaV Ls.length fi σ).length=(Ls++Fs).length:=by
  unfold ZaV
  have q:=congrArg List.length S.ix
  simp only [List.length_map] at q
  rw [List.length_append,List.length_replicate,List.length_map,List.length_append,q]
 have re:∀{ps:List (Addr×Obj)} {σ':St}{H':Hp}{s':Shared},Inv (blk X scope (Ls++Fs) cl C { s2 with heap:=h3 } H2 (D::fp)) ps σ' H' s'->Inv (blk X scope (Ls++Fs) cl C { s2 with heap:=h3 } H2 (D::fp)) ps (ZaV Ls.length fi σ) H' s':=by
  intro ps σ' H' s' J'
  refine ⟨J'.ok,J'.os,J'.bare,J'.base,?_,J'.cell,J'.free,J'.freeC,J'.pin,J'.hok,capLen⟩
  obtain ⟨m,hn,_⟩:=J'.loc
  refine ⟨m,hn,fun i x v e1 e2 _=>?_⟩
  obtain ⟨u,c,ru,kk,ec,ec2,o,ho,hd⟩:=cap i x v e1 e2
  obtain ⟨sl,q⟩:=J'.base.any (k23 c o ho) (I2.freeC x c ec2) fun z=>(exLoc c z).2 x c ec2 rfl
  exact ⟨u,ru,.inr ⟨kk,c,ec,_,q,hd⟩⟩
 have I4:Inv (blk X scope (Ls++Fs) cl C { s2 with heap:=h3 } H2 (D::fp)) [(D,{ cls:=.type "list", data:=.seq ([]:List Value).toArray })] (ZaV Ls.length fi σ) H2 { s2 with heap:=h₁,toks:=s2.toks+([]:List (Str×Value)).length }:=by
  refine ⟨ok',rfl,I2.bare,Un.kept k34,⟨_,hns₁,fun i x v e1 e2 _=>?_⟩,fun x c e=>?_,frC,fun x c e=>I2.freeC x c (hcl1 x c e),fun p hp=>?_,I2.hok.kept fun b o e=>k34 b o (k23 b o e),capLen⟩
  ·obtain ⟨u,c,ru,kk,ec,ec2,o,ho,hd⟩:=cap i x v e1 e2
   exact ⟨u,ru,.inr ⟨kk,c,ec,o,k34 c o (k23 c o ho),hd⟩⟩
  ·obtain ⟨v,o,ho,hd⟩:=I2.cell x c (hcl1 x c e)
   exact ⟨v,o,k34 c o (k23 c o ho),hd⟩
  ·have hp':p=(D,{ cls:=.type "list", data:=.seq ([]:List Value).toArray }):=by
    have:p∈([]:List (Addr×Obj)) ++ [(D,{ cls:=.type "list", data:=.seq ([]:List Value).toArray })]:=hp
    simpa using this
   subst hp'
   refine ⟨k34 D _ hDo,frD,Nat.ne_of_lt (show @LT.lt Nat _ D C by lia),fun z=>?_,fun v z=>by cases z⟩
   rcases List.mem_cons.mp (I2.stkSub D z) with z | z
   ·exact DL z
   ·exact I2.nofs (by lia) z
 obtain ⟨hg,ht,he⟩:=hb C { s2 with heap:=h3 } H2 (D::fp)
 have back:∀{ps:List (Addr×Obj)} {σ':St}{H':Hp}{s':Shared}{ys:List V}{its:List Value}{n:Nat},Inv (blk X scope (Ls++Fs) cl C { s2 with heap:=h3 } H2 (D::fp)) ps σ' H' s'->s'.heap.get? D=some { cls:=.type "list", data:=.seq its.toArray n } ->
   H' D=none->Vals ys its->ys.length<=sizeLine->Inv X pins σ (upd H' D (.lst ys)) s'/\UB X pins (upd H' D (.lst ys)) C:=by
  intro ps σ' H' s' ys its n J' hDs hDn rv hz
  have neD:∀b o,s2.heap.get? b=some o->b≠D:=fun b o e=>Nat.ne_of_lt (by have:=aLt e;lia)
  have nex:∀b,b∉fp->b≠D->b∉D::fp:=fun b h1 h2 z=>(List.mem_cons.mp z).elim h2 h1
  have U:Un (W9 X.stack) fp H2 (upd H' D (.lst ys)) s2.heap s'.heap:=by
   refine ⟨fun b o e n hb hx=>J'.base.keep b o (k23 b o e) n hb (nex b hx (neD b o e)),fun b o e n hb hx=>J'.base.slot b o (k23 b o e) n hb (nex b hx (neD b o e)),fun b o e n hx=>?_,fun b o e hx=>J'.base.there b o (k23 b o e) (nex b hx (neD b o e)),fun b xs e=>?_,fun b o u e=>?_,fun b ps e=>?_⟩
   ·rw [Zj (neD b o e)]
    exact J'.base.free b o (k23 b o e) n (nex b hx (neD b o e))
   ·rw [Zj (Zg e frD)]
    exact J'.base.tups b xs e
   ·rw [Zj (Zg e frD)]
    exact J'.base.frzs b o u e
   ·obtain ⟨more,q⟩:=J'.base.tbls b ps e
    exact ⟨more,by rw [Zj (Zg e frD)];exact q⟩
  have hok':Wy X.prog X.w (upd H' D (.lst ys)) s'.heap:=fun b u q=>by
   by_cases hbD:b=D
   ·subst hbD
    rw [Zb] at q
    cases q
    exact ⟨hz,its,n,rv,hDs⟩
   ·rw [Zj hbD] at q
    exact (J'.hok b u q).stay (fun c v _ r=>r) (fun c r=>by rw [Zj (Zg r hDn)];exact r) fun c xs r=>by rw [Zj (Zg r hDn)];exact r
  refine ⟨I2.call' J'.os U hok' J'.bare fun b hb=>⟨(f2 b hb).2.2.2.1,(f2 b hb).2.1,(f2 b hb).2.2.2.2.1,(f2 b hb).2.2.2.2.2⟩,?_⟩
  refine ⟨by rw [Zj (Nat.ne_of_gt (by lia))];exact J'.free,CL,I2.nofs (by lia),.inr (by have:=I2.sz;lia),fun x c e=>Nat.ne_of_lt (by have:=cellLt x c e;lia),fun p hp=>?_⟩
  have:=aLt (I2.pin p hp).1
  exact Nat.ne_of_lt (by lia)
 have loop:codeAny (model X.prog X.w) X.A (.compLoop (.ListComp elt [⟨tg,iter,ifs,0⟩] scope pos) 0 (.ref it) (.ref D) (compEnvC scope cl C X.env)) (RR (.ref D) C) { s2 with heap:=h₁,toks:=s2.toks+([]:List (Str×Value)).length }:=by
  refine ZgS (fun n s'=>∃(i:Nat) (ys:List V) (H':Hp) (its:List Value) (k:Nat),Inv (blk X scope (Ls++Fs) cl C { s2 with heap:=h3 } H2 (D::fp)) [(D,{ cls:=.type "list", data:=.seq its.toArray k })] (ZaV Ls.length fi σ) H' s' /\
   Vals ys its/\tn i s'.heap/\(∀b∈fp,H' b=none)/\W i n ys H') ?_ m0 ⟨0,[],H2,[],0,I4,.nil,T.keep _ _ _ st2 fun b _ o e=>k34 b o (k23 b o e),fun b hb=>(f2 b hb).1,w0⟩
  rintro n s5 ⟨i,ys,H5,its,k,I5,rv,st5,fr5,w5⟩
  have stat:∀{H':Hp}{its':List Value}{k':Nat},(∀b∈fp,H' b=none) -> ∀b∈fp,UB (blk X scope (Ls++Fs) cl C { s2 with heap:=h3 } H2 (D::fp)) [(D,{ cls:=.type "list", data:=.seq its'.toArray k' })] H' b:=fun hn b hb=>by
   refine ⟨hn b hb,(exLoc b (List.mem_cons_of_mem _ hb)).1,fun z=>ok'.exfs b (List.mem_cons_of_mem _ hb) z,.inl (List.mem_cons_of_mem _ hb),fun x c e=>(exLoc b (List.mem_cons_of_mem _ hb)).2 x c (hcl1 x c e),fun p hp=>?_⟩
   have hp':p=_:=List.mem_singleton.mp hp
   rw [hp']
   have:=fpLt b hb
   show D≠b
   exact Nat.ne_of_gt this
  have pinD:=I5.pin (D,{ cls:=.type "list", data:=.seq its.toArray k }) (List.mem_singleton.mpr rfl)
  rcases turn i n ys H5 w5 with ⟨stop,hz,qn⟩ | ⟨go,hz,N,hN,step⟩
  ·refine wpAny_mono (T.done i _ s5 _ H5 _ I5 (stat fr5) st5 stop) (fun r s6 ⟨hr,I6⟩=>?_) fun _ _ h=>h
   subst hr
   have pin6:=I6.pin (D,{ cls:=.type "list", data:=.seq its.toArray k }) (List.mem_singleton.mpr rfl)
   obtain ⟨b1,b2⟩:=back I6 pin6.1 pin6.2.1 rv hz
   obtain ⟨m,hn,_⟩:=I6.loc
   exact fin D C _ s6 m b1 (qn D pin6.2.1) hn b2
  ·refine wpAny_mono (T.item i _ s5 _ H5 _ I5 (stat fr5) st5 go) (fun r s6 ⟨u,hr,h6⟩=>?_) fun _ _ h=>h
   subst hr
   refine wpAny_mono h6 (fun _ s7 ⟨x,H7,I7,r7,y7,st7,fr7⟩=>?_) fun _ _ h=>h
   have I7':=I7.pinned (stat fr7) (T.obj _ _ st7)
   refine wpAny_mono (hg _ s7 _ H7 x u _ I7' r7 (step x H7 y7)) (fun _ s8 ⟨σ8,H8,I8,q8⟩=>?_) fun _ _ h=>h
   refine wpAny_mono (ht _ s8 σ8 H8 _ I8 q8) (fun ok s9 ⟨H9,I9,q9⟩=>?_) fun _ _ h=>h
   have keepT:∀{σ':St}{H':Hp}{s':Shared},Inv (blk X scope (Ls++Fs) cl C { s2 with heap:=h3 } H2 (D::fp)) ([(D,{ cls:=.type "list", data:=.seq its.toArray k })]++Zay fp s7.heap) σ' H' s'->tn (i+1) s'.heap /\ ∀b∈fp,H' b=none:=by
    intro σ' H' s' J'
    refine ⟨T.keep _ _ _ st7 fun b hb o e=>(J'.pin (b,o) (List.mem_append_right _ (List.mem_append_right _ (Jp hb e)))).1,fun b hb=>?_⟩
    obtain ⟨o,e,d⟩:=T.obj _ _ st7 b hb
    exact (J'.pin (b,o) (List.mem_append_right _ (List.mem_append_right _ (Jp hb e)))).2.1
   cases ok with
   | false=>
    rw [if_neg Bool.false_ne_true] at q9 ⊢
    obtain ⟨m',hm,w'⟩:=hN _ _ q9
    exact ⟨m',hm,i+1,ys,H9,its,k,re I9.unpinned,rv,(keepT I9).1,(keepT I9).2,w'⟩
   | true=>
    rw [if_pos rfl] at q9 ⊢
    refine wpAny_mono (he _ s9 σ8 H9 _ I9 q9) (fun v s10 ⟨y,H10,I10,r10,q10⟩=>?_) fun _ _ h=>h
    obtain ⟨m',hm,w'⟩:=hN _ _ q10
    obtain ⟨k10,f10⟩:=keepT I10
    have I11:Inv (blk X scope (Ls++Fs) cl C { s2 with heap:=h3 } H2 (D::fp)) [(D,{ cls:=.type "list", data:=.seq its.toArray k })] (ZaV Ls.length fi σ) H10 s10:=re I10.unpinned
    have pin11:=I11.pin (D,{ cls:=.type "list", data:=.seq its.toArray k }) (List.mem_singleton.mpr rfl)
    refine wpAny_list_append_plain ⟨k,pin11.1⟩ (fun h' hp' sb=>?_) (by rw [List.size_toArray,<- rv.length];exact hz)
    obtain ⟨k',hk'⟩:=hp'
    have e1:its.toArray.push v=(its ++ [v]).toArray:=by simp
    rw [e1] at hk'
    have I12:Inv (blk X scope (Ls++Fs) cl C { s2 with heap:=h3 } H2 (D::fp)) [] (ZaV Ls.length fi σ) H10 { s10 with heap:=h',toks:=s10.toks }:=
     (I11.pins_of (pins':=[]) fun p hp=>(nomatch hp)).turned (it:=D) (fun b o hb e=>(sb.2 b hb).trans e) pin11.2.1 pin11.2.2.1 (.inl List.mem_cons_self) (fun x c e=>(exLoc D List.mem_cons_self).2 x c (hcl1 x c e)) fun p hp=>(nomatch hp)
    have I13:Inv (blk X scope (Ls++Fs) cl C { s2 with heap:=h3 } H2 (D::fp)) [(D,{ cls:=.type "list", data:=.seq (its ++ [v]).toArray k' })] (ZaV Ls.length fi σ) H10 { s10 with heap:=h',toks:=s10.toks }:=I12.pins_of fun p hp=>by
     have hp':p=_:=List.mem_singleton.mp hp
     subst hp'
     exact ⟨hk',pin11.2.1,pin11.2.2.1,pin11.2.2.2.1,fun v z=>by cases z⟩
    refine ⟨m',hm,i+1,ys ++ [y],H10,its ++ [v],k',I13,rv.append (.cons r10 .nil),?_,f10,w'⟩
    exact T.keep _ _ _ k10 fun b hb o e=>(sb.2 b (Nat.ne_of_lt (fpLt b hb))).trans e
 exact codeAny_compStart_list loop (T.self _ 0 _ _ _ (T.keep _ _ _ st2 fun b _ o e=>k34 b o (k23 b o e)) loop)
theorem Wh {wi:TI} (S:ZJ X.N X.env.scope scope Ls Fs fi) (hc:X.calm=true) (hi:PI X tg iter wi)
  (hb:∀cl C s3 H3 ex,PG (blk X scope (Ls++Fs) cl C s3 H3 ex) tg g/\PTs (blk X scope (Ls++Fs) cl C s3 H3 ex) ifs tc/\PE (blk X scope (Ls++Fs) cl C s3 H3 ex) elt te)
  (hs:∀x,foldedSetIterable iter X.env x=pure x:=by intro _;rfl):PE X (.ListComp elt [⟨tg,iter,ifs,0⟩] scope pos) (tLc Ls.length fi wi g tc te):=by
 intro pins s σ H Q I h
 rw [eval_ListComp]
 obtain ⟨cl,hcl,hcl1,hcl2⟩:=ZcN (scope:=scope) (env:=X.env) fun y hy hf=>I.ok.has y.1 (S.all y hy hf)
 refine wpAny_comprehension_free (use:=none) rfl hs hcl S.kind S.names (wpAny_mono (hi pins s σ H _ I h) (fun v s1 h1=>wpAny_mono h1 (fun itv s2 h2=>?_) fun _ _ e=>e) fun _ _ e=>e)
 obtain ⟨it,fp,tn,J,H2,e,I2,T,st2,f2,hW⟩:=h2
 subst e
 refine ZbM (RR:=fun acc C=>compPost (model X.prog X.w) X.A X.xe none (EP X pins σ Q) acc C) S (hb cl) hcl1 hcl2 I2 (fun C s3 H3 ex=>Turn.at (X:=blk X scope (Ls++Fs) cl C s3 H3 ex) T hc) st2 f2 hW fun D C H' s' m I' q hn f=>?_
 obtain ⟨f0,f1,f2,f3,f4,f5⟩:=f
 exact ⟨m,hn,fun h' hs'=>⟨.ref D,H',I'.turned (it:=C) (t':=s'.toks) (fun b o hb e=>(hs'.2 b hb).trans e) f0 f1 f3 f4 f5,rfl,q⟩⟩
theorem Zbe {wi:TI}{i:Nat}{x:Str}{pos' spos:Pos} (hN:X.N.Nodup) (hi':X.N[i]? = some x) (hx:Loc X.env.scope x) (S:ZJ X.N X.env.scope scope Ls Fs fi) (hc:X.calm=true) (hi:PI X tg iter wi)
  (hb:∀cl C s3 H3 ex,PG (blk X scope (Ls++Fs) cl C s3 H3 ex) tg g/\PTs (blk X scope (Ls++Fs) cl C s3 H3 ex) ifs tc/\PE (blk X scope (Ls++Fs) cl C s3 H3 ex) elt te)
  (hsw:swapsWith (.ListComp elt [⟨tg,iter,ifs,0⟩] scope pos) (some (.Name x pos')) spos.line X.env=pure true:=by rfl)
  (hs:∀x,foldedSetIterable iter X.env x=pure x:=by intro _;rfl) (hf:X.fn x=true∨X.env.scope.names.lookup x=some .local:=by first | exact .inl rfl | exact .inr rfl | assumption):
  PS X (.Assign [.Name x pos'] (.ListComp elt [⟨tg,iter,ifs,0⟩] scope pos) spos) (Zj6 (tLc Ls.length fi wi g tc te) (Jf i)):=by
 intro pins s σ H D' I h
 rw [exec_Assign_Name_used _ _ _ _ hsw]
 obtain ⟨cl,hcl,hcl1,hcl2⟩:=ZcN (scope:=scope) (env:=X.env) fun y hy hf=>I.ok.has y.1 (S.all y hy hf)
 refine wpAny_bind (wpAny_standAt (wpAny_bind ?_))
 show wpAny _ X.A (do let _ <- comprehension (.ListComp elt [⟨tg,iter,ifs,0⟩] scope pos) scope X.env _ (newList []) false (eval iter X.env) (some (assign (.Name x pos') X.env))) _ _ s
 refine wpAny_bind (wpAny_mono (wpAny_comprehension_free (use:=some (assign (.Name x pos') X.env)) (Q:=fun _ s'=>SP X pins D' .next s') rfl hs hcl S.kind S.names
  (wpAny_mono (hi pins s σ H _ I h) (fun v s1 h1=>wpAny_mono h1 (fun itv s2 h2=>?_) fun _ _ e=>e) fun _ _ e=>e)) (fun _ s' hq=>wpAny_pure (wpAny_pure hq)) fun _ _ e=>e)
 obtain ⟨it,fp,tn,J,H2,e,I2,T,st2,f2,hW⟩:=h2
 subst e
 refine ZbM (RR:=fun acc C=>compPost (model X.prog X.w) X.A X.xe (some (assign (.Name x pos') X.env)) (fun _ s'=>SP X pins D' .next s') acc C) (Q:=fun x H1=>Jf i x σ H1 D'.nx) S (hb cl) hcl1 hcl2 I2 (fun C s3 H3 ex=>Turn.at (X:=blk X scope (Ls++Fs) cl C s3 H3 ex) T hc) st2 f2 hW fun D C H' s' m I' q hn f=>?_
 obtain ⟨f0,f1,f2,f3,f4,f5⟩:=f
 show wpAny _ X.A (assign (.Name x pos') X.env (.ref D)) _ _ _
 refine wpAny_assign_Name (Zap I' hN hi' hx (v:=.ref D) rfl (fun s'' I'' hch=>?_) hf)
 obtain ⟨a,sb,ha⟩:=hch
 have hCa:C≠a:=by
  rcases ha with z | z
  ·rw [z];exact f1
  ·exact (f4 x a z).symm
 exact ⟨m,hn.sameBut sb hCa,fun h' hs'=>⟨_,H',I''.turned (it:=C) (t':=s''.toks) (fun b o hb e=>(hs'.2 b hb).trans e) f0 f1 f3 f4 f5,q⟩⟩
end
end L2
namespace L2
open PySem PySem.Spec PyProof.Rows PyProof.V
def Ite (K:PySem.W.Frag) (a:Addr):It:=
 ⟨fun i H=>∃xs x,Zp K H a xs/\xs[i]? = some x,fun i H v H'=>∃p x,v = .ref p/\H p=none/\H'=upd H p (.tup [.int i,x]) /\ ∀xs,Zp K H a xs->xs[i]? = some x,fun i H=>∃xs,Zp K H a xs/\xs.length<=i⟩
theorem ZgT {P:Program}{w:World}{K:PySem.W.Frag}{es:List Expr}{k:Nat}{pos:Pos} (a e it:Addr) (hei:e≠it):
  Turn P w K (.Tuple es k pos) (Ite K a) [e,it] e (fun i h=>(∃old,IsEnum h e it i old)/\h.IsListIter it a i) where
 mem:=by simp
 obj:=fun i h st b hb=>by
  obtain ⟨⟨old,he⟩,o,ho,c,d⟩:=st
  rcases List.mem_cons.mp hb with z | z
  ·subst z
   exact ⟨_,he,fun v z=>by
    have z':Data.fields _=Data.cell v:=z
    cases z'⟩
  ·have z':b=it:=by simpa using z
   subst z'
   exact ⟨o,ho,fun v z=>by rw [d] at z;cases z⟩
 keep:=fun i h h' st k=>by
  obtain ⟨⟨old,he⟩,hi⟩:=st
  exact ⟨⟨old,k e (by simp) _ he⟩,hi.at fun o x=>k it (by simp) o x⟩
 item:=by
  intro X hP hw hK hc i pins s σ H E I hf st hg
  subst hP hw hK
  obtain ⟨xs,x,hq,hx⟩:=hg
  obtain ⟨its,rv,p,hz⟩:=I.list hq
  obtain ⟨u,hu,ru⟩:=rv.get hx
  obtain ⟨⟨old,he⟩,hi⟩:=st
  obtain ⟨e0,e1,e2,e3,e4,e5⟩:=hf e (by simp)
  obtain ⟨f0,f1,f2,f3,f4,f5⟩:=hf it (by simp)
  refine wpAny_pyNext_enum_item he hi p.isList (x:=u) (by simpa using hu) hei fun h' ho hit ht hsz kk=>⟨_,rfl,?_⟩
  refine wpAny_letOwnedTupleGo_enum (s:={ s with heap:=h',toks:=s.toks+1 }) ho fun h'' he'' hs''=>?_
  have Tn:@LT.lt Nat _ e s.heap.objs.size:=aLt he
  have kk2:∀b o,b≠e->b≠it->s.heap.get? b=some o->h''.get? b=some o:=fun b o h1 h2 q=>(hs''.2 b h1).trans (kk b o h1 h2 q)
  have nne:∀b u,H b=some u->b≠e/\b≠it:=fun b u q=>⟨fun z=>by (rw [z,e0] at q;cases q),fun z=>by (rw [z,f0] at q;cases q)⟩
  have fr:H s.heap.objs.size=none:=I.hok.fresh (Nat.le_refl _)
  have hT:h''.get? s.heap.objs.size=some { cls:=.type "tuple", data:=.seq #[.int i s.toks,u] }:=(hs''.2 _ (Nat.ne_of_gt Tn)).trans ht
  have nT:∀b o,s.heap.get? b=some o->b≠s.heap.objs.size:=fun b o q=>Nat.ne_of_lt (aLt q)
  have ok':Wy X.prog X.w (upd H s.heap.objs.size (.tup [.int i,x])) h'':=fun b o q=>by
   by_cases hb:b=s.heap.objs.size
   ·subst hb
    rw [Zb] at q
    cases q
    exact ⟨show 2<=sizeLine by decide,[.int i s.toks,u],.cons ⟨_,rfl⟩ (.cons ru .nil),⟨_,hT,rfl,_,rfl⟩⟩
   ·rw [Zj hb] at q
    refine (I.hok b o q).stay (fun c v hc r=>?_) (fun c r=>by rw [Zj (Zg r fr)];exact r) fun c xs r=>by rw [Zj (Zg r fr)];exact r
    rcases hc with z | z
    ·subst z
     exact kk2 c v (nne c o q).1 (nne c o q).2 r
    ·exact kk2 c v (nne c _ z).1 (nne c _ z).2 r
  have I1:Inv X pins σ (upd H s.heap.objs.size (.tup [.int i,x])) { s with heap:=h'',gens:=s.gens,drawn:=s.drawn,toks:=s.toks+1 }:=by
   refine I.step (ch:=[e,it]) (fun b hb=>?_) (fun b o _ _ hc q _=>kk2 b o (fun z=>hc (by simp [z])) (fun z=>hc (by simp [z])) q) (fun b o _ _ hc q _=>⟨o.slots,kk2 b o (fun z=>hc (by simp [z])) (fun z=>hc (by simp [z])) q⟩)
    (fun b o _ q n=>by rw [Zj (nT b o q)];exact n) (fun b o hc q=>⟨o,kk2 b o (fun z=>hc (by simp [z])) (fun z=>hc (by simp [z])) q⟩) (fun b xs q=>by rw [Zj (Zg q fr)];exact q) (fun b o u q=>by rw [Zj (Zg q fr)];exact q)
    (fun b ps q=>⟨#[],by rw [Zj (Zg q fr),q];simp⟩) (fun m hm=>?_) ok' I.bare
   ·rcases List.mem_cons.mp hb with z | z
    ·subst z;exact ⟨e3,e1,e4,e5⟩
    ·have z':b=it:=by simpa using z
     subst z';exact ⟨f3,f1,f4,f5⟩
   ·obtain ⟨o,es,ep,ho,r⟩:=hm
    exact ⟨o,es,ep,kk2 _ o (Ne.symm e1) (Ne.symm f1) ho,r⟩
  refine ⟨.ref s.heap.objs.size,_,I1,rfl,⟨s.heap.objs.size,x,rfl,fr,rfl,fun ys hy=>by rw [I.list_inj hy hq];exact hx⟩,⟨⟨_,by simpa using he''⟩,hit.at fun o q=>(hs''.2 it (Ne.symm hei)).trans q⟩,fun b hb=>?_⟩
  have hbo:∃o,s.heap.get? b=some o:=by
   rcases List.mem_cons.mp hb with z | z
   ·subst z;exact ⟨_,he⟩
   ·have z':b=it:=by simpa using z
    subst z'
    obtain ⟨o,ho,_⟩:=hi
    exact ⟨o,ho⟩
  obtain ⟨o,hbo⟩:=hbo
  rw [Zj (nT b o hbo)]
  exact (hf b hb).1
 done:=by
  intro X hP hw hK hc i pins s σ H E I hf st hg
  subst hP hw hK
  obtain ⟨xs,hq,hx⟩:=hg
  obtain ⟨its,rv,p,hz⟩:=I.list hq
  obtain ⟨⟨old,he⟩,hi⟩:=st
  obtain ⟨f0,f1,f2,f3,f4,f5⟩:=hf it (by simp)
  have hl:=rv.length
  exact wpAny_pyNext_enum_end (I.ok.hd hc) he hi p.isList (by simp;lia) fun h' eb=>⟨rfl,I.turned (t':=s.toks) (fun b o hb e=>eb b o hb e) f0 f1 f3 f4 f5⟩
 self:=fun _ _ _ _ _ st h=>by
  obtain ⟨⟨old,he⟩,_⟩:=st
  exact wpAny_pyIter_enum he h
section
variable {X:Cx}
def ZkG (K:PySem.W.Frag) (ta:TA):TI:=fun σ H R=>ta σ H fun vs H1=>∃a,vs = [.ref a]/\(∃xs,Zp K H1 a xs)/\R (Ite K a) H1
theorem ZjJ {a:Expr}{ta:TA}{p pos tpos:Pos}{es:List Expr}{k:Nat} (hg:Gl X "enumerate") (hm:X.mg "enumerate" = none) (ha:PA X [a] ta) (hs:starEach [a] X.env = [(false,eval a X.env)]:=by rfl):
  PI X (.Tuple es k tpos) (.Call (.Name "enumerate" p) [a] [] pos) (ZkG X.K ta):=by
 intro pins s σ H R I h
 refine Call_ (Wq I hg hm boot_enumerate (PyProof.Rows.callWith_type1 (Yq (ha pos pins s σ H _ I h) fun us s1 ⟨vs,H1,I1,r1,q1⟩=>?_) hs rfl))
 obtain ⟨l,e,⟨xs,hq⟩,q⟩:=q1
 subst e
 cases r1 with
 | cons r rr=>
  cases rr
  cases r
  obtain ⟨its,rv,pl,hz⟩:=I1.list hq
  refine call_enumerate_list pl.isList fun h' he hi hsz kk=>?_
  have I2:Inv X pins σ H1 { s1 with heap:=h' }:=I1.kept (t':=s1.toks) kk
  refine wpAny_pyIter_enum (s:={ s1 with heap:=h' }) he ?_
  refine ⟨_,[s1.heap.objs.size+1,s1.heap.objs.size],_,_,H1,rfl,I2,ZgT l _ _ (Nat.succ_ne_self _),⟨⟨_,he⟩,hi⟩,fun b hb=>?_,q⟩
  have hb':s1.heap.objs.size<=b:=by
   rcases List.mem_cons.mp hb with z | z
   ·subst z;exact Nat.le_succ _
   ·have z':b=s1.heap.objs.size:=by simpa using z
    subst z';exact Nat.le_refl _
  exact I1.fpOk hb' (I1.hok.fresh hb')
end
section
variable {X:Cx}
theorem range_all (bs:List Bool):(List.range bs.length).all (fun i=>bs.getD i false)=bs.all id:=by
 rw [Bool.eq_iff_iff,List.all_eq_true,List.all_eq_true]
 constructor
 ·intro h b hb
  obtain ⟨i,hi,rfl⟩:=List.mem_iff_getElem.mp hb
  have:=h i (List.mem_range.mpr hi)
  simpa [hi] using this
 ·intro h i hi
  have hi':i<bs.length:=List.mem_range.mp hi
  have:=h bs[i] (List.getElem_mem hi')
  simpa [hi'] using this
theorem Zh0 (hc:X.calm=true):Ja X (.builtin "all") (fun xs H Q=>∃(p:Addr) (bs:List Bool),xs = [.ref p]/\Zp X.K H p (bs.map V.bl)/\Q (.bl (bs.all id)) H):=by
 intro pins s σ H xs us Q I r h
 obtain ⟨p,bs,rfl,hq,q⟩:=h
 obtain ⟨u,rfl,ru⟩:=r.one
 cases ru
 obtain ⟨its,rv,pl,hz⟩:=I.list hq
 have hlen:bs.length=its.length:=by simpa using rv.length
 have hh:X.A.in1.handled=none:=I.ok.hd hc
 have hp:p<s.heap.objs.size:=by
  obtain ⟨o,ho,_⟩:=pl.isList
  exact Heap.lt_size ho
 refine call_all_walk (wpAny_pyIter_list pl.isList ?_)
 refine ⟨s.heap.objs.size,_,_,_,_,_,fun i=>bs.getD i false,rfl,Walks.list hh s.heap.objs.size p (Nat.ne_of_lt hp) its.toArray,⟨⟨_,Heap.get?_push_size _ rfl,rfl,rfl⟩,?_⟩,fun i v s2 Q2 E2 hv hq2=>?_,fun h' tk kk=>?_⟩
 ·obtain ⟨o,ho,r⟩:=pl.isList
  exact ⟨o,Heap.get?_push_of_some _ ho,r⟩
 ·have hv':its[i]? = some v:=by simpa using hv
  have hi:i<bs.length:=by rw [hlen];exact (List.getElem?_eq_some_iff.mp hv').1
  obtain ⟨w,hw,rw'⟩:=rv.get (i:=i) (x:=.bl bs[i]) (by simp [hi])
  rw [hv'] at hw
  cases hw
  cases rw'
  refine wpAny_truthy_bool ?_
  have e:bs.getD i false=bs[i]:=by simp [hi]
  rw [<- e]
  exact hq2
 ·have hk:∀b o,s.heap.get? b=some o->h'.get? b=some o:=fun b o e=>kk b o (fun z=>by
   have z':b=s.heap.objs.size:=by simpa using z
   exact Nat.lt_irrefl _ (z' ▸ Heap.lt_size e)) (Heap.get?_push_of_some _ e)
  refine ⟨.bl (bs.all id),H,I.kept (t':=tk) hk,?_,q⟩
  have e:its.toArray.size=bs.length:=by rw [List.size_toArray,hlen]
  rw [e,range_all]
  rfl
theorem UW:∀{ns:List Int}{vs:List Value},Vals (ns.map V.int) vs->IntsAre vs ns
 | [],_,r=>by cases r;exact .nil
 | n::ns,_,r=>by
  cases r with
  | cons r rr=>
   obtain ⟨t,rfl⟩:=r
   exact .cons n t (UW rr)
def Zh6 (K:PySem.W.Frag):V->List V->Hp->VK->Prop:=fun x vs H Q=>∃(l:Addr) (xs:List V) (y:V),x = .ref l/\vs = [y]/\Zp K H l xs/\Wx y=true/\xs.all Wx=true/\Q (.int (xs.countP fun z=>eqV z y)) H
theorem Zbm {x:V}:∀{xs:List V}{us:List Value},Vals xs us->xs.all Wx=true->us.countP (eqU x)=xs.countP fun y=>eqV y x
 | _,_,.nil,_=>rfl
 | _,_,.cons r rr,h=>by
  rw [List.all_cons,Bool.and_eq_true] at h
  rw [List.countP_cons,List.countP_cons,Zbm rr h.2,ZhS r h.1]
theorem Zio:MtM X "list.count" (Zh6 X.K):=by
 intro pins s σ H x vs v us Q I rx rv h
 obtain ⟨l,xs,y,rfl,rfl,hq,fy,fx,q⟩:=h
 cases rx
 obtain ⟨u,rfl,ru⟩:=rv.one
 obtain ⟨its,r,pl,hz⟩:=I.list hq
 obtain ⟨⟨c,dd,dt,sl⟩,ho,hc,n,hd⟩:=pl.isList
 simp only at hc hd
 subst hc hd
 refine call_meets F.slot_list_count ⟨_,ho,rfl⟩ F.entry_list_count (F.args_list_count_2 _ _) (SeqAt.list_countAt l its.toArray n dd sl u (eqU y)) ⟨ho,fun w hw=>Zef ru fy r fx w (by simpa using hw),?_⟩
 refine ⟨.int _,H,I.tok _,⟨_,rfl⟩,?_⟩
 rw [show its.toArray.toList=its by simp,Zbm r fx]
 exact q
end
inductive Eqv (K:PySem.W.Frag) (H:Hp):Nat->V->V->Prop
 | flat {n:Nat}{x:V}:Wx x=true->Eqv K H n x x
 | same {n:Nat}{a:Addr}:Eqv K H n (.ref a) (.ref a)
 | lst {n:Nat}{a b:Addr}{xs ys:List V}:Zp K H a xs->Zp K H b ys->xs.length=ys.length->(∀(i:Nat) (x y:V),xs[i]? = some x->ys[i]? = some y->Eqv K H n x y)->Eqv K H (n+1) (.ref a) (.ref b)
 | tup {n:Nat}{a b:Addr}{xs ys:List V}:Gh K H a xs->Gh K H b ys->xs.length=ys.length->(∀(i:Nat) (x y:V),xs[i]? = some x->ys[i]? = some y->Eqv K H n x y)->Eqv K H (n+1) (.ref a) (.ref b)
theorem all_true (n:Nat):((List.range n).all fun _=>true)=true:=by rw [List.all_eq_true];intro _ _;rfl
theorem Zi0 {x:V} (h:Wx x=true):eqV x x=true:=by
 cases x<;>simp_all [eqV,Wx]
theorem Eqv.at {X:Cx}{pins:List (Addr×Obj)} {σ:St}{H:Hp}{s:Shared} (I:Inv X pins σ H s):∀{n:Nat}{x y:V}{u v:Value}{A:Around},Eqv X.K H n x y->RelV x u->RelV y v->A.units+n<cLine->SeqAt.EqAt A s u v true:=by
 intro n x y u v A h
 induction h generalizing u v A with
 | flat f=>
  intro ru rv _
  have:=ZiH (A:=A) (s:=s) ru rv f f
  rw [Zi0 f] at this
  exact this
 | same=>
  intro ru rv _
  cases ru
  cases rv
  exact SeqAt.EqAt.same _
 | @lst n a b xs ys ha hb hl _ ih=>
  intro ru rv hu
  cases ru
  cases rv
  by_cases e:a=b
  ·subst e;exact SeqAt.EqAt.same _
  ·obtain ⟨its,r1,p1,_⟩:=I.list ha
   obtain ⟨its2,r2,p2,_⟩:=I.list hb
   have l1:=r1.length
   have l2:=r2.length
   refine SeqAt.EqAt.of_refs e ?_
   have q:=SeqAt.RcAt.lists (A:=A) (e:=fun _=>true) p1.isList p2.isList (by simp only [List.size_toArray];lia) (by lia) fun j h1 h2=>by
    simp only [List.size_toArray] at h1 h2
    obtain ⟨u1,e1,s1⟩:=r1.get (i:=j) (x:=xs[j]'(by lia)) (by simp)
    obtain ⟨u2,e2,s2⟩:=r2.get (i:=j) (x:=ys[j]'(by lia)) (by simp)
    have z1:its.toArray[j]=u1:=by
     have:its[j]? = some its[j]:=by simp [h1]
     rw [this] at e1
     simpa using Option.some.inj e1
    have z2:its2.toArray[j]=u2:=by
     have:its2[j]? = some its2[j]:=by simp [h2]
     rw [this] at e2
     simpa using Option.some.inj e2
    rw [z1,z2]
    exact ih j _ _ (by simp) (by simp) s1 s2 (by show A.units+1+n<cLine;lia)
   rw [all_true] at q
   exact q
 | @tup n a b xs ys ha hb hl _ ih=>
  intro ru rv hu
  cases ru
  cases rv
  by_cases e:a=b
  ·subst e;exact SeqAt.EqAt.same _
  ·obtain ⟨its,r1,p1,_⟩:=I.tuple ha
   obtain ⟨its2,r2,p2,_⟩:=I.tuple hb
   have l1:=r1.length
   have l2:=r2.length
   refine SeqAt.EqAt.of_refs e ?_
   have q:=SeqAt.RcAt.tuples (A:=A) (s:=s) (l:=a) (b:=b) (items:=its.toArray) (items2:=its2.toArray) (e:=fun _=>true) p1 p2 (by lia) fun j h1 h2=>by
    simp only [List.size_toArray] at h1 h2
    obtain ⟨u1,e1,s1⟩:=r1.get (i:=j) (x:=xs[j]'(by lia)) (by simp)
    obtain ⟨u2,e2,s2⟩:=r2.get (i:=j) (x:=ys[j]'(by lia)) (by simp)
    have z1:its.toArray[j]=u1:=by
     have:its[j]? = some its[j]:=by simp [h1]
     rw [this] at e1
     simpa using Option.some.inj e1
    have z2:its2.toArray[j]=u2:=by
     have:its2[j]? = some its2[j]:=by simp [h2]
     rw [this] at e2
     simpa using Option.some.inj e2
    rw [z1,z2]
    exact ih j _ _ (by simp) (by simp) s1 s2 (by show A.units+1+n<cLine;lia)
   have e3:(its.toArray.size==its2.toArray.size)=true:=by
    rw [beq_iff_eq];simp only [List.size_toArray];lia
   rw [e3,all_true] at q
   exact q
section
variable {X:Cx}
def Zmj (K:PySem.W.Frag) (b:Bool):R2:=fun x y H Q=>∃(p q:Addr) (xs ys:List V),x = .ref p/\y = .ref q/\Zp K H p xs/\Zp K H q ys/\xs.length=ys.length/\(∀(i:Nat) (x y:V),xs[i]? = some x->ys[i]? = some y->Eqv K H 60 x y)/\Q (.bl b) H
theorem ZgA {pins:List (Addr×Obj)} {σ:St}{H:Hp}{s:Shared}{xs ys:List V}{its its2:List Value}{A:Around} (I:Inv X pins σ H s) (r1:Vals xs its) (r2:Vals ys its2) (hl:xs.length=ys.length) (h:∀(i:Nat) (x y:V),xs[i]? = some x->ys[i]? = some y->Eqv X.K H 60 x y) (hu:A.units+62<cLine):
  ∀j (h1:j<its.toArray.size) (h2:j<its2.toArray.size),SeqAt.EqAt A.in1 s its.toArray[j] its2.toArray[j] ((fun _=>true) j):=fun j h1 h2=>by
 have l1:=r1.length
 have l2:=r2.length
 simp only [List.size_toArray] at h1 h2
 obtain ⟨u1,e1,s1⟩:=r1.get (i:=j) (x:=xs[j]'(by lia)) (by simp)
 obtain ⟨u2,e2,s2⟩:=r2.get (i:=j) (x:=ys[j]'(by lia)) (by simp)
 have z1:its.toArray[j]=u1:=by
  have:its[j]? = some its[j]:=by simp [h1]
  rw [this] at e1
  simpa using Option.some.inj e1
 have z2:its2.toArray[j]=u2:=by
  have:its2[j]? = some its2[j]:=by simp [h2]
  rw [this] at e2
  simpa using Option.some.inj e2
 rw [z1,z2]
 exact Eqv.at I (h j _ _ (by simp) (by simp)) s1 s2 (by show A.units+1+60<cLine;lia)
theorem ZlC (hu:X.A.units+64<cLine):OpR X (compareOp .NotEq) (Zmj X.K false):=by
 intro pins s σ H x y v u Q I rx ry h
 obtain ⟨p,q,xs,ys,rfl,rfl,hp,hq,hl,he,hQ⟩:=h
 cases rx
 cases ry
 obtain ⟨its,r1,p1,_⟩:=I.list hp
 obtain ⟨its2,r2,p2,_⟩:=I.list hq
 have l1:=r1.length
 have l2:=r2.length
 refine SeqAt.RcNeAt.lists (e:=fun _=>true) p1.isList p2.isList (by simp only [List.size_toArray];lia) (by lia) (ZgA I r1 r2 hl he (by lia)) X.prog X.w _ _ ⟨.bl false,H,I,?_,hQ⟩
 show Value.bool _=Value.bool false
 simp
theorem Zk {K:PySem.W.Frag} (h:X.K=K):IxR X (Zj9 K):=h ▸ Zjq
theorem Za3 {K:PySem.W.Frag} (h:X.K=K):IxR X (ZmY K):=h ▸ ZlY
theorem YU {K:PySem.W.Frag} (h:X.K=K):SlR X (Zmy K):=h ▸ Zku
theorem GV {K:PySem.W.Frag} (h:X.K=K):MtM X "list.count" (Zh6 K):=h ▸ Zio
theorem Zjf {K:PySem.W.Frag} (h:X.K=K) (hu:X.A.units+64<cLine):OpR X (compareOp .NotEq) (Zmj K false):=h ▸ ZlC hu
theorem Yb {K:PySem.W.Frag} (h:X.K=K):Ja X (.builtin "len") (fun xs H Q=>∃p ys,xs = [.ref p]/\(Zp K H p ys∨Gh K H p ys)/\Q (.int ys.length) H):=h ▸ Zdo
theorem Zg4 {K:PySem.W.Frag} (h:X.K=K) (hc:X.calm=true):Ja X (.builtin "all") (fun xs H Q=>∃(p:Addr) (bs:List Bool),xs = [.ref p]/\Zp K H p (bs.map V.bl)/\Q (.bl (bs.all id)) H):=h ▸ Zh0 hc
theorem ZbK {K:PySem.W.Frag} (h:X.K=K):Ja X (.type "list") (fun xs H Q=>∃p ys,xs = [.ref p]/\(Zp K H p ys∨Gh K H p ys) /\ ∀l,H l=none->Q (.ref l) (upd H l (.lst ys))):=h ▸ Zda
theorem WM {K:PySem.W.Frag}{es:List Expr}{k:Nat}{t:TGs}{n:Nat}{pos:Pos} (hk:X.K=K) (hc:X.calm=true) (h:PGs X es t) (hn:(assignEach es X.env).length=n:=by rfl) (hst:(assignEach es X.env).findIdx? (·.1)=none:=by rfl):PG X (.Tuple es k pos) (ZmA K n t):=hk ▸ Zlz hc h hn hst
theorem Jo {K:PySem.W.Frag}{T:String}{name:Str}{r:V->List V->Hp->VK->Prop}{o e:Expr}{es:List Expr}{to:TE}{t:TA}{apos pos:Pos} (hk:X.K=K) (h:PE X (.Call (.Attribute o name apos) (e::es) [] pos) (tBM X.K T r to t)):PE X (.Call (.Attribute o name apos) (e::es) [] pos) (tBM K T r to t):=hk ▸ h
theorem Zko {K:PySem.W.Frag}{T:String}{name:Str}{r:V->List V->Hp->VK->Prop}{o:Expr}{to:TE}{apos pos:Pos} (hk:X.K=K) (h:PE X (.Call (.Attribute o name apos) [] [] pos) (ZlI X.K T r to)):PE X (.Call (.Attribute o name apos) [] [] pos) (ZlI K T r to):=hk ▸ h
theorem ZM {K:PySem.W.Frag}{l tg:Expr}{tl:TE} (hk:X.K=K) (hl:PE X l tl):PI X tg l (ZkB K tl):=hk ▸ ZjK hl
theorem Zbo {K:PySem.W.Frag}{a:Expr}{ta:TA}{p pos tpos:Pos}{es:List Expr}{k:Nat} (hk:X.K=K) (hg:Gl X "enumerate") (hm:X.mg "enumerate" = none) (ha:PA X [a] ta) (hs:starEach [a] X.env = [(false,eval a X.env)]:=by rfl):
  PI X (.Tuple es k tpos) (.Call (.Name "enumerate" p) [a] [] pos) (ZkG K ta):=hk ▸ ZjJ hg hm ha hs
end
section
variable {g:TG}{tc:TT}{te:TE} {σ:St}{H:Hp}{Q:VK}{K:PySem.W.Frag}{a:Addr}{xs:List V}
theorem ZbE {J:It}{n:Nat} (hn:n<=sizeLine) (Pv:Nat->List V->Hp->Prop) (h0:Pv 0 [] H) (hlen:∀i ys H,Pv i ys H->ys.length<=i) (go:∀i ys H,i<n->Pv i ys H->J.go i H) (stop:∀ys H,Pv n ys H->J.stop n H)
  (hs:∀i ys H,i<n->Pv i ys H -> ∀x H',J.yld i H x H'->g x σ H' fun σ2 H2=>tc σ2 H2 fun b H3=>if b=true then te σ2 H3 fun y H4=>Pv (i+1) (ys ++ [y]) H4 else Pv (i+1) ys H3)
  (hd:∀ys H,Pv n ys H -> ∀D,H D=none->Q (.ref D) (upd H D (.lst ys))):LcW J σ g tc te H Q:=by
 unfold LcW
 refine ⟨fun i m ys H=>m=n-i/\i<=n/\Pv i ys H,⟨n,by simp,Nat.zero_le _,h0⟩,?_⟩
 rintro i m ys H ⟨rfl,hi,p⟩
 have hy:=hlen i ys H p
 by_cases hlt:i<n
 ·exact .inr ⟨go i ys H hlt p,by lia,Pv (i+1),fun ys' H' h2=>⟨n-(i+1),by lia,rfl,hlt,h2⟩,fun x H' y=>hs i ys H hlt p x H' y⟩
 ·have e:i=n:=by lia
  subst e
  exact .inl ⟨stop ys H p,by lia,hd ys H p⟩
theorem YM (hn:xs.length<=sizeLine) (Pv:Nat->List V->Hp->Prop) (h0:Pv 0 [] H) (hlen:∀i ys H,Pv i ys H->ys.length<=i) (hS:∀i ys H,Pv i ys H->Zp K H a xs)
  (hs:∀i x ys H,xs[i]? = some x->Pv i ys H->g x σ H fun σ2 H2=>tc σ2 H2 fun b H3=>if b=true then te σ2 H3 fun y H4=>Pv (i+1) (ys ++ [y]) H4 else Pv (i+1) ys H3)
  (hd:∀ys H,Pv xs.length ys H -> ∀D,H D=none->Q (.ref D) (upd H D (.lst ys))):LcW (Itl K a) σ g tc te H Q:=
 ZbE hn Pv h0 hlen (fun i ys H hi p=>⟨xs,xs[i],hS i ys H p,by simp [hi]⟩) (fun ys H p=>⟨xs,hS _ ys H p,Nat.le_refl _⟩) (fun i ys H hi p x H' y=>by
  obtain ⟨e,y⟩:=y
  subst e
  exact hs i x ys _ (y xs (hS i ys _ p)) p) hd
theorem ZbL {lo:Int}{n:Nat} (hn:n<=sizeLine) (Pv:Nat->List V->Hp->Prop) (h0:Pv 0 [] H) (hlen:∀i ys H,Pv i ys H->ys.length<=i)
  (hs:∀i ys H,i<n->Pv i ys H->g (.int (lo+i)) σ H fun σ2 H2=>tc σ2 H2 fun b H3=>if b=true then te σ2 H3 fun y H4=>Pv (i+1) (ys ++ [y]) H4 else Pv (i+1) ys H3)
  (hd:∀ys H,Pv n ys H -> ∀D,H D=none->Q (.ref D) (upd H D (.lst ys))):LcW (Itr lo n) σ g tc te H Q:=
 ZbE hn Pv h0 hlen (fun i ys H hi p=>hi) (fun ys H p=>Nat.le_refl _) (fun i ys H hi p x H' y=>by
  obtain ⟨e,y⟩:=y
  subst e y
  exact hs i ys _ hi p) hd
theorem Zg8 (hn:xs.length<=sizeLine) (Pv:Nat->List V->Hp->Prop) (h0:Pv 0 [] H) (hlen:∀i ys H,Pv i ys H->ys.length<=i) (hS:∀i ys H,Pv i ys H->Zp K H a xs)
  (hs:∀i x p ys H,xs[i]? = some x->Pv i ys H->H p=none->g (.ref p) σ (upd H p (.tup [.int i,x])) fun σ2 H2=>tc σ2 H2 fun b H3=>if b=true then te σ2 H3 fun y H4=>Pv (i+1) (ys ++ [y]) H4 else Pv (i+1) ys H3)
  (hd:∀ys H,Pv xs.length ys H -> ∀D,H D=none->Q (.ref D) (upd H D (.lst ys))):LcW (Ite K a) σ g tc te H Q:=
 ZbE hn Pv h0 hlen (fun i ys H hi p=>⟨xs,xs[i],hS i ys H p,by simp [hi]⟩) (fun ys H p=>⟨xs,hS _ ys H p,Nat.le_refl _⟩) (fun i ys H hi p x H' y=>by
  obtain ⟨q,z,e1,e2,e3,y⟩:=y
  subst e1 e3
  exact hs i z q ys _ (y xs (hS i ys _ p)) p e2) hd
end
def Yi (N:List Str) (osc scope:Scope) (Fs:List Str) (fi:List Nat):Bool:=
 (scope.kind == .function)&&scope.names.all (fun y=>y.2 != .cell)&&scope.names.all (fun y=>y.2 != .local||scope.names.lookup y.1==some .local)&&Fs.all (fun x=>scope.names.lookup x==some .free) &&
  scope.names.all (fun y=>y.2 != .free||osc.names.lookup y.1==some .cell||osc.names.lookup y.1==some .free)&&(fi.map (fun i=>N[i]?)==Fs.map some)
theorem ZJ.of {N:List Str}{osc scope:Scope}{Ls Fs:List Str}{fi:List Nat} (h:Yi N osc scope Fs fi=true):ZJ N osc scope Ls Fs fi:=by
 simp only [Yi,Bool.and_eq_true,List.all_eq_true,Bool.or_eq_true,bne_iff_ne,beq_iff_eq] at h
 obtain ⟨⟨⟨⟨⟨h1,h2⟩,h3⟩,h4⟩,h5⟩,h6⟩:=h
 refine ⟨h1,h2,fun y hy hl=>(h3 y hy).elim (fun z=>absurd hl z) id,h4,fun y hy hf=>?_,h6⟩
 rcases h5 y hy with (z | z) | z
 ·exact absurd hf z
 ·exact .inl z
 ·exact .inr z
def JB (P:Program) (w:World) (K:PySem.W.Frag) (mg:Str->Option Value) (base:Heap) (k:Nat) (x:Str) (ps:List Str) (sp:Sp):Prop:=
 ∃(f:Addr) (fd:FuncData),Z6 P w K mg base WW k f fd ps sp/\mg x=some (.ref f)/\PySem.W.keepIn K (.ref f)=true/\Binds K fd ps []
theorem Zv {X:Cx}{j k:Nat}{x:Str}{ps:List Str}{sp:Sp}{p pos:Pos}{e:Expr}{es:List Expr}{t:TA} (h:JB X.prog X.w X.K X.mg X.base j x ps sp) (hr:Ji k X.A) (ha:PA X (e::es) t) (hj:j<=k:=by decide) (hg:Gl X x:=by rfl) (hdb:(x==("__debug__" : Str))=false:=by decide)
  (he:starEach (e::es) X.env=(false,eval e X.env)::starEach es X.env:=by rfl) (hpl:(backTo pos (starEach es X.env)).any (·.1)=false:=by rfl):PE X (.Call (.Name x p) (e::es) [] pos) (Zhi sp [] E0 t):=by
 obtain ⟨f,fd,G,hm,hk,hb⟩:=h
 exact ZfZ G (hr.mono hj) hg hm hk hb .nil ZhF ha hdb he hpl
def Yp (b:Addr) (H H':Hp):Prop:=∀c o,H c=some o->c≠b->H' c=some o
theorem Yp.refl (b:Addr) (H:Hp):Yp b H H:=fun _ _ h _=>h
theorem Yp.trans {b:Addr}{H H1 H2:Hp} (x:Yp b H H1) (y:Yp b H1 H2):Yp b H H2:=fun c o h n=>y c o (x c o h n) n
theorem Zd.frm {b:Addr}{H H':Hp} (x:Zd H H'):Yp b H H':=fun c o h _=>x c o h
theorem Zd.laid {H:Hp}{p:Addr}{o:HO} (h:H p=none):Zd H (upd H p o):=fun c u e=>by rw [Zj (Zg e h)];exact e
theorem Zd.step {H H':Hp}{p:Addr}{o:HO} (s:Zd H H') (h:H' p=none):Zd H (upd H' p o):=s.trans (.laid h)
theorem Yp.upd {b:Addr}{H:Hp}{o:HO}:Yp b H (upd H b o):=fun c u e n=>by rw [Zj n];exact e
theorem Yp.new {b p:Addr}{H H':Hp}{o:HO} (s:Yp b H H') (h:H' p=none):Yp b H (L2.upd H' p o):=s.trans (Zd.laid h).frm
theorem Zd.put {H H':Hp}{p:Addr}{o:HO} (s:Zd H H') (h:H p=none):Zd H (upd H' p o):=fun c u e=>by rw [Zj (Zg e h)];exact s c u e
def Ww (H:Hp) (b:Addr):Prop:=∃g r:Int,0<=g/\H b=some (.lst [.int g,.int r])
theorem Yp.free {b:Addr}{H H':Hp} (f:Yp b H H') (hb:Ww H' b) {p:Addr} (h:H' p=none):H p=none:=by
 cases q:H p with
 | none=>rfl
 | some o=>
  by_cases e:p=b
  ·subst e
   obtain ⟨g,r,_,z⟩:=hb
   rw [h] at z;cases z
  ·rw [f p o q e] at h;cases h
def Zu (H:Hp) (xs:List V) (ls:List (Str×Int)):Prop:=Paired (fun x (p:Str×Int)=>∃t,x=V.ref t/\H t=some (.tup [.str p.1,.int p.2])) xs ls
theorem Zu.mono {H H':Hp} (h:∀t p,H t=some (.tup p)->H' t=some (.tup p)):∀{xs:List V}{ls:List (Str×Int)},Zu H xs ls->Zu H' xs ls
 | _,_,.nil=>.nil
 | _,_,.cons ⟨t,e,q⟩ r=>.cons ⟨t,e,h t _ q⟩ (Zu.mono h r)
theorem Zu.same {H H':Hp} (s:Zd H H') {xs:List V}{ls:List (Str×Int)} (h:Zu H xs ls):Zu H' xs ls:=h.mono fun t p e=>s t _ e
theorem Zu.frm {b:Addr}{H H':Hp} (s:Yp b H H') (hb:Ww H b) {xs:List V}{ls:List (Str×Int)} (h:Zu H xs ls):Zu H' xs ls:=h.mono fun t p e=>s t _ e (fun z=>by
 obtain ⟨g,r,_,q⟩:=hb
 rw [z,q] at e;cases e)
theorem Zu.len {H:Hp}{xs:List V}{ls:List (Str×Int)} (h:Zu H xs ls):xs.length=ls.length:=Paired.length h
theorem Zu.get {H:Hp}:∀{xs:List V}{ls:List (Str×Int)}{i:Nat}{x:V},Zu H xs ls->xs[i]? = some x -> ∃p t,ls[i]? = some p/\x = .ref t/\H t=some (.tup [.str p.1,.int p.2])
 | _,_,_,_,.nil,e=>by simp at e
 | _,_,0,_,.cons ⟨t,e1,q⟩ _,e=>by simp at e;subst e;exact ⟨_,t,rfl,e1,q⟩
 | _,_,i+1,x,.cons _ r,e=>by
  obtain ⟨p,t,h1,h2⟩:=Zu.get (i:=i) (x:=x) r (by simpa using e)
  exact ⟨p,t,by simpa using h1,h2⟩
theorem Zu.snoc {H:Hp}{xs:List V}{ls:List (Str×Int)}{t:Addr}{x:Str}{k:Int} (h:Zu H xs ls) (e:H t=some (.tup [.str x,.int k])):Zu H (xs ++ [.ref t]) (ls ++ [(x,k)]):=Paired.snoc h ⟨t,rfl,e⟩
theorem Zu.append {H:Hp}:∀{xs ys:List V}{ls ms:List (Str×Int)},Zu H xs ls->Zu H ys ms->Zu H (xs++ys) (ls++ms)
 | _,_,_,_,.nil,s=>s
 | _,_,_,_,.cons r t,s=>.cons r (Zu.append t s)
inductive Wk:List (Str×Int)->Int->Prop
 | nil:Wk [] 0
 | born {ls:List (Str×Int)}{n k:Int}:Wk ls n->0<=k->k<=n->Wk (ls ++ [((("born" : Str),k):Str×Int)]) (n+2)
 | cross {ls:List (Str×Int)}{n k:Int}:Wk ls n->0<=k->k+1<n->Wk (ls ++ [((("cross" : Str),k):Str×Int)]) n
 | fin {ls:List (Str×Int)}{n k:Int}:Wk ls n->0<=k->k+1<n->Wk (ls ++ [((("end" : Str),k):Str×Int)]) (n-2)
def Kd (x:Str):Prop:=x = "born" ∨ x = "cross" ∨ x = "end"
theorem Wk.kd {ls:List (Str×Int)}{n:Int} (h:Wk ls n):∀p∈ls,Kd p.1:=by
 induction h with
 | nil=>intro p hp;cases hp
 | born _ _ _ ih=>intro p hp;rcases List.mem_append.mp hp with z | z;exact ih p z;rw [List.mem_singleton.mp z];exact .inl rfl
 | cross _ _ _ ih=>intro p hp;rcases List.mem_append.mp hp with z | z;exact ih p z;rw [List.mem_singleton.mp z];exact .inr (.inl rfl)
 | fin _ _ _ ih=>intro p hp;rcases List.mem_append.mp hp with z | z;exact ih p z;rw [List.mem_singleton.mp z];exact .inr (.inr rfl)
def Drw (H:Hp) (l:Addr) (ls:List (Str×Int)):Prop:=∃xs,H l=some (.lst xs)/\Zu H xs ls/\Wk ls 0/\ls.length<=60
def Ev (t:TT) (σ:St) (H:Hp) (β:Bool):Prop:=∀Q:Bool->Hp->Prop,Q β H->t σ H Q
theorem Zdg {t u:TT} {σ:St}{H:Hp} {β γ:Bool} (h1:Ev t σ H β) (h2:β = true->Ev u σ H γ):Ev (Zm0 t u) σ H (β && γ):=fun Q q=>h1 _ (by
 cases β with
 | true=>rw [if_pos rfl];exact h2 rfl _ q
 | false=>rw [if_neg Bool.false_ne_true];exact q)
theorem ZmX {t u:TT} {σ:St}{H:Hp} {β γ:Bool} (h1:Ev t σ H β) (h2:β = false->Ev u σ H γ):Ev (tOr t u) σ H (β || γ):=fun Q q=>h1 _ (by
 cases β with
 | true=>rw [if_pos rfl];exact q
 | false=>rw [if_neg Bool.false_ne_true];exact h2 rfl _ q)
theorem Zmf {t:TT} {σ:St}{H:Hp} {β:Bool}{T U:Hp->Prop} (h:Ev t σ H β) (h1:β = true->T H) (h2:β = false->U H):t σ H fun b H1=>if b=true then T H1 else U H1:=h _ (by
 cases β with
 | true=>rw [if_pos rfl];exact h1 rfl
 | false=>rw [if_neg Bool.false_ne_true];exact h2 rfl)
theorem ZeL {tc:TT}{t u:TS}{D:Ends} {σ:St}{H:Hp} {β:Bool} (h:Ev tc σ H β) (h1:β = true->t D σ H) (h2:β = false->u D σ H):ZmV tc t u D σ H:=Zmf h h1 h2
theorem lcT {σ:St}{H:Hp}{A B:Hp->Prop} (h:A H):Wd σ H fun b H3=>if b=true then A H3 else B H3:=by
 show if true=true then A H else B H
 exact Ux h
theorem J0 {H H1 H2:Hp}{b l t:Addr}{xs:List V}{ls:List (Str×Int)} (x:Str) (k:Int) (f0:Yp b H H1) (hb1:Ww H1 b) (hl:H1 l=some (.lst xs)) (hL:Zu H1 xs ls) (hlb:l≠b) (hlf:H l=none) (f2:Yp b H1 H2) (bag2:Ww H2 b) (ht:H2 t=none):
  (upd H2 t (.tup [.str x,.int k])) l=some (.lst xs)/\Ww (upd (upd H2 t (.tup [.str x,.int k])) l (.lst (xs ++ [.ref t]))) b/\Yp b H (upd (upd H2 t (.tup [.str x,.int k])) l (.lst (xs ++ [.ref t]))) /\
   (upd (upd H2 t (.tup [.str x,.int k])) l (.lst (xs ++ [.ref t]))) l=some (.lst (xs ++ [.ref t]))/\Zu (upd (upd H2 t (.tup [.str x,.int k])) l (.lst (xs ++ [.ref t]))) (xs ++ [.ref t]) (ls ++ [(x,k)]):=by
 have hl2:H2 l=some (.lst xs):=f2 l _ hl hlb
 have hlt:l≠t:=Zg hl2 ht
 have hbt:b≠t:=by
  obtain ⟨g,r,_,e⟩:=bag2
  exact Zg e ht
 refine ⟨by rw [Zj hlt];exact hl2,?_,fun c o e n=>?_,Zb,?_⟩
 ·obtain ⟨g,r,h0,e⟩:=bag2
  exact ⟨g,r,h0,by rw [Zj (Ne.symm hlb),Zj hbt];exact e⟩
 ·have e2:=f2 c o (f0 c o e n) n
  rw [Zj (Zg e hlf),Zj (Zg e2 ht)]
  exact e2
 ·refine Zu.snoc ?_ (by rw [Zj (Ne.symm hlt)];exact Zb)
  refine (hL.frm f2 hb1).mono fun t' p e=>?_
  rw [Zj (Zh3 e hl2 (by intro z;cases z)),Zj (Zg e ht)]
  exact e
theorem lcG {i:Nat}{v:V} {σ:St}{H:Hp}{A B:St->Hp->Prop} (h:A (σ.set i (some v)) H):Jf i v σ H fun σ2 H2=>Wd σ2 H2 fun b H3=>if b=true then A σ2 H3 else B σ2 H3:=by
 show if true=true then A (σ.set i (some v)) H else B (σ.set i (some v)) H
 exact Ux h
def isK (ls:List (Str×Int)) (pr:Str->Bool) (i:Nat):Bool:=((ls[i]?).map fun q=>pr q.1)==some true
def Jd (ls:List (Str×Int)) (pr:Str->Bool) (n:Nat):List Int:=(List.range n).filterMap fun i=>if isK ls pr i=true then some (i:Int) else none
theorem Uc (ls:List (Str×Int)) (pr:Str->Bool) (n:Nat):Jd ls pr (n+1)=Jd ls pr n++(if isK ls pr n=true then [(n:Int)] else []):=by
 unfold Jd
 rw [List.range_succ,List.filterMap_append]
 by_cases h:isK ls pr n=true<;>simp [h]
theorem ZbV {ls:List (Str×Int)}{pr:Str->Bool}{n:Nat}{q:Str×Int} (h:ls[n]? = some q) (hp:pr q.1=true):(Jd ls pr n).map V.int ++ [V.int n]=(Jd ls pr (n+1)).map V.int:=by
 have:isK ls pr n=true:=by unfold isK;rw [h];simp [hp]
 rw [Uc,this]
 simp
theorem Zgg {ls:List (Str×Int)}{pr:Str->Bool}{n:Nat}{q:Str×Int} (h:ls[n]? = some q) (hp:pr q.1=false):(Jd ls pr n).map V.int=(Jd ls pr (n+1)).map V.int:=by
 have:isK ls pr n=false:=by unfold isK;rw [h];simp [hp]
 rw [Uc,this]
 simp
theorem Gz (ls:List (Str×Int)) (pr:Str->Bool) (n:Nat):(Jd ls pr n).length<=n:=by
 unfold Jd
 exact Nat.le_trans (List.length_filterMap_le _ _) (by simp)
theorem Zjk (ls:List (Str×Int)) (pr:Str->Bool) (n:Nat):∀x∈Jd ls pr n,x<(n:Int):=by
 intro x hx
 unfold Jd at hx
 obtain ⟨i,hi,e⟩:=List.mem_filterMap.mp hx
 have hi':=List.mem_range.mp hi
 by_cases h:isK ls pr i=true
 ·rw [if_pos h] at e;have:=Option.some.inj e;lia
 ·rw [if_neg h] at e;cases e
def Zdu (x:Str):Int:=if x = "born" then 2 else if x = "end" then -2 else 0
def Z8 (ls:List (Str×Int)):Int:=(ls.map fun p=>Zdu p.1).sum
theorem JR (ls:List (Str×Int)) (p:Str×Int):Z8 (ls ++ [p])=Z8 ls+Zdu p.1:=by
 unfold Z8
 simp
theorem Zi5 {xs:List V}{t:Nat} (h:t<=xs.length):JI xs none (some (t:Int))=xs.take t:=by
 have e1:HT.Jj xs.length 0 none=0:=by unfold HT.Jj;rfl
 have e2:HT.Jj xs.length xs.length (some (t:Int))=t:=by
  have h0:¬((t:Int)<0):=by lia
  unfold HT.Jj
  simp [h0]
  lia
 unfold JI
 rw [e1,e2]
 simp
section
variable {X:Cx}
theorem Zd5 {v:Value}{a:Int} (h:IsPart v (some a)):RelV (.int a) v:=by
 cases h with
 | int _ t=>exact ⟨t,rfl⟩
def Zne (to:TE) (tl th:TO):TG:=fun v σ H Q=>to σ H fun x H1=>tl σ H1 fun lo H2=>th σ H2 fun hi H3=>∃(l b:Addr) (xs ys:List V) (a c:Int),x = .ref l/\v = .ref b/\lo=some a/\hi=some c/\H3 l=some (.lst xs)/\H3 b=some (.lst ys)/\l≠b /\
 0<=a/\a<=c/\c<=xs.length/\xs.length+ys.length<=sizeLine/\Q σ (upd H3 l (.lst (xs.take a.toNat++ys++xs.drop c.toNat)))
theorem ZeO {o:Expr}{lo hi:Option Expr}{to:TE}{tl th:TO}{p2 pos:Pos} (ho:PE X o to) (hl:PO X lo tl) (hu:PO X hi th):PG X (.Subscript o (.Slice lo hi none p2) pos) (Zne to tl th):=by
 intro pins s σ H v u Q I r h
 show wpAny _ _ (do
   let ov <- holding [u] (eval o X.env)
   let iv <- holding [u,ov] (eval (.Slice lo hi none p2) X.env)
   standAt pos
   holding [u,ov,iv] (setItem ov iv u)
   release [iv,u,ov] []) _ _ s
 refine wpAny_bind (wpAny_holding (Yq (ho pins s σ H _ I h) fun ov s1 ⟨x,H1,I1,r1,q1⟩=>?_))
 refine wpAny_bind (wpAny_holding (wpAny_Slice (Yq (hl pins s1 σ H1 _ I1 q1) fun vl s2 ⟨l',H2,I2,pl,q2⟩=>Yq (hu pins s2 σ H2 _ I2 q2) fun vu s3 ⟨u',H3,I3,pu,q3⟩=>?_)))
 rw [evalPart_none]
 refine wpAny_pure ?_
 have I4:Inv X pins σ H3 { s3 with heap:=s3.heap.push { cls:=.type "slice", data:=.fields #[vl,vu,.none] } }:=I3.kept (t':=s3.toks) fun b ob q=>Heap.get?_push_of_some _ q
 obtain ⟨l,b,xs,ys,a,c,rfl,rfl,rfl,rfl,hx,hy,hne,h0,hac,hc,hz,q⟩:=q3
 cases r1
 cases r
 refine wpAny_bind (wpAny_standAt (wpAny_bind (wpAny_holding (ZgK I4 hx hy hne (Heap.IsSliceOf.new ..) (Zd5 pl) (Zd5 pu) h0 hac hc hz fun s5 I5=>?_))))
 exact wpAny_release ⟨σ,_,I5,q⟩
end
theorem Zkk {K:PySem.W.Frag}{a:Addr}{xs:List V}{g:TG}{tb:TS}{D:Ends} {σ:St}{H:Hp} (Pv:Nat->St->Hp->Prop) (h0:Pv 0 σ H) (hl:∀i σ H,i<=xs.length->Pv i σ H->Zp K H a xs)
  (hs:∀i x p σ H,xs[i]? = some x->Pv i σ H->H p=none->g (.ref p) σ (upd H p (.tup [.int i,x])) fun σ2 H2=>tb { D with nx:=Pv (i+1),ct:=Pv (i+1),bk:=D.nx } σ2 H2) (hd:∀ σ H,Pv xs.length σ H->D.nx σ H):
  ∃W:Nat->Nat->St->Hp->Prop,(∃m,W 0 m σ H) /\ ∀i m σ H,W i m σ H ->
   ((Ite K a).stop i H/\D.nx σ H)∨((Ite K a).go i H /\ ∃N:St->Hp->Prop,(∀ σ' H',N σ' H' -> ∃m',m'<m/\W (i+1) m' σ' H') /\ ∀x H',(Ite K a).yld i H x H'->g x σ H' fun σ2 H2=>tb { D with nx:=N,ct:=N,bk:=D.nx } σ2 H2):=by
 refine ⟨fun i m σ H=>m=xs.length-i/\i<=xs.length/\Pv i σ H,⟨xs.length,by simp,Nat.zero_le _,h0⟩,?_⟩
 rintro i m σ H ⟨rfl,hi,p⟩
 have q:=hl i σ H hi p
 by_cases hlt:i<xs.length
 ·refine .inr ⟨⟨xs,xs[i],q,by simp [hlt]⟩,Pv (i+1),fun σ' H' p'=>⟨xs.length-(i+1),by lia,rfl,hlt,p'⟩,fun x H' y=>?_⟩
  obtain ⟨r,z,e1,e2,e3,y⟩:=y
  subst e1 e3
  exact hs i z r σ _ (y xs q) p e2
 ·have e:i=xs.length:=by lia
  subst e
  exact .inl ⟨⟨xs,q,Nat.le_refl _⟩,hd σ H p⟩
theorem nb1:¬(("cross" : Str) = "born"):=by decide +kernel
theorem nb2:¬(("end" : Str) = "born"):=by decide +kernel
theorem nb3:¬(("end" : Str) = "cross"):=by decide +kernel
theorem Wk.nonneg {ls:List (Str×Int)}{n:Int} (h:Wk ls n):0<=n:=by
 induction h with
 | nil=>decide
 | born _ _ _ ih=>lia
 | cross _ _ _ ih=>lia
 | fin _ _ _ ih=>lia
theorem Wg {ls:List (Str×Int)}{n:Int} (h:Wk ls n):∀i,∃m,Wk (ls.take i) m:=by
 induction h with
 | nil=>intro i;exact ⟨0,by simpa using Wk.nil⟩
 | @born l n k h h0 h1 ih=>
  intro i
  by_cases hi:i<=l.length
  ·rw [List.take_append_of_le_length hi];exact ih i
  ·rw [List.take_of_length_le (by rw [List.length_append,List.length_singleton];lia)];exact ⟨_,Wk.born h h0 h1⟩
 | @cross l n k h h0 h1 ih=>
  intro i
  by_cases hi:i<=l.length
  ·rw [List.take_append_of_le_length hi];exact ih i
  ·rw [List.take_of_length_le (by rw [List.length_append,List.length_singleton];lia)];exact ⟨_,Wk.cross h h0 h1⟩
 | @fin l n k h h0 h1 ih=>
  intro i
  by_cases hi:i<=l.length
  ·rw [List.take_append_of_le_length hi];exact ih i
  ·rw [List.take_of_length_le (by rw [List.length_append,List.length_singleton];lia)];exact ⟨_,Wk.fin h h0 h1⟩
theorem Zgh {ls:List (Str×Int)}{n:Int} (h:Wk ls n):n<=2*(ls.length:Int):=by
 induction h with
 | nil=>decide
 | born _ _ _ ih=>rw [List.length_append,List.length_singleton];lia
 | cross _ _ _ ih=>rw [List.length_append,List.length_singleton];lia
 | fin _ _ _ ih=>rw [List.length_append,List.length_singleton];lia
theorem Zf4 {n j:Nat} (h:j<n):ixN n (j:Int)=some j:=by
 unfold ixN
 rw [if_pos (by lia),if_pos (by lia)]
 simp
section
variable {κ:Type} [DecidableEq κ]
def J9 (kvs:List (κ × V)) (k:κ):Option V:=(kvs.find? fun kv=>decide (kv.1=k)).map (·.2)
def putK (kvs:List (κ × V)) (k:κ) (v:V):List (κ × V):=
 if (kvs.any fun kv=>decide (kv.1=k))=true then kvs.map (fun kv=>if kv.1=k then (kv.1,v) else kv) else kvs ++ [(k,v)]
def ZbH (kvs:List (κ × V)) (k:κ):List (κ × V):=kvs.filter fun kv=>decide (kv.1≠k)
theorem GA {p:κ × V}{r:List (κ × V)}{k:κ} (e:p.1=k):J9 (p::r) k=some p.2:=by simp [J9,List.find?_cons,e]
theorem Gu {p:κ × V}{r:List (κ × V)}{k:κ} (e:¬p.1=k):J9 (p::r) k=J9 r k:=by simp [J9,List.find?_cons,e]
theorem UX (k:κ):∀kvs:List (κ × V),(kvs.any fun kv=>decide (kv.1=k))=(J9 kvs k).isSome
 | []=>rfl
 | p::r=>by
  rw [List.any_cons]
  by_cases e:p.1=k
  ·simp only [GA e,decide_eq_true e,Bool.true_or,Option.isSome_some]
  ·rw [Gu e,decide_eq_false e,Bool.false_or];exact UX k r
theorem Gp (kvs:List (κ × V)) (k:κ) (v:V):(putK kvs k v).length<=kvs.length+1:=by
 unfold putK
 split
 ·rw [List.length_map];lia
 ·rw [List.length_append,List.length_cons,List.length_nil];lia
theorem ZiW {kvs:List (κ × V)}{k:κ} (v:V) (h:J9 kvs k=none):putK kvs k v=kvs ++ [(k,v)]:=by
 unfold putK
 rw [UX,h]
 exact if_neg (by decide)
theorem UL.isSome_eq {o:Option V}{u:Option Value} (r:UL o u):o.isSome=u.isSome:=by
 cases o with
 | none=>cases u with
  | none=>rfl
  | some _=>exact (show False from r).elim
 | some _=>cases u with
  | none=>exact (show False from r).elim
  | some _=>rfl
theorem KV.val {kvs:List (κ × V)}{vs:List (κ × Value)} (r:KV kvs vs) (k:κ):UL (J9 kvs k) (valueAt vs k):=by
 unfold KV at r
 induction r with
 | nil=>exact True.intro
 | @cons p q ps qs h t ih=>
  obtain ⟨h1,h2⟩:=h
  by_cases e:p.1=k
  ·have e':q.1=k:=h1.symm.trans e
   have b:valueAt (q::qs) k=some q.2:=by simp [valueAt,List.find?_cons,e']
   rw [GA e,b];exact h2
  ·have e':¬q.1=k:=fun z=>e (h1.trans z)
   have b:valueAt (q::qs) k=valueAt qs k:=by simp [valueAt,List.find?_cons,e']
   rw [Gu e,b];exact ih
theorem KV.any {kvs:List (κ × V)}{vs:List (κ × Value)} (r:KV kvs vs) (k:κ):(kvs.any fun kv=>decide (kv.1=k))=vs.any fun kv=>decide (kv.1=k):=by
 unfold KV at r
 induction r with
 | nil=>rfl
 | cons h t ih=>rw [List.any_cons,List.any_cons,ih,h.1]
theorem KV.repl {kvs:List (κ × V)}{vs:List (κ × Value)} (r:KV kvs vs) (k:κ) {y:V}{u:Value} (ry:RelV y u):
  KV (kvs.map fun kv=>if kv.1=k then (kv.1,y) else kv) (vs.map fun kv=>if kv.1=k then (kv.1,u) else kv):=by
 unfold KV at r ⊢
 induction r with
 | nil=>exact .nil
 | @cons p q ps qs h t ih=>
  rw [List.map_cons,List.map_cons]
  refine .cons ?_ ih
  obtain ⟨h1,h2⟩:=h
  by_cases e:p.1=k
  ·rw [if_pos e,if_pos (h1.symm.trans e)];exact ⟨h1,ry⟩
  ·rw [if_neg e,if_neg (fun z=>e (h1.trans z))];exact ⟨h1,h2⟩
theorem KV.put {kvs:List (κ × V)}{vs:List (κ × Value)} (r:KV kvs vs) (k:κ) {y:V}{u:Value} (ry:RelV y u):KV (putK kvs k y) (stored vs k u):=by
 unfold putK stored
 rw [r.any k]
 by_cases e:(vs.any fun kv=>decide (kv.1=k))=true
 ·rw [if_pos e,if_pos e];exact r.repl k ry
 ·rw [if_neg e,if_neg e];exact Paired.snoc r ⟨rfl,ry⟩
theorem KV.length {kvs:List (κ × V)}{vs:List (κ × Value)} (r:KV kvs vs):kvs.length=vs.length:=Paired.length r
theorem Zh5 (kvs:List (κ × V)) (k:κ):(ZbH kvs k).length<=kvs.length:=List.length_filter_le _ _
end
theorem ZfL {P:Program}{w:World}{k:Key}{u:Value} (r:RelV (kV k) u):(ZQ P w).is k u=true:=by
 cases k with
 | inl i=>obtain ⟨t,e⟩:=(show ∃t,u=Value.int i t from r);subst e;exact ZdK P w i t
 | inr x=>obtain ⟨t,e⟩:=(show ∃t,u=Value.str x t from r);subst e;exact Zd2 P w x t
theorem Zcq {P:Program}{w:World}:∀{ks:List Key}{us:List Value},Vals (ks.map kV) us->ItemsAre (ZQ P w) ks us
 | [],_,r=>by rw [List.map_nil] at r;cases r;exact .nil
 | k::ks,_,r=>by
  rw [List.map_cons] at r
  cases r with
  | cons h t=>exact .cons (ZfL h) (Zcq t)
abbrev KT (H:Hp):List (List Key×V)->List (List Key×Addr×Value)->Prop:=Paired fun p q=>p.1=q.1/\H q.2.1=some (.tup (p.1.map kV))/\RelV p.2 q.2.2
theorem KT.val {H:Hp}{kvs:List (List Key×V)}{xs:List (List Key×Addr×Value)} (r:KT H kvs xs) (k:List Key):UL (J9 kvs k) ((atKey xs k).map (·.2)):=by
 induction r with
 | nil=>exact True.intro
 | @cons p q ps qs h t ih=>
  obtain ⟨h1,_,h2⟩:=h
  by_cases e:p.1=k
  ·have e':q.1=k:=h1.symm.trans e
   have b:atKey (q::qs) k=some q.2:=by simp [atKey,List.find?_cons,e']
   rw [GA e,b];exact h2
  ·have e':¬q.1=k:=fun z=>e (h1.trans z)
   have b:atKey (q::qs) k=atKey qs k:=by simp [atKey,List.find?_cons,e']
   rw [Gu e,b];exact ih
theorem KT.repl {H:Hp}{kvs:List (List Key×V)}{xs:List (List Key×Addr×Value)} (r:KT H kvs xs) (k:List Key) {y:V}{u:Value} (ry:RelV y u):
  KT H (kvs.map fun kv=>if kv.1=k then (kv.1,y) else kv) (xs.map (putAt k u)):=by
 induction r with
 | nil=>exact .nil
 | @cons p q ps qs h t ih=>
  rw [List.map_cons,List.map_cons]
  refine .cons ?_ ih
  obtain ⟨h1,h2,h3⟩:=h
  unfold putAt
  by_cases e:p.1=k
  ·rw [if_pos e,if_pos (h1.symm.trans e)];exact ⟨h1,h2,ry⟩
  ·rw [if_neg e,if_neg (fun z=>e (h1.trans z))];exact ⟨h1,h2,h3⟩
theorem KT.put {H:Hp}{kvs:List (List Key×V)}{xs:List (List Key×Addr×Value)} (r:KT H kvs xs) (k:List Key) {b:Addr}{y:V}{u:Value} (hb:H b=some (.tup (k.map kV))) (ry:RelV y u):
  KT H (putK kvs k y) (storedH xs k b u):=by
 have e:(kvs.any fun kv=>decide (kv.1=k))=(atKey xs k).isSome:=by
  rw [UX,(r.val k).isSome_eq,Option.isSome_map]
 unfold putK storedH
 rw [e]
 by_cases q:(atKey xs k).isSome=true
 ·rw [if_pos q,if_pos q];exact r.repl k ry
 ·rw [if_neg q,if_neg q];exact Paired.snoc r ⟨rfl,hb,ry⟩
theorem KT.keeps {H H':Hp}{kvs:List (List Key×V)}{xs:List (List Key×Addr×Value)} (r:KT H kvs xs) (ht:∀b ys,H b=some (.tup ys)->H' b=some (.tup ys)):KT H' kvs xs:=
 Paired.mapP r fun _ _ z=>⟨z.1,ht _ _ z.2.1,z.2.2⟩
section
variable {P:Program}{w:World}{H:Hp}{h:Heap}{a:Addr}
theorem ZkF {u:HO} (ok:Wy P w H h) (e:Rd H a u):Z7 P w H h a u:=e.ok ok
theorem Zgd {kvs:List (Key×V)} (ok:Wy P w H h) (e:Rd H a (.dK kvs)):kvs.length<=sizeLine/\(a==sysModules)=false /\ ∃vs,KV kvs vs/\h.DictOf (ZQ P w) a vs:=
 show Z7 P w H h a (.dK kvs) from ZkF ok e
theorem ZmJ {kvs:List (Key×V)} (ok:Wy P w H h) (e:H a=some (.dK kvs)):kvs.length<=sizeLine/\(a==sysModules)=false /\ ∃vs,KV kvs vs/\h.DictOf (ZQ P w) a vs:=Zgd ok (.inl e)
theorem Zbr {ks:List Key} (ok:Wy P w H h) (e:H a=some (.tup (ks.map kV))):(tupleKind (ZQ P w)).is h ks a:=by
 obtain ⟨_,its,r,o,h1,h2,n,h3⟩:=(show Z7 P w H h a (.tup (ks.map kV)) from ok a _ e)
 exact ⟨o,its.toArray,n,h1,h2,h3,by simpa using Zcq r⟩
theorem ZfB {kvs:List (List Key×V)} (ok:Wy P w H h) (e:Rd H a (.dT kvs)):kvs.length<=sizeLine/\(a==sysModules)=false /\
  ∃xs,KT H kvs xs/\h.DictOfH (tupleKind (ZQ P w)) a xs:=by
 obtain ⟨z,y,xs,r,o,es,ep,h1,h2,h3,h4,h5⟩:=(show Z7 P w H h a (.dT kvs) from ZkF ok e)
 refine ⟨z,y,xs,r,o,es,ep,h1,h2,h3,h4,fun x hx=>?_,h5⟩
 have all:∀{l:List (List Key×V)}{m:List (List Key×Addr×Value)},KT H l m -> ∀x∈m,(tupleKind (ZQ P w)).is h x.1 x.2.1:=by
  intro l m q
  induction q with
  | nil=>intro x hx;exact nomatch hx
  | @cons p q ps qs hq t ih=>
   intro x hx
   rcases List.mem_cons.mp hx with e | hx
   ·subst e
    exact Zbr ok (by rw [<- hq.1];exact hq.2.1)
   ·exact ih x hx
 exact all r x hx
theorem Zhy {kvs:List (List Key×V)} (ok:Wy P w H h) (e:H a=some (.dT kvs)):kvs.length<=sizeLine/\(a==sysModules)=false /\
  ∃xs,KT H kvs xs/\h.DictOfH (tupleKind (ZQ P w)) a xs:=ZfB ok (.inl e)
end
def ZaS (H:Hp) (a:Addr) (y:V) (r:Option V):Prop:=
 (∃kvs k,Rd H a (.dK kvs)/\y=kV k/\r=J9 kvs k) ∨ ∃kvs k b,Rd H a (.dT kvs)/\y = .ref b/\H b=some (.tup (k.map kV))/\r=J9 kvs k
def ZhO (H:Hp) (a:Addr) (y v:V) (H':Hp):Prop:=
 (∃kvs k,H a=some (.dK kvs)/\y=kV k/\kvs.length<sizeLine/\H'=upd H a (.dK (putK kvs k v))) ∨
 ∃kvs k b,H a=some (.dT kvs)/\y = .ref b/\H b=some (.tup (k.map kV))/\kvs.length<sizeLine/\H'=upd H a (.dT (putK kvs k v))
theorem ZaS.k {H:Hp}{a:Addr}{kvs:List (Key×V)}{k:Key} (e:H a=some (.dK kvs)):ZaS H a (kV k) (J9 kvs k):=.inl ⟨kvs,k,.inl e,rfl,rfl⟩
theorem ZaS.t {H:Hp}{a b:Addr}{kvs:List (List Key×V)}{k:List Key} (e:H a=some (.dT kvs)) (eb:H b=some (.tup (k.map kV))):ZaS H a (.ref b) (J9 kvs k):=.inr ⟨kvs,k,b,.inl e,rfl,eb,rfl⟩
theorem ZhO.t {H:Hp}{a b:Addr}{kvs:List (List Key×V)}{k:List Key}{v:V} (e:H a=some (.dT kvs)) (eb:H b=some (.tup (k.map kV))) (hl:kvs.length<sizeLine):
  ZhO H a (.ref b) v (upd H a (.dT (putK kvs k v))):=.inr ⟨kvs,k,b,e,rfl,eb,hl,rfl⟩
section
variable {X:Cx}{pins:List (Addr×Obj)} {σ:St}{H:Hp}{s:Shared}{a:Addr}{y v:V}{u r:Value}{o:Option V}{A:Around}{E:Value->Shared->Prop}
theorem Inv.big (I:Inv X pins σ H s):sysModules<s.heap.objs.size:=by
 have h:mainGlobals<s.heap.objs.size:=(I.mod.glob.keeps I.bk).lt
 exact Nat.lt_trans (by decide) h
theorem ZgL {Q:Value->Shared->Prop} (hu:A.units+1<cLine) (I:Inv X pins σ H s) (g:ZaS H a y (some v)) (ry:RelV y u) (h:∀w' s',Inv X pins σ H s'->RelV v w'->Q w' s'):
  wpAny (model X.prog X.w) A (getItem (.ref a) u) Q E s:=by
 rcases g with ⟨kvs,k,e,ey,l⟩ | ⟨kvs,k,b,e,ey,eb,l⟩
 ·subst ey
  obtain ⟨z,hd,vs,rel,dd⟩:=Zgd I.hok e
  obtain ⟨w',hw,rw'⟩:=UL.some_of (v:=v) (o:=valueAt vs k) (by rw [l];exact rel.val k)
  exact wpAny_getItem_of (ZfL ry) dd.mapOf hw (h w' _ (I.tok _) rw')
 ·subst ey
  cases (show u=Value.ref b from ry)
  obtain ⟨z,hd,xs,rel,dd⟩:=ZfB I.hok e
  obtain ⟨w',hw,rw'⟩:=UL.some_of (v:=v) (o:=(atKey xs k).map (·.2)) (by rw [l];exact rel.val k)
  obtain ⟨p,hp,hp2⟩:=Option.map_eq_some_iff.mp hw
  refine wpAny_getItem_heap (tupleKind_room_in1 hu) (Zbr I.hok eb) dd hp ?_
  rw [hp2]
  exact h w' _ (I.tok _) rw'
theorem ZnI {Q:Value->Shared->Prop} (hu:A.units+1<cLine) (I:Inv X pins σ H s) (g:ZaS H a y o) (ry:RelV y u) (h:∀s',Inv X pins σ H s'->Q (.bool o.isSome) s'):
  wpAny (model X.prog X.w) A (compareOp .In u (.ref a)) Q E s:=by
 rcases g with ⟨kvs,k,e,ey,l⟩ | ⟨kvs,k,b,e,ey,eb,l⟩
 ·subst ey
  obtain ⟨z,hd,vs,rel,dd⟩:=Zgd I.hok e
  refine wpAny_in_of (ZfL ry) hd dd.mapOf ?_
  rw [<- (rel.val k).isSome_eq,<- l]
  exact h _ (I.tok _)
 ·subst ey
  cases (show u=Value.ref b from ry)
  obtain ⟨z,hd,xs,rel,dd⟩:=ZfB I.hok e
  refine wpAny_in_heap (tupleKind_room_in1 hu) (Zbr I.hok eb) hd dd ?_
  have q:=(rel.val k).isSome_eq
  rw [Option.isSome_map] at q
  rw [<- q,<- l]
  exact h _ (I.tok _)
theorem Zc6 {h':Heap}{t':Nat}{ob:HO} (I:Inv X pins σ H s) (mu:Mut (H a)) (hs:Heap.SameBut a s.heap h') (he:∃q,h'.get? a=some q) (new:Z7 X.prog X.w (upd H a ob) h' a ob):
  Inv X pins σ (upd H a ob) { s with heap:=h',toks:=t' }:=
 I.write (x:=a) (e:=a) mu (.inl rfl) (fun b q hb z=>(hs.2 b hb).trans z) he new
theorem ZiO {P:Program}{w:World}{H':Hp}{h':Heap}{kvs:List (Key×V)}{vs:List (Key×Value)} (z:kvs.length<=sizeLine) (hd:(a==sysModules)=false) (rel:KV kvs vs) (dd:h'.DictOf (ZQ P w) a vs):
  Z7 P w H' h' a (.dK kvs):=⟨z,hd,vs,rel,dd⟩
theorem ZgN {H':Hp}{Q:Unit->Shared->Prop} (hu:A.units+1<cLine) (I:Inv X pins σ H s) (g:ZhO H a y v H') (ry:RelV y u) (rv:RelV v r) (h:∀s',Inv X pins σ H' s'->Q () s'):
  wpAny (model X.prog X.w) A (setItem (.ref a) u r) Q E s:=by
 rcases g with ⟨kvs,k,e,ey,l,eH⟩ | ⟨kvs,k,b,e,ey,eb,l,eH⟩
 ·subst ey eH
  obtain ⟨z,hd,vs,rel,dd⟩:=ZmJ I.hok e
  have hz:vs.length<=sizeLine:=by rw [<- rel.length];exact z
  have hl:(putK kvs k v).length<=sizeLine:=by have:=Gp kvs k v;lia
  refine wpAny_setItem_pairs (hsz:=hz) (ZfL ry) dd fun h' dd' hs=>h _ ?_
  have he:∃q,h'.get? a=some q:=let ⟨q,_,_,hq,_⟩:=dd';⟨q,hq⟩
  exact Zc6 I (by rw [e];exact True.intro) hs he (ZiO hl hd (rel.put k rv) dd')
 ·subst ey eH
  cases (show u=Value.ref b from ry)
  obtain ⟨z,hd,xs,rel,dd⟩:=Zhy I.hok e
  have hz:xs.length<=sizeLine:=by rw [<- Paired.length rel];exact z
  have hl:(putK kvs k v).length<=sizeLine:=by have:=Gp kvs k v;lia
  refine wpAny_setItem_heap (hsz:=hz) (tupleKind_room_in1 hu) (Zbr I.hok eb) dd fun h' dd' hs=>h _ ?_
  obtain ⟨q,es,ep,hq,h2,h3,h4,_,h5⟩:=dd'
  refine Zc6 I (by rw [e];exact True.intro) hs ⟨q,hq⟩ ⟨hl,hd,_,(rel.put k eb rv).keeps fun c ys ec=>?_,q,es,ep,hq,h2,h3,h4,h5⟩
  rw [Zj (Zh3 ec e (fun z=>nomatch z))]
  exact ec
end
theorem ZdR {X:Cx}{pins:List (Addr×Obj)} {σ:St}{H:Hp}{s:Shared}{a:Addr}{y:V}{o:Option V} (I:Inv X pins σ H s) (g:ZaS H a y o):s.TypeIs (.ref a) "dict" := by
 rcases g with ⟨kvs,k,e,_,_⟩ | ⟨kvs,k,b,e,_,_,_⟩
 ·obtain ⟨_,_,vs,_,dd⟩:=Zgd I.hok e
  exact dd.typeIs
 ·obtain ⟨_,_,xs,_,dd⟩:=ZfB I.hok e
  exact dd.typeIs
def Zns (ty td:TE):TE:=fun σ H Q=>ty σ H fun y H1=>td σ H1 fun x H2=>∃a o,x = .ref a/\ZaS H2 a y o/\Q (.bl o.isSome) H2
section
variable {X:Cx}{o i e value:Expr}{pos pos' tpos:Pos}{td ty tv:TE}
theorem ZlB (hu:X.A.units+1<cLine) (hi:PE X i ty) (ho:PE X o td):PC X .In i o (Zns ty td):=by
 intro pins s σ H Q I h
 refine Yq (hi pins s σ H _ I h) fun iv s1 ⟨y,H1,I1,ry,q1⟩=>Yq (ho pins s1 σ H1 _ I1 q1) fun u s2 ⟨x,H2,I2,rx,a,ov,ex,g,q2⟩=>?_
 subst ex
 obtain rfl:u=Value.ref a:=rx
 exact ZnI hu I2 g ry fun s3 I3=>⟨.bl ov.isSome,H2,I3,rfl,q2⟩
end
theorem ZhL {P:Program}{w:World}{H:Hp} (h:Heap) (hb:sysModules<h.objs.size):Z7 P w H (h.push { cls:=.type "dict", data:=.dict #[] }) h.objs.size (.dT []):=
 ⟨Nat.zero_le _,beq_eq_false_iff_ne.mpr (Ne.symm (Nat.ne_of_lt hb)),[],.nil,_,#[],0,Heap.get?_push_size _ rfl,⟨rfl,rfl,rfl⟩,rfl,rfl,List.nodup_nil⟩
def ZlL:TE:=fun _ H Q=>∀p,H p=none->Q (.ref p) (upd H p (.dT []))
section
variable {X:Cx}{pos:Pos}
theorem Zbg:PE X (.Dict [] [] pos) ZlL:=fun pins s σ H Q I h=>
 wpAny_Dict_empty ⟨.ref s.heap.objs.size,_,I.laid (a:=s.heap.objs.size) (o:=.dT []) (t':=s.toks) (fun _ _ q=>Heap.get?_push_of_some _ q) (Nat.le_refl _) (ZhL s.heap I.big),rfl,h _ (I.hok.fresh (Nat.le_refl _))⟩
end
theorem Z7.there {P:Program}{w:World}{H:Hp}{h:Heap}{a:Addr}{o:HO} (x:Z7 P w H h a o):∃ob,h.get? a=some ob:=by
 cases o with
 | lst xs=>obtain ⟨_,_,_,_,e⟩:=x;exact ⟨_,e⟩
 | tup xs=>obtain ⟨_,_,_,_,e,_⟩:=x;exact ⟨_,e⟩
 | dK kvs=>obtain ⟨_,_,_,_,o,_,_,e,_⟩:=x;exact ⟨_,e⟩
 | dT kvs=>obtain ⟨_,_,_,_,o,_,_,e,_⟩:=x;exact ⟨_,e⟩
 | set S n=>obtain ⟨o,_,_,_,e,_⟩:=x;exact ⟨_,e⟩
 | ins C dx fs=>obtain ⟨_,_,_,e,_⟩:=x;exact ⟨_,e⟩
 | own y=>obtain ⟨_,e⟩:=x;exact ⟨_,e⟩
 | xd fs=>obtain ⟨_,⟨_,_,_,e,_⟩,_⟩:=x;exact ⟨_,e⟩
 | rng lo hi=>obtain ⟨_,_,_,e⟩:=x;exact ⟨_,e⟩
 | frz ob u=>obtain ⟨e,_⟩:=x;exact ⟨_,e⟩
 | tbl ps=>exact ⟨_,x⟩
 | met f y=>exact ⟨_,x⟩
 | ext φ=>obtain ⟨_,⟨_,e⟩,_⟩:=x;exact ⟨_,e⟩
theorem Zlb {h:Heap}{a:Addr}{m m':Str->Option Value} (x:h.Ns a m) (y:h.Ns a m'):m=m':=by
 obtain ⟨o,es,ep,ho,hd,_,hm⟩:=x
 obtain ⟨o',es',ep',ho',hd',_,hm'⟩:=y
 rw [ho] at ho'
 cases ho'
 rw [hd] at hd'
 cases hd'
 exact funext fun n=>(hm n).symm.trans (hm' n)
section
variable {X:Cx}{pins:List (Addr×Obj)} {σ:St}{H:Hp}{s:Shared}
theorem Inv.laidN {h':Heap}{D:Addr}{o:HO}{t':Nat}{m:Str->Option Value} (I:Inv X pins σ H s) (F:Fr X.base X.env.locals s.heap m) (F':Fr X.base X.env.locals h' m)
  (N':News X.base X.env.locals h' (Uh X.base s.heap X.env.locals)) (hD:s.heap.get? D=none) (hn:H D=none) (new:Z7 X.prog X.w (upd H D o) h' D o):Inv X pins σ (upd H D o) { s with heap:=h',toks:=t' }:=by
 have kp:∀b u,b≠X.env.locals->s.heap.get? b=some u->h'.get? b=some u:=fun b u hb e=>by
  cases q:X.base.get? b with
  | some v=>
   have e1:=F'.keep b v q
   have e2:=F.keep b v q
   rw [e] at e2
   cases e2
   exact e1
  | none=>exact (N' (b,u) (Gn hb q e)).1
 have neL:∀b u,H b=some u->b≠X.env.locals:=fun b u e z=>by rw [z,I.free] at e;cases e
 refine I.step (g':=s.gens) (d':=s.drawn) (ch:=[]) (fun _ z=>nomatch z) (fun b ob hb _ _ e _=>kp b ob hb e) (fun b ob hb _ _ e _=>⟨ob.slots,kp b ob hb e⟩) (fun b ob _ e n=>?_) (fun b ob _ e=>?_) (fun b xs e=>?_) (fun b ob u e=>?_) (fun b ps e=>⟨#[],?_⟩) (fun m' hm=>?_) (fun b u e=>?_) I.bare
 ·rw [Zj (fun z=>by subst z;rw [hD] at e;cases e)]
  exact n
 ·by_cases hb:b=X.env.locals
  ·subst hb
   obtain ⟨ob',_,_,z,_⟩:=F'.ns
   exact ⟨ob',z⟩
  ·exact ⟨ob,kp b ob hb e⟩
 ·rw [Zj (Zg e hn)];exact e
 ·rw [Zj (Zg e hn)];exact e
 ·rw [Zj (Zg e hn),e];simp
 ·rw [Zlb hm F.ns];exact F'.ns
 ·by_cases hb:b=D
  ·subst hb;rw [Zb] at e;cases e;exact new
  ·rw [Zj hb] at e
   refine (I.hok b u e).stay (fun c v hc q=>kp c v ?_ q) (fun c q=>by rw [Zj (Zg q hn)];exact q) fun c xs q=>by rw [Zj (Zg q hn)];exact q
   rcases hc with z | z
   ·subst z;exact neL _ u e
   ·exact neL c _ z
end
section
variable {X:Cx}
def Znp:R2:=fun x y H Q=>∃a v,x = .ref a/\ZaS H a y (some v)/\Q v H
theorem Zkm (hu:X.A.units+1<cLine):IxR X Znp:=by
 intro value slice pins s σ H x y v u Q I rx ry h hs
 obtain ⟨a,w,rfl,g,q⟩:=h
 cases rx
 exact tail_any (ops:=[.ref a,u]) (ZdR I g) PySem.F.slot_dict_getitem.lookup (ZgL hu I g ry fun w' s3 I3 rw'=>⟨w,H,I3,rw',q⟩) hs
def ZmM:V->V->V->Hp->(Hp->Prop)->Prop:=fun o i v H Q=>∃a H',o = .ref a/\ZhO H a i v H'/\Q H'
theorem set_dict (hu:X.A.units+1<cLine):ZkZ X ZmM:=by
 intro pins s σ H o i v ov iv u Q I ro ri rv h
 obtain ⟨a,H',rfl,g,q⟩:=h
 cases ro
 exact ZgN hu I g ri rv fun s' I'=>⟨H',I',q⟩
end
def bw (x:Int):Int:=if x % 2=0 then x+1 else x-1
structure ZnS (m:Int->Int) (N:Int):Prop where
 lo:∀x,0<=x->x<N->0<=m x
 hi:∀x,0<=x->x<N->m x<N
 inv:∀x,0<=x->x<N->m (m x)=x
 ne:∀x,0<=x->x<N->m x≠x
 ev:N % 2=0
def gt (m:Int->Int) (f:Int):Nat->Int
 | 0=>f
 | i+1=>bw (m (gt m f i))
def orb (m:Int->Int) (f:Int):Nat->List Int
 | 0=>[]
 | i+1=>orb m f i ++ [gt m f i,m (gt m f i)]
def Zld (m:Int->Int) (f:Int) (T:List Int):Prop:=∃L,1<=L/\gt m f L=f/\(∀j,1<=j->j<L->gt m f j≠f)/\T=orb m f L
inductive Trs (m:Int->Int):Nat->List (List Int)->Prop
 | nil:Trs m 0 []
 | add {i:Nat}{ts:List (List Int)}{T:List Int}:Trs m i ts->(i:Int)∉ts.flatten->Zld m (i:Int) T->Trs m (i+1) (ts ++ [T])
 | skip {i:Nat}{ts:List (List Int)}:Trs m i ts->(i:Int)∈ts.flatten->Trs m (i+1) ts
section
variable {X:Cx}
def Zh2 (K:PySem.W.Frag):R2:=fun x y H Q=>∃(p q:Addr) (xs:List V),x = .ref p/\y = .ref q/\Zp K H p xs/\Zp K H q []/\Q (.bl (!xs.isEmpty)) H
theorem Zhs (hu:X.A.units+64<cLine):OpR X (compareOp .NotEq) (Zh2 X.K):=by
 intro pins s σ H x y v u Q I rx ry h
 obtain ⟨p,q,xs,rfl,rfl,hp,hq,hQ⟩:=h
 cases rx
 cases ry
 obtain ⟨its,r1,p1,_⟩:=I.list hp
 obtain ⟨its2,r2,p2,_⟩:=I.list hq
 have l1:=r1.length
 have l2:=r2.length
 cases xs with
 | nil=>
  refine SeqAt.RcNeAt.lists (e:=fun _=>true) p1.isList p2.isList (by simp only [List.size_toArray];lia) (by lia) (fun j h1 h2=>?_) X.prog X.w _ _ ⟨.bl false,H,I,?_,hQ⟩
  ·rw [List.size_toArray] at h1
   have:its.length=0:=by simpa using l1.symm
   lia
  ·show Value.bool _=Value.bool false
   simp
 | cons z zs=>
  refine SeqAt.RcNeAt.lists_lengths p1.isList p2.isList (by simp only [List.size_toArray];rw [bne_iff_ne];simp at l1 l2;lia) (by lia) X.prog X.w _ _ ⟨.bl true,H,I,rfl,hQ⟩
theorem ZaE {K:PySem.W.Frag} (h:X.K=K) (hu:X.A.units+64<cLine):OpR X (compareOp .NotEq) (Zh2 K):=h ▸ Zhs hu
end
theorem ZeD {ns:List Int}{i:Nat}{x:V} (h:(ns.map V.int)[i]? = some x):∃t,ns[i]? = some t/\x=V.int t:=by
 rw [List.getElem?_map] at h
 cases e:ns[i]? with
 | none=>rw [e] at h;cases h
 | some z=>rw [e] at h;exact ⟨z,rfl,(Option.some.inj h).symm⟩
theorem Ul {α β:Type}{ns:List α}{i:Nat}{t:α} (f:α -> β) (h:ns[i]? = some t):(ns.take (i+1)).map f=(ns.take i).map f ++ [f t]:=by
 rw [List.take_add_one,h]
 simp
end L2
namespace L2
open PySem PySem.Spec PyProof.Rows PyProof.V
def Itz (K:PySem.W.Frag) (a b:Addr):It:=
  ⟨fun i H=>∃xs ys x y,Zp K H a xs/\Zp K H b ys/\xs[i]? = some x/\ys[i]? = some y,
   fun i H v H'=>∃p x y,v = .ref p/\H p=none/\H'=upd H p (.tup [x,y])/\(∀xs,Zp K H a xs->xs[i]? = some x)/\(∀ys,Zp K H b ys->ys[i]? = some y),
   fun i H=>∃xs ys,Zp K H a xs/\Zp K H b ys/\(xs.length<=i∨ys.length<=i)⟩
theorem Zir {P:Program}{w:World}{K:PySem.W.Frag}{es:List Expr}{k:Nat}{pos:Pos} (a b z TI TO i1 i2:Addr) (ap:ZipApart z TI TO i1 i2 a b):
  Turn P w K (.Tuple es k pos) (Itz K a b) [z,TI,TO,i1,i2] z (fun i h=>IsZip h z TI TO .none/\IsPair h TI (.ref i1) (.ref i2)/\(∃u v,IsPair h TO u v)/\h.IsListIter i1 a i/\h.IsListIter i2 b i) where
 mem:=by simp
 obj:=fun i h st c hc=>by
  obtain ⟨h1,h2,⟨u,v,h3⟩,⟨o1,ho1,c1,d1⟩,⟨o2,ho2,c2,d2⟩⟩:=st
  simp only [List.mem_cons,List.not_mem_nil,or_false] at hc
  rcases hc with e | e | e | e | e
  ·subst e;exact ⟨_,h1,fun v z=>by have z':Data.fields _=Data.cell v:=z;cases z'⟩
  ·subst e;exact ⟨_,h2,fun v z=>by have z':Data.seq _ _=Data.cell v:=z;cases z'⟩
  ·subst e;exact ⟨_,h3,fun v z=>by have z':Data.seq _ _=Data.cell v:=z;cases z'⟩
  ·subst e;exact ⟨o1,ho1,fun v z=>by rw [d1] at z;cases z⟩
  ·subst e;exact ⟨o2,ho2,fun v z=>by rw [d2] at z;cases z⟩
 keep:=fun i h h' st k=>by
  obtain ⟨h1,h2,⟨u,v,h3⟩,h4,h5⟩:=st
  exact ⟨k z (by simp) _ h1,k TI (by simp) _ h2,⟨u,v,k TO (by simp) _ h3⟩,h4.at fun o x=>k i1 (by simp) o x,h5.at fun o x=>k i2 (by simp) o x⟩
 item:=by
  intro X hP hw hK hc i pins s σ H E I hf st hg
  subst hP hw hK
  obtain ⟨xs,ys,x,y,hq1,hq2,hx,hy⟩:=hg
  obtain ⟨its1,rv1,p1,hz1⟩:=I.list hq1
  obtain ⟨its2,rv2,p2,hz2⟩:=I.list hq2
  obtain ⟨u,hu,ru⟩:=rv1.get hx
  obtain ⟨v,hv,rv⟩:=rv2.get hy
  obtain ⟨h1,h2,⟨oa,ob,h3⟩,h4,h5⟩:=st
  refine wpAny_pyNext_zip_item ap h1 h2 h3 h4 h5 p1.isList p2.isList (x:=u) (y:=v) (by simpa using hu) (by simpa using hv) fun h' g1 g2 g3 g4 g5 hsz kk=>⟨_,rfl,?_⟩
  refine wpAny_letOwnedTupleGo_zip (s:={ s with heap:=h' }) g1 fun h'' e1 hs''=>?_
  have lt:∀c ∈ [z,TI,TO,i1,i2],@LT.lt Nat _ c s.heap.objs.size:=fun c hc=>by
   simp only [List.mem_cons,List.not_mem_nil,or_false] at hc
   rcases hc with e | e | e | e | e
   ·subst e;exact aLt h1
   ·subst e;exact aLt h2
   ·subst e;exact aLt h3
   ·subst e;obtain ⟨o,ho,_⟩:=h4;exact aLt ho
   ·subst e;obtain ⟨o,ho,_⟩:=h5;exact aLt ho
  have kk2:∀c o,c≠z->c≠TO->c≠i1->c≠i2->s.heap.get? c=some o->h''.get? c=some o:=fun c o n1 n2 n3 n4 q=>(hs''.2 c n1).trans (kk c o n1 n2 n3 n4 q)
  have nne:∀c o,H c=some o->c≠z/\c≠TO/\c≠i1/\c≠i2:=fun c o q=>by
   refine ⟨fun e=>?_,fun e=>?_,fun e=>?_,fun e=>?_⟩
   ·rw [e,(hf z (by simp)).1] at q;cases q
   ·rw [e,(hf TO (by simp)).1] at q;cases q
   ·rw [e,(hf i1 (by simp)).1] at q;cases q
   ·rw [e,(hf i2 (by simp)).1] at q;cases q
  have fr:H s.heap.objs.size=none:=I.hok.fresh (Nat.le_refl _)
  have hT:h''.get? s.heap.objs.size=some { cls:=.type "tuple", data:=.seq #[u,v] }:=(hs''.2 _ (Nat.ne_of_gt (lt z (by simp)))).trans g5
  have nT:∀c o,s.heap.get? c=some o->c≠s.heap.objs.size:=fun c o q=>Nat.ne_of_lt (aLt q)
  have ok':Wy X.prog X.w (upd H s.heap.objs.size (.tup [x,y])) h'':=fun c o q=>by
   by_cases hb:c=s.heap.objs.size
   ·subst hb
    rw [Zb] at q
    cases q
    exact ⟨show 2<=sizeLine by decide,[u,v],.cons ru (.cons rv .nil),⟨_,hT,rfl,_,rfl⟩⟩
   ·rw [Zj hb] at q
    refine (I.hok c o q).stay (fun d v hd r=>?_) (fun d r=>by rw [Zj (Zg r fr)];exact r) fun d xs r=>by rw [Zj (Zg r fr)];exact r
    rcases hd with e | e
    ·subst e
     obtain ⟨n1,n2,n3,n4⟩:=nne d o q
     exact kk2 d v n1 n2 n3 n4 r
    ·obtain ⟨n1,n2,n3,n4⟩:=nne d _ e
     exact kk2 d v n1 n2 n3 n4 r
  have notin:∀c,c ∉ [z,TI,TO,i1,i2]->c≠z/\c≠TO/\c≠i1/\c≠i2:=fun c hc=>by
   simp only [List.mem_cons,List.not_mem_nil,or_false,not_or] at hc
   exact ⟨hc.1,hc.2.2.1,hc.2.2.2.1,hc.2.2.2.2⟩
  have I1:Inv X pins σ (upd H s.heap.objs.size (.tup [x,y])) { s with heap:=h'',gens:=s.gens,drawn:=s.drawn,toks:=s.toks }:=by
   refine I.step (ch:=[z,TI,TO,i1,i2]) (fun c hc=>?_) (fun c o _ _ hc q _=>?_) (fun c o _ _ hc q _=>⟨o.slots,?_⟩)
    (fun c o _ q n=>by rw [Zj (nT c o q)];exact n) (fun c o hc q=>⟨o,?_⟩) (fun c xs q=>by rw [Zj (Zg q fr)];exact q) (fun c o u q=>by rw [Zj (Zg q fr)];exact q)
    (fun c ps q=>⟨#[],by rw [Zj (Zg q fr),q];simp⟩) (fun m hm=>?_) ok' I.bare
   ·obtain ⟨f0,f1,f2,f3,f4,f5⟩:=hf c hc
    exact ⟨f3,f1,f4,f5⟩
   ·obtain ⟨n1,n2,n3,n4⟩:=notin c hc;exact kk2 c o n1 n2 n3 n4 q
   ·obtain ⟨n1,n2,n3,n4⟩:=notin c hc;exact kk2 c o n1 n2 n3 n4 q
   ·obtain ⟨n1,n2,n3,n4⟩:=notin c hc;exact kk2 c o n1 n2 n3 n4 q
   ·obtain ⟨o,es,ep,ho,r⟩:=hm
    exact ⟨o,es,ep,kk2 _ o (Ne.symm (hf z (by simp)).2.1) (Ne.symm (hf TO (by simp)).2.1) (Ne.symm (hf i1 (by simp)).2.1) (Ne.symm (hf i2 (by simp)).2.1) ho,r⟩
  refine ⟨.ref s.heap.objs.size,_,I1,rfl,⟨s.heap.objs.size,x,y,rfl,fr,rfl,fun zs hz=>by rw [I.list_inj hz hq1];exact hx,fun zs hz=>by rw [I.list_inj hz hq2];exact hy⟩,
   ⟨e1,kk2 TI _ ap.TIz ap.TITO ap.TIi1 ap.TIi2 h2,⟨u,v,(hs''.2 TO ap.TOz).trans g2⟩,g3.at fun o q=>(hs''.2 i1 ap.i1z).trans q,g4.at fun o q=>(hs''.2 i2 ap.i2z).trans q⟩,fun c hc=>?_⟩
  rw [Zj (Nat.ne_of_lt (lt c hc))]
  exact (hf c hc).1
 done:=by
  intro X hP hw hK hc i pins s σ H E I hf st hg
  subst hP hw hK
  obtain ⟨xs,ys,hq1,hq2,hx⟩:=hg
  obtain ⟨its1,rv1,p1,hz1⟩:=I.list hq1
  obtain ⟨its2,rv2,p2,hz2⟩:=I.list hq2
  obtain ⟨h1,h2,⟨oa,ob,h3⟩,h4,h5⟩:=st
  have l1:=rv1.length
  have l2:=rv2.length
  refine wpAny_pyNext_zip_end (I.ok.hd hc) ap h1 h2 h3 h4 h5 p1.isList p2.isList (by rcases hx with e | e;exact .inl (by simp;lia);exact .inr (by simp;lia)) fun h' kk=>⟨rfl,?_⟩
  have nne:∀c o,H c=some o->c≠z/\c≠TO/\c≠i1/\c≠i2:=fun c o q=>by
   refine ⟨fun e=>?_,fun e=>?_,fun e=>?_,fun e=>?_⟩
   ·rw [e,(hf z (by simp)).1] at q;cases q
   ·rw [e,(hf TO (by simp)).1] at q;cases q
   ·rw [e,(hf i1 (by simp)).1] at q;cases q
   ·rw [e,(hf i2 (by simp)).1] at q;cases q
  have notin:∀c,c ∉ [z,TI,TO,i1,i2]->c≠z/\c≠TO/\c≠i1/\c≠i2:=fun c hc=>by
   simp only [List.mem_cons,List.not_mem_nil,or_false,not_or] at hc
   exact ⟨hc.1,hc.2.2.1,hc.2.2.2.1,hc.2.2.2.2⟩
  have ok':Wy X.prog X.w H h':=fun c o q=>by
   refine (I.hok c o q).stay (fun d v hd r=>?_) (fun d r=>r) fun d xs r=>r
   rcases hd with e | e
   ·subst e
    obtain ⟨n1,n2,n3,n4⟩:=nne d o q
    exact kk d v n1 n2 n3 n4 r
   ·obtain ⟨n1,n2,n3,n4⟩:=nne d _ e
    exact kk d v n1 n2 n3 n4 r
  refine I.step (g':=s.gens) (d':=s.drawn) (t':=s.toks) (ch:=[z,TI,TO,i1,i2]) (fun c hc=>?_) (fun c o _ _ hc q _=>?_) (fun c o _ _ hc q _=>⟨o.slots,?_⟩)
    (fun c o _ q n=>n) (fun c o hc q=>⟨o,?_⟩) (fun c xs q=>q) (fun c o u q=>q) (fun c ps q=>⟨#[],by rw [q];simp⟩) (fun m hm=>?_) ok' I.bare
  ·obtain ⟨f0,f1,f2,f3,f4,f5⟩:=hf c hc
   exact ⟨f3,f1,f4,f5⟩
  ·obtain ⟨n1,n2,n3,n4⟩:=notin c hc;exact kk c o n1 n2 n3 n4 q
  ·obtain ⟨n1,n2,n3,n4⟩:=notin c hc;exact kk c o n1 n2 n3 n4 q
  ·obtain ⟨n1,n2,n3,n4⟩:=notin c hc;exact kk c o n1 n2 n3 n4 q
  ·obtain ⟨o,es,ep,ho,r⟩:=hm
   exact ⟨o,es,ep,kk _ o (Ne.symm (hf z (by simp)).2.1) (Ne.symm (hf TO (by simp)).2.1) (Ne.symm (hf i1 (by simp)).2.1) (Ne.symm (hf i2 (by simp)).2.1) ho,r⟩
 self:=fun _ _ _ _ _ st h=>wpAny_pyIter_zip st.1 h
section
variable {X:Cx}
def Zms (K:PySem.W.Frag) (ta:TA):TI:=fun σ H R=>ta σ H fun vs H1=>∃a b,vs = [.ref a,.ref b]/\(∃xs,Zp K H1 a xs)/\(∃ys,Zp K H1 b ys)/\R (Itz K a b) H1
theorem Zlw {a b:Expr}{ta:TA}{p pos tpos:Pos}{es:List Expr}{k:Nat} (hg:Gl X "zip") (hm:X.mg "zip" = none) (ha:PA X [a,b] ta) (hs:starEach [a,b] X.env = [(false,eval a X.env),(false,eval b X.env)]:=by rfl) (hs2:starEach [b] X.env = [(false,eval b X.env)]:=by rfl):
  PI X (.Tuple es k tpos) (.Call (.Name "zip" p) [a,b] [] pos) (Zms X.K ta):=by
 intro pins s σ H R I h
 refine Call_ (Wq I hg hm boot_zip (PyProof.Rows.callWith_type1 (Yq (ha pos pins s σ H _ I h) fun us s1 ⟨vs,H1,I1,r1,q1⟩=>?_) (by rw [hs,hs2]) (by rw [hs2];rfl)))
 obtain ⟨l1,l2,e,⟨xs,hq1⟩,⟨ys,hq2⟩,q⟩:=q1
 subst e
 obtain ⟨u,v,rfl,ru,rv⟩:=r1.two
 cases ru
 cases rv
 obtain ⟨its1,rv1,p1,hz1⟩:=I1.list hq1
 obtain ⟨its2,rv2,p2,hz2⟩:=I1.list hq2
 have L1:@LT.lt Nat _ l1 s1.heap.objs.size:=by obtain ⟨o,ho,_⟩:=p1.isList;exact aLt ho
 have L2:@LT.lt Nat _ l2 s1.heap.objs.size:=by obtain ⟨o,ho,_⟩:=p2.isList;exact aLt ho
 refine call_zip_2 p1.isList p2.isList fun h' g1 g2 g3 g4 g5 hsz kk=>?_
 have I2:Inv X pins σ H1 { s1 with heap:=h' }:=I1.kept (t':=s1.toks) kk
 refine wpAny_pyIter_zip (s:={ s1 with heap:=h' }) g1 ?_
 have ap:ZipApart (s1.heap.objs.size+4) (s1.heap.objs.size+2) (s1.heap.objs.size+3) s1.heap.objs.size (s1.heap.objs.size+1) l1 l2:=by
  constructor<;>(intro e;have e':@Eq Nat _ _:=e;lia)
 refine ⟨_,[s1.heap.objs.size+4,s1.heap.objs.size+2,s1.heap.objs.size+3,s1.heap.objs.size,s1.heap.objs.size+1],_,_,H1,rfl,I2,Zir l1 l2 _ _ _ _ _ ap,⟨g1,g2,⟨_,_,g3⟩,g4,g5⟩,fun c hc=>?_,q⟩
 have hb':@LE.le Nat _ s1.heap.objs.size c:=by
  simp only [List.mem_cons,List.not_mem_nil,or_false] at hc
  rcases hc with e | e | e | e | e<;>(subst e;first | exact Nat.le_refl _ | exact Nat.le_add_right _ _)
 exact I1.fpOk hb' (I1.hok.fresh hb')
theorem ZjF {K:PySem.W.Frag}{a b:Expr}{ta:TA}{p pos tpos:Pos}{es:List Expr}{k:Nat} (hk:X.K=K) (hg:Gl X "zip") (hm:X.mg "zip" = none) (ha:PA X [a,b] ta) (hs:starEach [a,b] X.env = [(false,eval a X.env),(false,eval b X.env)]:=by rfl) (hs2:starEach [b] X.env = [(false,eval b X.env)]:=by rfl):
  PI X (.Tuple es k tpos) (.Call (.Name "zip" p) [a,b] [] pos) (Zms K ta):=hk ▸ Zlw hg hm ha hs hs2
theorem Zlv {K:PySem.W.Frag}{a b:Addr}{xs ys:List V}{g:TG}{tc:TT}{te:TE} {σ:St}{H:Hp}{Q:VK} (hn:xs.length<=sizeLine) (hl:xs.length<=ys.length) (Pv:Nat->List V->Hp->Prop) (h0:Pv 0 [] H) (hlen:∀i zs H,Pv i zs H->zs.length<=i) (hS:∀i zs H,Pv i zs H->Zp K H a xs/\Zp K H b ys)
  (hs:∀i x y p zs H,xs[i]? = some x->ys[i]? = some y->Pv i zs H->H p=none->g (.ref p) σ (upd H p (.tup [x,y])) fun σ2 H2=>tc σ2 H2 fun b H3=>if b=true then te σ2 H3 fun y H4=>Pv (i+1) (zs ++ [y]) H4 else Pv (i+1) zs H3)
  (hd:∀zs H,Pv xs.length zs H -> ∀D,H D=none->Q (.ref D) (upd H D (.lst zs))):LcW (Itz K a b) σ g tc te H Q:=
 ZbE hn Pv h0 hlen (fun i zs H hi p=>⟨xs,ys,xs[i],ys[i]'(by lia),(hS i zs H p).1,(hS i zs H p).2,by simp [hi],by simp [show i<ys.length by lia]⟩) (fun zs H p=>⟨xs,ys,(hS _ zs H p).1,(hS _ zs H p).2,.inl (Nat.le_refl _)⟩) (fun i zs H hi p x H' y=>by
  obtain ⟨q,u,v,e1,e2,e3,y1,y2⟩:=y
  subst e1 e3
  exact hs i u v q zs _ (y1 xs (hS i zs _ p).1) (y2 ys (hS i zs _ p).2) p e2) hd
end
end L2
namespace L2
open PySem PySem.Spec PyProof.Rows PyProof.V
inductive Sim (H:Hp):V->Prop
 | non:Sim H .non
 | bl (b:Bool):Sim H (.bl b)
 | int (i:Int):Sim H (.int i)
 | str (x:Str):Sim H (.str x)
 | lst {a:Addr}{xs:List V} (e:H a=some (.lst xs)):Sim H (.ref a)
 | tup {a:Addr}{xs:List V} (e:H a=some (.tup xs)):Sim H (.ref a)
def isStr:V->Bool
 | .str _=>true
 | _=>false
def isIn:V->Bool
 | .int _=>true
 | _=>false
inductive ZcZ (H:Hp):V->Option (Str×Int)->Prop
 | yes {a:Addr}{x:Str}{k:Int} (e:H a=some (.tup [.str x,.int k])):ZcZ H (.ref a) (some (x,k))
 | non:ZcZ H .non none
 | bl (b:Bool):ZcZ H (.bl b) none
 | int (i:Int):ZcZ H (.int i) none
 | str (x:Str):ZcZ H (.str x) none
 | lst {a:Addr}{xs:List V} (e:H a=some (.lst xs)):ZcZ H (.ref a) none
 | len {a:Addr}{xs:List V} (e:H a=some (.tup xs)) (n:xs.length≠2):ZcZ H (.ref a) none
 | fst {a:Addr}{u w:V} (e:H a=some (.tup [u,w])) (s:Sim H u) (n:isStr u=false):ZcZ H (.ref a) none
 | snd {a:Addr}{x:Str}{w:V} (e:H a=some (.tup [.str x,w])) (s:Sim H w) (n:isIn w=false):ZcZ H (.ref a) none
section
variable {X:Cx}{e a b:Expr}{es:List Expr}{te ta tb:TE}{t:TA}{pos:Pos}{st:Stmt}{rest:List Stmt}{ts us:TS}
structure PEc (X:Cx) (e:Expr) (t:TE):Prop where
 out:PE X e t
structure PAc (X:Cx) (es:List Expr) (t:TA):Prop where
 out:PA X es t
structure PSc (X:Cx) (st:Stmt) (t:TS):Prop where
 out:PS X st t
structure Zof (X:Cx) (st:List Stmt) (t:TS):Prop where
 out:PSs X st t
end
inductive Lit
 | non | bl (b:Bool) | int (i:Int) | str (x:Str) | tup (l:List Lit) | lst (l:List Lit)
mutual
inductive Zd6 (H:Hp):V->Lit->Prop
 | non:Zd6 H .non .non
 | bl (b:Bool):Zd6 H (.bl b) (.bl b)
 | int (i:Int):Zd6 H (.int i) (.int i)
 | str (x:Str):Zd6 H (.str x) (.str x)
 | tup {a:Addr}{xs:List V}{l:List Lit} (e:H a=some (.tup xs)) (r:ZcF H xs l):Zd6 H (.ref a) (.tup l)
 | lst {a:Addr}{xs:List V}{l:List Lit} (e:H a=some (.lst xs)) (r:ZcF H xs l):Zd6 H (.ref a) (.lst l)
inductive ZcF (H:Hp):List V->List Lit->Prop
 | nil:ZcF H [] []
 | cons {v:V}{vs:List V}{l:Lit}{ls:List Lit} (a:Zd6 H v l) (r:ZcF H vs ls):ZcF H (v::vs) (l::ls)
end
section
variable {X:Cx}{G:St->Hp->Prop}{e a b:Expr}{es:List Expr}{pos:Pos}{l:Lit}{ls la lb:List Lit}
def tL (G:St->Hp->Prop) (l:Lit):TE:=fun σ H Q=>G σ H /\ ∀v H',Zd H H'->Zd6 H' v l->Q v H'
def tLs (G:St->Hp->Prop) (l:List Lit):TA:=fun σ H Q=>G σ H /\ ∀v H',Zd H H'->ZcF H' v l->Q v H'
structure PL (X:Cx) (G:St->Hp->Prop) (e:Expr) (l:Lit):Prop where
 out:PE X e (tL G l)
structure PLs (X:Cx) (G:St->Hp->Prop) (es:List Expr) (l:List Lit):Prop where
 out:PA X es (tLs G l)
end
section
variable {X:Cx}{st:Stmt}{rest:List Stmt}{t u:TS}
def Znn (t u:TS):TS:=fun D σ H=>∃I:St->Hp->Prop,t { D with nx:=I } σ H /\ ∀ σ' H',I σ' H'->u D σ' H'
theorem Zkl (h1:PS X st t) (h2:PSs X rest u):PSs X (st::rest) (Znn t u):=by
 intro pins s σ H D I h
 obtain ⟨W,a,b⟩:=h
 have c:PSs X (st::rest) (Zmp (fun D' σ' H'=>σ' = σ /\ H'=H/\D' = { D with nx:=u D } /\ t { D with nx:=W } σ H) u):=by
  refine Ze (fun pins s σ' H' D' I' q=>?_) h2
  obtain ⟨rfl,rfl,rfl,q⟩:=q
  refine Yq (h1 pins s σ' H' _ I' q) fun f s' z=>?_
  cases f with
  | next=>obtain ⟨σ2,H2,I2,q2⟩:=z;exact ⟨σ2,H2,I2,b σ2 H2 q2⟩
  | _=>exact z
 exact c pins s σ H D I ⟨rfl,rfl,rfl,a⟩
end
def Exc (h:Heap) (a T:Addr) (C:Value):Prop:=
 ∃oe vs oT ts,h.get? a=some oe/\oe.cls=C/\oe.data = .fields vs/\vs[1]? = some (.ref T)/\h.get? T=some oT/\oT.data = .fields ts/\ts[3]? = some .none/\T≠a/\vs[2]? = some .none
theorem Exc.ne_dict {h:Heap}{a T b:Addr}{C:Value}{o:Obj} (x:Exc h a T C) (e:h.get? b=some o) (d:∀vs,o.data ≠ .fields vs):b≠a/\b≠T:=by
 obtain ⟨oe,vs,oT,ts,p1,_,p3,_,p5,p6,_⟩:=x
 refine ⟨fun z=>?_,fun z=>?_⟩
 ·rw [z,p1] at e;cases e;exact d _ p3
 ·rw [z,p5] at e;cases e;exact d _ p6
section
variable {M:Model}{A:Around}{E:Value->Shared->Prop}{s:Shared}{env:Env}{outer:List Env}{L a T:Addr}{C:Value}{base h:Heap}{Q:Unit->Shared->Prop}
theorem Zi4 {o:Obj}{vs:Array Value}{k:Nat}{x:Value} (ho:s.heap.get? a=some o) (hd:o.data = .fields vs) (hk:k<vs.size)
  (h:∀h',(∃o',h'.get? a=some o'/\o'.cls=o.cls/\o'.data = .fields (vs.setIfInBounds k x))->Heap.SameBut a s.heap h'->Q () { s with heap:=h' }):wpAny M A (setField (.ref a) k x) Q E s:=
 wpAny_setField ho hd hk (h _ ⟨_,Heap.get?_update_self _ ho (Obj.isFreed_of_fields (Obj.data_mapFields hd _)),Obj.cls_mapFields ..,Obj.data_mapFields hd _⟩ (Heap.SameBut.update ..))
theorem Zgk {oe:Obj}{vs:Array Value}{T:Option Addr} (hfr:A.frames=some (env::outer)) (hf:env.frame=some L) (hl:s.heap.FunFrames base (env::outer)) (ha:s.heap.get? a=some oe) (hv:oe.data = .fields vs) (h1:vs[1]? = some (T.elim .none .ref)) (h2:vs[2]? = some .none)
  (hT:∀t,T=some t->t≠a /\ ∃oT ts,s.heap.get? t=some oT/\oT.data = .fields ts/\ts[3]? = some .none)
  (hQ:∀h' T',(∀b o,s.heap.get? b=some o->b∉W9 (env::outer)->b≠a->T≠some b->h'.get? b=some o)->(∀b o,s.heap.get? b=some o->b∈W9 (env::outer) -> ∃sl,h'.get? b=some { o with slots:=sl }) ->
   Exc h' a T' oe.cls->s.heap.get? T'=none->Q () { s with heap:=h' }):wpAny M A (noteFrame (.ref a) env) (fun _ s₂=>wpAny M A (setFlight (.ref a) none) Q E s₂) E s:=by
 have nf:∀b o,s.heap.get? b=some o->(∃ws,o.data = .fields ws)->b∉W9 (env::outer):=fun b o e ⟨ws,d⟩ hb=>by
  obtain ⟨_,o',e',n⟩:=hl.mem hb
  rw [e] at e';cases e'
  exact n ws d
 have sz:2<vs.size:=(Array.getElem?_eq_some_iff.mp h2).1
 have entry:∀(head:Value) (nx:Bool) (h0:Heap),(∀b o,s.heap.get? b=some o->T≠some b->h0.get? b=some o)->(∀b o,s.heap.get? b=some o -> ∃o',h0.get? b=some o')->h0.FunFrames base (env::outer) ->
   wpAny M A (do let f <- frameOf env;let pl <- entryPlaceOf L nx;let b <- EntryCells.newEntry head f .none (rawInt L) .none pl;setField (.ref a) 1 b) (fun _ s₂=>wpAny M A (setFlight (.ref a) none) Q E s₂) E { s with heap:=h0 }:=by
  intro head nx h0 k0 n0 hl0
  have a0:h0.get? a=some oe:=k0 a oe ha fun z=>(hT a z).1 rfl
  refine wpAny_bind (wpAny_frameOf_fun hfr hl0 hf fun h₁ so=>wpAny_bind (wpAny_entryPlaceOf fun pl hpl=>?_))
  unfold EntryCells.newEntry newFields
  refine wpAny_bind (wpAny_newObj_type ?_ (hpl.sizeOk5 _ _ _ _ _))
  generalize hob:([head,Value.ref L,.none,rawInt L,.none]++(if pl.isEmpty then List.replicate 6 Value.none else pl)).toArray=ts
  have t3:3<ts.size:=by rw [<- hob];simp only [List.size_toArray,List.length_append,List.length_cons,List.length_nil];lia
  have a1:h₁.get? a=some oe:=(so.2.1 a (nf a oe ha ⟨vs,hv⟩)).trans a0
  have ne:h₁.objs.size≠a:=Nat.ne_of_gt (Heap.lt_size a1)
  refine Zi4 (Heap.get?_push_of_some _ a1) hv (by lia) fun g2 ⟨o2,e2,c2,d2⟩ sb2=>?_
  have eT:g2.get? h₁.objs.size=some _:=(sb2.2 _ ne).trans (Heap.get?_push_size h₁ rfl)
  unfold setFlight
  refine wpAny_bind (wpAny_field (x:=.ref h₁.objs.size) e2 d2 (by simp [show 1<vs.size by lia]) ?_)
  rw [if_pos (by simp)]
  refine Zi4 eT rfl t3 fun h3 ⟨o3,e3,c3,d3⟩ sb3=>?_
  have old:∀b o,h₁.get? b=some o->b≠a->h3.get? b=some o:=fun b o e z=>(sb3.2 b (Nat.ne_of_lt (Heap.lt_size e))).trans ((sb2.2 b z).trans (Heap.get?_push_of_some _ e))
  have fresh:s.heap.get? h₁.objs.size=none:=by
   cases q:s.heap.get? h₁.objs.size with
   | none=>rfl
   | some o=>
    exfalso
    obtain ⟨o',z⟩:=n0 _ o q
    obtain ⟨sl,y⟩:=so.2.2 _ _ z
    exact Nat.lt_irrefl _ (Heap.lt_size y)
  refine hQ h3 h₁.objs.size (fun b o e n na nt=>old b o ((so.2.1 b n).trans (k0 b o e nt)) na) (fun b o e hb=>?_) ⟨o2,_,o3,_,(sb3.2 a (Ne.symm ne)).trans e2,c2,d2,by simp [show 1<vs.size by lia],e3,d3,by simp [t3],ne,by rw [Array.getElem?_setIfInBounds_ne (by decide)];exact h2⟩ fresh
  obtain ⟨_,o',e',n⟩:=hl.mem hb
  rw [e] at e';cases e'
  obtain ⟨sl,y⟩:=so.2.2 b o (k0 b o e fun z=>by obtain ⟨_,oT,ts,q,d,_⟩:=hT b z;rw [e] at q;cases q;exact n _ d)
  exact ⟨sl,old b _ y fun z=>by rw [z,ha] at e;cases e;exact n _ hv⟩
 unfold noteFrame
 simp only [hf]
 refine wpAny_bind (wpAny_field ha hv h1 ?_)
 cases T with
 | none=>
  rw [if_neg (by decide)]
  exact entry _ _ s.heap (fun b o e _=>e) (fun b o e=>⟨o,e⟩) hl
 | some t=>
  obtain ⟨nt,oT,ts,eT,dT,f3⟩:=hT t rfl
  show wpAny M A (if (Value.ref t != Value.none)=true then _ else _) _ _ s
  rw [if_pos (by simp)]
  refine wpAny_bind (wpAny_field eT dT f3 ?_)
  rw [if_neg (by simp [rawInt])]
  refine wpAny_bind (Zi4 eT dT (Array.getElem?_eq_some_iff.mp f3).1 fun h' ⟨o1,g1,_⟩ sb=>?_)
  refine entry _ _ h' (fun b o e n=>(sb.2 b fun z=>n (by rw [z])).trans e) (fun b o e=>by
   by_cases z:b=t
   ·exact ⟨o1,by rw [z];exact g1⟩
   ·exact ⟨o,(sb.2 b z).trans e⟩) (hl.of_keeps fun b o e n=>⟨o,(sb.2 b fun z=>?_).trans e,rfl⟩)
  rw [z,eT] at e;cases e
  exact n _ dT
theorem ZeY {args:List Value} (hfr:A.frames=some (env::outer)) (hf:env.frame=some L) (hl:h.FunFrames base (env::outer)) (hx:Heap.MadeExcOf h s.heap a C args)
  (hQ:∀h' T,(∀b o,h.get? b=some o->b∉W9 (env::outer)->h'.get? b=some o)->(∀b o,h.get? b=some o->b∈W9 (env::outer) -> ∃sl,h'.get? b=some { o with slots:=sl }) ->
   Exc h' a T C->h.get? a=none->h.get? T=none->Q () { s with heap:=h' }):wpAny M A (leaving env (.ref a)) Q E s:=by
 obtain ⟨t,ha,_⟩:=hx.there
 have was:∀b,s.heap.get? b=none->h.get? b=none:=fun b e=>by
  cases q:h.get? b with
  | none=>rfl
  | some o=>rw [hx.keeps b o q] at e;cases e
 exact wpAny_bind (Zgk (T:=none) hfr hf (hl.of_keeps fun b o e _=>⟨o,hx.keeps b o e,rfl⟩) ha rfl rfl rfl (fun _ z=>nomatch z) fun h' T' k1 k2 ex nT=>
  hQ h' T' (fun b o e n=>k1 b o (hx.keeps b o e) n (fun z=>by rw [z,hx.new] at e;cases e) (fun z=>nomatch z)) (fun b o e hb=>k2 b o (hx.keeps b o e) hb) ex hx.new (was _ nT))
theorem looked (hfr:A.frames=some (env::outer)) (hf:env.frame=some L) (hl:s.heap.FunFrames base (env::outer)) (hx:Exc s.heap a T C)
  (hQ:∀h' T',(∀b o,s.heap.get? b=some o->b∉W9 (env::outer)->b≠a->b≠T->h'.get? b=some o)->(∀b o,s.heap.get? b=some o->b∈W9 (env::outer) -> ∃sl,h'.get? b=some { o with slots:=sl }) ->
   Exc h' a T' C->(T'=T∨s.heap.get? T'=none)->Q () { s with heap:=h' }):wpAny M A (noteFrame (.ref a) env) (fun _ s₂=>wpAny M A (setFlight (.ref a) none) Q E s₂) E s:=by
 obtain ⟨oe,vs,oT,ts,p1,rfl,p3,p4,p5,p6,p7,p8,p9⟩:=hx
 exact Zgk (T:=some T) hfr hf hl p1 p3 p4 p9 (fun t z=>by cases z;exact ⟨p8,oT,ts,p5,p6,p7⟩) fun h' T' k1 k2 ex nT=>hQ h' T' (fun b o e n na nt=>k1 b o e n na fun z=>nt (Option.some.inj z).symm) k2 ex (.inr nT)
theorem ZhC (hfr:A.frames=some (env::outer)) (hf:env.frame=some L) (hl:s.heap.FunFrames base (env::outer)) (hx:Exc s.heap a T C)
  (hQ:∀h' T',(∀b o,s.heap.get? b=some o->b∉W9 (env::outer)->b≠a->b≠T->h'.get? b=some o)->(∀b o,s.heap.get? b=some o->b∈W9 (env::outer) -> ∃sl,h'.get? b=some { o with slots:=sl }) ->
   Exc h' a T' C->(T'=T∨s.heap.get? T'=none)->Q () { s with heap:=h' }):wpAny M A (leaving env (.ref a)) Q E s:=wpAny_bind (looked hfr hf hl hx hQ)
theorem landed (hx:Exc s.heap a T C) (hQ:∀h',(∀b o,s.heap.get? b=some o->b≠a->b≠T->h'.get? b=some o)->Exc h' a T C->Q () { s with heap:=h' }):wpAny M A (setFlight (.ref a) none) Q E s:=by
 obtain ⟨oe,vs,oT,ts,p1,p2,p3,p4,p5,p6,p7,p8,p9⟩:=hx
 unfold setFlight
 refine wpAny_bind (wpAny_field p1 p3 p4 ?_)
 rw [if_pos (by simp)]
 have t3:=(Array.getElem?_eq_some_iff.mp p7).1
 refine Zi4 p5 p6 t3 fun h' ⟨o',e',c',d'⟩ sb=>hQ h' (fun b o e _ nt=>(sb.2 b nt).trans e) ⟨oe,vs,o',_,(sb.2 a (Ne.symm p8)).trans p1,p2,p3,p4,e',d',by simp [t3],p8,p9⟩
end
def CX1 (P:Program) (w:World):CXT:=fun outer H s E e s'=>∃(a T C:Addr) (H':Hp),e = .ref a/\s'.os=s.os/\AllBare s'.gens/\Un (W9 outer) [] H H' s.heap s'.heap/\Wy P w H' s'.heap /\
 Exc s'.heap a T (.ref C)/\s.heap.get? a=none/\s.heap.get? T=none/\H' a=none/\H' T=none/\E (.ref C) none H'
section
variable {P:Program}{w:World}{K:PySem.W.Frag}{mg:Str->Option Value}{base:Heap}{N:List Str}{qual:Str}{scope:Scope}{f:Addr}{cd:Value}{A:Around}{outer:List Env}{s₀ s:Shared}{H₀ H:Hp}{E:XK}{CX:CXT}{pins:List (Addr×Obj)} {σ:L2.St}
theorem Zb3 {h:Heap}{b:Addr}{o:HO} (ok:Wy P w H h) (e:H b=some o):∃ob,h.get? b=some ob:=(ok b o e).there
theorem YN {h:Heap}{b:Addr} (ok:Wy P w H h) (e:h.get? b=none):H b=none:=by
 cases q:H b with
 | none=>rfl
 | some o=>
  obtain ⟨ob,z⟩:=Zb3 ok q
  rw [e] at z
  cases z
theorem ZcH {a T:Addr}{h':Heap} (I:Inv (Jw CX P w K mg base N qual scope f cd A outer s₀ H₀ E) pins σ H s)
  (na:H a=none/\s₀.heap.get? a=none) (nT:H T=none/\s₀.heap.get? T=none)
  (keep:∀b o,s.heap.get? b=some o->b∉W9 (Jw CX P w K mg base N qual scope f cd A outer s₀ H₀ E).stack->b≠a->b≠T->h'.get? b=some o)
  (slot:∀b o,s.heap.get? b=some o->b∈W9 (Jw CX P w K mg base N qual scope f cd A outer s₀ H₀ E).stack -> ∃sl,h'.get? b=some { o with slots:=sl }):
  Un (W9 outer) [] H₀ H s₀.heap h'/\Wy P w H h':=by
 have B:Un (W9 outer) [] H₀ H s₀.heap s.heap:=I.base
 have neL:∀b o,s₀.heap.get? b=some o->b∉W9 outer->b∉W9 (Jw CX P w K mg base N qual scope f cd A outer s₀ H₀ E).stack:=fun b o e nb hb=>by
  rcases List.mem_cons.mp (I.stkSub b hb) with z | z
  ·exact absurd (Nat.lt_of_lt_of_le (Heap.lt_size e) I.ok.above) (by rw [z];exact Nat.lt_irrefl _)
  ·exact nb z
 have nea:∀b o,s₀.heap.get? b=some o->b≠a/\b≠T:=fun b o e=>⟨(fun z=>by rw [z,na.2] at e;cases e),(fun z=>by rw [z,nT.2] at e;cases e)⟩
 have any:∀b o,s.heap.get? b=some o->b≠a->b≠T -> ∃o',h'.get? b=some o':=fun b o e z1 z2=>by
  by_cases hb:b∈W9 (Jw CX P w K mg base N qual scope f cd A outer s₀ H₀ E).stack
  ·obtain ⟨sl,q⟩:=slot b o e hb
   exact ⟨_,q⟩
  ·exact ⟨o,keep b o e hb z1 z2⟩
 refine ⟨⟨fun b o e n hb hx=>keep b o (B.keep b o e n hb hx) (neL b o e hb) (nea b o e).1 (nea b o e).2,fun b o e n hb hx=>?_,B.free,fun b o e hx=>?_,B.tups,B.frzs,B.tbls⟩,fun b u e=>?_⟩
 ·obtain ⟨sl,q⟩:=B.slot b o e n hb hx
  obtain ⟨sl',q'⟩:=slot b _ q (by
   show b∈W9 (envOfC qual scope s₀.heap.objs.size f cd::outer)
   unfold W9
   rw [List.filterMap_cons]
   exact List.mem_cons_of_mem _ hb)
  exact ⟨sl',q'⟩
 ·obtain ⟨o',q⟩:=B.there b o e hx
  exact any b o' q (nea b o e).1 (nea b o e).2
 ·refine (I.hok b u e).stay (fun c v hc q=>?_) (fun _ q=>q) fun _ _ q=>q
  have hH:H c≠none:=by
   rcases hc with rfl | z
   ·rw [e];exact fun z=>nomatch z
   ·rw [z];exact fun z=>nomatch z
  exact keep c v q (fun z=>hH (I.stkFree c z)) (fun z=>hH (by rw [z];exact na.1)) (fun z=>hH (by rw [z];exact nT.1))
theorem Jc {b:Addr} (I:Inv (Jw CX P w K mg base N qual scope f cd A outer s₀ H₀ E) pins σ H s) (e:s.heap.get? b=none):s₀.heap.get? b=none:=by
 cases q:s₀.heap.get? b with
 | none=>rfl
 | some o=>
  obtain ⟨o',z⟩:=I.base.there b o q (fun y=>nomatch y)
  rw [e] at z
  cases z
theorem Zjz {a C:Addr}{args:List Value}{h':Heap}{tk:Nat} (I:Inv (Jw (CX1 P w) P w K mg base N qual scope f cd A outer s₀ H₀ E) pins σ H s) (hx:Heap.MadeExcOf s.heap h' a (.ref C) args) (hE:E (.ref C) none H):
  (Jw (CX1 P w) P w K mg base N qual scope f cd A outer s₀ H₀ E).xe (.ref a) { s with heap:=h',toks:=tk }:=by
 refine ZeY (L:=s₀.heap.objs.size) I.ok.frames rfl I.stack (s:={ s with heap:=h',toks:=tk }) hx fun h2 T keep slot ex na nT=>?_
 obtain ⟨u,ok⟩:=ZcH I ⟨YN I.hok na,Jc I na⟩ ⟨YN I.hok nT,Jc I nT⟩ (fun b o e n _ _=>keep b o e n) slot
 exact ⟨a,T,C,H,rfl,I.os,I.bare,u,ok,ex,Jc I na,Jc I nT,YN I.hok na,YN I.hok nT,hE⟩
theorem Zf7:Passes (CX1 P w) (Jw (CX1 P w) P w K mg base N qual scope f cd A outer s₀ H₀ E) E:=by
 intro pins σ H s e s' I c
 obtain ⟨a,T,C,H',rfl,os,bare,un,ok,ex,na,nT,ha,hT,hE⟩:=c
 have I':Inv (Jw (CX1 P w) P w K mg base N qual scope f cd A outer s₀ H₀ E) pins σ H' s':=I.call' os un ok bare (fun b z=>nomatch z)
 refine ZhC (L:=s₀.heap.objs.size) I'.ok.frames rfl I'.stack ex fun h2 T' keep slot ex' oT=>?_
 obtain ⟨u,ok'⟩:=ZcH I' ⟨ha,Jc I na⟩ ⟨hT,Jc I nT⟩ keep slot
 refine ⟨a,T',C,H',rfl,I'.os,I'.bare,u,ok',ex',Jc I na,?_,ha,?_,hE⟩
 ·rcases oT with z | z
  ·rw [z];exact Jc I nT
  ·exact Jc I' z
 ·rcases oT with z | z
  ·rw [z];exact hT
  ·exact YN I'.hok z
end
theorem ZiZ {K:PySem.W.Frag}{C:Addr}{bmB:List Value}{newId:String}{h:Heap} (KI:K.In h) (hq:PySem.W.excIn K C bmB newId=true):
  ∃bm N nm qn bs hd sn sub ab col dd k0 k1 k2 k3 k5 mN,h.get? C=some (excClassObj nm qn C N bs bm hd sn sub ab col dd k0 k1 k2 k3 k5 newId)/\h.Ns N mN/\mN "__init__" = none/\OwnTail h bmB bm:=by
 unfold PySem.W.excIn at hq
 split at hq
 ·rename_i dd dat slots hob
  split at hq
  ·rename_i C2 tail k0 k1 k2 k3 nid k5 hmro hsl
   simp only [Bool.and_eq_true,Bool.not_eq_true',beq_iff_eq] at hq
   obtain ⟨⟨⟨⟨⟨e1,e2⟩,e3⟩,e4⟩,e5⟩,e6⟩:=hq
   subst e1
   subst e2
   obtain ⟨nm,bs,mro,ns,qn,hd,sn,sub,ab,col,del⟩:=dat
   simp only at hmro e3 e5 e6
   subst hmro
   subst e3
   obtain ⟨sl⟩:=slots
   simp only at hsl
   subst hsl
   exact ⟨tail,ns,nm,qn,bs,hd,sn,sub,ab,col,dd,k0,k1,k2,k3,k5,_,KI _ _ hob,.of_isNs (PySem.W.isNs_of_in KI e5),PySem.W.nsMap_none_of_in KI e5 e6,PySem.W.tail_of_in KI e4⟩
  ·exact nomatch hq
 ·exact nomatch hq
def bmV:List Value:=[.type "ValueError", .type "Exception", .type "BaseException", .type "object"]
def Zl3 (C:Addr) (E:XK) (ta:TA):TS:=fun _ σ H=>ta σ H fun vs H1=>vs.length<=sizeLine/\E (.ref C) none H1
section
variable {P:Program}{w:World}{K:PySem.W.Frag}{mg:Str->Option Value}{base:Heap}{N:List Str}{qual:Str}{scope:Scope}{f:Addr}{cd:Value}{A:Around}{outer:List Env}{s₀:Shared}{H₀:Hp}{E:XK}
theorem ZhM {x:Str}{C:Addr}{e:Expr}{es:List Expr}{ta:TA}{np cpos pos:Pos} (hg:Gl (Jw (CX1 P w) P w K mg base N qual scope f cd A outer s₀ H₀ E) x) (hm:mg x=some (.ref C)) (hc:PySem.W.excIn K C bmV "ValueError.__new__" = true)
  (ha:PA (Jw (CX1 P w) P w K mg base N qual scope f cd A outer s₀ H₀ E) (e::es) ta)
  (he:starEach (e::es) (Jw (CX1 P w) P w K mg base N qual scope f cd A outer s₀ H₀ E).env=(false,eval e (Jw (CX1 P w) P w K mg base N qual scope f cd A outer s₀ H₀ E).env)::starEach es (Jw (CX1 P w) P w K mg base N qual scope f cd A outer s₀ H₀ E).env:=by rfl)
  (hp:(backTo cpos (starEach es (Jw (CX1 P w) P w K mg base N qual scope f cd A outer s₀ H₀ E).env)).any (·.1)=false:=by rfl) (hd:(x==("__debug__" : Str))=false:=by decide):
  PS (Jw (CX1 P w) P w K mg base N qual scope f cd A outer s₀ H₀ E) (.Raise (some (.Call (.Name x np) (e::es) [] cpos)) none pos) (Zl3 C E ta):=by
 intro pins s σ H D I h
 obtain ⟨bm,NN,nm,qn,bs,hdc,sn,sub,ab,col,dd,k0,k1,k2,k3,k5,mN,hC,hN,hni,T⟩:=ZiZ I.mod.kin hc
 have hb:bmV.contains (.type "BaseException")=true:=PySem.F.excBase_ValueError.hasBase
 refine wpAny_Raise_call_subT (C:=C) (nm:=nm) (q:=qn) (N:=NN) (bs:=bs) (bm:=bm) (bmB:=bmV) (hdct:=hdc) (sn:=sn) (sub:=sub) (ab:=ab) (col:=col) (dd:=dd) (k0:=k0) (k1:=k1) (k2:=k2) (k3:=k3) (k5:=k5)
  (newId := "ValueError.__new__") PySem.F.excBase_ValueError (mN:=mN) (T.hasType hb) (I.ok.hd rfl) (by rw [he];show (false||(backTo cpos (starEach es _)).any (·.1))=false;rw [hp];rfl) hni (WZ I hg hm ⟨rfl,?_⟩ hd)
 have hz:=ha cpos pins s σ H _ I h
 rw [he] at hz ⊢
 refine Calls.evalArgs_plain (wpAny_mono hz (fun us s2 ⟨vs,H2,I2,rv,hl,hE⟩=>?_) fun _ _ y=>y)
 refine ⟨rfl,by rw [<- rv.length];exact hl,I2.bk _ _ hC,hN.keeps I2.bk,T.keeps I2.bk,fun h' a mk=>?_⟩
 exact Zjz (tk:=s2.toks) I2 mk hE
end
structure ZnL (M:Model) (h:Heap) (C:Addr):Prop where
 ga:PySem.W.Looks M h (typeLookup (.ref C) "__getattribute__") (some (.builtin "BaseException.__getattribute__"))
 ca:PySem.W.Looks M h (typeLookup (.ref C) "__class__") (some (.builtin "object.__class__"))
 ob:PySem.W.Looks M h (isSubtype (.ref C) (.type "object")) true
 be:PySem.W.Looks M h (isSubtype (.ref C) (.type "BaseException")) true
 gn:PySem.W.Looks M h (typeLookup (.ref C) "__getattr__") none
section
variable {M:Model}{A:Around}{E:Value->Shared->Prop}{h:Heap}{g:Array GenState}{d:Drawn}{t:Nat}{os:OsState}
variable {nm q nmD qD:Str}{C N D ND:Addr}{bs bm bsD bmD:List Value}{hdct hdD:Bool}{sn snD:List Str}{sub subD:List Value}{ab abD:Bool}{col colD:Option Bool}{dd ddD:Option Addr}{k0 k1 k2 k3 k5 j0 j1 j2 j3 j5:Option Value}{newId newD:String}
theorem ZgR {e:Addr}{oe:Obj}{Q:Bool->Shared->Prop} (hD:h.get? D=some (excClassObj nmD qD D ND bsD bmD hdD snD subD abD colD ddD j0 j1 j2 j3 j5 newD)) (he:h.get? e=some oe) (hcls:oe.cls = .ref C)
  (hbD:bmD.contains (.type "BaseException")=true) (hsub:PySem.W.Looks M h (isSubtype (.ref C) (.ref D)) true) (hq:Q true ⟨h,g,d,t,os⟩):wpAny M A (excMatches (.ref e) (.ref D)) Q E ⟨h,g,d,t,os⟩:=by
 have hcB:(Value.ref D::bmD).contains (.type "BaseException")=true:=by rw [List.contains_cons,hbD,Bool.or_true]
 have f:=tc_notTuple
 unfold excMatches
 repeat (first | (with_reducible refine wpAny_loadPart_at he ?_;rw [hcls]) | with_reducible refine wpAny_loadPart_at hD ?_ | (with_reducible refine wpAny_isSubtype_exc hD ?_;rw [hcB]) | with_reducible refine hsub.at ?_ | wp_step)
 exact hq
end
abbrev Cx.nailed (X:Cx) (pins:List (Addr×Obj)):Cx:={ X with pn:=X.pn++pins }
theorem Cx.Ok.nailed {X:Cx} (ok:X.Ok) (pins:List (Addr×Obj)):(X.nailed pins).Ok:=
 ⟨ok.mod,ok.kind,ok.glob,ok.blt,ok.above,ok.inj,ok.has,ok.cab,ok.hd,ok.frames,ok.stk,ok.exf,ok.bs,ok.bsz,ok.noex,ok.exfs,ok.funs,ok.frf⟩
theorem Cx.Ok.unnailed {X:Cx}{pins:List (Addr×Obj)} (ok:(X.nailed pins).Ok):X.Ok:=
 ⟨ok.mod,ok.kind,ok.glob,ok.blt,ok.above,ok.inj,ok.has,ok.cab,ok.hd,ok.frames,ok.stk,ok.exf,ok.bs,ok.bsz,ok.noex,ok.exfs,ok.funs,ok.frf⟩
section
variable {X:Cx}{pins ps:List (Addr×Obj)} {σ:L2.St}{H:Hp}{s:Shared}
theorem Inv.nail (I:Inv X pins σ H s):Inv (X.nailed pins) [] σ H s:=⟨I.ok.nailed pins,I.os,I.bare,I.base,I.loc,I.cell,I.free,I.freeC,fun p hp=>I.pin p (by simpa using hp),I.hok,I.len⟩
theorem Inv.unnail (I:Inv (X.nailed pins) ps σ H s):Inv X pins σ H s:=⟨I.ok.unnailed,I.os,I.bare,I.base,I.loc,I.cell,I.free,I.freeC,fun p hp=>I.pin p (List.mem_append_left _ hp),I.hok,I.len⟩
theorem Inv.left {a T:Addr}{h':Heap} (I:Inv X pins σ H s) (hex:X.ex = []) (na:H a=none/\X.s₀.heap.get? a=none) (nT:H T=none/\X.s₀.heap.get? T=none)
  (np:∀p∈X.pn++pins,p.1≠a/\p.1≠T) (xc:∃C,Exc s.heap a T C)
  (keep:∀b o,s.heap.get? b=some o->b∉W9 X.stack->b≠a->b≠T->h'.get? b=some o) (slot:∀b o,s.heap.get? b=some o->b∈W9 X.stack -> ∃sl,h'.get? b=some { o with slots:=sl }):
  Inv X pins σ H { s with heap:=h' }:=by
 obtain ⟨C0,xc⟩:=xc
 have up:∀b o,s.heap.get? b=some o->b≠a->b≠T -> ∃sl,h'.get? b=some { o with slots:=sl }:=fun b o e z1 z2=>by
  by_cases hb:b∈W9 X.stack
  ·exact slot b o e hb
  ·exact ⟨o.slots,keep b o e hb z1 z2⟩
 have neL:∀b o,X.s₀.heap.get? b=some o->b∉X.fs->b∉W9 X.stack:=fun b o e nb hb=>by
  rcases List.mem_cons.mp (I.stkSub b hb) with z | z
  ·exact absurd (Nat.lt_of_lt_of_le (Heap.lt_size e) I.ok.above) (by rw [z];exact Nat.lt_irrefl _)
  ·exact nb z
 have nea:∀b o,X.s₀.heap.get? b=some o->b≠a/\b≠T:=fun b o e=>⟨(fun z=>by rw [z,na.2] at e;cases e),(fun z=>by rw [z,nT.2] at e;cases e)⟩
 have cellK:∀c v,s.heap.IsCell c v->h'.IsCell c v:=fun c v ⟨o,e,dt⟩=>by
  have n:=xc.ne_dict e (fun vs z=>by rw [dt] at z;cases z)
  obtain ⟨sl,e'⟩:=up c o e n.1 n.2
  exact ⟨_,e',dt⟩
 refine ⟨I.ok,I.os,I.bare,⟨fun b o e n hb hx=>?_,fun b o e n hb hx=>?_,I.base.free,fun b o e hx=>?_,I.base.tups,I.base.frzs,I.base.tbls⟩,?_,fun x c e=>?_,I.free,I.freeC,fun p hp=>?_,fun b u e=>?_,I.len⟩
 ·exact keep b o (I.base.keep b o e n hb hx) (neL b o e hb) (nea b o e).1 (nea b o e).2
 ·obtain ⟨sl,e1⟩:=I.base.slot b o e n hb hx
  obtain ⟨sl',e2⟩:=up b _ e1 (nea b o e).1 (nea b o e).2
  exact ⟨sl',e2⟩
 ·obtain ⟨o',e1⟩:=I.base.there b o e hx
  obtain ⟨sl,e2⟩:=up b o' e1 (nea b o e).1 (nea b o e).2
  exact ⟨_,e2⟩
 ·obtain ⟨m,⟨o,es,ep,ho,hd,r⟩,hl⟩:=I.loc
  have n:=xc.ne_dict ho (fun vs z=>by rw [hd] at z;cases z)
  obtain ⟨sl,e'⟩:=up _ o ho n.1 n.2
  refine ⟨m,⟨_,es,ep,e',hd,r⟩,fun i x v e1 e2 e3=>?_⟩
  obtain ⟨u,rv,l⟩:=hl i x v e1 e2 e3
  refine ⟨u,rv,?_⟩
  rcases l with l | ⟨k,c,e,z⟩
  ·exact .inl l
  ·exact .inr ⟨k,c,e,cellK c _ z⟩
 ·obtain ⟨v,z⟩:=I.cell x c e
  exact ⟨v,cellK c v z⟩
 ·obtain ⟨e,n,ne,nf,dd⟩:=I.pin p hp
  have nst:p.1∉W9 X.stack:=fun hb=>by
   rcases List.mem_cons.mp (I.stkSub _ hb) with z | z
   ·exact ne z
   ·exact nf z
  exact ⟨keep p.1 p.2 e nst (np p hp).1 (np p hp).2,n,ne,nf,dd⟩
 ·refine (I.hok b u e).stay (fun c v hc q=>?_) (fun _ q=>q) fun _ _ q=>q
  have hH:H c≠none:=by
   rcases hc with rfl | z
   ·rw [e];exact fun z=>nomatch z
   ·rw [z];exact fun z=>nomatch z
  exact keep c v q (fun z=>hH (I.stkFree c z)) (fun z=>hH (by rw [z];exact na.1)) (fun z=>hH (by rw [z];exact nT.1))
end
section
variable {X:Cx}{pins:List (Addr×Obj)} {σ:L2.St}{H:Hp}{s:Shared}{R:Addr->Hp->Prop}
abbrev Cx.suite (X:Cx) (pins:List (Addr×Obj)) (a:Addr):Cx:={ X with pn:=X.pn++pins,A:=X.A.mark (some (.ref a)),calm:=false,xe:=fun _ _=>False }
theorem Cx.Ok.suite {X:Cx} (ok:X.Ok) (pins:List (Addr×Obj)) (a:Addr):(X.suite pins a).Ok:=
 ⟨ok.mod,ok.kind,ok.glob,ok.blt,ok.above,ok.inj,ok.has,ok.cab,(fun z=>nomatch z),ok.frames,ok.stk,ok.exf,ok.bs,ok.bsz,ok.noex,ok.exfs,ok.funs,ok.frf⟩
theorem Inv.suite (I:Inv (X.nailed pins) [] σ H s) (ok:X.Ok) (a:Addr):Inv (X.suite pins a) [] σ H s:=⟨ok.suite pins a,I.os,I.bare,I.base,I.loc,I.cell,I.free,I.freeC,I.pin,I.hok,I.len⟩
theorem Inv.unsuite {a:Addr}{ps:List (Addr×Obj)} (I:Inv (X.suite pins a) ps σ H s) (ok:X.Ok):Inv X pins σ H s:=⟨ok,I.os,I.bare,I.base,I.loc,I.cell,I.free,I.freeC,fun p hp=>I.pin p (List.mem_append_left _ hp),I.hok,I.len⟩
def isX (a C:Addr):Heap->Prop:=fun h=>∃o,h.get? a=some o/\o.cls = .ref C /\ ∃vs,o.data = .fields vs/\vs[2]? = some .none
theorem Inv.track {a C:Addr} (I:Inv X pins σ H s) (ha:H a=none) (h0:X.s₀.heap.get? a=none) (hL:a≠X.env.locals) (hc:∀x c,X.env.cells.lookup x=some c->c≠a) (hp:∀p∈X.pn++pins,p.1≠a) (hx:isX a C s.heap):
  Inv X pins σ (upd H a (.ext (isX a C))) s:=by
 have new:∀b o,H b=some o->upd H a (.ext (isX a C)) b=some o:=fun b o e=>by rw [Zj (Zg e ha)];exact e
 refine ⟨I.ok,I.os,I.bare,⟨I.base.keep,I.base.slot,fun b o e n hx=>?_,I.base.there,fun b xs e=>new _ _ (I.base.tups b xs e),fun b o u e=>new _ _ (I.base.frzs b o u e),fun b ps e=>?_⟩,I.loc,I.cell,?_,fun x c e=>?_,fun p q=>?_,fun b u e=>?_,I.len⟩
 ·have:b≠a:=fun z=>by rw [z,h0] at e;cases e
  rw [Zj this]
  exact I.base.free b o e n hx
 ·obtain ⟨m,z⟩:=I.base.tbls b ps e
  exact ⟨m,new _ _ z⟩
 ·rw [Zj hL.symm];exact I.free
 ·rw [Zj (hc x c e)];exact I.freeC x c e
 ·obtain ⟨e,n,r⟩:=I.pin p q
  exact ⟨e,by rw [Zj (hp p q)];exact n,r⟩
 ·by_cases z:b=a
  ·subst z
   rw [Zb] at e
   cases e
   obtain ⟨o,ho,hcl⟩:=hx
   exact ⟨⟨o,ho,hcl⟩,⟨o,ho⟩,fun h1 h2 ⟨o1,q1,c1⟩ k=>⟨o1,k o1 q1,c1⟩⟩
  ·rw [Zj z] at e
   exact (I.hok b u e).stay (fun _ _ _ q=>q) (fun b' q=>new _ _ q) fun b' xs q=>new _ _ q
end
section
variable {P:Program}{w:World}{K:PySem.W.Frag}{mg:Str->Option Value}{base:Heap}
theorem YH.okX {x qual:Str}{st:Stmt}{f:Addr}{fd:FuncData}{N ps:List Str}{k:Nat}{sp:Sp} (F:YH K x qual st f fd) (S:Zw N ps (Zh st)) (len:∀vs H Q E,sp vs H Q E->vs.length=ps.length)
  (hbody:∀(cdv:Value) (A:Around) (outer:List Env) (s:Shared) (H:Hp) (vs:List V) (Q:VK) (E:XK),Ji k (A.deeper (envOfC qual (Zh st) s.heap.objs.size f cdv))->sp vs H Q E ->
   ∃t,PSs (Jw (CX1 P w) P w K mg base N qual (Zh st) f cdv A outer s H E) (We st) t/\t { nx:=fun _ H'=>Q .non H',rt:=Q } (start N vs) H):Z6 P w K mg base (CX1 P w) (k+1) f fd ps sp:=by
 obtain ⟨oc,od,kV,doc,pm,an,cdv,ct,osl,rfl,lk,hcd⟩:=F.ex
 exact ZkO lk hcd S len fun A outer s H vs Q E hr hsp=>hbody cdv A outer s H vs Q E hr hsp
def GF (P:Program) (w:World) (K:PySem.W.Frag) (mg:Str->Option Value) (base:Heap) (k:Nat) (x:Str) (ps:List Str) (sp:Sp):Prop:=
 ∃(f:Addr) (fd:FuncData),Z6 P w K mg base (CX1 P w) k f fd ps sp/\mg x=some (.ref f)/\PySem.W.keepIn K (.ref f)=true/\Binds K fd ps []
theorem Ju {X:Cx}{k:Nat}{x:Str}{ps:List Str}{sp:Sp}{p pos:Pos}{e:Expr}{es:List Expr}{t:TA}{E:XK} (h:GF X.prog X.w X.K X.mg X.base k x ps sp) (hr:Ji k X.A) (hx:Passes (CX1 X.prog X.w) X E) (ha:PA X (e::es) t) (hg:Gl X x:=by rfl) (hdb:(x==("__debug__" : Str))=false:=by decide)
  (he:starEach (e::es) X.env=(false,eval e X.env)::starEach es X.env:=by rfl) (hpl:(backTo pos (starEach es X.env)).any (·.1)=false:=by rfl):PE X (.Call (.Name x p) (e::es) [] pos) (Zhi sp [] E t):=by
 obtain ⟨f,fd,G,hm,hk,hb⟩:=h
 exact ZfZ G hr hg hm hk hb .nil hx ha hdb he hpl
structure ZdW (k:Nat) (A:Around):Prop where
 dp:A.depth+3*k+5<recursionLimit
 un:A.units+16*k+200<cLine
theorem Ji.suite {k:Nat}{A:Around} (r:Ji k A) (v:Option Value):ZdW k (A.mark v):=⟨r.dp,r.un⟩
structure ZnW (P:Program) (w:World) (K:PySem.W.Frag) (mg:Str->Option Value) (base:Heap) (k:Nat) (f:Addr) (fd:FuncData) (ps:List Str) (sp:Sp):Prop where
 len:∀vs H Q E,sp vs H Q E->vs.length=ps.length
 run:∀(A:Around) (outer:List Env) (s:Shared) (H:Hp) (args:Args) (us:List Value) (vs:List V) (Q:VK),ZdW k A->Zem P w K mg base A outer s H->BindsTo s fd args (ps.zip us)->Vals vs us->sp vs H Q E0 ->
  codeAny (model P w) A (.call (.ref f) args) (CR WW outer P w H s Q E0) s
abbrev cxS (P:Program) (w:World) (K:PySem.W.Frag) (mg:Str->Option Value) (base:Heap) (N:List Str) (qual:Str) (scope:Scope) (f:Addr) (cd:Value) (A:Around) (outer:List Env) (s:Shared) (H:Hp):Cx:=
 { Jw WW P w K mg base N qual scope f cd A outer s H E0 with calm:=false,xe:=fun _ _=>False }
end
structure Zn9 (K:PySem.W.Frag) (C:Addr):Prop where
 ga:PySem.W.findIn K (.ref C) "__getattribute__" = some (some (.builtin "BaseException.__getattribute__"))
 gn:PySem.W.findIn K (.ref C) "__getattr__" = some none
 ca:PySem.W.findIn K (.ref C) "__class__" = some (some (.builtin "object.__class__"))
 ob:PySem.W.mroIn K C (.type "object")=some true
 be:PySem.W.mroIn K C (.type "BaseException")=some true
 cl:(PySem.W.clsIn K C).isSome=true
end L2
namespace L2
open PySem PySem.Spec PyProof.Rows PyProof.V
section
variable {X:Cx}
theorem Zfy {ns:List Int}{its:List Value} (r:Vals (ns.map V.int) its) {j:Nat} (h:j<its.toArray.size):∃t,its.toArray[j] = .int (ns.getD j 0) t:=by
 have l:=r.length
 rw [List.length_map] at l
 have hj:j<ns.length:=by simp only [List.size_toArray] at h;lia
 obtain ⟨u,e,ru⟩:=r.get (i:=j) (x:=V.int ns[j]) (by simp [hj])
 obtain ⟨t,q⟩:=(show ∃t,u=Value.int ns[j] t from ru)
 have hi:j<its.length:=by lia
 refine ⟨t,?_⟩
 have:its[j]? = some its[j]:=by simp [hi]
 rw [this] at e
 have e2:=Option.some.inj e
 simp [hj]
 rw [e2,q]
end
def ZlZ (b:Nat->Bool):List Nat:=(bif b 0 then [0] else [])++((bif b 1 then [1] else [])++((bif b 2 then [2] else [])++(bif b 3 then [3] else [])))
def Znv (b:Nat->Bool) (led:Bool) (f m:Nat):SetTable:={ mask:=7,place:=(ZlZ b).toArray,dummies:=#[],finger:=f,led:=led,moves:=m,plain:=true }
def EK:Int×Value->Nat->Prop:=fun e k=>e.1=hashInt (k:Int) /\ ∃t,e.2 = .int (k:Int) t
def SO (w:World) (a:Addr) (b:Nat->Bool) (ep:Nat) (es:Array (Int×Value)) (h:Heap):Prop:=
 ∃o led f m,h.get? a=some o/\o.ExactSet/\o.data = .set es ep (Znv b led f m)/\(w.params.followText "set-order" = true∨led=true)/\Paired EK es.toList (ZlZ b)
def Znw (w:World) (a:Addr) (ep:Nat) (es:Array (Int×Value)):Array (Int×Value):=if w.params.followText "set-order" = true then pickOrder (w.params.setOrder a ep) es else es
section
variable {prog:Program}{w:World}{A:Around}{E:Value->Shared->Prop}{s:Shared}{a it:Addr}{b:Nat->Bool}{ep i:Nat}{es:Array (Int×Value)}
structure Wlk (prog:Program) (w:World) (a:Addr) (ep:Nat) (es:Array (Int×Value)) (f:Nat->Nat) (C:Heap->Prop):Prop where
 there:∀{h},C h -> ∃o t,h.get? a=some o/\o.ExactSet/\o.data = .set es ep t/\t.fits es.size=true/\t.plain=true
 kept:∀{h h'},C h->(∀o,h.get? a=some o->h'.get? a=some o)->C h'
 first:f 0=0
 next:∀{A E s i}{Q:Option (Value×Nat)->Shared->Prop},C s.heap->i<=es.size->Q (((Znw w a ep es)[i]?).map fun e=>(e.2,f (i+1))) s->wpAny (model prog w) A (setNext a (f i) i ep) Q E s
section
variable {f:Nat->Nat}{C:Heap->Prop} (N:Wlk prog w a ep es f C)
include N
end
end
def Zn0 (w:World) (a:Addr) (ks:List Nat):HO:=.ext fun h=>∃b ep es,ZlZ b=ks/\SO w a b ep es h
def Zj8:Bool->Keyed->Array Keyed->Nat->Nat->Nat->StateT SortSt Sem (Option Nat):=sortPriv% PySem.Builtin.gallop
def Zig:Array Keyed->Array Keyed->StateT SortSt Sem (Array Keyed):=sortPriv% PySem.Builtin.mergeLo
def ZiQ:Array Keyed->Array Keyed->StateT SortSt Sem (Array Keyed):=sortPriv% PySem.Builtin.mergeHi
def ZdG:Nat->StateT SortSt Sem Bool:=sortPriv% PySem.Builtin.mergeAt
structure Wo (lt:Keyed->Keyed->Bool):Prop where
 irr:∀p,lt p p=false
 asym:∀p q,lt p q=true->lt q p=false
 neg:∀p q r,lt p r=true->lt p q=true∨lt q r=true
theorem Wo.leT {lt : Keyed -> Keyed -> Bool} (C : Wo lt) {p q r : Keyed} (h1 : lt q p = false) (h2 : lt r q = false) : lt r p = false := by
  cases h : lt r p with
  | false => rfl
  | true => rcases C.neg r q p h with z | z
            · rw [z] at h2; cases h2
            · rw [z] at h1; cases h1
theorem Wo.flip {lt:Keyed->Keyed->Bool} (C:Wo lt):Wo (fun x y=>lt y x):=⟨fun p=>C.irr p,fun p q h=>C.asym q p h,fun p q r h=>(C.neg r q p h).symm⟩
structure Cmp (prog:Program) (w:World) (A:Around) (E:Value->Shared->Prop) (s:Shared) (kd:SortKind) (D:Keyed->Prop) (lt:Keyed->Keyed->Bool):Prop where
 cmp:∀(p q:Keyed) (st:SortSt) (Q:Option Bool->SortSt->Prop),D p->D q->kindOf st=kd->Q (some (lt p q)) st->wpS (model prog w) A E s (lt' p q) Q st
 wo:Wo lt
section
variable {prog:Program}{w:World}{A:Around}{E:Value->Shared->Prop}{s:Shared}{kd:SortKind}{D:Keyed->Prop}{lt:Keyed->Keyed->Bool}
def UD (lt:Keyed->Keyed->Bool) (left:Bool) (key:Keyed) (arr:Array Keyed) (base i:Nat):Bool:=match arr[base+i]? with
 | some x=>if left=true then lt x key else !lt key x
 | none=>false
theorem Zbd (C:Cmp prog w A E s kd D lt) {left:Bool}{key:Keyed}{arr:Array Keyed}{base i:Nat}{st:SortSt}{Q:Option Bool->SortSt->Prop} (hk:D key) (hx:∃x,arr[base+i]? = some x/\D x) (hs:kindOf st=kd)
  (h:Q (some (UD lt left key arr base i)) st):wpS (model prog w) A E s (elem' arr (base+i) >>= fun x=>if left=true then lt' x key else (lt' key x >>= fun r=>pure (r.map fun x=>!x))) Q st:=by
 obtain ⟨x,e,d⟩:=hx
 unfold UD at h
 rw [e] at h
 rw [elem'_eq,e]
 refine wpS_bind (wpS_pure ?_)
 cases left with
 | true=>rw [if_pos rfl];exact C.cmp x key st Q d hk hs (by simpa using h)
 | false=>
  rw [if_neg (by simp)]
  exact wpS_bind (C.cmp key x st _ hk d hs (wpS_pure (by simpa using h)))
theorem Zd1 {n:Nat}{st:SortSt}{Q:Option Nat->SortSt->Prop}{body:Nat->Option (Option Nat)×Nat×Nat->StateT SortSt Sem (ForInStep (Option (Option Nat)×Nat×Nat))}{rest:Option (Option Nat)×Nat×Nat->StateT SortSt Sem (Option Nat)} (f:Nat->Bool)
  (mono:∀i j,i<=j->j<n->f j=true->f i=true)
  (hb1:∀x lo hi (R:ForInStep (Option (Option Nat)×Nat×Nat)->SortSt->Prop),lo>=hi->R (.done (none,lo,hi)) st->wpS (model prog w) A E s (body x (none,lo,hi)) R st)
  (hb2:∀x lo hi (R:ForInStep (Option (Option Nat)×Nat×Nat)->SortSt->Prop),lo<hi->hi<=n->R (.yield (if f (lo+(hi-lo) / 2)=true then (none,lo+(hi-lo) / 2+1,hi) else (none,lo,lo+(hi-lo) / 2))) st->wpS (model prog w) A E s (body x (none,lo,hi)) R st)
  (hr:∀lo hi,Q (some hi) st->wpS (model prog w) A E s (rest (none,lo,hi)) Q st)
  (h:∀k,k<=n->(∀i,i<k->f i=true)->(∀i,k<=i->i<n->f i=false)->Q (some k) st)
  (lo hi:Nat) (h1:lo<=hi) (h2:hi<=n) (h3:∀i,i<lo->f i=true) (h4:∀i,hi<=i->i<n->f i=false):wpS (model prog w) A E s (forIn [:n] (none,lo,hi) body >>= rest) Q st:=by
 refine wpS_bind (wpS_mono (wpS_forRange (I:=fun x c st'=>st'=st /\ ∃lo hi,c=(none,lo,hi)/\lo<=hi/\hi<=n/\hi-lo<=n-x/\(∀i,i<lo->f i=true) /\ ∀i,hi<=i->i<n->f i=false)
  (Q:=fun c st'=>st'=st /\ ∃lo hi,c=(none,lo,hi)/\lo=hi/\hi<=n/\(∀i,i<lo->f i=true) /\ ∀i,hi<=i->i<n->f i=false) ?_ ?_ ⟨rfl,lo,hi,rfl,h1,h2,by lia,h3,h4⟩) ?_)
 ·rintro x c st' _ hxn ⟨rfl,lo,hi,rfl,g1,g2,g3,g4,g5⟩
  by_cases hge:lo>=hi
  ·exact hb1 x lo hi _ hge ⟨rfl,lo,hi,rfl,by lia,g2,g4,g5⟩
  ·refine hb2 x lo hi _ (by lia) g2 ?_
   cases e:f (lo+(hi-lo) / 2) with
   | true=>exact ⟨rfl,_,hi,rfl,by lia,g2,by lia,fun i hi'=>mono i _ (by lia) (by lia) e,g5⟩
   | false=>
    refine ⟨rfl,lo,_,rfl,by lia,by lia,by lia,g4,fun i h1 h2=>?_⟩
    cases z:f i with
    | false=>rfl
    | true=>rw [mono _ i h1 h2 z] at e;cases e
 ·rintro c st' ⟨rfl,lo,hi,rfl,g1,g2,g3,g4,g5⟩
  exact ⟨rfl,lo,hi,rfl,by lia,g2,g4,g5⟩
 ·rintro c st' ⟨rfl,lo,hi,rfl,rfl,g2,g4,g5⟩
  exact hr lo lo (h lo g2 g4 g5)
theorem Y4 (C:Cmp prog w A E s kd D lt) {left:Bool}{key:Keyed}{arr:Array Keyed}{base n hint:Nat}{st:SortSt}{Q:Option Nat->SortSt->Prop} (hk:D key) (hx:∀i,i<n -> ∃x,arr[base+i]? = some x/\D x) (hh:hint<n) (hs:kindOf st=kd)
  (mono:∀i j,i<=j->j<n->UD lt left key arr base j=true->UD lt left key arr base i=true)
  (h:∀k,k<=n->(∀i,i<k->UD lt left key arr base i=true)->(∀i,k<=i->i<n->UD lt left key arr base i=false)->Q (some k) st):
  wpS (model prog w) A E s (Zj8 left key arr base n hint) Q st:=by
 have monoF:∀i j,i<=j->j<n->UD lt left key arr base i=false->UD lt left key arr base j=false:=fun i j hij hj z=>by
  cases e:UD lt left key arr base j with
  | false=>rfl
  | true=>rw [mono i j hij hj e] at z;cases z
 refine wpS_bind (Zbd C hk (hx hint hh) hs ?_)
 cases hr:UD lt left key arr base hint with
 | true=>
  dsimp only
  rw [if_pos rfl]
  refine wpS_bind (wpS_mono (wpS_forRange (I:=fun x c st'=>st'=st /\ ∃lo of,c=(none,lo,of)/\lo<of/\lo<n-hint/\x<of/\UD lt left key arr base (hint+lo)=true)
   (Q:=fun c st'=>st'=st /\ ∃lo of,c=(none,lo,of)/\lo<of/\lo<n-hint/\UD lt left key arr base (hint+lo)=true/\(of<n-hint->UD lt left key arr base (hint+of)=false)) ?_ ?_ ⟨rfl,0,1,rfl,by lia,by lia,by lia,hr⟩) ?_)
  ·rintro x c st' _ hxn ⟨rfl,lo,of,rfl,g1,g2,g3,g4⟩
   dsimp only
   by_cases hge:of>=n-hint
   ·rw [if_pos hge]
    exact wpS_pure ⟨rfl,lo,of,rfl,g1,g2,g4,fun z=>by lia⟩
   ·rw [if_neg hge]
    refine wpS_bind (Zbd C hk (hx (hint+of) (by lia)) hs ?_)
    cases e:UD lt left key arr base (hint+of) with
    | true=>exact wpS_pure ⟨rfl,of,_,rfl,by lia,by lia,by lia,e⟩
    | false=>exact wpS_pure ⟨rfl,lo,of,rfl,g1,g2,g4,fun _=>e⟩
  ·rintro c st' ⟨rfl,lo,of,rfl,g1,g2,g3,g4⟩
   exact ⟨rfl,lo,of,rfl,g1,g2,g4,fun z=>by lia⟩
  ·rintro c st' ⟨rfl,lo,of,rfl,g1,g2,g4,g5⟩
   dsimp only
   refine Zd1 (UD lt left key arr base) mono (fun x lo hi R hge hR=>?_) (fun x lo hi R hlt hn hR=>?_) (fun lo hi hq=>wpS_pure hq) h _ _ ?_ ?_ ?_ ?_
   ·dsimp only
    rw [if_pos hge]
    exact wpS_pure hR
   ·dsimp only
    rw [if_neg (by lia)]
    refine wpS_bind (Zbd C hk (hx _ (by lia)) hs ?_)
    cases e:UD lt left key arr base (lo+(hi-lo) / 2) with
    | true=>rw [e,if_pos rfl] at hR;exact wpS_pure hR
    | false=>rw [e,if_neg (by simp)] at hR;exact wpS_pure hR
   ·lia
   ·lia
   ·exact fun i hi=>mono i (hint+lo) (by lia) (by lia) g4
   ·intro i h1 h2
    by_cases z:of<n-hint
    ·exact monoF (hint+of) i (by lia) h2 (g5 z)
    ·lia
 | false=>
  dsimp only
  rw [if_neg (by simp)]
  refine wpS_bind (wpS_mono (wpS_forRange (I:=fun x c st'=>st'=st /\ ∃lo of,c=(none,lo,of)/\lo<of/\lo<hint+1/\x<of/\UD lt left key arr base (hint-lo)=false)
   (Q:=fun c st'=>st'=st /\ ∃lo of,c=(none,lo,of)/\lo<of/\lo<hint+1/\UD lt left key arr base (hint-lo)=false/\(of<hint+1->UD lt left key arr base (hint-of)=true)) ?_ ?_ ⟨rfl,0,1,rfl,by lia,by lia,by lia,hr⟩) ?_)
  ·rintro x c st' _ hxn ⟨rfl,lo,of,rfl,g1,g2,g3,g4⟩
   dsimp only
   by_cases hge:of>=hint+1
   ·rw [if_pos hge]
    exact wpS_pure ⟨rfl,lo,of,rfl,g1,g2,g4,fun z=>by lia⟩
   ·rw [if_neg hge]
    refine wpS_bind (Zbd C hk (hx (hint-of) (by lia)) hs ?_)
    cases e:UD lt left key arr base (hint-of) with
    | true=>exact wpS_pure ⟨rfl,lo,of,rfl,g1,g2,g4,fun _=>e⟩
    | false=>exact wpS_pure ⟨rfl,of,_,rfl,by lia,by lia,by lia,e⟩
  ·rintro c st' ⟨rfl,lo,of,rfl,g1,g2,g3,g4⟩
   exact ⟨rfl,lo,of,rfl,g1,g2,g4,fun z=>by lia⟩
  ·rintro c st' ⟨rfl,lo,of,rfl,g1,g2,g4,g5⟩
   dsimp only
   refine Zd1 (UD lt left key arr base) mono (fun x lo hi R hge hR=>?_) (fun x lo hi R hlt hn hR=>?_) (fun lo hi hq=>wpS_pure hq) h _ _ ?_ ?_ ?_ ?_
   ·dsimp only
    rw [if_pos hge]
    exact wpS_pure hR
   ·dsimp only
    rw [if_neg (by lia)]
    refine wpS_bind (Zbd C hk (hx _ (by lia)) hs ?_)
    cases e:UD lt left key arr base (lo+(hi-lo) / 2) with
    | true=>rw [e,if_pos rfl] at hR;exact wpS_pure hR
    | false=>rw [e,if_neg (by simp)] at hR;exact wpS_pure hR
   ·lia
   ·lia
   ·intro i hi
    by_cases z:of<hint+1
    ·exact mono i (hint-of) (by lia) (by lia) (g5 z)
    ·lia
   ·exact fun i h1 h2=>monoF (hint-lo) i (by lia) h2 g4
end
section
variable {prog:Program}{w:World}{A:Around}{E:Value->Shared->Prop}{s:Shared}{kd:SortKind}{D:Keyed->Prop}{lt:Keyed->Keyed->Bool}
def JQ (lt:Keyed->Keyed->Bool) (l:List Keyed):Prop:=l.Pairwise fun p q=>lt q p=false
theorem GU (C:Wo lt) {l:List Keyed} (h:JQ lt l) {i j:Nat}{p q:Keyed} (hi:l[i]? = some p) (hj:l[j]? = some q) (hij:i<=j):lt q p=false:=by
 obtain ⟨h1,rfl⟩:=List.getElem?_eq_some_iff.mp hi
 obtain ⟨h2,rfl⟩:=List.getElem?_eq_some_iff.mp hj
 rcases Nat.lt_or_ge i j with z | z
 ·exact List.pairwise_iff_getElem.mp h i j h1 h2 z
 ·obtain rfl:i=j:=by lia
  exact C.irr _
theorem Z1 {arr:Array Keyed}{i:Nat}{x:Keyed}{st:SortSt}{Q:Keyed->SortSt->Prop}{M:Model} (e:arr[i]? = some x) (h:Q x st):wpS M A E s (elem' arr i) Q st:=by
 rw [elem'_eq,e];exact wpS_pure h
def Eqg (st st':SortSt):Prop:=kindOf st'=kindOf st/\arrOf st'=arrOf st/\pendingOf st'=pendingOf st/\failedOf st'=failedOf st
theorem Eqg.refl (st:SortSt):Eqg st st:=⟨rfl,rfl,rfl,rfl⟩
structure Mg (lt:Keyed->Keyed->Bool) (a b out:List Keyed) (ia ib:Nat):Prop where
 srt:JQ lt out
 pm:(out++(a.drop ia++b.drop ib)).Perm (a++b)
 le:∀p∈out,∀q∈a.drop ia++b.drop ib,lt q p=false
theorem drop_cons {l:List Keyed}{i:Nat}{x:Keyed} (e:l[i]? = some x):l.drop i=x::l.drop (i+1):=by
 obtain ⟨h,rfl⟩:=List.getElem?_eq_some_iff.mp e
 exact List.drop_eq_getElem_cons h
theorem Je {l:List Keyed} (h:JQ lt l) (i:Nat):JQ lt (l.drop i):=List.Pairwise.sublist (List.drop_sublist _ _) h
theorem ZbF {l:List Keyed}{x:Keyed} (h:JQ lt l) (hx:∀p∈l,lt x p=false):JQ lt (l ++ [x]):=by
 refine List.pairwise_append.mpr ⟨h,List.pairwise_singleton _ _,fun p hp q hq=>?_⟩
 rw [List.mem_singleton.mp hq];exact hx p hp
theorem Mg.takeA (C:Wo lt) {a b out:List Keyed}{ia ib:Nat} (g:Mg lt a b out ia ib) (sa:JQ lt a) (sb:JQ lt b) {x:Keyed} (e:a[ia]? = some x) (h:∀y,b[ib]? = some y->lt y x=false):Mg lt a b (out ++ [x]) (ia+1) ib:=by
 have da:=drop_cons e
 have xin:x∈a.drop ia++b.drop ib:=by rw [da];simp
 refine ⟨ZbF g.srt fun p hp=>g.le p hp x xin,?_,fun p hp q hq=>?_⟩
 ·have:=g.pm
  rw [da] at this
  simpa using this
 ·rcases List.mem_append.mp hp with hp | hp
  ·refine g.le p hp q ?_
   rw [da]
   rcases List.mem_append.mp hq with z | z
   ·exact List.mem_append_left _ (List.mem_cons_of_mem _ z)
   ·exact List.mem_append_right _ z
  ·rw [List.mem_singleton.mp hp]
   rcases List.mem_append.mp hq with z | z
   ·have:=Je sa ia
    rw [da] at this
    exact (List.pairwise_cons.mp this).1 q z
   ·cases hb:b[ib]? with
    | none=>rw [List.drop_eq_nil_of_le (List.getElem?_eq_none_iff.mp hb)] at z;cases z
    | some y=>
     have hy:=h y hb
     have db:=drop_cons hb
     rw [db] at z
     rcases List.mem_cons.mp z with rfl | z
     ·exact hy
     ·have sb':=Je sb ib
      rw [db] at sb'
      exact C.leT hy ((List.pairwise_cons.mp sb').1 q z)
theorem Mg.takeB (C:Wo lt) {a b out:List Keyed}{ia ib:Nat} (g:Mg lt a b out ia ib) (sa:JQ lt a) (sb:JQ lt b) {x:Keyed} (e:b[ib]? = some x) (h:∀y,a[ia]? = some y->lt y x=false):Mg lt a b (out ++ [x]) ia (ib+1):=by
 have db:=drop_cons e
 have xin:x∈a.drop ia++b.drop ib:=by rw [db];simp
 refine ⟨ZbF g.srt fun p hp=>g.le p hp x xin,?_,fun p hp q hq=>?_⟩
 ·refine List.Perm.trans ?_ g.pm
  rw [db,List.append_assoc]
  refine List.Perm.append_left _ ?_
  exact (List.perm_middle (a:=x) (l₁:=a.drop ia) (l₂:=b.drop (ib+1))).symm
 ·rcases List.mem_append.mp hp with hp | hp
  ·refine g.le p hp q ?_
   rw [db]
   rcases List.mem_append.mp hq with z | z
   ·exact List.mem_append_left _ z
   ·exact List.mem_append_right _ (List.mem_cons_of_mem _ z)
  ·rw [List.mem_singleton.mp hp]
   rcases List.mem_append.mp hq with z | z
   ·cases ha:a[ia]? with
    | none=>rw [List.drop_eq_nil_of_le (List.getElem?_eq_none_iff.mp ha)] at z;cases z
    | some y=>
     have hy:=h y ha
     have da:=drop_cons ha
     rw [da] at z
     rcases List.mem_cons.mp z with rfl | z
     ·exact hy
     ·have sa':=Je sa ia
      rw [da] at sa'
      exact C.leT hy ((List.pairwise_cons.mp sa').1 q z)
   ·have:=Je sb ib
    rw [db] at this
    exact (List.pairwise_cons.mp this).1 q z
theorem ZdY {l:List Keyed}{i k:Nat}{x:Keyed} (e:l[i+k]? = some x):(l.drop i).take (k+1)=(l.drop i).take k ++ [x]:=by
 rw [List.take_add_one,List.getElem?_drop,e];rfl
theorem Mg.takeAs (C:Wo lt) {a b:List Keyed} (sa:JQ lt a) (sb:JQ lt b) {ia ib:Nat}{out:List Keyed} (g:Mg lt a b out ia ib):∀k,ia+k<=a.length->(∀i,i<k -> ∀x y,a[ia+i]? = some x->b[ib]? = some y->lt y x=false)->Mg lt a b (out++(a.drop ia).take k) (ia+k) ib
 | 0,_,_=>by simpa using g
 | k+1,hk,h=>by
  have ih:=Mg.takeAs C sa sb g k (by lia) fun i hi=>h i (by lia)
  obtain ⟨x,hx⟩:∃x,a[ia+k]? = some x:=⟨a[ia+k]'(by lia),List.getElem?_eq_getElem (by lia)⟩
  have:=ih.takeA C sa sb hx fun y hy=>h k (by lia) x y hx hy
  rw [ZdY hx,<- List.append_assoc]
  exact this
theorem Mg.takeBs (C:Wo lt) {a b:List Keyed} (sa:JQ lt a) (sb:JQ lt b) {ia ib:Nat}{out:List Keyed} (g:Mg lt a b out ia ib):∀k,ib+k<=b.length->(∀i,i<k -> ∀x y,b[ib+i]? = some x->a[ia]? = some y->lt y x=false)->Mg lt a b (out++(b.drop ib).take k) ia (ib+k)
 | 0,_,_=>by simpa using g
 | k+1,hk,h=>by
  have ih:=Mg.takeBs C sa sb g k (by lia) fun i hi=>h i (by lia)
  obtain ⟨x,hx⟩:∃x,b[ib+k]? = some x:=⟨b[ib+k]'(by lia),List.getElem?_eq_getElem (by lia)⟩
  have:=ih.takeB C sa sb hx fun y hy=>h k (by lia) x y hx hy
  rw [ZdY hx,<- List.append_assoc]
  exact this
def Mgd (lt:Keyed->Keyed->Bool) (a b r:List Keyed):Prop:=JQ lt r/\r.Perm (a++b)
theorem Mg.done {a b out:List Keyed}{ia ib:Nat} (g:Mg lt a b out ia ib) (sa:JQ lt a) (sb:JQ lt b) (h:a.length<=ia∨b.length<=ib):Mgd lt a b (out++a.drop ia++b.drop ib):=by
 refine ⟨?_,by rw [List.append_assoc];exact g.pm⟩
 rw [List.append_assoc]
 refine List.pairwise_append.mpr ⟨g.srt,?_,fun p hp q hq=>g.le p hp q hq⟩
 rcases h with h | h
 ·rw [List.drop_eq_nil_of_le h,List.nil_append];exact Je sb ib
 ·rw [List.drop_eq_nil_of_le h,List.append_nil];exact Je sa ia
theorem Mg.lastA {a b out:List Keyed}{ia ib:Nat} (g:Mg lt a b out ia ib) (sb:JQ lt b) (h:ia+1=a.length) (hl:∀x,a[ia]? = some x -> ∀y∈b,lt x y=false):Mgd lt a b (out++b.drop ib++a.drop ia):=by
 obtain ⟨x,hx⟩:∃x,a[ia]? = some x:=⟨a[ia]'(by lia),List.getElem?_eq_getElem (by lia)⟩
 have da:a.drop ia = [x]:=by rw [drop_cons hx,List.drop_eq_nil_of_le (by lia)]
 refine ⟨?_,?_⟩
 ·rw [List.append_assoc,da]
  refine List.pairwise_append.mpr ⟨g.srt,ZbF (Je sb ib) fun p hp=>hl x hx p (List.mem_of_mem_drop hp),fun p hp q hq=>g.le p hp q ?_⟩
  rw [da]
  rcases List.mem_append.mp hq with z | z
  ·exact List.mem_append_right _ z
  ·exact List.mem_append_left _ z
 ·rw [List.append_assoc]
  exact (List.Perm.append_left _ List.perm_append_comm).trans g.pm
end
section
variable {prog:Program}{w:World}{A:Around}{E:Value->Shared->Prop}{s:Shared}{kd:SortKind}{D:Keyed->Prop}{lt:Keyed->Keyed->Bool}
theorem Jt {l:Array Keyed}{i k:Nat}:(l.extract i (i+k)).toList=(l.toList.drop i).take k:=by
 rw [Array.toList_extract,List.extract_eq_take_drop];congr 1;lia
theorem Yc {l:Array Keyed}{i:Nat}:(l.extract i).toList=l.toList.drop i:=by
 rw [Array.toList_extract,List.extract_eq_take_drop]
 exact List.take_of_length_le (by simp)
theorem Jl {key:Keyed}{arr:Array Keyed}{base i:Nat}{x:Keyed} (e:arr.toList[base+i]? = some x):UD lt false key arr base i = !lt key x:=by
 unfold UD;rw [<- Array.getElem?_toList,e];simp
theorem YF {key:Keyed}{arr:Array Keyed}{base i:Nat}{x:Keyed} (e:arr.toList[base+i]? = some x):UD lt true key arr base i=lt x key:=by
 unfold UD;rw [<- Array.getElem?_toList,e];simp
theorem WE (C:Cmp prog w A E s kd D lt) {left:Bool}{key:Keyed}{arr:Array Keyed}{base n:Nat} (hs:JQ lt arr.toList) (hn:base+n<=arr.toList.length):
  ∀i j,i<=j->j<n->UD lt left key arr base j=true->UD lt left key arr base i=true:=fun i j hij hj h=>by
 have ei:arr.toList[base+i]? = some (arr.toList[base+i]'(by lia)):=List.getElem?_eq_getElem (by lia)
 have ej:arr.toList[base+j]? = some (arr.toList[base+j]'(by lia)):=List.getElem?_eq_getElem (by lia)
 have le:=GU C.wo hs ei ej (by lia)
 cases left with
 | true=>
  rw [YF ej] at h
  rw [YF ei]
  rcases C.wo.neg _ (arr.toList[base+i]'(by lia)) _ h with z | z
  ·rw [z] at le;cases le
  ·exact z
 | false=>
  rw [Jl ej] at h
  rw [Jl ei]
  cases z:lt key (arr.toList[base+i]'(by lia)) with
  | false=>rfl
  | true=>
   rcases C.wo.neg _ (arr.toList[base+j]'(by lia)) _ z with y | y
   ·rw [y] at h;cases h
   ·rw [y] at le;cases le
section
variable {β:Type}{st:SortSt}{Q:β -> SortSt->Prop}{M:Model}
theorem ZI {c:Bool}{X Y:StateT SortSt Sem β} (h1:c=true->wpS M A E s X Q st) (h2:c=false->wpS M A E s Y Q st):wpS M A E s (if c=true then X else Y) Q st:=by
 cases c with
 | true=>exact h1 rfl
 | false=>exact h2 rfl
theorem Jq {k n:Nat}{X Y:StateT SortSt Sem β} (h1:k>n->wpS M A E s X Q st) (h2:k<=n->wpS M A E s Y Q st):wpS M A E s (if k>n then X else Y) Q st:=by
 by_cases h:k>n
 ·rw [if_pos h];exact h1 h
 ·rw [if_neg h];exact h2 (by lia)
end
theorem ZT {m n:Nat} (h:(m==n)=false):m≠n:=fun e=>by rw [e] at h;simp at h
theorem Ze1 (C:Cmp prog w A E s kd D lt) {a b:Array Keyed}{st:SortSt}{Q:Array Keyed->SortSt->Prop} (hda:∀x∈a.toList,D x) (hdb:∀x∈b.toList,D x) (sa:JQ lt a.toList) (sb:JQ lt b.toList) (hs:kindOf st=kd)
  (na:0<a.toList.length) (nb:0<b.toList.length) (hf:∀x y,a.toList[0]? = some x->b.toList[0]? = some y->lt x y=false) (hl:∀x,a.toList[a.toList.length-1]? = some x -> ∀y∈b.toList,lt x y=false)
  (h:∀r st',Mgd lt a.toList b.toList r.toList->Eqg st st'->Q r st'):wpS (model prog w) A E s (Zig a b) Q st:=by
 have za:a.size=a.toList.length:=by simp
 have zb:b.size=b.toList.length:=by simp
 have ea:∀i,i<a.toList.length -> ∃x,a[i]? = some x/\D x/\a.toList[i]? = some x:=fun i hi=>⟨a.toList[i],by rw [<- Array.getElem?_toList];exact List.getElem?_eq_getElem hi,hda _ (List.getElem_mem hi),List.getElem?_eq_getElem hi⟩
 have eb:∀i,i<b.toList.length -> ∃x,b[i]? = some x/\D x/\b.toList[i]? = some x:=fun i hi=>⟨b.toList[i],by rw [<- Array.getElem?_toList];exact List.getElem?_eq_getElem hi,hdb _ (List.getElem_mem hi),List.getElem?_eq_getElem hi⟩
 refine wpS_bind (wpS_lift (wpAny_rule ⟨rfl,?_⟩))
 obtain ⟨b0,hb0,db0,lb0⟩:=eb 0 nb
 obtain ⟨a0,ha0,da0,la0⟩:=ea 0 na
 refine wpS_bind (Z1 hb0 ?_)
 have g0:Mg lt a.toList b.toList [b0] 0 1:=by
  have g:Mg lt a.toList b.toList [] 0 0:=⟨.nil,by simp,fun p hp=>(by cases hp)⟩
  exact g.takeB C.wo sa sb lb0 fun y hy=>hf y b0 hy lb0
 show wpS _ _ _ _ (if (1==b.size)=true then _ else if (0+1==a.size)=true then _ else _) _ _
 by_cases c1:(1==b.size)=true
 ·rw [if_pos c1]
  refine wpS_pure (h _ st ?_ (Eqg.refl st))
  simp only [Array.toList_append,Yc]
  exact g0.done sa sb (.inr (by rw [<- zb,<- eq_of_beq c1];exact Nat.le_refl _))
 rw [if_neg c1]
 by_cases c2:(0+1==a.size)=true
 ·rw [if_pos c2]
  refine wpS_pure (h _ st ?_ (Eqg.refl st))
  simp only [Array.toList_append,Yc]
  exact g0.lastA sb (by rw [<- za];exact eq_of_beq c2) fun x hx=>hl x (by rw [<- za,<- eq_of_beq c2];exact hx)
 rw [if_neg c2]
 have n1:1<b.toList.length:=by
  rcases Nat.lt_or_ge 1 b.toList.length with z | z
  ·exact z
  ·exact absurd (by rw [zb,show b.toList.length=1 by lia];rfl) c1
 have n2:1<a.toList.length:=by
  rcases Nat.lt_or_ge 1 a.toList.length with z | z
  ·exact z
  ·exact absurd (by rw [za,show a.toList.length=1 by lia];rfl) c2
 refine wpS_bind (wpS_get ?_)
 refine wpS_bind (wpS_mono (wpS_forRange (I:=fun x c st'=>∃(out:Array Keyed) (ia ib mg:Nat),c=(none,out,ia,ib,mg)/\Mg lt a.toList b.toList out.toList ia ib/\ia+1<a.toList.length/\ib<b.toList.length/\x<=ia+ib/\Eqg st st')
  (Q:=fun c st'=>∃r,c.1=some r/\Mgd lt a.toList b.toList r.toList/\Eqg st st') ?_ ?_ ⟨#[b0],0,1,_,rfl,g0,by lia,n1,by lia,Eqg.refl st⟩) ?_)
 ·rintro x c st1 _ hx ⟨out,ia,ib,mg,rfl,g,l1,l2,l3,q1⟩
  refine wpS_bind (wpS_mono (wpS_forRange (I:=fun y c st'=>st'=st1 /\ ∃(out:Array Keyed) (ia ib ac bc:Nat),c=(none,out,ia,ib,ac,bc)/\Mg lt a.toList b.toList out.toList ia ib/\ia+1<a.toList.length/\ib<b.toList.length/\x+y<=ia+ib)
   (Q:=fun c st'=>st'=st1/\((∃(out:Array Keyed) (ia ib ac bc:Nat),c=(none,out,ia,ib,ac,bc)/\Mg lt a.toList b.toList out.toList ia ib/\ia+1<a.toList.length/\ib<b.toList.length/\x+1<=ia+ib) ∨ ∃r,c.1=some r/\Mgd lt a.toList b.toList r.toList)) ?_ ?_ ⟨rfl,out,ia,ib,0,0,rfl,g,l1,l2,l3⟩) ?_)
  ·rintro y c st' _ hy ⟨rfl,out,ia,ib,ac,bc,rfl,g,l1,l2,l3⟩
   obtain ⟨xb,hb,db,lb⟩:=eb ib l2
   obtain ⟨xa,ha,da,la⟩:=ea ia (by lia)
   refine wpS_bind (Z1 hb (wpS_bind (Z1 ha (wpS_bind (C.cmp xb xa _ _ db da (q1.1.trans hs) ?_)))))
   cases e:lt xb xa with
   | true=>
    refine wpS_bind (Z1 hb ?_)
    have g':=g.takeB C.wo sa sb lb fun y hy=>by rw [la] at hy;cases hy;exact C.wo.asym _ _ e
    dsimp only
    by_cases c3:(ib+1==b.size)=true
    ·rw [if_pos c3]
     refine wpS_pure ⟨rfl,.inr ⟨_,rfl,?_⟩⟩
     simp only [Array.toList_append,Array.toList_push,Yc]
     exact g'.done sa sb (.inr (by rw [<- zb,<- eq_of_beq c3];exact Nat.le_refl _))
    ·rw [if_neg c3]
     have c4:ib+1<b.toList.length:=by
      rcases Nat.lt_or_ge (ib+1) b.toList.length with z | z
      ·exact z
      ·exact absurd (by rw [zb,show b.toList.length=ib+1 by lia];simp) c3
     split
     ·exact wpS_pure ⟨rfl,.inl ⟨_,_,_,_,_,rfl,by rw [Array.toList_push];exact g',l1,c4,by lia⟩⟩
     ·exact wpS_pure ⟨rfl,_,_,_,_,_,rfl,by rw [Array.toList_push];exact g',l1,c4,by lia⟩
   | false=>
    refine wpS_bind (Z1 ha ?_)
    have g':=g.takeA C.wo sa sb la fun y hy=>by rw [lb] at hy;cases hy;exact e
    dsimp only
    by_cases c3:(ia+1+1==a.size)=true
    ·rw [if_pos c3]
     refine wpS_pure ⟨rfl,.inr ⟨_,rfl,?_⟩⟩
     simp only [Array.toList_append,Array.toList_push,Yc]
     have c5:ia+1+1=a.toList.length:=by rw [<- za];exact eq_of_beq c3
     exact g'.lastA sb c5 fun x hx=>hl x (by rw [<- c5];exact hx)
    ·rw [if_neg c3]
     have c4:ia+1+1<a.toList.length:=by
      rcases Nat.lt_or_ge (ia+1+1) a.toList.length with z | z
      ·exact z
      ·exact absurd (by rw [za,show a.toList.length=ia+1+1 by lia];simp) c3
     split
     ·exact wpS_pure ⟨rfl,.inl ⟨_,_,_,_,_,rfl,by rw [Array.toList_push];exact g',c4,l2,by lia⟩⟩
     ·exact wpS_pure ⟨rfl,_,_,_,_,_,rfl,by rw [Array.toList_push];exact g',c4,l2,by lia⟩
  ·rintro c st' ⟨rfl,out,ia,ib,ac,bc,rfl,g,l1,l2,l3⟩
   lia
  ·rintro c st' ⟨rfl,⟨out,ia,ib,ac,bc,rfl,g,l1,l2,l3⟩ | ⟨r,hr,hm⟩⟩
   ·refine wpS_bind (wpS_lift (wpAny_rule ⟨rfl,?_⟩))
    refine wpS_bind (wpS_mono (wpS_forRange (I:=fun y c st'=>Eqg st st' /\ ∃(out:Array Keyed) (ia ib mg ac bc:Nat),c=(none,out,ia,ib,mg,ac,bc)/\Mg lt a.toList b.toList out.toList ia ib/\ia+1<a.toList.length/\ib<b.toList.length/\x+1+y<=ia+ib)
     (Q:=fun c st'=>Eqg st st'/\((∃(out:Array Keyed) (ia ib mg ac bc:Nat),c=(none,out,ia,ib,mg,ac,bc)/\Mg lt a.toList b.toList out.toList ia ib/\ia+1<a.toList.length/\ib<b.toList.length/\x+1<=ia+ib) ∨ ∃r,c.1=some r/\Mgd lt a.toList b.toList r.toList)) ?_ ?_ ⟨q1,out,ia,ib,_,ac,bc,rfl,g,l1,l2,l3⟩) ?_)
    ·rintro y c st2 _ hy ⟨q2,out,ia,ib,mg,ac,bc,rfl,g,l1,l2,l3⟩
     obtain ⟨xb,hb,db,lb⟩:=eb ib l2
     refine Jq (k:=mg) (n:=1) (fun _=>?_) (fun _=>?_)
     all_goals (
      refine wpS_bind (wpS_modify ?_)
      refine wpS_bind (Z1 hb ?_)
      refine wpS_bind (Y4 (base:=ia) (n:=a.size-ia) (hint:=0) C db (fun i hi=>let ⟨x,h1,h2,_⟩:=ea (ia+i) (by lia);⟨x,h1,h2⟩) (by lia) (q2.1.trans hs) (WE C sa (by lia)) fun k hk k1 k2=>?_)
      have f1:∀i,i<k -> ∀x y,a.toList[ia+i]? = some x->b.toList[ib]? = some y->lt y x=false:=fun i hi x y hx hy=>by
       have:=k1 i hi
       rw [Jl hx] at this
       rw [lb] at hy
       cases hy
       simpa using this
      have gk:=g.takeAs C.wo sa sb k (by lia) f1
      have m3:∀x,a.toList[ia+k]? = some x->lt xb x=true:=fun x hx=>by
       have:=k2 k (Nat.le_refl _) (by have:=(List.getElem?_eq_some_iff.mp hx).1;lia)
       rw [Jl hx] at this
       simpa using this
      refine Jq (k:=k) (n:=0) (fun k0=>?_) (fun k0=>?_)
      ·refine ZI (c:=(ia+k+1==a.size)) (fun c3=>?_) (fun c3=>ZI (c:=(ia+k==a.size)) (fun c4=>?_) (fun c4=>?_))
       ·refine wpS_pure ⟨q2,.inr ⟨_,rfl,?_⟩⟩
        have c3':ia+k+1=a.toList.length:=by rw [<- za];exact eq_of_beq c3
        have:=gk.lastA sb c3' fun x hx=>hl x (by rw [<- c3'];exact hx)
        simp only [Array.toList_append,Array.toList_push,Yc,Jt] at this ⊢
        exact this
       ·refine wpS_pure ⟨q2,.inr ⟨_,rfl,?_⟩⟩
        have:=gk.done sa sb (.inl (by rw [<- za,<- eq_of_beq c4];exact Nat.le_refl _))
        simp only [Array.toList_append,Array.toList_push,Yc,Jt] at this ⊢
        exact this
       ·have c3':=ZT c3
        have c4':=ZT c4
        have m4':=m3
        have g1:Mg lt a.toList b.toList (out++a.extract ia (ia+k)).toList (ia+k) ib:=by
         simp only [Array.toList_append,Array.toList_push,Yc,Jt] at gk ⊢
         exact gk
        refine wpS_bind (Z1 hb ?_)
        have g2:=g1.takeB C.wo sa sb lb fun y hy=>C.wo.asym _ _ (m4' y hy)
        refine ZI (c:=(ib+1==b.size)) (fun c5=>?_) (fun c5=>?_)
        ·refine wpS_pure ⟨q2,.inr ⟨_,rfl,?_⟩⟩
         have:=g2.done sa sb (.inr (by rw [<- zb,<- eq_of_beq c5];exact Nat.le_refl _))
         simp only [Array.toList_append,Array.toList_push,Yc,Jt] at this ⊢
         exact this
        ·have c6:=ZT c5
         obtain ⟨xa,ha,da,la⟩:=ea (ia+k) (by lia)
         refine wpS_bind (Z1 ha ?_)
         refine wpS_bind (Y4 (left:=true) (base:=ib+1) (n:=b.size-(ib+1)) (hint:=0) C da (fun i hi=>let ⟨x,h1,h2,_⟩:=eb (ib+1+i) (by lia);⟨x,h1,h2⟩) (by lia) (q2.1.trans hs) (WE C sb (by lia)) fun k' hk' k1' k2'=>?_)
         have f2:∀i,i<k' -> ∀x y,b.toList[ib+1+i]? = some x->a.toList[ia+k]? = some y->lt y x=false:=fun i hi x y hx hy=>by
          have:=k1' i hi
          rw [YF hx] at this
          rw [la] at hy
          cases hy
          exact C.wo.asym _ _ this
         have gk':=g2.takeBs C.wo sa sb k' (by lia) f2
         have m5:∀y,b.toList[ib+1+k']? = some y->lt y xa=false:=fun y hy=>by
          have:=k2' k' (Nat.le_refl _) (by have:=(List.getElem?_eq_some_iff.mp hy).1;lia)
          rw [YF hy] at this
          exact this
         refine Jq (k:=k') (n:=0) (fun k0'=>?_) (fun k0'=>?_)
         ·refine ZI (c:=(ib+1+k'==b.size)) (fun c9=>?_) (fun c9=>?_)
          ·refine wpS_pure ⟨q2,.inr ⟨_,rfl,?_⟩⟩
           have:=gk'.done sa sb (.inr (by rw [<- zb,<- eq_of_beq c9];exact Nat.le_refl _))
           simp only [Array.toList_append,Array.toList_push,Yc,Jt] at this ⊢
           exact this
          ·have c9':=ZT c9
           have m4:=m5
           have g3:Mg lt a.toList b.toList (((out++a.extract ia (ia+k)).push xb)++b.extract (ib+1) (ib+1+k')).toList (ia+k) (ib+1+k'):=by
            simp only [Array.toList_append,Array.toList_push,Yc,Jt] at gk' ⊢
            exact gk'
           refine wpS_bind (Z1 ha ?_)
           have g4:=g3.takeA C.wo sa sb la m4
           refine ZI (c:=((ia+k)+1+1==a.size)) (fun c7=>?_) (fun c7=>?_)
           ·refine wpS_pure ⟨q2,.inr ⟨_,rfl,?_⟩⟩
            have c8:(ia+k)+1+1=a.toList.length:=by rw [<- za];exact eq_of_beq c7
            have:=g4.lastA sb c8 fun x hx=>hl x (by rw [<- c8];exact hx)
            simp only [Array.toList_append,Array.toList_push,Yc,Jt] at this ⊢
            exact this
           ·have c8:=ZT c7
            refine ZI (fun _=>?_) (fun _=>?_)
            ·exact wpS_pure ⟨q2,.inl ⟨(((out++a.extract ia (ia+k)).push xb)++b.extract (ib+1) (ib+1+k')).push xa,(ia+k)+1,(ib+1+k'),_,_,_,rfl,by rw [Array.toList_push];exact g4,by lia,by lia,by lia⟩⟩
            ·exact wpS_pure ⟨q2,(((out++a.extract ia (ia+k)).push xb)++b.extract (ib+1) (ib+1+k')).push xa,(ia+k)+1,(ib+1+k'),_,_,_,rfl,by rw [Array.toList_push];exact g4,by lia,by lia,by lia⟩
         ·obtain rfl:k'=0:=by lia
          have m4:=m5
          have g3:Mg lt a.toList b.toList ((out++a.extract ia (ia+k)).push xb).toList (ia+k) (ib+1):=by
           rw [Array.toList_push]
           exact g2
          refine wpS_bind (Z1 ha ?_)
          have g4:=g3.takeA C.wo sa sb la m4
          refine ZI (c:=((ia+k)+1+1==a.size)) (fun c7=>?_) (fun c7=>?_)
          ·refine wpS_pure ⟨q2,.inr ⟨_,rfl,?_⟩⟩
           have c8:(ia+k)+1+1=a.toList.length:=by rw [<- za];exact eq_of_beq c7
           have:=g4.lastA sb c8 fun x hx=>hl x (by rw [<- c8];exact hx)
           simp only [Array.toList_append,Array.toList_push,Yc,Jt] at this ⊢
           exact this
          ·have c8:=ZT c7
           refine ZI (fun _=>?_) (fun _=>?_)
           ·exact wpS_pure ⟨q2,.inl ⟨((out++a.extract ia (ia+k)).push xb).push xa,(ia+k)+1,(ib+1),_,_,_,rfl,by rw [Array.toList_push];exact g4,by lia,by lia,by lia⟩⟩
           ·exact wpS_pure ⟨q2,((out++a.extract ia (ia+k)).push xb).push xa,(ia+k)+1,(ib+1),_,_,_,rfl,by rw [Array.toList_push];exact g4,by lia,by lia,by lia⟩
      ·obtain rfl:k=0:=by lia
       have m4':=m3
       have g1:=g
       refine wpS_bind (Z1 hb ?_)
       have g2:=g1.takeB C.wo sa sb lb fun y hy=>C.wo.asym _ _ (m4' y hy)
       refine ZI (c:=(ib+1==b.size)) (fun c5=>?_) (fun c5=>?_)
       ·refine wpS_pure ⟨q2,.inr ⟨_,rfl,?_⟩⟩
        have:=g2.done sa sb (.inr (by rw [<- zb,<- eq_of_beq c5];exact Nat.le_refl _))
        simp only [Array.toList_append,Array.toList_push,Yc,Jt] at this ⊢
        exact this
       ·have c6:=ZT c5
        obtain ⟨xa,ha,da,la⟩:=ea (ia) (by lia)
        refine wpS_bind (Z1 ha ?_)
        refine wpS_bind (Y4 (left:=true) (base:=ib+1) (n:=b.size-(ib+1)) (hint:=0) C da (fun i hi=>let ⟨x,h1,h2,_⟩:=eb (ib+1+i) (by lia);⟨x,h1,h2⟩) (by lia) (q2.1.trans hs) (WE C sb (by lia)) fun k' hk' k1' k2'=>?_)
        have f2:∀i,i<k' -> ∀x y,b.toList[ib+1+i]? = some x->a.toList[ia]? = some y->lt y x=false:=fun i hi x y hx hy=>by
         have:=k1' i hi
         rw [YF hx] at this
         rw [la] at hy
         cases hy
         exact C.wo.asym _ _ this
        have gk':=g2.takeBs C.wo sa sb k' (by lia) f2
        have m5:∀y,b.toList[ib+1+k']? = some y->lt y xa=false:=fun y hy=>by
         have:=k2' k' (Nat.le_refl _) (by have:=(List.getElem?_eq_some_iff.mp hy).1;lia)
         rw [YF hy] at this
         exact this
        refine Jq (k:=k') (n:=0) (fun k0'=>?_) (fun k0'=>?_)
        ·refine ZI (c:=(ib+1+k'==b.size)) (fun c9=>?_) (fun c9=>?_)
         ·refine wpS_pure ⟨q2,.inr ⟨_,rfl,?_⟩⟩
          have:=gk'.done sa sb (.inr (by rw [<- zb,<- eq_of_beq c9];exact Nat.le_refl _))
          simp only [Array.toList_append,Array.toList_push,Yc,Jt] at this ⊢
          exact this
         ·have c9':=ZT c9
          have m4:=m5
          have g3:Mg lt a.toList b.toList ((out.push xb)++b.extract (ib+1) (ib+1+k')).toList (ia) (ib+1+k'):=by
           simp only [Array.toList_append,Array.toList_push,Yc,Jt] at gk' ⊢
           exact gk'
          refine wpS_bind (Z1 ha ?_)
          have g4:=g3.takeA C.wo sa sb la m4
          refine ZI (c:=((ia)+1+1==a.size)) (fun c7=>?_) (fun c7=>?_)
          ·refine wpS_pure ⟨q2,.inr ⟨_,rfl,?_⟩⟩
           have c8:(ia)+1+1=a.toList.length:=by rw [<- za];exact eq_of_beq c7
           have:=g4.lastA sb c8 fun x hx=>hl x (by rw [<- c8];exact hx)
           simp only [Array.toList_append,Array.toList_push,Yc,Jt] at this ⊢
           exact this
          ·have c8:=ZT c7
           refine ZI (fun _=>?_) (fun _=>?_)
           ·exact wpS_pure ⟨q2,.inl ⟨((out.push xb)++b.extract (ib+1) (ib+1+k')).push xa,(ia)+1,(ib+1+k'),_,_,_,rfl,by rw [Array.toList_push];exact g4,by lia,by lia,by lia⟩⟩
           ·exact wpS_pure ⟨q2,((out.push xb)++b.extract (ib+1) (ib+1+k')).push xa,(ia)+1,(ib+1+k'),_,_,_,rfl,by rw [Array.toList_push];exact g4,by lia,by lia,by lia⟩
        ·obtain rfl:k'=0:=by lia
         have m4:=m5
         have g3:Mg lt a.toList b.toList (out.push xb).toList (ia) (ib+1):=by
          rw [Array.toList_push]
          exact g2
         refine wpS_bind (Z1 ha ?_)
         have g4:=g3.takeA C.wo sa sb la m4
         refine ZI (c:=((ia)+1+1==a.size)) (fun c7=>?_) (fun c7=>?_)
         ·refine wpS_pure ⟨q2,.inr ⟨_,rfl,?_⟩⟩
          have c8:(ia)+1+1=a.toList.length:=by rw [<- za];exact eq_of_beq c7
          have:=g4.lastA sb c8 fun x hx=>hl x (by rw [<- c8];exact hx)
          simp only [Array.toList_append,Array.toList_push,Yc,Jt] at this ⊢
          exact this
         ·have c8:=ZT c7
          refine ZI (fun _=>?_) (fun _=>?_)
          ·exact wpS_pure ⟨q2,.inl ⟨(out.push xb).push xa,(ia)+1,(ib+1),_,_,_,rfl,by rw [Array.toList_push];exact g4,by lia,by lia,by lia⟩⟩
          ·exact wpS_pure ⟨q2,(out.push xb).push xa,(ia)+1,(ib+1),_,_,_,rfl,by rw [Array.toList_push];exact g4,by lia,by lia,by lia⟩)
    ·rintro c st' ⟨q2,out,ia,ib,mg,ac,bc,rfl,g,l1,l2,l3⟩
     lia
    ·rintro c st' ⟨q2,⟨out,ia,ib,mg,ac,bc,rfl,g,l1,l2,l3⟩ | ⟨r,hr,hm⟩⟩
     ·exact wpS_bind (wpS_modify (wpS_pure ⟨_,_,_,_,rfl,g,l1,l2,l3,q2⟩))
     ·obtain ⟨c1,c2⟩:=c
      dsimp only at hr
      subst hr
      exact wpS_pure ⟨r,rfl,hm,q2⟩
   ·obtain ⟨c1,c2⟩:=c
    dsimp only at hr
    subst hr
    exact wpS_pure ⟨r,rfl,hm,q1⟩
 ·rintro c st' ⟨out,ia,ib,mg,rfl,g,l1,l2,l3,q1⟩
  lia
 ·rintro c st' ⟨r,hr,hm,q1⟩
  obtain ⟨c1,c2⟩:=c
  dsimp only at hr
  subst hr
  exact wpS_pure (h r st' hm q1)
end
section
variable {prog:Program}{w:World}{A:Around}{E:Value->Shared->Prop}{s:Shared}{kd:SortKind}{D:Keyed->Prop}{lt:Keyed->Keyed->Bool}
theorem WT {l:List Keyed}{n:Nat} (h0:0<n) (h:n<=l.length):l.reverse[l.length-n]? = l[n-1]?:=by
 rw [List.getElem?_reverse (by lia)];congr 1;lia
theorem Gw {l:List Keyed}{n:Nat} (h:n<=l.length):l.reverse.drop (l.length-n)=(l.take n).reverse:=by
 rw [List.drop_reverse];congr 2;lia
theorem Zea {l:List Keyed}{n m:Nat} (h:n<=l.length) (hm:m<=n):(l.reverse.drop (l.length-n)).take (n-m)=((l.drop m).take (n-m)).reverse:=by
 rw [Gw h,List.take_reverse,List.length_take,Nat.min_eq_left h,List.drop_take]
 congr 2
 ·lia
 ·congr 1;lia
theorem Zfq {a b r:List Keyed} (h:Mgd (fun x y=>lt y x) b.reverse a.reverse r):Mgd lt a b r.reverse:=by
 refine ⟨List.pairwise_reverse.mpr h.1,?_⟩
 refine (List.reverse_perm r).trans (h.2.trans ?_)
 refine ((List.reverse_perm b).append (List.reverse_perm a)).trans ?_
 exact List.perm_append_comm
def Mh (lt:Keyed->Keyed->Bool) (a b:List Keyed) (out:List Keyed) (na nb:Nat):Prop:=Mg (fun x y=>lt y x) b.reverse a.reverse out (b.length-nb) (a.length-na)
theorem Mh.done {a b out:List Keyed}{na nb:Nat} (g:Mh lt a b out na nb) (sa:JQ lt a) (sb:JQ lt b) (ha:na<=a.length) (hb:nb<=b.length) (h:na=0∨nb=0):Mgd lt a b (a.take na++b.take nb++out.reverse):=by
 have:=Zfq (Mg.done (lt:=fun x y=>lt y x) g (List.pairwise_reverse.mpr sb) (List.pairwise_reverse.mpr sa) (by rw [List.length_reverse,List.length_reverse];lia))
 rw [Gw ha,Gw hb] at this
 simpa using this
theorem Mh.firstB {a b out:List Keyed}{na nb:Nat} (g:Mh lt a b out na nb) (sa:JQ lt a) (ha:na<=a.length) (hb:nb<=b.length) (h:nb=1) (hf:∀x,b[0]? = some x -> ∀y∈a,lt y x=false):Mgd lt a b (b.take nb++a.take na++out.reverse):=by
 have:=Zfq (Mg.lastA (lt:=fun x y=>lt y x) g (List.pairwise_reverse.mpr sa) (by rw [List.length_reverse];lia) fun x hx y hy=>by
  rw [WT (by lia) hb,h] at hx
  exact hf x hx y (by simpa using hy))
 rw [Gw ha,Gw hb] at this
 simpa using this
theorem Mh.takeA (C:Wo lt) {a b out:List Keyed}{na nb:Nat} (g:Mh lt a b out na nb) (sa:JQ lt a) (sb:JQ lt b) (h0:0<na) (ha:na<=a.length) (hb:nb<=b.length) {x:Keyed} (e:a[na-1]? = some x) (h:0<nb -> ∀y,b[nb-1]? = some y->lt x y=false):Mh lt a b (out ++ [x]) (na-1) nb:=by
 have:=Mg.takeB (lt:=fun x y=>lt y x) C.flip g (List.pairwise_reverse.mpr sb) (List.pairwise_reverse.mpr sa) (x:=x) (by rw [WT h0 ha];exact e) fun y hy=>by
  have hp:0<nb:=by
   have:=(List.getElem?_eq_some_iff.mp hy).1
   rw [List.length_reverse] at this
   lia
  rw [WT hp hb] at hy
  exact h hp y hy
 unfold Mh
 rw [show a.length-(na-1)=a.length-na+1 by lia]
 exact this
theorem Mh.takeB (C:Wo lt) {a b out:List Keyed}{na nb:Nat} (g:Mh lt a b out na nb) (sa:JQ lt a) (sb:JQ lt b) (h0:0<nb) (ha:na<=a.length) (hb:nb<=b.length) {x:Keyed} (e:b[nb-1]? = some x) (h:0<na -> ∀y,a[na-1]? = some y->lt x y=false):Mh lt a b (out ++ [x]) na (nb-1):=by
 have:=Mg.takeA (lt:=fun x y=>lt y x) C.flip g (List.pairwise_reverse.mpr sb) (List.pairwise_reverse.mpr sa) (x:=x) (by rw [WT h0 hb];exact e) fun y hy=>by
  have hp:0<na:=by
   have:=(List.getElem?_eq_some_iff.mp hy).1
   rw [List.length_reverse] at this
   lia
  rw [WT hp ha] at hy
  exact h hp y hy
 unfold Mh
 rw [show b.length-(nb-1)=b.length-nb+1 by lia]
 exact this
theorem Mh.takeAs (C:Wo lt) {a b out:List Keyed}{na nb:Nat} (g:Mh lt a b out na nb) (sa:JQ lt a) (sb:JQ lt b) (ha:na<=a.length) (hb:nb<=b.length) {m:Nat} (hm:m<=na) (h:∀i,m<=i->i<na -> ∀x y,a[i]? = some x->b[nb-1]? = some y->lt x y=false):Mh lt a b (out++((a.drop m).take (na-m)).reverse) m nb:=by
 have:=Mg.takeBs (lt:=fun x y=>lt y x) C.flip (List.pairwise_reverse.mpr sb) (List.pairwise_reverse.mpr sa) g (na-m) (by rw [List.length_reverse];lia) fun i hi x y hx hy=>by
  have hp:0<nb:=by
   have:=(List.getElem?_eq_some_iff.mp hy).1
   rw [List.length_reverse] at this
   lia
  rw [WT hp hb] at hy
  rw [show a.length-na+i=a.length-(na-i) by lia,WT (by lia) (by lia)] at hx
  exact h (na-i-1) (by lia) (by lia) x y hx hy
 unfold Mh
 rw [Zea ha hm] at this
 rw [show a.length-m=a.length-na+(na-m) by lia]
 exact this
theorem Mh.takeBs (C:Wo lt) {a b out:List Keyed}{na nb:Nat} (g:Mh lt a b out na nb) (sa:JQ lt a) (sb:JQ lt b) (ha:na<=a.length) (hb:nb<=b.length) {m:Nat} (hm:m<=nb) (h:∀i,m<=i->i<nb -> ∀x y,b[i]? = some x->a[na-1]? = some y->lt x y=false):Mh lt a b (out++((b.drop m).take (nb-m)).reverse) na m:=by
 have:=Mg.takeAs (lt:=fun x y=>lt y x) C.flip (List.pairwise_reverse.mpr sb) (List.pairwise_reverse.mpr sa) g (nb-m) (by rw [List.length_reverse];lia) fun i hi x y hx hy=>by
  have hp:0<na:=by
   have:=(List.getElem?_eq_some_iff.mp hy).1
   rw [List.length_reverse] at this
   lia
  rw [WT hp ha] at hy
  rw [show b.length-nb+i=b.length-(nb-i) by lia,WT (by lia) (by lia)] at hx
  exact h (nb-i-1) (by lia) (by lia) x y hx hy
 unfold Mh
 rw [Zea hb hm] at this
 rw [show b.length-m=b.length-nb+(nb-m) by lia]
 exact this
theorem ZF {l:Array Keyed}{m n:Nat}:(l.extract m n).toList=(l.toList.drop m).take (n-m):=by
 rw [Array.toList_extract,List.extract_eq_take_drop]
theorem Jk {l:Array Keyed}{n:Nat}:(l.extract 0 n).toList=l.toList.take n:=by
 rw [Array.toList_extract,List.extract_eq_take_drop];simp
theorem ZeU (C:Cmp prog w A E s kd D lt) {a b:Array Keyed}{st:SortSt}{Q:Array Keyed->SortSt->Prop} (hda:∀x∈a.toList,D x) (hdb:∀x∈b.toList,D x) (sa:JQ lt a.toList) (sb:JQ lt b.toList) (hs:kindOf st=kd)
  (na0:0<a.toList.length) (nb0:0<b.toList.length) (hf:∀x y,a.toList[0]? = some x->b.toList[0]? = some y->lt x y=false) (hl:∀x,a.toList[a.toList.length-1]? = some x -> ∀y∈b.toList,lt x y=false)
  (h:∀r st',Mgd lt a.toList b.toList r.toList->Eqg st st'->Q r st'):wpS (model prog w) A E s (ZiQ a b) Q st:=by
 have za:a.size=a.toList.length:=by simp
 have zb:b.size=b.toList.length:=by simp
 have ea:∀i,i<a.toList.length -> ∃x,a[i]? = some x/\D x/\a.toList[i]? = some x:=fun i hi=>⟨a.toList[i],by rw [<- Array.getElem?_toList];exact List.getElem?_eq_getElem hi,hda _ (List.getElem_mem hi),List.getElem?_eq_getElem hi⟩
 have eb:∀i,i<b.toList.length -> ∃x,b[i]? = some x/\D x/\b.toList[i]? = some x:=fun i hi=>⟨b.toList[i],by rw [<- Array.getElem?_toList];exact List.getElem?_eq_getElem hi,hdb _ (List.getElem_mem hi),List.getElem?_eq_getElem hi⟩
 have hfb:∀x,b.toList[0]? = some x -> ∀y∈a.toList,lt y x=false:=fun x hx y hy=>by
  obtain ⟨i,hi,rfl⟩:=List.getElem_of_mem hy
  obtain ⟨a0,_,_,la0⟩:=ea 0 na0
  exact C.wo.leT (hf a0 x la0 hx) (GU C.wo sa la0 (List.getElem?_eq_getElem hi) (Nat.zero_le _))
 refine wpS_bind (wpS_lift (wpAny_rule ⟨rfl,?_⟩))
 obtain ⟨x0,hx0,dx0,lx0⟩:=ea (a.size-1) (by lia)
 refine wpS_bind (Z1 hx0 ?_)
 have g0:Mh lt a.toList b.toList [x0] (a.size-1) b.size:=by
  have g:Mh lt a.toList b.toList [] a.toList.length b.toList.length:=⟨.nil,by
   simp only [Nat.sub_self,List.drop_zero,List.nil_append]
   exact List.Perm.refl _,fun p hp=>(by cases hp)⟩
  have:=g.takeA C.wo sa sb na0 (Nat.le_refl _) (Nat.le_refl _) (by rw [<- za];exact lx0) fun _ y hy=>hl x0 (by rw [<- za];exact lx0) y (List.mem_of_getElem? hy)
  rw [za,zb]
  exact this
 show wpS _ _ _ _ (if (a.size-1==0)=true then _ else if (b.size==1)=true then _ else _) _ _
 refine ZI (fun c1=>?_) (fun c1=>ZI (fun c2=>?_) (fun c2=>?_))
 ·refine wpS_pure (h _ st ?_ (Eqg.refl st))
  have:=g0.done sa sb (by lia) (by lia) (.inl (eq_of_beq c1))
  simp only [Array.toList_append,Array.toList_reverse,Jk] at this ⊢
  exact this
 ·refine wpS_pure (h _ st ?_ (Eqg.refl st))
  have:=g0.firstB sa (by lia) (by lia) (eq_of_beq c2) hfb
  simp only [Array.toList_append,Array.toList_reverse,Jk] at this ⊢
  exact this
 have c1':=ZT c1
 have c2':=ZT c2
 refine wpS_bind (wpS_get ?_)
 refine wpS_bind (wpS_mono (wpS_forRange (I:=fun x c st'=>∃(out:Array Keyed) (na nb mg:Nat),c=(none,na,nb,out,mg)/\Mh lt a.toList b.toList out.toList na nb/\0<na/\na<=a.toList.length/\1<nb/\nb<=b.toList.length/\x+na+nb<=a.size+b.size/\Eqg st st')
  (Q:=fun c st'=>∃r,c.1=some r/\Mgd lt a.toList b.toList r.toList/\Eqg st st') ?_ ?_ ⟨#[x0],a.size-1,b.size,_,rfl,g0,by lia,by lia,by lia,by lia,by lia,Eqg.refl st⟩) ?_)
 ·rintro x c st1 _ hx ⟨out,na,nb,mg,rfl,g,l1,l1',l2,l2',l3,q1⟩
  refine wpS_bind (wpS_mono (wpS_forRange (I:=fun y c st'=>st'=st1 /\ ∃(out:Array Keyed) (na nb ac bc:Nat),c=(none,na,nb,out,ac,bc)/\Mh lt a.toList b.toList out.toList na nb/\0<na/\na<=a.toList.length/\1<nb/\nb<=b.toList.length/\x+y+na+nb<=a.size+b.size)
   (Q:=fun c st'=>st'=st1/\((∃(out:Array Keyed) (na nb ac bc:Nat),c=(none,na,nb,out,ac,bc)/\Mh lt a.toList b.toList out.toList na nb/\0<na/\na<=a.toList.length/\1<nb/\nb<=b.toList.length/\x+1+na+nb<=a.size+b.size) ∨ ∃r,c.1=some r/\Mgd lt a.toList b.toList r.toList)) ?_ ?_ ⟨rfl,out,na,nb,0,0,rfl,g,l1,l1',l2,l2',l3⟩) ?_)
  ·rintro y c st' _ hy ⟨rfl,out,na,nb,ac,bc,rfl,g,l1,l1',l2,l2',l3⟩
   obtain ⟨xb,hb,db,lb⟩:=eb (nb-1) (by lia)
   obtain ⟨xa,ha,da,la⟩:=ea (na-1) (by lia)
   refine wpS_bind (Z1 hb (wpS_bind (Z1 ha (wpS_bind (C.cmp xb xa _ _ db da (q1.1.trans hs) ?_)))))
   cases e:lt xb xa with
   | true=>
    refine wpS_bind (Z1 ha ?_)
    have g':=g.takeA C.wo sa sb l1 l1' l2' la fun _ y hy=>by rw [lb] at hy;cases hy;exact C.wo.asym _ _ e
    refine ZI (c:=(na-1==0)) (fun c3=>?_) (fun c3=>?_)
    ·refine wpS_pure ⟨rfl,.inr ⟨_,rfl,?_⟩⟩
     have:=g'.done sa sb (by lia) l2' (.inl (eq_of_beq c3))
     simp only [Array.toList_append,Array.toList_push,Array.toList_reverse,Jk,ZF] at this ⊢
     exact this
    ·have c4:=ZT c3
     dsimp only
     split
     ·exact wpS_pure ⟨rfl,.inl ⟨out.push xa,na-1,nb,_,_,rfl,by rw [Array.toList_push];exact g',by lia,by lia,l2,l2',by lia⟩⟩
     ·exact wpS_pure ⟨rfl,out.push xa,na-1,nb,_,_,rfl,by rw [Array.toList_push];exact g',by lia,by lia,l2,l2',by lia⟩
   | false=>
    refine wpS_bind (Z1 hb ?_)
    have g':=g.takeB C.wo sa sb (by lia) l1' l2' lb fun _ y hy=>by rw [la] at hy;cases hy;exact e
    refine ZI (c:=(nb-1==1)) (fun c3=>?_) (fun c3=>?_)
    ·refine wpS_pure ⟨rfl,.inr ⟨_,rfl,?_⟩⟩
     have:=g'.firstB sa l1' (by lia) (eq_of_beq c3) hfb
     simp only [Array.toList_append,Array.toList_push,Array.toList_reverse,Jk,ZF] at this ⊢
     exact this
    ·have c4:=ZT c3
     dsimp only
     split
     ·exact wpS_pure ⟨rfl,.inl ⟨out.push xb,na,nb-1,_,_,rfl,by rw [Array.toList_push];exact g',l1,l1',by lia,by lia,by lia⟩⟩
     ·exact wpS_pure ⟨rfl,out.push xb,na,nb-1,_,_,rfl,by rw [Array.toList_push];exact g',l1,l1',by lia,by lia,by lia⟩
  ·rintro c st' ⟨rfl,out,na,nb,ac,bc,rfl,g,l1,l1',l2,l2',l3⟩
   lia
  ·rintro c st' ⟨rfl,⟨out,na,nb,ac,bc,rfl,g,l1,l1',l2,l2',l3⟩ | ⟨r,hr,hm⟩⟩
   ·refine wpS_bind (wpS_lift (wpAny_rule ⟨rfl,?_⟩))
    refine wpS_bind (wpS_mono (wpS_forRange (I:=fun y c st'=>Eqg st st' /\ ∃(out:Array Keyed) (na nb mg ac bc:Nat),c=(none,na,nb,out,mg,ac,bc)/\Mh lt a.toList b.toList out.toList na nb/\0<na/\na<=a.toList.length/\1<nb/\nb<=b.toList.length/\x+1+y+na+nb<=a.size+b.size)
     (Q:=fun c st'=>Eqg st st'/\((∃(out:Array Keyed) (na nb mg ac bc:Nat),c=(none,na,nb,out,mg,ac,bc)/\Mh lt a.toList b.toList out.toList na nb/\0<na/\na<=a.toList.length/\1<nb/\nb<=b.toList.length/\x+1+na+nb<=a.size+b.size) ∨ ∃r,c.1=some r/\Mgd lt a.toList b.toList r.toList)) ?_ ?_ ⟨q1,out,na,nb,_,ac,bc,rfl,g,l1,l1',l2,l2',l3⟩) ?_)
    ·rintro y c st2 _ hy ⟨q2,out,na,nb,mg,ac,bc,rfl,g,l1,l1',l2,l2',l3⟩
     obtain ⟨xb,hb,db,lb⟩:=eb (nb-1) (by lia)
     refine Jq (k:=mg) (n:=1) (fun _=>?_) (fun _=>?_)
     all_goals (
      refine wpS_bind (wpS_modify ?_)
      refine wpS_bind (Z1 hb ?_)
      refine wpS_bind (Y4 (left:=false) (arr:=a) (base:=0) (n:=na) (hint:=na-1) C db (fun i hi=>let ⟨x,h1,h2,_⟩:=ea (0+i) (by lia);⟨x,h1,h2⟩) (by lia) (q2.1.trans hs) (WE C sa (by lia)) fun k hk k1 k2=>?_)
      have gk:=g.takeAs C.wo sa sb (by lia) (by lia) (m:=k) (by lia) fun i h1 h2 x y hx hy=>by
       have:=k2 i h1 h2
       rw [Jl (by rw [Nat.zero_add];exact hx)] at this
       rw [lb] at hy
       cases hy
       exact C.wo.asym _ _ (by simpa using this)
      have m3:0<k -> ∀y,a.toList[k-1]? = some y->lt xb y=false:=fun hp y hy=>by
       have:=k1 (k-1) (by lia)
       rw [Jl (by rw [Nat.zero_add];exact hy)] at this
       simpa using this
      refine Jq (k:=na-k) (n:=0) (fun k0=>?_) (fun k0=>?_)
      ·refine ZI (c:=(k==0)) (fun c3=>?_) (fun c3=>?_)
       ·refine wpS_pure ⟨q2,.inr ⟨_,rfl,?_⟩⟩
        have:=gk.done sa sb (by lia) (by lia) (.inl (eq_of_beq c3))
        simp only [Array.toList_append,Array.toList_push,Array.toList_reverse,Jk,ZF] at this ⊢
        exact this
       ·have c3':=ZT c3
        have g1:Mh lt a.toList b.toList (out++(a.extract k na).reverse).toList k nb:=by
         simp only [Array.toList_append,Array.toList_push,Array.toList_reverse,Jk,ZF] at gk ⊢
         exact gk
        refine wpS_bind (Z1 hb ?_)
        have g2:=g1.takeB C.wo sa sb (by lia) (by lia) (by lia) lb m3
        refine ZI (c:=(nb-1==1)) (fun c5=>?_) (fun c5=>?_)
        ·refine wpS_pure ⟨q2,.inr ⟨_,rfl,?_⟩⟩
         have:=g2.firstB sa (by lia) (by lia) (eq_of_beq c5) hfb
         simp only [Array.toList_append,Array.toList_push,Array.toList_reverse,Jk,ZF] at this ⊢
         exact this
        ·have c6:=ZT c5
         obtain ⟨xa,ha,da,la⟩:=ea (k-1) (by lia)
         refine wpS_bind (Z1 ha ?_)
         refine wpS_bind (Y4 (left:=true) (arr:=b) (base:=0) (n:=nb-1) (hint:=nb-1-1) C da (fun i hi=>let ⟨x,h1,h2,_⟩:=eb (0+i) (by lia);⟨x,h1,h2⟩) (by lia) (q2.1.trans hs) (WE C sb (by lia)) fun k' hk' k1' k2'=>?_)
         have gk':=g2.takeBs C.wo sa sb (by lia) (by lia) (m:=k') (by lia) fun i h1 h2 x y hx hy=>by
          have:=k2' i h1 h2
          rw [YF (by rw [Nat.zero_add];exact hx)] at this
          rw [la] at hy
          cases hy
          exact this
         have m5:0<k' -> ∀y,b.toList[k'-1]? = some y->lt xa y=false:=fun hp y hy=>by
          have:=k1' (k'-1) (by lia)
          rw [YF (by rw [Nat.zero_add];exact hy)] at this
          exact C.wo.asym _ _ this
         refine Jq (k:=nb-1-k') (n:=0) (fun k0'=>?_) (fun k0'=>?_)
         ·refine ZI (c:=(k'==1)) (fun c9=>?_) (fun c9=>ZI (c:=(k'==0)) (fun c10=>?_) (fun c10=>?_))
          ·refine wpS_pure ⟨q2,.inr ⟨_,rfl,?_⟩⟩
           have:=gk'.firstB sa (by lia) (by lia) (eq_of_beq c9) hfb
           simp only [Array.toList_append,Array.toList_push,Array.toList_reverse,Jk,ZF] at this ⊢
           exact this
          ·refine wpS_pure ⟨q2,.inr ⟨_,rfl,?_⟩⟩
           have:=gk'.done sa sb (by lia) (by lia) (.inr (eq_of_beq c10))
           simp only [Array.toList_append,Array.toList_push,Array.toList_reverse,Jk,ZF] at this ⊢
           exact this
          ·have c9':=ZT c9
           have c10':=ZT c10
           have m4:=m5
           have g3:Mh lt a.toList b.toList (((out++(a.extract k na).reverse).push xb)++(b.extract k' (nb-1)).reverse).toList (k) k':=by
            simp only [Array.toList_append,Array.toList_push,Array.toList_reverse,Jk,ZF] at gk' ⊢
            exact gk'
           refine wpS_bind (Z1 ha ?_)
           have g4:=g3.takeA C.wo sa sb (by lia) (by lia) (by lia) la m4
           refine ZI (c:=((k)-1==0)) (fun c7=>?_) (fun c7=>?_)
           ·refine wpS_pure ⟨q2,.inr ⟨_,rfl,?_⟩⟩
            have:=g4.done sa sb (by lia) (by lia) (.inl (eq_of_beq c7))
            simp only [Array.toList_append,Array.toList_push,Array.toList_reverse,Jk,ZF] at this ⊢
            exact this
           ·have c8:=ZT c7
            refine ZI (fun _=>?_) (fun _=>?_)
            ·exact wpS_pure ⟨q2,.inl ⟨(((out++(a.extract k na).reverse).push xb)++(b.extract k' (nb-1)).reverse).push xa,(k)-1,k',_,_,_,rfl,by rw [Array.toList_push];exact g4,by lia,by lia,by lia,by lia,by lia⟩⟩
            ·exact wpS_pure ⟨q2,(((out++(a.extract k na).reverse).push xb)++(b.extract k' (nb-1)).reverse).push xa,(k)-1,k',_,_,_,rfl,by rw [Array.toList_push];exact g4,by lia,by lia,by lia,by lia,by lia⟩
         ·obtain rfl:k'=nb-1:=by lia
          have m4:=m5
          have g3:Mh lt a.toList b.toList ((out++(a.extract k na).reverse).push xb).toList (k) (nb-1):=by
           rw [Array.toList_push]
           exact g2
          refine wpS_bind (Z1 ha ?_)
          have g4:=g3.takeA C.wo sa sb (by lia) (by lia) (by lia) la m4
          refine ZI (c:=((k)-1==0)) (fun c7=>?_) (fun c7=>?_)
          ·refine wpS_pure ⟨q2,.inr ⟨_,rfl,?_⟩⟩
           have:=g4.done sa sb (by lia) (by lia) (.inl (eq_of_beq c7))
           simp only [Array.toList_append,Array.toList_push,Array.toList_reverse,Jk,ZF] at this ⊢
           exact this
          ·have c8:=ZT c7
           refine ZI (fun _=>?_) (fun _=>?_)
           ·exact wpS_pure ⟨q2,.inl ⟨((out++(a.extract k na).reverse).push xb).push xa,(k)-1,(nb-1),_,_,_,rfl,by rw [Array.toList_push];exact g4,by lia,by lia,by lia,by lia,by lia⟩⟩
           ·exact wpS_pure ⟨q2,((out++(a.extract k na).reverse).push xb).push xa,(k)-1,(nb-1),_,_,_,rfl,by rw [Array.toList_push];exact g4,by lia,by lia,by lia,by lia,by lia⟩
      ·obtain rfl:k=na:=by lia
       have g1:=g
       refine wpS_bind (Z1 hb ?_)
       have g2:=g1.takeB C.wo sa sb (by lia) (by lia) (by lia) lb m3
       refine ZI (c:=(nb-1==1)) (fun c5=>?_) (fun c5=>?_)
       ·refine wpS_pure ⟨q2,.inr ⟨_,rfl,?_⟩⟩
        have:=g2.firstB sa (by lia) (by lia) (eq_of_beq c5) hfb
        simp only [Array.toList_append,Array.toList_push,Array.toList_reverse,Jk,ZF] at this ⊢
        exact this
       ·have c6:=ZT c5
        obtain ⟨xa,ha,da,la⟩:=ea (k-1) (by lia)
        refine wpS_bind (Z1 ha ?_)
        refine wpS_bind (Y4 (left:=true) (arr:=b) (base:=0) (n:=nb-1) (hint:=nb-1-1) C da (fun i hi=>let ⟨x,h1,h2,_⟩:=eb (0+i) (by lia);⟨x,h1,h2⟩) (by lia) (q2.1.trans hs) (WE C sb (by lia)) fun k' hk' k1' k2'=>?_)
        have gk':=g2.takeBs C.wo sa sb (by lia) (by lia) (m:=k') (by lia) fun i h1 h2 x y hx hy=>by
         have:=k2' i h1 h2
         rw [YF (by rw [Nat.zero_add];exact hx)] at this
         rw [la] at hy
         cases hy
         exact this
        have m5:0<k' -> ∀y,b.toList[k'-1]? = some y->lt xa y=false:=fun hp y hy=>by
         have:=k1' (k'-1) (by lia)
         rw [YF (by rw [Nat.zero_add];exact hy)] at this
         exact C.wo.asym _ _ this
        refine Jq (k:=nb-1-k') (n:=0) (fun k0'=>?_) (fun k0'=>?_)
        ·refine ZI (c:=(k'==1)) (fun c9=>?_) (fun c9=>ZI (c:=(k'==0)) (fun c10=>?_) (fun c10=>?_))
         ·refine wpS_pure ⟨q2,.inr ⟨_,rfl,?_⟩⟩
          have:=gk'.firstB sa (by lia) (by lia) (eq_of_beq c9) hfb
          simp only [Array.toList_append,Array.toList_push,Array.toList_reverse,Jk,ZF] at this ⊢
          exact this
         ·refine wpS_pure ⟨q2,.inr ⟨_,rfl,?_⟩⟩
          have:=gk'.done sa sb (by lia) (by lia) (.inr (eq_of_beq c10))
          simp only [Array.toList_append,Array.toList_push,Array.toList_reverse,Jk,ZF] at this ⊢
          exact this
         ·have c9':=ZT c9
          have c10':=ZT c10
          have m4:=m5
          have g3:Mh lt a.toList b.toList ((out.push xb)++(b.extract k' (nb-1)).reverse).toList (k) k':=by
           simp only [Array.toList_append,Array.toList_push,Array.toList_reverse,Jk,ZF] at gk' ⊢
           exact gk'
          refine wpS_bind (Z1 ha ?_)
          have g4:=g3.takeA C.wo sa sb (by lia) (by lia) (by lia) la m4
          refine ZI (c:=((k)-1==0)) (fun c7=>?_) (fun c7=>?_)
          ·refine wpS_pure ⟨q2,.inr ⟨_,rfl,?_⟩⟩
           have:=g4.done sa sb (by lia) (by lia) (.inl (eq_of_beq c7))
           simp only [Array.toList_append,Array.toList_push,Array.toList_reverse,Jk,ZF] at this ⊢
           exact this
          ·have c8:=ZT c7
           refine ZI (fun _=>?_) (fun _=>?_)
           ·exact wpS_pure ⟨q2,.inl ⟨((out.push xb)++(b.extract k' (nb-1)).reverse).push xa,(k)-1,k',_,_,_,rfl,by rw [Array.toList_push];exact g4,by lia,by lia,by lia,by lia,by lia⟩⟩
           ·exact wpS_pure ⟨q2,((out.push xb)++(b.extract k' (nb-1)).reverse).push xa,(k)-1,k',_,_,_,rfl,by rw [Array.toList_push];exact g4,by lia,by lia,by lia,by lia,by lia⟩
        ·obtain rfl:k'=nb-1:=by lia
         have m4:=m5
         have g3:Mh lt a.toList b.toList (out.push xb).toList (k) (nb-1):=by
          rw [Array.toList_push]
          exact g2
         refine wpS_bind (Z1 ha ?_)
         have g4:=g3.takeA C.wo sa sb (by lia) (by lia) (by lia) la m4
         refine ZI (c:=((k)-1==0)) (fun c7=>?_) (fun c7=>?_)
         ·refine wpS_pure ⟨q2,.inr ⟨_,rfl,?_⟩⟩
          have:=g4.done sa sb (by lia) (by lia) (.inl (eq_of_beq c7))
          simp only [Array.toList_append,Array.toList_push,Array.toList_reverse,Jk,ZF] at this ⊢
          exact this
         ·have c8:=ZT c7
          refine ZI (fun _=>?_) (fun _=>?_)
          ·exact wpS_pure ⟨q2,.inl ⟨(out.push xb).push xa,(k)-1,(nb-1),_,_,_,rfl,by rw [Array.toList_push];exact g4,by lia,by lia,by lia,by lia,by lia⟩⟩
          ·exact wpS_pure ⟨q2,(out.push xb).push xa,(k)-1,(nb-1),_,_,_,rfl,by rw [Array.toList_push];exact g4,by lia,by lia,by lia,by lia,by lia⟩)
    ·rintro c st' ⟨q2,out,na,nb,mg,ac,bc,rfl,g,l1,l1',l2,l2',l3⟩
     lia
    ·rintro c st' ⟨q2,⟨out,na,nb,mg,ac,bc,rfl,g,l1,l1',l2,l2',l3⟩ | ⟨r,hr,hm⟩⟩
     ·exact wpS_bind (wpS_modify (wpS_pure ⟨out,na,nb,_,rfl,g,l1,l1',l2,l2',l3,q2⟩))
     ·obtain ⟨c1,c2⟩:=c
      dsimp only at hr
      subst hr
      exact wpS_pure ⟨r,rfl,hm,q2⟩
   ·obtain ⟨c1,c2⟩:=c
    dsimp only at hr
    subst hr
    exact wpS_pure ⟨r,rfl,hm,q1⟩
 ·rintro c st' ⟨out,na,nb,mg,rfl,g,l1,l1',l2,l2',l3,q1⟩
  lia
 ·rintro c st' ⟨r,hr,hm,q1⟩
  obtain ⟨c1,c2⟩:=c
  dsimp only at hr
  subst hr
  exact wpS_pure (h r st' hm q1)
end
def Zgv:Nat->Nat->StateT SortSt Sem (Option Nat):=sortPriv% PySem.Builtin.countRun
def ZdS:Nat->Nat->Nat->StateT SortSt Sem Bool:=sortPriv% PySem.Builtin.binarySort
def Zg3:StateT SortSt Sem Unit:=sortPriv% PySem.Builtin.sortRuns
theorem ZdH:∀(M:List Keyed) (n o:Nat) (arr:Array Keyed) (A B C:List Keyed),arr.toList=A++(B++C)->A.length=o+n->B.length=M.length ->
  ((M.zipIdx n).foldl (fun a x=>match x with | (p,j)=>a.setIfInBounds (o+j) p) arr).toList=A++(M++C)
 | [],n,o,arr,A,B,C,h,_,hb=>by
  obtain rfl:B = []:=List.length_eq_zero_iff.mp hb
  simpa using h
 | x::M,n,o,arr,A,[],C,h,_,hb=>by cases hb
 | x::M,n,o,arr,A,y::B,C,h,ha,hb=>by
  rw [List.zipIdx_cons,List.foldl_cons]
  have e:(arr.setIfInBounds (o+n) x).toList=(A ++ [x])++(B++C):=by
   rw [Array.toList_setIfInBounds,h,<- ha,List.set_append_right _ _ (Nat.le_refl _),Nat.sub_self]
   simp
  have:=ZdH M (n+1) o _ (A ++ [x]) B C e (by simp;lia) (by simpa using hb)
  rw [this]
  simp
section
variable {prog:Program}{w:World}{A:Around}{E:Value->Shared->Prop}{s:Shared}{kd:SortKind}{D:Keyed->Prop}{lt:Keyed->Keyed->Bool}
theorem Zji {M:Model}{st st':SortSt}{Q:PUnit->SortSt->Prop} (h:Q ⟨⟩ st'):wpS M A E s (set st':StateT SortSt Sem PUnit) Q st:=by
 unfold wpS;rw [StateT.run_set];exact wpAny_pure ⟨rfl,h⟩
theorem Ui {left:Bool}{key:Keyed}{arr:Array Keyed}{base i:Nat}{x:Keyed} (e:arr.toList[base+i]? = some x):UD lt left key arr base i=if left=true then lt x key else !lt key x:=by
 cases left with
 | true=>rw [YF e];rfl
 | false=>rw [Jl e];rfl
theorem Zcu (C:Wo lt) {left:Bool}{key:Keyed}{arr:Array Keyed}{base:Nat}{X:List Keyed} (hX:∀i,i<X.length->arr.toList[base+i]? = X[i]?) (sX:JQ lt X):
  ∀i j,i<=j->j<X.length->UD lt left key arr base j=true->UD lt left key arr base i=true:=fun i j hij hj h=>by
 have hi:i<X.length:=by lia
 have ei:arr.toList[base+i]? = some X[i]:=by rw [hX i hi,List.getElem?_eq_getElem hi]
 have ej:arr.toList[base+j]? = some X[j]:=by rw [hX j hj,List.getElem?_eq_getElem hj]
 have le:=GU C sX (List.getElem?_eq_getElem (by lia:i<X.length)) (List.getElem?_eq_getElem hj) hij
 rw [Ui ej] at h
 rw [Ui ei]
 cases left with
 | true=>
  simp only [if_true] at h ⊢
  rcases C.neg _ (X[i]'(by lia)) _ h with z | z
  ·rw [z] at le;cases le
  ·exact z
 | false=>
  simp only [Bool.false_eq_true,if_false] at h ⊢
  cases z:lt key (X[i]'(by lia)) with
  | false=>rfl
  | true=>
   rcases C.neg _ (X[j]'hj) _ z with y | y
   ·rw [y] at h;cases h
   ·rw [y] at le;cases le
theorem Ze2 (C:Cmp prog w A E s kd D lt) {i sa na pw sb nb pw2:Nat}{st:SortSt}{P X Y S:List Keyed}{Q:Bool->SortSt->Prop}
  (hp1:(pendingOf st)[i]? = some (sa,na,pw)) (hp2:(pendingOf st)[i+1]? = some (sb,nb,pw2)) (hA:(arrOf st).toList=P++(X++(Y++S))) (hsa:sa=P.length) (hna:na=X.length) (hsb:sb=P.length+X.length) (hnb:nb=Y.length)
  (x0:0<X.length) (y0:0<Y.length) (sX:JQ lt X) (sY:JQ lt Y) (hD:∀x∈(arrOf st).toList,D x) (hk:kindOf st=kd) (hf:failedOf st=none)
  (h:∀Z st',JQ lt Z->Z.Perm (X++Y)->(arrOf st').toList=P++(Z++S)->pendingOf st'=((pendingOf st).setIfInBounds i (sa,na+nb,pw)).eraseIdxIfInBounds (i+1)->kindOf st'=kd->failedOf st'=none->Q true st'):
  wpS (model prog w) A E s (ZdG i) Q st:=by
 subst hsa hna hsb hnb
 have eX:∀j,j<X.length->(arrOf st).toList[P.length+j]? = X[j]?:=fun j hj=>by
  rw [hA,List.getElem?_append_right (by omega),Nat.add_sub_cancel_left,List.getElem?_append_left hj]
 have eY:∀j,j<Y.length->(arrOf st).toList[P.length+X.length+j]? = Y[j]?:=fun j hj=>by
  rw [hA,List.getElem?_append_right (by omega),List.getElem?_append_right (by omega),List.getElem?_append_left (by omega)]
  congr 1;omega
 have dX:∀x∈X,D x:=fun x hx=>hD x (by rw [hA];simp [hx])
 have dY:∀x∈Y,D x:=fun x hx=>hD x (by rw [hA];simp [hx])
 refine wpS_bind (wpS_get ?_)
 rw [show (sortPriv% PySem.Builtin.SortState.pending) st=pendingOf st from rfl,hp1,hp2]
 refine wpS_bind (Zji ?_)
 have ey0:(arrOf st)[P.length+X.length]? = some (Y[0]'y0):=by
  have:=eY 0 y0
  rw [<- Array.getElem?_toList,Nat.add_zero] at *
  rw [this,List.getElem?_eq_getElem y0]
 refine wpS_bind (Z1 ey0 ?_)
 refine wpS_bind (Y4 (left:=false) (arr:=arrOf st) (base:=P.length) (n:=X.length) (hint:=0) C (dY _ (List.getElem_mem y0)) (fun j hj=>⟨X[j],by rw [<- Array.getElem?_toList,eX j hj,List.getElem?_eq_getElem hj],dX _ (List.getElem_mem hj)⟩) x0 hk (Zcu C.wo eX sX) fun k hk1 k1 k2=>?_)
 have f1:∀j (hj:j<X.length),j<k->lt (Y[0]'y0) X[j]=false:=fun j hj hjk=>by
  have:=k1 j hjk
  rw [Ui (by rw [eX j hj,List.getElem?_eq_getElem hj])] at this
  simpa using this
 have f2:∀j (hj:j<X.length),k<=j->lt (Y[0]'y0) X[j]=true:=fun j hj hjk=>by
  have:=k2 j hjk hj
  rw [Ui (by rw [eX j hj,List.getElem?_eq_getElem hj])] at this
  simpa using this
 have lowX:∀x∈X.take k,∀y∈Y,lt y x=false:=fun x hx y hy=>by
  obtain ⟨j,hj,rfl⟩:=List.getElem_of_mem hx
  rw [List.length_take] at hj
  rw [List.getElem_take]
  obtain ⟨j2,hj2,rfl⟩:=List.getElem_of_mem hy
  exact C.wo.leT (f1 j (by omega) (by omega)) (GU C.wo sY (List.getElem?_eq_getElem y0) (List.getElem?_eq_getElem hj2) (Nat.zero_le _))
 refine ZI (c:=(X.length-k==0)) (fun c1=>?_) (fun c1=>?_)
 ·refine wpS_pure (h (X++Y) _ ?_ (List.Perm.refl _) (by rw [List.append_assoc];exact hA) rfl hk hf)
  have ek:X.take k=X:=List.take_of_length_le (by have:=eq_of_beq c1;omega)
  rw [ek] at lowX
  exact List.pairwise_append.mpr ⟨sX,sY,lowX⟩
 have c1':=ZT c1
 have exl:(arrOf st)[P.length+k+(X.length-k)-1]? = some (X[X.length-1]'(by omega)):=by
  have:=eX (X.length-1) (by omega)
  rw [<- Array.getElem?_toList,show P.length+k+(X.length-k)-1=P.length+(X.length-1) by omega,this,List.getElem?_eq_getElem (by omega)]
 refine wpS_bind (Z1 exl ?_)
 refine wpS_bind (Y4 (left:=true) (arr:=arrOf st) (base:=P.length+X.length) (n:=Y.length) (hint:=Y.length-1) C (dX _ (List.getElem_mem (by omega))) (fun j hj=>⟨Y[j],by rw [<- Array.getElem?_toList,eY j hj,List.getElem?_eq_getElem hj],dY _ (List.getElem_mem hj)⟩) (by omega) hk (Zcu C.wo eY sY) fun m hm1 m1 m2=>?_)
 have f3:∀j (hj:j<Y.length),j<m->lt Y[j] (X[X.length-1]'(by omega))=true:=fun j hj hjm=>by
  have:=m1 j hjm
  rw [Ui (by rw [eY j hj,List.getElem?_eq_getElem hj])] at this
  simpa using this
 have f4:∀j (hj:j<Y.length),m<=j->lt Y[j] (X[X.length-1]'(by omega))=false:=fun j hj hjm=>by
  have:=m2 j hjm hj
  rw [Ui (by rw [eY j hj,List.getElem?_eq_getElem hj])] at this
  simpa using this
 have m0:m≠0:=fun z=>by
  have:=f4 0 y0 (by omega)
  rw [f2 (X.length-1) (by omega) (by omega)] at this
  cases this
 refine ZI (c:=(m==0)) (fun c2=>absurd (eq_of_beq c2) m0) (fun c2=>?_)
 have tx:((arrOf st).extract (P.length+k) (P.length+X.length)).toList=X.drop k:=by
  rw [ZF,hA,List.drop_append,List.drop_eq_nil_of_le (by omega),List.nil_append,show P.length+k-P.length=k by omega,List.drop_append_of_le_length (by omega),List.take_append_of_le_length (by rw [List.length_drop];omega),List.take_of_length_le (by rw [List.length_drop];omega)]
 have ty:((arrOf st).extract (P.length+X.length) (P.length+X.length+m)).toList=Y.take m:=by
  rw [ZF,hA,<- List.append_assoc,List.drop_append,List.drop_eq_nil_of_le (by simp),List.nil_append,List.length_append,Nat.sub_self,List.drop_zero,List.take_append_of_le_length (by omega)]
  congr 1;omega
 have sX2:JQ lt (X.drop k):=Je sX k
 have sY1:JQ lt (Y.take m):=List.Pairwise.sublist (List.take_sublist _ _) sY
 have lX2:(X.drop k).length=X.length-k:=List.length_drop
 have lY1:(Y.take m).length=m:=by rw [List.length_take];omega
 have hff:∀x y,(X.drop k)[0]? = some x->(Y.take m)[0]? = some y->lt x y=false:=fun x y hx hy=>by
  rw [List.getElem?_drop,Nat.add_zero,List.getElem?_eq_getElem (by omega)] at hx
  rw [List.getElem?_take_of_lt (by omega),List.getElem?_eq_getElem y0] at hy
  cases hx;cases hy
  exact C.wo.asym _ _ (f2 k (by omega) (Nat.le_refl _))
 have hll:∀x,(X.drop k)[(X.drop k).length-1]? = some x -> ∀y∈Y.take m,lt x y=false:=fun x hx y hy=>by
  rw [lX2,List.getElem?_drop,show k+(X.length-k-1)=X.length-1 by omega,List.getElem?_eq_getElem (by omega)] at hx
  cases hx
  obtain ⟨j,hj,rfl⟩:=List.getElem_of_mem hy
  rw [lY1] at hj
  rw [List.getElem_take]
  exact C.wo.asym _ _ (f3 j (by omega) hj)
 have fin:∀(r:Array Keyed) (st':SortSt),Mgd lt (X.drop k) (Y.take m) r.toList->Eqg (SortSt.mk' (kindOf st) (arrOf st) (((pendingOf st).setIfInBounds i (P.length,X.length+Y.length,pw)).eraseIdxIfInBounds (i+1)) (gallopOf st) (failedOf st)) st' ->
   Q true (SortSt.mk' (kindOf st') (List.foldl (fun a x=>match x with | (p,j)=>a.setIfInBounds (P.length+k+j) p) (arrOf st') r.toList.zipIdx) (pendingOf st') (gallopOf st') (failedOf st')):=fun r st' hm q=>by
  obtain ⟨q1,q2,q3,q4⟩:=q
  refine h (X.take k++(r.toList++Y.drop m)) _ ?_ ?_ ?_ q3 (q1.trans hk) (q4.trans hf)
  ·have rle:∀p∈r.toList,∀q∈Y.drop m,lt q p=false:=fun p hp q hq=>by
    have hq':∃j,∃hj:j<Y.length,m<=j/\Y[j]=q:=by
     obtain ⟨j,hj,rfl⟩:=List.getElem_of_mem hq
     rw [List.length_drop] at hj
     exact ⟨m+j,by omega,by omega,by rw [List.getElem_drop]⟩
    obtain ⟨j,hj,hmj,rfl⟩:=hq'
    rcases List.mem_append.mp (hm.2.mem_iff.mp hp) with z | z
    ·obtain ⟨j2,hj2,rfl⟩:=List.getElem_of_mem (List.mem_of_mem_drop z)
     exact C.wo.leT (GU C.wo sX (List.getElem?_eq_getElem hj2) (List.getElem?_eq_getElem (by omega:X.length-1<X.length)) (by omega)) (f4 j hj hmj)
    ·obtain ⟨j2,hj2,rfl⟩:=List.getElem_of_mem z
     rw [lY1] at hj2
     rw [List.getElem_take]
     exact GU C.wo sY (List.getElem?_eq_getElem (by omega)) (List.getElem?_eq_getElem hj) (by omega)
   refine List.pairwise_append.mpr ⟨List.Pairwise.sublist (List.take_sublist _ _) sX,List.pairwise_append.mpr ⟨hm.1,Je sY m,rle⟩,fun p hp q hq=>?_⟩
   rcases List.mem_append.mp hq with z | z
   ·rcases List.mem_append.mp (hm.2.mem_iff.mp z) with y | y
    ·have:JQ lt (X.take k++X.drop k):=by rw [List.take_append_drop];exact sX
     exact (List.pairwise_append.mp this).2.2 p hp q y
    ·exact lowX p hp q (List.mem_of_mem_take y)
   ·exact lowX p hp q (List.mem_of_mem_drop z)
  ·have e1:(X.take k++(r.toList++Y.drop m)).Perm (X.take k++((X.drop k++Y.take m)++Y.drop m)):=List.Perm.append_left _ (hm.2.append_right _)
   refine e1.trans ?_
   rw [List.append_assoc,List.take_append_drop,<- List.append_assoc,List.take_append_drop]
  ·show (List.foldl _ (arrOf st') r.toList.zipIdx).toList=_
   rw [q2]
   have:=ZdH r.toList 0 (P.length+k) (arrOf st) (P++X.take k) (X.drop k++Y.take m) (Y.drop m++S) (by
    show (arrOf st).toList=_
    rw [hA]
    have e1:X=X.take k++X.drop k:=(List.take_append_drop k X).symm
    have e2:Y=Y.take m++Y.drop m:=(List.take_append_drop m Y).symm
    conv=>lhs;rw [e1,e2]
    simp only [List.append_assoc]) (by rw [List.length_append,List.length_take];omega) hm.2.length_eq.symm
   rw [show (List.foldl (fun a x=>match x with | (p,j)=>a.setIfInBounds (P.length+k+j) p) (arrOf st) r.toList.zipIdx)=_ from rfl] at this
   rw [this]
   simp only [List.append_assoc]
 have dx:∀x∈((arrOf st).extract (P.length+k) (P.length+X.length)).toList,D x:=fun x hx=>dX x (by rw [tx] at hx;exact List.mem_of_mem_drop hx)
 have dy:∀x∈((arrOf st).extract (P.length+X.length) (P.length+X.length+m)).toList,D x:=fun x hx=>dY x (by rw [ty] at hx;exact List.mem_of_mem_take hx)
 show wpS _ _ _ _ (if X.length-k<=m then _ else _) _ _
 by_cases c3:X.length-k<=m
 ·rw [if_pos c3]
  refine wpS_bind (Ze1 (a:=(arrOf st).extract (P.length+k) (P.length+X.length)) (b:=(arrOf st).extract (P.length+X.length) (P.length+X.length+m)) C dx dy (by rw [tx];exact sX2) (by rw [ty];exact sY1) hk (by rw [tx,lX2];omega) (by rw [ty,lY1];omega) (by rw [tx,ty];exact hff) (by rw [tx,ty];exact hll) fun r st' hm q=>?_)
  rw [tx,ty] at hm
  refine wpS_bind (wpS_modify (wpS_bind (wpS_get (wpS_pure ?_))))
  have e:(failedOf st').isNone=true:=by rw [q.2.2.2];show (failedOf st).isNone=true;rw [hf];rfl
  have:=fin r st' hm q
  rw [<- e] at this
  exact this
 ·rw [if_neg c3]
  refine wpS_bind (ZeU (a:=(arrOf st).extract (P.length+k) (P.length+X.length)) (b:=(arrOf st).extract (P.length+X.length) (P.length+X.length+m)) C dx dy (by rw [tx];exact sX2) (by rw [ty];exact sY1) hk (by rw [tx,lX2];omega) (by rw [ty,lY1];omega) (by rw [tx,ty];exact hff) (by rw [tx,ty];exact hll) fun r st' hm q=>?_)
  rw [tx,ty] at hm
  refine wpS_bind (wpS_modify (wpS_bind (wpS_get (wpS_pure ?_))))
  have e:(failedOf st').isNone=true:=by rw [q.2.2.2];show (failedOf st).isNone=true;rw [hf];rfl
  have:=fin r st' hm q
  rw [<- e] at this
  exact this
end
section
variable {prog:Program}{w:World}{A:Around}{E:Value->Shared->Prop}{s:Shared}{kd:SortKind}{D:Keyed->Prop}{lt:Keyed->Keyed->Bool}
def Zau (lt:Keyed->Keyed->Bool) (arr:Array Keyed) (lo m:Nat):Prop:=∀i j p q,i<=j->j<m->arr[lo+i]? = some p->arr[lo+j]? = some q->lt q p=false
def U4 (lt:Keyed->Keyed->Bool) (arr:Array Keyed) (lo m:Nat):Prop:=∀i j p q,i<=j->j<m->arr[lo+i]? = some p->arr[lo+j]? = some q->lt p q=false
def EqS (lt:Keyed->Keyed->Bool) (arr:Array Keyed) (b e:Nat):Prop:=∀i j p q,b<=i->i<e->b<=j->j<e->arr[i]? = some p->arr[j]? = some q->lt p q=false
structure Kp (lo n:Nat) (st st':SortSt):Prop where
 kind:kindOf st'=kindOf st
 pend:pendingOf st'=pendingOf st
 fail:failedOf st'=failedOf st
 perm:(arrOf st').toList.Perm (arrOf st).toList
 out:∀i,i<lo∨lo+n<=i->(arrOf st')[i]? = (arrOf st)[i]?
theorem Kp.refl (lo n:Nat) (st:SortSt):Kp lo n st st:=⟨rfl,rfl,rfl,.refl _,fun _ _=>rfl⟩
theorem Kp.trans {lo n:Nat}{a b c:SortSt} (x:Kp lo n a b) (y:Kp lo n b c):Kp lo n a c:=⟨y.kind.trans x.kind,y.pend.trans x.pend,y.fail.trans x.fail,y.perm.trans x.perm,fun i h=>(y.out i h).trans (x.out i h)⟩
theorem Kp.size {lo n:Nat}{a b:SortSt} (x:Kp lo n a b):(arrOf b).size=(arrOf a).size:=by
 have:=x.perm.length_eq
 simpa using this
theorem ZdN {arr:Array Keyed}{i:Nat} (h:i<arr.size):∃x,arr[i]? = some x:=⟨arr[i],getElem?_pos arr i h⟩
theorem Jb (C:Cmp prog w A E s kd D lt) {st:SortSt}{i j:Nat}{Q:Option Bool->SortSt->Prop} (hi:i<(arrOf st).size) (hj:j<(arrOf st).size) (hD:∀x∈(arrOf st).toList,D x) (hk:kindOf st=kd)
  (h:∀p q,(arrOf st)[i]? = some p->(arrOf st)[j]? = some q->Q (some (lt p q)) st):wpS (model prog w) A E s (ltAt' i j) Q st:=by
 obtain ⟨p,hp⟩:=ZdN hi
 obtain ⟨q,hq⟩:=ZdN hj
 rw [ltAt'_eq]
 refine wpS_bind (wpS_get ?_)
 show wpS _ _ _ _ (elem' (arrOf st) i >>= fun x=>elem' (arrOf st) j >>= fun y=>lt' x y) Q st
 refine wpS_bind (Z1 hp (wpS_bind (Z1 hq (C.cmp p q st Q (hD p ?_) (hD q ?_) hk (h p q hp hq)))))
 ·exact List.mem_of_getElem? (by rw [Array.getElem?_toList];exact hp)
 ·exact List.mem_of_getElem? (by rw [Array.getElem?_toList];exact hq)
theorem WN {M:Model}{i j:Nat}{st:SortSt}{Q:Unit->SortSt->Prop} (h:Q () (setArr st (mirror (arrOf st) i j ((j-i) / 2)))):wpS M A E s (reverseSlice' i j) Q st:=by
 rw [reverseSlice'_eq];exact wpS_modify h
theorem YS {lo n i j:Nat}{st:SortSt} (h1:lo<=i) (h2:j<=lo+n) (h3:lo+n<=(arrOf st).size):Kp lo n st (setArr st (mirror (arrOf st) i j ((j-i) / 2))):=by
 refine ⟨rfl,rfl,rfl,Array.perm_iff_toList_perm.mp (mirror_perm _ _ _ _),fun k hk=>?_⟩
 show (mirror (arrOf st) i j ((j-i) / 2))[k]? = _
 rw [getElem?_mirror_all (by lia),if_neg (by lia)]
theorem J8 {arr:Array Keyed}{lo m b e:Nat} (h:U4 lt arr lo m) (he:EqS lt arr b e) (h1:lo<=b) (h2:e<=lo+m) (h3:lo+m<=arr.size):U4 lt (mirror arr b e ((e-b) / 2)) lo m:=by
 intro i j p q hij hj hp hq
 rw [getElem?_mirror_all (by lia)] at hp hq
 by_cases ci:b<=lo+i/\lo+i<e<;>by_cases cj:b<=lo+j/\lo+j<e
 ·rw [if_pos ci] at hp
  rw [if_pos cj] at hq
  exact he _ _ p q (by lia) (by lia) (by lia) (by lia) hp hq
 ·rw [if_pos ci] at hp
  rw [if_neg cj] at hq
  exact h (b+e-1-(lo+i)-lo) j p q (by lia) hj (by rw [show lo+(b+e-1-(lo+i)-lo)=b+e-1-(lo+i) by lia];exact hp) hq
 ·rw [if_neg ci] at hp
  rw [if_pos cj] at hq
  exact h i (b+e-1-(lo+j)-lo) p q (by lia) (by lia) hp (by rw [show lo+(b+e-1-(lo+j)-lo)=b+e-1-(lo+j) by lia];exact hq)
 ·rw [if_neg ci] at hp
  rw [if_neg cj] at hq
  exact h i j p q hij hj hp hq
theorem WR {arr:Array Keyed}{lo m:Nat} (h:U4 lt arr lo m) (h3:lo+m<=arr.size):Zau lt (mirror arr lo (lo+m) ((lo+m-lo) / 2)) lo m:=by
 intro i j p q hij hj hp hq
 rw [getElem?_mirror_all (by lia),if_pos (by lia)] at hp hq
 exact h (m-1-j) (m-1-i) q p (by lia) (by lia) (by rw [<- hq];congr 1;lia) (by rw [<- hp];congr 1;lia)
theorem WA (C:Wo lt) {arr:Array Keyed}{lo m:Nat} (h:U4 lt arr lo m) (hm:0<m) {d e:Keyed} (hd:arr[lo+m-1]? = some d) (he:arr[lo+m]? = some e) (hde:lt d e=false):U4 lt arr lo (m+1):=by
 intro i j p q hij hj hp hq
 by_cases c:j<m
 ·exact h i j p q hij c hp hq
 ·obtain rfl:j=m:=by lia
  rw [he] at hq
  cases hq
  by_cases c2:i=j
  ·subst c2
   rw [he] at hp
   cases hp
   exact C.irr _
  ·exact C.leT hde (h i (j-1) p d (by lia) (by lia) hp (by rw [show lo+(j-1)=lo+j-1 by lia];exact hd))
theorem ZgH (C:Wo lt) {arr:Array Keyed}{lo m:Nat} (h:Zau lt arr lo m) (hm:0<m) {d e:Keyed} (hd:arr[lo+m-1]? = some d) (he:arr[lo+m]? = some e) (hde:lt e d=false):Zau lt arr lo (m+1):=by
 intro i j p q hij hj hp hq
 by_cases c:j<m
 ·exact h i j p q hij c hp hq
 ·obtain rfl:j=m:=by lia
  rw [he] at hq
  cases hq
  by_cases c2:i=j
  ·subst c2
   rw [he] at hp
   cases hp
   exact C.irr _
  ·exact C.leT (h i (j-1) p d (by lia) (by lia) hp (by rw [show lo+(j-1)=lo+j-1 by lia];exact hd)) hde
theorem Zaq (C:Wo lt) {x lo:Nat} (arr:Array Keyed):EqS lt arr (lo+x-(0+1)) (lo+x):=fun i j p q i1 i2 j1 j2 hp hq=>by
 obtain rfl:i=j:=by lia
 rw [hp] at hq;cases hq;exact C.irr _
theorem Zgi (C:Wo lt) {arr:Array Keyed}{b e:Nat} (h:EqS lt arr b e) (hb:b<e) {d x:Keyed} (hd:arr[e-1]? = some d) (hx:arr[e]? = some x) (h1:lt x d=false) (h2:lt d x=false):EqS lt arr b (e+1):=fun i j p q i1 i2 j1 j2 hp hq=>by
 by_cases ci:i<e<;>by_cases cj:j<e
 ·exact h i j p q i1 ci j1 cj hp hq
 ·obtain rfl:j=e:=by lia
  rw [hx] at hq;cases hq
  exact C.leT h2 (h i (j-1) p d i1 ci (by lia) (by lia) hp hd)
 ·obtain rfl:i=e:=by lia
  rw [hx] at hp;cases hp
  exact C.leT (h (i-1) j d q (by lia) (by lia) j1 cj hd hq) h1
 ·obtain rfl:i=e:=by lia
  obtain rfl:j=i:=by lia
  rw [hp] at hq;cases hq;exact C.irr _
theorem GK (C:Cmp prog w A E s kd D lt) {lo n a:Nat}{st:SortSt}{Q:Option (Option Nat)×Nat->SortSt->Prop}{body:Nat->Option (Option Nat)×Nat->StateT SortSt Sem (ForInStep (Option (Option Nat)×Nat))}
  (hb:∀x m (R:ForInStep (Option (Option Nat)×Nat)->SortSt->Prop),1<=m->m<n->(∀p q,(arrOf st)[lo+m]? = some p->(arrOf st)[lo+m-1]? = some q->R (if lt p q=true then .done (none,m) else .yield (none,m+1)) st)->wpS (model prog w) A E s (body x (none,m)) R st)
  (ha:1<=a) (han:a<=n) (hsz:lo+n<=(arrOf st).size) (hs:Zau lt (arrOf st) lo a)
  (h:∀m,a<=m->m<=n->Zau lt (arrOf st) lo m->(m<n -> ∀p q,(arrOf st)[lo+m]? = some p->(arrOf st)[lo+m-1]? = some q->lt p q=true)->Q (none,m) st):wpS (model prog w) A E s (forIn [a:n] (none,a) body) Q st:=by
 refine wpS_forRange (I:=fun x c st'=>st'=st/\c=(none,x)/\Zau lt (arrOf st) lo x) ?_ ?_ ⟨rfl,rfl,hs⟩
 ·rintro x c st' hax hxn ⟨rfl,rfl,g⟩
  refine hb x x _ (by lia) hxn fun p q hp hq=>?_
  cases e:lt p q with
  | true=>
   exact h x hax (by lia) g fun _ p' q' hp' hq'=>by
    rw [hp] at hp';rw [hq] at hq';cases hp';cases hq';exact e
  | false=>exact ⟨rfl,rfl,ZgH C.wo g (by lia) hq hp e⟩
 ·rintro c st' ⟨rfl,rfl,g⟩
  rw [show max a n=n by lia] at g ⊢
  exact h n han (Nat.le_refl _) g fun z=>by lia
theorem Zei (C:Cmp prog w A E s kd D lt) {lo n:Nat}{st:SortSt}{Q:Option Nat->SortSt->Prop} (hn:0<n) (hsz:lo+n<=(arrOf st).size) (hD:∀x∈(arrOf st).toList,D x) (hk:kindOf st=kd)
  (h:∀m st',1<=m->m<=n->Kp lo n st st'->Zau lt (arrOf st') lo m->Q (some m) st'):wpS (model prog w) A E s (Zgv lo n) Q st:=by
 have s1:∀arr:Array Keyed,Zau lt arr lo 1:=fun arr i j p q hij hj hp hq=>by
  obtain rfl:i=0:=by lia
  obtain rfl:j=0:=by lia
  rw [hp] at hq;cases hq;exact C.wo.irr _
 refine wpS_bind (GK C (lo:=lo) (n:=n) (a:=1) (st:=st) (fun x m R h1 h2 hR=>?_) (Nat.le_refl _) hn hsz (s1 _) fun m hm1 hm2 g nx=>?_)
 ·refine wpS_bind (Jb C (by lia) (by lia) hD hk fun p q hp hq=>?_)
  have:=hR p q hp hq
  cases e:lt p q with
  | true=>rw [e] at this;exact wpS_pure this
  | false=>rw [e] at this;exact wpS_pure this
 refine ZI (c:=(m==n)) (fun c1=>wpS_pure (h m st hm1 hm2 (Kp.refl _ _ _) g)) (fun c1=>?_)
 have c1':=ZT c1
 obtain ⟨pl,hpl⟩:=ZdN (show lo+m<(arrOf st).size by lia)
 obtain ⟨ql,hql⟩:=ZdN (show lo+m-1<(arrOf st).size by lia)
 have less:=nx (by lia) pl ql hpl hql
 refine Jq (k:=m) (n:=1) (fun z=>?_) (fun z=>?_)
 ·refine wpS_bind (Jb C (i:=lo) (j:=lo+m-1) (by lia) (by lia) hD hk fun p q hp hq=>?_)
  cases e:lt p q with
  | true=>exact wpS_pure (h m st hm1 hm2 (Kp.refl _ _ _) g)
  | false=>
   have eqs:EqS lt (arrOf st) lo (lo+m):=fun i j a b i1 i2 j1 j2 ha hb=>by
    have ha':(arrOf st)[lo+(i-lo)]? = some a:=by rw [show lo+(i-lo)=i by lia];exact ha
    have hb':(arrOf st)[lo+(j-lo)]? = some b:=by rw [show lo+(j-lo)=j by lia];exact hb
    have l1:=g (i-lo) (m-1) a q (by lia) (by lia) ha' (by rw [<- hq];congr 1;lia)
    have l2:=g 0 (j-lo) p b (by lia) (by lia) (by rw [Nat.add_zero];exact hp) hb'
    have l3:=g 0 (i-lo) p a (by lia) (by lia) (by rw [Nat.add_zero];exact hp) ha'
    have l4:=g (j-lo) (m-1) b q (by lia) (by lia) hb' (by rw [<- hq];congr 1;lia)
    exact C.wo.leT l4 (C.wo.leT e l3)
   refine wpS_bind (WN (i:=lo) (j:=lo+m) ?_)
   have k1:=YS (lo:=lo) (n:=n) (i:=lo) (j:=lo+m) (st:=st) (Nat.le_refl _) (by lia) hsz
   have non0:U4 lt (arrOf st) lo m:=fun i j a b hij hj ha hb=>eqs _ _ a b (by lia) (by lia) (by lia) (by lia) ha hb
   have non1:U4 lt (arrOf (setArr st (mirror (arrOf st) lo (lo+m) ((lo+m-lo) / 2)))) lo (m+1):=J8 (WA C.wo non0 (by lia) hql hpl (C.wo.asym _ _ less)) eqs (Nat.le_refl _) (by lia) (by lia)
   generalize setArr st (mirror (arrOf st) lo (lo+m) ((lo+m-lo) / 2))=st1 at k1 non1 ⊢
   refine wpS_bind (wpS_lift (wpAny_rule ⟨rfl,?_⟩))
   refine wpS_bind (wpS_mono (wpS_forRange (a:=m+1) (b:=n) (I:=fun x c st'=>∃neq,c=(none,x,neq)/\Kp lo n st st'/\U4 lt (arrOf st') lo x/\neq+1<=x/\EqS lt (arrOf st') (lo+x-(neq+1)) (lo+x))
    (Q:=fun c st'=>∃x neq,c=(none,x,neq)/\m+1<=x/\x<=n/\Kp lo n st st'/\U4 lt (arrOf st') lo x/\neq+1<=x/\EqS lt (arrOf st') (lo+x-(neq+1)) (lo+x)) ?_ ?_ ⟨0,rfl,k1,non1,by lia,Zaq C.wo _⟩) ?_)
   ·rintro x c st2 hx1 hx2 ⟨neq,rfl,k2,g2,e1,e2⟩
    have z2:=k2.size
    have hD2:∀y∈(arrOf st2).toList,D y:=fun y hy=>hD y (k2.perm.mem_iff.mp hy)
    have hk2:=k2.kind.trans hk
    refine wpS_bind (Jb C (i:=lo+x) (j:=lo+x-1) (by lia) (by lia) hD2 hk2 fun p q hp hq=>?_)
    cases e:lt p q with
    | true=>
     have gs:=WA C.wo g2 (by lia) hq hp (C.wo.asym _ _ e)
     refine Jq (k:=neq) (n:=0) (fun z=>?_) (fun z=>?_)
     ·refine wpS_bind (WN (i:=lo+x-(neq+1)) (j:=lo+x) ?_)
      exact wpS_pure ⟨0,rfl,k2.trans (YS (by lia) (by lia) (by lia)),J8 gs e2 (by lia) (by lia) (by lia),by lia,Zaq C.wo _⟩
     ·exact wpS_pure ⟨0,rfl,k2,gs,by lia,Zaq C.wo _⟩
    | false=>
     refine wpS_bind (Jb C (i:=lo+x-1) (j:=lo+x) (by lia) (by lia) hD2 hk2 fun q' p' hq' hp'=>?_)
     rw [hq] at hq'
     rw [hp] at hp'
     cases hq';cases hp'
     cases e':lt q p with
     | true=>exact wpS_pure ⟨x,neq,rfl,hx1,by lia,k2,g2,e1,e2⟩
     | false=>
      refine wpS_pure ⟨neq+1,rfl,k2,WA C.wo g2 (by lia) hq hp e',by lia,?_⟩
      have:=Zgi C.wo e2 (by lia) hq hp e e'
      rw [show lo+(x+1)-(neq+1+1)=lo+x-(neq+1) by lia]
      exact this
   ·rintro c st2 ⟨neq,rfl,k2,g2,e1,e2⟩
    rw [show max (m+1) n=n by lia] at g2 e1 e2 ⊢
    exact ⟨n,neq,rfl,by lia,Nat.le_refl _,k2,g2,e1,e2⟩
   ·rintro c st2 ⟨x,neq,rfl,x1,x2,k2,g2,e1,e2⟩
    have z2:=k2.size
    refine Jq (k:=neq) (n:=0) (fun z=>?_) (fun z=>?_)
    ·refine wpS_bind (WN (i:=lo+x-(neq+1)) (j:=lo+x) ?_)
     have k3:=k2.trans (YS (lo:=lo) (n:=n) (i:=lo+x-(neq+1)) (j:=lo+x) (st:=st2) (by lia) (by lia) (by lia))
     have g3:U4 lt (arrOf (setArr st2 (mirror (arrOf st2) (lo+x-(neq+1)) (lo+x) ((lo+x-(lo+x-(neq+1))) / 2)))) lo x:=J8 g2 e2 (by lia) (by lia) (by lia)
     generalize setArr st2 (mirror (arrOf st2) (lo+x-(neq+1)) (lo+x) ((lo+x-(lo+x-(neq+1))) / 2))=st3 at k3 g3 ⊢
     refine wpS_bind (WN (i:=lo) (j:=lo+x) ?_)
     have z3:=k3.size
     have k4:=k3.trans (YS (lo:=lo) (n:=n) (i:=lo) (j:=lo+x) (st:=st3) (Nat.le_refl _) (by lia) (by lia))
     have g4:=WR g3 (by lia)
     refine wpS_bind (GK C (lo:=lo) (n:=n) (a:=x) (st:=setArr st3 (mirror (arrOf st3) lo (lo+x) ((lo+x-lo) / 2))) (fun y m' R h1 h2 hR=>?_) (by lia) x2 (by rw [k4.size];exact hsz) g4 fun m' a1 a2 g5 _=>wpS_pure (h m' _ (by lia) a2 k4 g5))
     refine wpS_bind (Jb C (by rw [k4.size];lia) (by rw [k4.size];lia) (fun y hy=>hD y (k4.perm.mem_iff.mp hy)) (k4.kind.trans hk) fun p q hp hq=>?_)
     have:=hR p q hp hq
     cases e:lt p q with
     | true=>rw [e] at this;exact wpS_pure this
     | false=>rw [e] at this;exact wpS_pure this
    ·have k3:=k2
     have g3:=g2
     refine wpS_bind (WN (i:=lo) (j:=lo+x) ?_)
     have z3:=k3.size
     have k4:=k3.trans (YS (lo:=lo) (n:=n) (i:=lo) (j:=lo+x) (st:=st2) (Nat.le_refl _) (by lia) (by lia))
     have g4:=WR g3 (by lia)
     refine wpS_bind (GK C (lo:=lo) (n:=n) (a:=x) (st:=setArr st2 (mirror (arrOf st2) lo (lo+x) ((lo+x-lo) / 2))) (fun y m' R h1 h2 hR=>?_) (by lia) x2 (by rw [k4.size];exact hsz) g4 fun m' a1 a2 g5 _=>wpS_pure (h m' _ (by lia) a2 k4 g5))
     refine wpS_bind (Jb C (by rw [k4.size];lia) (by rw [k4.size];lia) (fun y hy=>hD y (k4.perm.mem_iff.mp hy)) (k4.kind.trans hk) fun p q hp hq=>?_)
     have:=hR p q hp hq
     cases e:lt p q with
     | true=>rw [e] at this;exact wpS_pure this
     | false=>rw [e] at this;exact wpS_pure this
 ·obtain rfl:m=1:=by lia
  have k1:=Kp.refl lo n st
  have non1:U4 lt (arrOf st) lo (1+1):=WA C.wo (fun i j a b hij hj ha hb=>by
   obtain rfl:i=0:=by lia
   obtain rfl:j=0:=by lia
   rw [ha] at hb;cases hb;exact C.wo.irr _) (by lia) hql hpl (C.wo.asym _ _ less)
  refine wpS_bind (wpS_lift (wpAny_rule ⟨rfl,?_⟩))
  refine wpS_bind (wpS_mono (wpS_forRange (a:=1+1) (b:=n) (I:=fun x c st'=>∃neq,c=(none,x,neq)/\Kp lo n st st'/\U4 lt (arrOf st') lo x/\neq+1<=x/\EqS lt (arrOf st') (lo+x-(neq+1)) (lo+x))
   (Q:=fun c st'=>∃x neq,c=(none,x,neq)/\1+1<=x/\x<=n/\Kp lo n st st'/\U4 lt (arrOf st') lo x/\neq+1<=x/\EqS lt (arrOf st') (lo+x-(neq+1)) (lo+x)) ?_ ?_ ⟨0,rfl,k1,non1,by lia,Zaq C.wo _⟩) ?_)
  ·rintro x c st2 hx1 hx2 ⟨neq,rfl,k2,g2,e1,e2⟩
   have z2:=k2.size
   have hD2:∀y∈(arrOf st2).toList,D y:=fun y hy=>hD y (k2.perm.mem_iff.mp hy)
   have hk2:=k2.kind.trans hk
   refine wpS_bind (Jb C (i:=lo+x) (j:=lo+x-1) (by lia) (by lia) hD2 hk2 fun p q hp hq=>?_)
   cases e:lt p q with
   | true=>
    have gs:=WA C.wo g2 (by lia) hq hp (C.wo.asym _ _ e)
    refine Jq (k:=neq) (n:=0) (fun z=>?_) (fun z=>?_)
    ·refine wpS_bind (WN (i:=lo+x-(neq+1)) (j:=lo+x) ?_)
     exact wpS_pure ⟨0,rfl,k2.trans (YS (by lia) (by lia) (by lia)),J8 gs e2 (by lia) (by lia) (by lia),by lia,Zaq C.wo _⟩
    ·exact wpS_pure ⟨0,rfl,k2,gs,by lia,Zaq C.wo _⟩
   | false=>
    refine wpS_bind (Jb C (i:=lo+x-1) (j:=lo+x) (by lia) (by lia) hD2 hk2 fun q' p' hq' hp'=>?_)
    rw [hq] at hq'
    rw [hp] at hp'
    cases hq';cases hp'
    cases e':lt q p with
    | true=>exact wpS_pure ⟨x,neq,rfl,hx1,by lia,k2,g2,e1,e2⟩
    | false=>
     refine wpS_pure ⟨neq+1,rfl,k2,WA C.wo g2 (by lia) hq hp e',by lia,?_⟩
     have:=Zgi C.wo e2 (by lia) hq hp e e'
     rw [show lo+(x+1)-(neq+1+1)=lo+x-(neq+1) by lia]
     exact this
  ·rintro c st2 ⟨neq,rfl,k2,g2,e1,e2⟩
   rw [show max (1+1) n=n by lia] at g2 e1 e2 ⊢
   exact ⟨n,neq,rfl,by lia,Nat.le_refl _,k2,g2,e1,e2⟩
  ·rintro c st2 ⟨x,neq,rfl,x1,x2,k2,g2,e1,e2⟩
   have z2:=k2.size
   refine Jq (k:=neq) (n:=0) (fun z=>?_) (fun z=>?_)
   ·refine wpS_bind (WN (i:=lo+x-(neq+1)) (j:=lo+x) ?_)
    have k3:=k2.trans (YS (lo:=lo) (n:=n) (i:=lo+x-(neq+1)) (j:=lo+x) (st:=st2) (by lia) (by lia) (by lia))
    have g3:U4 lt (arrOf (setArr st2 (mirror (arrOf st2) (lo+x-(neq+1)) (lo+x) ((lo+x-(lo+x-(neq+1))) / 2)))) lo x:=J8 g2 e2 (by lia) (by lia) (by lia)
    generalize setArr st2 (mirror (arrOf st2) (lo+x-(neq+1)) (lo+x) ((lo+x-(lo+x-(neq+1))) / 2))=st3 at k3 g3 ⊢
    refine wpS_bind (WN (i:=lo) (j:=lo+x) ?_)
    have z3:=k3.size
    have k4:=k3.trans (YS (lo:=lo) (n:=n) (i:=lo) (j:=lo+x) (st:=st3) (Nat.le_refl _) (by lia) (by lia))
    have g4:=WR g3 (by lia)
    refine wpS_bind (GK C (lo:=lo) (n:=n) (a:=x) (st:=setArr st3 (mirror (arrOf st3) lo (lo+x) ((lo+x-lo) / 2))) (fun y m' R h1 h2 hR=>?_) (by lia) x2 (by rw [k4.size];exact hsz) g4 fun m' a1 a2 g5 _=>wpS_pure (h m' _ (by lia) a2 k4 g5))
    refine wpS_bind (Jb C (by rw [k4.size];lia) (by rw [k4.size];lia) (fun y hy=>hD y (k4.perm.mem_iff.mp hy)) (k4.kind.trans hk) fun p q hp hq=>?_)
    have:=hR p q hp hq
    cases e:lt p q with
    | true=>rw [e] at this;exact wpS_pure this
    | false=>rw [e] at this;exact wpS_pure this
   ·have k3:=k2
    have g3:=g2
    refine wpS_bind (WN (i:=lo) (j:=lo+x) ?_)
    have z3:=k3.size
    have k4:=k3.trans (YS (lo:=lo) (n:=n) (i:=lo) (j:=lo+x) (st:=st2) (Nat.le_refl _) (by lia) (by lia))
    have g4:=WR g3 (by lia)
    refine wpS_bind (GK C (lo:=lo) (n:=n) (a:=x) (st:=setArr st2 (mirror (arrOf st2) lo (lo+x) ((lo+x-lo) / 2))) (fun y m' R h1 h2 hR=>?_) (by lia) x2 (by rw [k4.size];exact hsz) g4 fun m' a1 a2 g5 _=>wpS_pure (h m' _ (by lia) a2 k4 g5))
    refine wpS_bind (Jb C (by rw [k4.size];lia) (by rw [k4.size];lia) (fun y hy=>hD y (k4.perm.mem_iff.mp hy)) (k4.kind.trans hk) fun p q hp hq=>?_)
    have:=hR p q hp hq
    cases e:lt p q with
    | true=>rw [e] at this;exact wpS_pure this
    | false=>rw [e] at this;exact wpS_pure this
end
section
variable {prog:Program}{w:World}{A:Around}{E:Value->Shared->Prop}{s:Shared}{kd:SortKind}{D:Keyed->Prop}{lt:Keyed->Keyed->Bool}
theorem ZjU {M:Model}{i j:Nat}{st:SortSt}{Q:Unit->SortSt->Prop} (h:Q () (setArr st (bubble (arrOf st) i (i-j)))):wpS M A E s (moveDown' i j) Q st:=by
 rw [moveDown'_eq];exact wpS_modify h
theorem ZbZ (C:Cmp prog w A E s kd D lt) {lo n ok:Nat}{st:SortSt}{Q:Bool->SortSt->Prop} (h1:1<=ok) (hok:ok<=n) (hsz:lo+n<=(arrOf st).size) (hD:∀x∈(arrOf st).toList,D x) (hk:kindOf st=kd) (hs:Zau lt (arrOf st) lo ok)
  (h:∀st',Kp lo n st st'->Zau lt (arrOf st') lo n->Q true st'):wpS (model prog w) A E s (ZdS lo n ok) Q st:=by
 refine wpS_bind (wpS_mono (wpS_forRange (a:=max ok 1) (b:=n) (I:=fun k c st'=>c=(none,())/\Kp lo n st st'/\Zau lt (arrOf st') lo k) (Q:=fun c st'=>c=(none,())/\Kp lo n st st'/\Zau lt (arrOf st') lo n) ?_ ?_ ⟨rfl,Kp.refl _ _ _,by rw [show max ok 1=ok by lia];exact hs⟩) ?_)
 ·rintro k c st1 hk1 hk2 ⟨rfl,kp,g⟩
  have z1:=kp.size
  obtain ⟨e,he⟩:=ZdN (show lo+k<(arrOf st1).size by lia)
  refine wpS_bind (wpS_mono (wpS_forRange (a:=0) (b:=k) (I:=fun x c st'=>st'=st1 /\ ∃l r,c=(none,l,r)/\l<=r/\r<=k/\r-l<=k-x/\(∀i p,i<l->(arrOf st1)[lo+i]? = some p->lt e p=false) /\ ∀i p,r<=i->i<k->(arrOf st1)[lo+i]? = some p->lt e p=true)
   (Q:=fun c st'=>st'=st1 /\ ∃l r,c=(none,l,r)/\l<=k/\(∀i p,i<l->(arrOf st1)[lo+i]? = some p->lt e p=false) /\ ∀i p,l<=i->i<k->(arrOf st1)[lo+i]? = some p->lt e p=true) ?_ ?_ ⟨rfl,0,k,rfl,by lia,by lia,by lia,fun i p hi=>by lia,fun i p h1 h2=>by lia⟩) ?_)
  ·rintro x c st' _ hx ⟨rfl,l,r,rfl,g1,g2,g3,g4,g5⟩
   dsimp only
   by_cases hge:l>=r
   ·rw [if_pos hge]
    obtain rfl:l=r:=by lia
    exact wpS_pure ⟨rfl,l,l,rfl,g2,g4,g5⟩
   ·rw [if_neg hge]
    refine wpS_bind (Jb C (i:=lo+k) (j:=lo+(l+r) / 2) (by lia) (by lia) (fun y hy=>hD y (kp.perm.mem_iff.mp hy)) (kp.kind.trans hk) fun p q hp hq=>?_)
    rw [he] at hp
    cases hp
    cases c:lt e q with
    | true=>
     refine wpS_pure ⟨rfl,l,(l+r) / 2,rfl,by lia,by lia,by lia,g4,fun i p i1 i2 hp=>?_⟩
     rcases C.wo.neg e p q c with z | z
     ·exact z
     ·rw [g ((l+r) / 2) i q p i1 i2 hq hp] at z;cases z
    | false=>
     refine wpS_pure ⟨rfl,(l+r) / 2+1,r,rfl,by lia,by lia,by lia,fun i p i1 hp=>?_,g5⟩
     exact C.wo.leT (g i ((l+r) / 2) p q (by lia) (by lia) hp hq) c
  ·rintro c st' ⟨rfl,l,r,rfl,g1,g2,g3,g4,g5⟩
   obtain rfl:l=r:=by lia
   exact ⟨rfl,l,l,rfl,g2,g4,g5⟩
  ·rintro c st' ⟨rfl,l,r,rfl,g2,g4,g5⟩
   refine wpS_bind (ZjU (i:=lo+k) (j:=lo+l) ?_)
   have sz:lo+k<(arrOf st').size:=by lia
   refine wpS_pure ⟨rfl,kp.trans ⟨rfl,rfl,rfl,Array.perm_iff_toList_perm.mp (bubble_perm _ _ _),fun i hi=>?_⟩,fun i j p q hij hj hp hq=>?_⟩
   ·show (bubble (arrOf st') (lo+k) (lo+k-(lo+l)))[i]? = _
    rw [getElem?_bubble sz _ (by lia),if_neg (by lia),if_neg (by lia)]
   ·rw [show arrOf (setArr st' (bubble (arrOf st') (lo+k) (lo+k-(lo+l))))=bubble (arrOf st') (lo+k) (lo+k-(lo+l)) from rfl,getElem?_bubble sz _ (by lia)] at hp hq
    rw [show lo+k-(lo+k-(lo+l))=lo+l by lia] at hp hq
    by_cases ci:i=l<;>by_cases cj:j=l
    ·subst ci;subst cj
     rw [if_pos rfl] at hp hq
     rw [hp] at hq;cases hq;exact C.wo.irr _
    ·subst ci
     rw [if_pos rfl,he] at hp
     cases hp
     rw [if_neg (by lia),if_pos (by lia)] at hq
     exact C.wo.asym _ _ (g5 (j-1) q (by lia) (by lia) (by rw [<- hq];congr 1;lia))
    ·subst cj
     rw [if_neg (by lia),if_neg (by lia)] at hp
     rw [if_pos rfl,he] at hq
     cases hq
     exact g4 i p (by lia) hp
    ·rw [if_neg (by lia)] at hp hq
     by_cases di:i<l<;>by_cases dj:j<l
     ·rw [if_neg (by lia)] at hp hq
      exact g i j p q hij (by lia) hp hq
     ·rw [if_neg (by lia)] at hp
      rw [if_pos (by lia)] at hq
      exact g i (j-1) p q (by lia) (by lia) hp (by rw [<- hq];congr 1;lia)
     ·lia
     ·rw [if_pos (by lia)] at hp hq
      exact g (i-1) (j-1) p q (by lia) (by lia) (by rw [<- hp];congr 1;lia) (by rw [<- hq];congr 1;lia)
 ·rintro c st1 ⟨rfl,kp,g⟩
  rw [show max (max ok 1) n=n by lia] at g
  exact ⟨rfl,kp,g⟩
 ·rintro c st1 ⟨rfl,kp,g⟩
  exact wpS_pure (h st1 kp g)
def Wj (p:List (Nat×Nat×Nat)) (rs:List (List Keyed)):Prop:=p.length=rs.length /\ ∀i r,rs[i]? = some r -> ∃pw,p[i]? = some ((rs.take i).flatten.length,r.length,pw)
theorem Zis:Wj [] []:=⟨rfl,fun i r h=>by simp at h⟩
theorem Zgu {p:List (Nat×Nat×Nat)}{rs:List (List Keyed)} (h:Wj p rs) (r:List Keyed) (pw:Nat):Wj (p ++ [(rs.flatten.length,r.length,pw)]) (rs ++ [r]):=by
 refine ⟨by simp [h.1],fun i x hx=>?_⟩
 by_cases c:i<rs.length
 ·rw [List.getElem?_append_left c] at hx
  obtain ⟨q,hq⟩:=h.2 i x hx
  exact ⟨q,by rw [List.getElem?_append_left (by rw [h.1];exact c),hq,List.take_append_of_le_length (by lia)]⟩
 ·have hi:i=rs.length:=by
   have:=(List.getElem?_eq_some_iff.mp hx).1
   rw [List.length_append,List.length_singleton] at this
   lia
  subst hi
  rw [List.getElem?_append_right (Nat.le_refl _),Nat.sub_self] at hx
  simp at hx
  subst hx
  refine ⟨pw,?_⟩
  rw [<- h.1,List.getElem?_append_right (Nat.le_refl _),Nat.sub_self,h.1,List.take_append_of_le_length (Nat.le_refl _),List.take_of_length_le (Nat.le_refl _)]
  rfl
theorem Zh8 {p:List (Nat×Nat×Nat)}{rs:List (List Keyed)} (h:Wj p rs) (k:Nat) (f:Nat×Nat×Nat->Nat×Nat×Nat) (hf:∀a b c,∃d,f (a,b,c)=(a,b,d)):Wj (p.modify k f) rs:=by
 refine ⟨by rw [List.length_modify];exact h.1,fun i x hx=>?_⟩
 obtain ⟨q,hq⟩:=h.2 i x hx
 rw [List.getElem?_modify,hq]
 by_cases c:k=i
 ·obtain ⟨d,hd⟩:=hf (rs.take i).flatten.length x.length q
  exact ⟨d,by rw [Option.map_eq_map,Option.map_some,if_pos c,hd]⟩
 ·exact ⟨q,by simp [c]⟩
theorem Zfg {p:List (Nat×Nat×Nat)}{U B:List (List Keyed)}{X Y Z:List Keyed}{pw:Nat} (h:Wj p (U++(X::Y::B))) (hz:Z.length=X.length+Y.length):Wj ((p.set U.length (U.flatten.length,X.length+Y.length,pw)).eraseIdx (U.length+1)) (U++(Z::B)):=by
 have hl:=h.1
 simp only [List.length_append,List.length_cons] at hl
 refine ⟨by rw [List.length_eraseIdx_of_lt (by rw [List.length_set];lia),List.length_set];simp only [List.length_append,List.length_cons];lia,fun i x hx=>?_⟩
 rw [List.getElem?_eraseIdx]
 by_cases c1:i<U.length
 ·rw [if_pos (by lia),List.getElem?_set_ne (by lia)]
  rw [List.getElem?_append_left c1] at hx
  obtain ⟨q,hq⟩:=h.2 i x (by rw [List.getElem?_append_left c1];exact hx)
  refine ⟨q,?_⟩
  rw [hq,List.take_append_of_le_length (by lia),List.take_append_of_le_length (by lia)]
 ·by_cases c2:i=U.length
  ·subst c2
   rw [List.getElem?_append_right (Nat.le_refl _),Nat.sub_self] at hx
   simp at hx
   subst hx
   refine ⟨pw,?_⟩
   rw [if_pos (by lia),List.getElem?_set_self (by lia),hz,List.take_append_of_le_length (Nat.le_refl _),List.take_of_length_le (Nat.le_refl _)]
  ·rw [if_neg (by lia),List.getElem?_set_ne (by lia)]
   obtain ⟨j,rfl⟩:∃j,i=U.length+(j+1):=⟨i-U.length-1,by lia⟩
   rw [List.getElem?_append_right (by lia),Nat.add_sub_cancel_left,List.getElem?_cons_succ] at hx
   obtain ⟨q,hq⟩:=h.2 (U.length+(j+1+1)) x (by
    rw [List.getElem?_append_right (by lia),Nat.add_sub_cancel_left,List.getElem?_cons_succ,List.getElem?_cons_succ]
    exact hx)
   refine ⟨q,?_⟩
   rw [show U.length+(j+1)+1=U.length+(j+1+1) by lia,hq]
   congr 2
   rw [List.take_append,List.take_append,List.take_of_length_le (l:=U) (by lia),List.take_of_length_le (l:=U) (by lia),Nat.add_sub_cancel_left,Nat.add_sub_cancel_left]
   simp only [List.take_succ_cons,List.flatten_append,List.flatten_cons,List.length_append]
   lia
end
section
variable {prog:Program}{w:World}{A:Around}{E:Value->Shared->Prop}{s:Shared}{kd:SortKind}{D:Keyed->Prop}{lt:Keyed->Keyed->Bool}
structure Rn (lt:Keyed->Keyed->Bool) (kd:SortKind) (l₀:List Keyed) (rs:List (List Keyed)) (S:List Keyed) (st:SortSt):Prop where
 arr:(arrOf st).toList=rs.flatten++S
 srt:∀r∈rs,JQ lt r/\0<r.length
 pend:Wj (pendingOf st).toList rs
 perm:(arrOf st).toList.Perm l₀
 kind:kindOf st=kd
 fail:failedOf st=none
theorem Rn.cut {l₀:List Keyed}{rs:List (List Keyed)}{S:List Keyed}{st:SortSt} (R:Rn lt kd l₀ rs S st) {i:Nat} (hi:i+1<rs.length):∃U X Y B,rs=U++(X::Y::B)/\U.length=i:=by
 refine ⟨rs.take i,rs[i],rs[i+1],rs.drop (i+2),?_,by rw [List.length_take];lia⟩
 conv=>lhs;rw [<- List.take_append_drop i rs,List.drop_eq_getElem_cons (by lia),List.drop_eq_getElem_cons (by lia)]
theorem Zdn (C:Cmp prog w A E s kd D lt) {l₀:List Keyed}{rs:List (List Keyed)}{S:List Keyed}{st:SortSt}{i:Nat}{Q:Bool->SortSt->Prop} (R:Rn lt kd l₀ rs S st) (hD:∀x∈l₀,D x) (hi:i+1<rs.length)
  (h:∀rs' st',Rn lt kd l₀ rs' S st'->rs'.length+1=rs.length->rs'.flatten.length=rs.flatten.length->Q true st'):wpS (model prog w) A E s (ZdG i) Q st:=by
 obtain ⟨U,X,Y,B,rfl,rfl⟩:=R.cut hi
 obtain ⟨p1,e1⟩:=R.pend.2 U.length X (by rw [List.getElem?_append_right (Nat.le_refl _),Nat.sub_self];rfl)
 obtain ⟨p2,e2⟩:=R.pend.2 (U.length+1) Y (by rw [List.getElem?_append_right (by lia),Nat.add_sub_cancel_left];rfl)
 rw [List.take_append_of_le_length (Nat.le_refl _),List.take_of_length_le (Nat.le_refl _),Array.getElem?_toList] at e1
 rw [List.take_append,List.take_of_length_le (by lia),Nat.add_sub_cancel_left,List.take_succ_cons,List.take_zero,Array.getElem?_toList] at e2
 simp only [List.flatten_append,List.flatten_cons,List.flatten_nil,List.append_nil,List.length_append] at e2
 have hX:=R.srt X (by simp)
 have hY:=R.srt Y (by simp)
 refine Ze2 C (P:=U.flatten) (X:=X) (Y:=Y) (S:=B.flatten++S) e1 e2 (by rw [R.arr];simp only [List.flatten_append,List.flatten_cons,List.append_assoc]) rfl rfl rfl rfl hX.2 hY.2 hX.1 hY.1 (fun x hx=>hD x (R.perm.mem_iff.mp hx)) R.kind R.fail fun Z st' sZ pZ aZ pe kz fz=>?_
 have lz:Z.length=X.length+Y.length:=by rw [pZ.length_eq,List.length_append]
 refine h (U++(Z::B)) st' ⟨?_,fun r hr=>?_,?_,?_,kz,fz⟩ ?_ ?_
 ·rw [aZ];simp only [List.flatten_append,List.flatten_cons,List.append_assoc]
 ·rcases List.mem_append.mp hr with z | z
  ·exact R.srt r (List.mem_append_left _ z)
  ·rcases List.mem_cons.mp z with rfl | z
   ·exact ⟨sZ,by lia⟩
   ·exact R.srt r (by simp [z])
 ·rw [pe,Array.toList_eraseIdxIfInBounds,Array.toList_setIfInBounds]
  exact Zfg R.pend lz
 ·refine List.Perm.trans ?_ R.perm
  rw [aZ,R.arr]
  simp only [List.flatten_append,List.flatten_cons,List.append_assoc]
  refine List.Perm.append_left _ ?_
  rw [<- List.append_assoc X]
  exact pZ.append_right _
 ·simp
  lia
 ·simp only [List.flatten_append,List.flatten_cons,List.length_append]
  lia
theorem Rn.low {l₀:List Keyed}{rs:List (List Keyed)}{S:List Keyed}{st:SortSt} (R:Rn lt kd l₀ rs S st):rs.length<=rs.flatten.length:=by
 have:∀rs:List (List Keyed),(∀r∈rs,0<r.length)->rs.length<=rs.flatten.length:=by
  intro rs
  induction rs with
  | nil=>intro _;exact Nat.le_refl _
  | cons r rs ih=>
   intro hr
   have h1:=hr r List.mem_cons_self
   have h2:=ih fun x hx=>hr x (List.mem_cons_of_mem _ hx)
   rw [List.length_cons,List.flatten_cons,List.length_append]
   lia
 exact this rs fun r hr=>(R.srt r hr).2
theorem Rn.put {l₀:List Keyed}{rs:List (List Keyed)}{S:List Keyed}{st st':SortSt}{n:Nat} (R:Rn lt kd l₀ rs S st) (k:Kp rs.flatten.length n st st'):∃S',Rn lt kd l₀ rs S' st'/\S'.length=S.length:=by
 have hlen:(arrOf st').toList.length=(arrOf st).toList.length:=k.perm.length_eq
 have et:(arrOf st').toList.take rs.flatten.length=rs.flatten:=by
  have e0:(arrOf st).toList.take rs.flatten.length=rs.flatten:=by rw [R.arr,List.take_append_of_le_length (Nat.le_refl _),List.take_of_length_le (Nat.le_refl _)]
  rw [<- e0]
  refine List.ext_getElem? fun i=>?_
  by_cases c:i<rs.flatten.length
  ·rw [List.getElem?_take_of_lt (by rw [e0];exact c),List.getElem?_take_of_lt c,Array.getElem?_toList,Array.getElem?_toList]
   exact k.out i (.inl c)
  ·rw [List.getElem?_eq_none (by rw [List.length_take,e0];lia),List.getElem?_eq_none (by rw [List.length_take];lia)]
 refine ⟨(arrOf st').toList.drop rs.flatten.length,⟨?_,R.srt,by rw [k.pend];exact R.pend,k.perm.trans R.perm,k.kind.trans R.kind,k.fail.trans R.fail⟩,?_⟩
 ·conv=>lhs;rw [<- List.take_append_drop rs.flatten.length (arrOf st').toList,et]
 ·rw [List.length_drop,hlen,R.arr,List.length_append];lia
theorem Rn.seg {l₀:List Keyed}{rs:List (List Keyed)}{S:List Keyed}{st:SortSt} (C:Wo lt) (R:Rn lt kd l₀ rs S st) {n:Nat} (hn:n<=S.length) (h:Zau lt (arrOf st) rs.flatten.length n):JQ lt (S.take n):=by
 refine List.pairwise_iff_getElem.mpr fun i j hi hj hij=>?_
 rw [List.length_take] at hi hj
 have at_:∀k (hk:k<S.length),(arrOf st)[rs.flatten.length+k]? = some S[k]:=fun k hk=>by
  rw [<- Array.getElem?_toList,R.arr,List.getElem?_append_right (by lia),Nat.add_sub_cancel_left,List.getElem?_eq_getElem hk]
 rw [List.getElem_take,List.getElem_take]
 exact h i j _ _ (by lia) (by lia) (at_ i (by lia)) (at_ j (by lia))
theorem Rn.more {l₀:List Keyed}{rs:List (List Keyed)}{S:List Keyed}{st:SortSt} (R:Rn lt kd l₀ rs S st) {n:Nat} (h0:0<n) (hn:n<=S.length) (h:JQ lt (S.take n)) {g:Nat}{pw:Nat}:
  Rn lt kd l₀ (rs ++ [S.take n]) (S.drop n) (SortSt.mk' (kindOf st) (arrOf st) ((pendingOf st).push (rs.flatten.length,n,pw)) g (failedOf st)):=by
 refine ⟨?_,fun r hr=>?_,?_,R.perm,R.kind,R.fail⟩
 ·show (arrOf st).toList=_
  rw [R.arr]
  simp only [List.flatten_append,List.flatten_cons,List.flatten_nil,List.append_nil,List.append_assoc,List.take_append_drop]
 ·rcases List.mem_append.mp hr with z | z
  ·exact R.srt r z
  ·rw [List.mem_singleton.mp z]
   exact ⟨h,by rw [List.length_take];lia⟩
 ·show Wj ((pendingOf st).push _).toList _
  rw [Array.toList_push]
  have:=Zgu R.pend (S.take n) pw
  rw [show (S.take n).length=n by rw [List.length_take];lia] at this
  exact this
theorem Zib {c:Bool}{k:Nat}:(if c=true then k-1 else k)<=k:=by split<;>lia
theorem Rn.pow {l₀:List Keyed}{rs:List (List Keyed)}{S:List Keyed}{st:SortSt} (R:Rn lt kd l₀ rs S st) {k g:Nat}{f:Nat×Nat×Nat->Nat×Nat×Nat} (hf:∀a b c,∃d,f (a,b,c)=(a,b,d)):
  Rn lt kd l₀ rs S (SortSt.mk' (kindOf st) (arrOf st) ((pendingOf st).modify k f) g (failedOf st)):=by
 refine ⟨R.arr,R.srt,?_,R.perm,R.kind,R.fail⟩
 show Wj ((pendingOf st).modify k f).toList rs
 rw [Array.toList_modify]
 exact Zh8 R.pend k f hf
theorem ZeG {β:Type}{M:Model}{st:SortSt}{Q:β -> SortSt->Prop}{k n:Nat}{X Y:StateT SortSt Sem β} (h1:k<=n->wpS M A E s X Q st) (h2:n<k->wpS M A E s Y Q st):wpS M A E s (if k<=n then X else Y) Q st:=by
 by_cases h:k<=n
 ·rw [if_pos h];exact h1 h
 ·rw [if_neg h];exact h2 (by lia)
theorem Zk1 {β:Type}{M:Model}{st:SortSt}{Q:β -> SortSt->Prop}{k n:Nat}{X Y:StateT SortSt Sem β} (h1:k<n->wpS M A E s X Q st) (h2:n<=k->wpS M A E s Y Q st):wpS M A E s (if k<n then X else Y) Q st:=by
 by_cases h:k<n
 ·rw [if_pos h];exact h1 h
 ·rw [if_neg h];exact h2 (by lia)
theorem ZdZ (C:Cmp prog w A E s kd D lt) {st:SortSt}{Q:Unit->SortSt->Prop} (hD:∀x∈(arrOf st).toList,D x) (hk:kindOf st=kd) (hf:failedOf st=none) (hp:pendingOf st = #[])
  (h:∀st',(arrOf st').toList.Perm (arrOf st).toList->JQ lt (arrOf st').toList->failedOf st'=none->Q () st'):wpS (model prog w) A E s Zg3 Q st:=by
 have zs:(arrOf st).size=(arrOf st).toList.length:=by simp
 have R0:Rn lt kd (arrOf st).toList [] (arrOf st).toList st:=⟨rfl,fun r hr=>(by cases hr),by rw [hp];exact Zis,.refl _,hk,hf⟩
 refine wpS_bind (wpS_get ?_)
 refine wpS_bind (wpS_mono (wpS_forRange (a:=0) (b:=(arrOf st).size) (I:=fun x c st'=>∃rs S,c=(none,rs.flatten.length)/\Rn lt kd (arrOf st).toList rs S st'/\(x<=rs.flatten.length∨S = []))
  (Q:=fun c st'=>∃rs,c.1=none/\Rn lt kd (arrOf st).toList rs [] st') ?_ ?_ ⟨[],_,rfl,R0,.inl (Nat.zero_le _)⟩) ?_)
 ·rintro x c st1 _ hx ⟨rs,S,rfl,R,pr⟩
  have ln:rs.flatten.length+S.length=(arrOf st).size:=by
   have:=R.perm.length_eq
   rw [R.arr,List.length_append] at this
   lia
  have z1:(arrOf st1).size=(arrOf st).size:=by
   have:=R.perm.length_eq
   simpa using this
  by_cases c0:rs.flatten.length>=(arrOf st).size
  ·show wpS _ _ _ _ (if rs.flatten.length>=(arrOf st).size then _ else _) _ _
   rw [if_pos c0]
   obtain rfl:S = []:=List.length_eq_zero_iff.mp (by lia)
   exact wpS_pure ⟨rs,rfl,R⟩
  ·show wpS _ _ _ _ (if rs.flatten.length>=(arrOf st).size then _ else _) _ _
   rw [if_neg c0]
   refine wpS_bind (Zei C (lo:=rs.flatten.length) (n:=(arrOf st).size-rs.flatten.length) (by lia) (by lia) (fun y hy=>hD y (R.perm.mem_iff.mp hy)) R.kind fun m st2 m1 m2 kp sm=>?_)
   obtain ⟨S2,R2,l2⟩:=R.put kp
   have sz2:m<=S2.length:=by lia
   have z2:(arrOf st2).size=(arrOf st).size:=by rw [kp.size,z1]
   have prx:x<=rs.flatten.length:=by
    rcases pr with z | z
    ·exact z
    ·have:=congrArg List.length z
     rw [List.length_nil] at this
     lia
   show wpS _ _ _ _ (if m<(sortPriv% PySem.Builtin.minRun) (arrOf st).size (arrOf st).size 0 then _ else _) _ _
   generalize (sortPriv% PySem.Builtin.minRun) (arrOf st).size (arrOf st).size 0=mr
   refine Zk1 (fun c1=>?_) (fun c1=>?_)
   ·refine wpS_bind (wpS_lift (wpAny_rule ⟨rfl,?_⟩))
    refine wpS_bind (ZbZ C (lo:=rs.flatten.length) (n:=min ((arrOf st).size-rs.flatten.length) mr) (ok:=m) m1 (by lia) (by lia) (fun y hy=>hD y (R2.perm.mem_iff.mp hy)) R2.kind sm fun st3 kp3 sm3=>?_)
    obtain ⟨S3,R3,l3⟩:=R2.put kp3
    have hn0:0<min ((arrOf st).size-rs.flatten.length) mr:=by lia
    have hn1:min ((arrOf st).size-rs.flatten.length) mr<=S3.length:=by lia
    have hs:=R3.seg C.wo hn1 sm3
    refine wpS_bind (wpS_get ?_)
    generalize hbk:(pendingOf st3).back? = bk
    cases bk with
    | none=>
     have l5:rs.flatten.length=rs.flatten.length:=rfl
     refine wpS_bind (wpS_modify ?_)
     have R6:=R3.more (pw:=0) (g:=gallopOf (st3)) hn0 hn1 hs
     rw [l5] at R6
     refine wpS_pure ⟨rs ++ [S3.take (min ((arrOf st).size-rs.flatten.length) mr)],S3.drop (min ((arrOf st).size-rs.flatten.length) mr),?_,R6,.inl ?_⟩
     ·show ((none:Option Unit),rs.flatten.length+(min ((arrOf st).size-rs.flatten.length) mr))=_
      congr 1
      simp only [List.flatten_append,List.flatten_cons,List.flatten_nil,List.append_nil,List.length_append,List.length_take]
      lia
     ·simp only [List.flatten_append,List.flatten_cons,List.flatten_nil,List.append_nil,List.length_append,List.length_take]
      lia
    | some t=>
     obtain ⟨s1,n1,w1⟩:=t
     refine wpS_bind (wpS_mono (wpS_forRange (a:=0) (b:=(arrOf st).size) (I:=fun _ c st'=>c=(none,()) /\ ∃rs',Rn lt kd (arrOf st).toList rs' S3 st'/\rs'.flatten.length=rs.flatten.length) (Q:=fun c st'=>c=(none,()) /\ ∃rs',Rn lt kd (arrOf st).toList rs' S3 st'/\rs'.flatten.length=rs.flatten.length) ?_ (fun _ _ z=>z) ⟨rfl,rs,R3,rfl⟩) ?_)
     ·rintro y c st4 _ _ ⟨rfl,rs',R4,l4⟩
      have pl:(pendingOf st4).size=rs'.length:=by rw [<- R4.pend.1];simp
      refine wpS_bind (wpS_get ?_)
      show wpS _ _ _ _ (match (if (pendingOf st4).size>1 then (pendingOf st4)[(pendingOf st4).size-2]? else none) with | some (_,_,older)=>_ | x=>_) _ _
      by_cases hp1:(pendingOf st4).size>1
      ·rw [if_pos hp1]
       obtain ⟨t,ht⟩:∃t,(pendingOf st4)[(pendingOf st4).size-2]? = some t:=⟨_,getElem?_pos _ _ (by lia)⟩
       rw [ht]
       obtain ⟨a1,a2,older⟩:=t
       refine ZeG (fun _=>wpS_pure ⟨rfl,rs',R4,l4⟩) (fun _=>?_)
       refine wpS_bind (Zdn C R4 hD (i:=(pendingOf st4).size-2) (by lia) fun rs'' st5 R5 a5 b5=>?_)
       exact wpS_pure ⟨rfl,rs'',R5,by lia⟩
      ·rw [if_neg hp1]
       exact wpS_pure ⟨rfl,rs',R4,l4⟩
     ·rintro c st4 ⟨rfl,rs',R4,l5⟩
      refine wpS_bind (wpS_modify ?_)
      have R5:=R4.pow (k:=(pendingOf st4).size-1) (f:=fun x=>match x with | (u,len,_)=>(u,len,(sortPriv% PySem.Builtin.power) (arrOf st).size (2*s1+n1) (2*s1+n1+n1+(min ((arrOf st).size-rs.flatten.length) mr)) (arrOf st).size)) (g:=gallopOf st4) fun a b c=>⟨_,rfl⟩
      refine wpS_bind (wpS_modify ?_)
      have R6:=R5.more (pw:=0) (g:=gallopOf (st4)) hn0 hn1 hs
      rw [l5] at R6
      refine wpS_pure ⟨rs' ++ [S3.take (min ((arrOf st).size-rs.flatten.length) mr)],S3.drop (min ((arrOf st).size-rs.flatten.length) mr),?_,R6,.inl ?_⟩
      ·show ((none:Option Unit),rs.flatten.length+(min ((arrOf st).size-rs.flatten.length) mr))=_
       congr 1
       simp only [List.flatten_append,List.flatten_cons,List.flatten_nil,List.append_nil,List.length_append,List.length_take]
       lia
      ·simp only [List.flatten_append,List.flatten_cons,List.flatten_nil,List.append_nil,List.length_append,List.length_take]
       lia
   ·have hs:=R2.seg C.wo sz2 sm
    have hn0:0<m:=by lia
    refine wpS_bind (wpS_get ?_)
    generalize hbk:(pendingOf st2).back? = bk
    cases bk with
    | none=>
     have l5:rs.flatten.length=rs.flatten.length:=rfl
     refine wpS_bind (wpS_modify ?_)
     have R6:=R2.more (pw:=0) (g:=gallopOf (st2)) hn0 sz2 hs
     rw [l5] at R6
     refine wpS_pure ⟨rs ++ [S2.take (m)],S2.drop (m),?_,R6,.inl ?_⟩
     ·show ((none:Option Unit),rs.flatten.length+(m))=_
      congr 1
      simp only [List.flatten_append,List.flatten_cons,List.flatten_nil,List.append_nil,List.length_append,List.length_take]
      lia
     ·simp only [List.flatten_append,List.flatten_cons,List.flatten_nil,List.append_nil,List.length_append,List.length_take]
      lia
    | some t=>
     obtain ⟨s1,n1,w1⟩:=t
     refine wpS_bind (wpS_mono (wpS_forRange (a:=0) (b:=(arrOf st).size) (I:=fun _ c st'=>c=(none,()) /\ ∃rs',Rn lt kd (arrOf st).toList rs' S2 st'/\rs'.flatten.length=rs.flatten.length) (Q:=fun c st'=>c=(none,()) /\ ∃rs',Rn lt kd (arrOf st).toList rs' S2 st'/\rs'.flatten.length=rs.flatten.length) ?_ (fun _ _ z=>z) ⟨rfl,rs,R2,rfl⟩) ?_)
     ·rintro y c st4 _ _ ⟨rfl,rs',R4,l4⟩
      have pl:(pendingOf st4).size=rs'.length:=by rw [<- R4.pend.1];simp
      refine wpS_bind (wpS_get ?_)
      show wpS _ _ _ _ (match (if (pendingOf st4).size>1 then (pendingOf st4)[(pendingOf st4).size-2]? else none) with | some (_,_,older)=>_ | x=>_) _ _
      by_cases hp1:(pendingOf st4).size>1
      ·rw [if_pos hp1]
       obtain ⟨t,ht⟩:∃t,(pendingOf st4)[(pendingOf st4).size-2]? = some t:=⟨_,getElem?_pos _ _ (by lia)⟩
       rw [ht]
       obtain ⟨a1,a2,older⟩:=t
       refine ZeG (fun _=>wpS_pure ⟨rfl,rs',R4,l4⟩) (fun _=>?_)
       refine wpS_bind (Zdn C R4 hD (i:=(pendingOf st4).size-2) (by lia) fun rs'' st5 R5 a5 b5=>?_)
       exact wpS_pure ⟨rfl,rs'',R5,by lia⟩
      ·rw [if_neg hp1]
       exact wpS_pure ⟨rfl,rs',R4,l4⟩
     ·rintro c st4 ⟨rfl,rs',R4,l5⟩
      refine wpS_bind (wpS_modify ?_)
      have R5:=R4.pow (k:=(pendingOf st4).size-1) (f:=fun x=>match x with | (u,len,_)=>(u,len,(sortPriv% PySem.Builtin.power) (arrOf st).size (2*s1+n1) (2*s1+n1+n1+(m)) (arrOf st).size)) (g:=gallopOf st4) fun a b c=>⟨_,rfl⟩
      refine wpS_bind (wpS_modify ?_)
      have R6:=R5.more (pw:=0) (g:=gallopOf (st4)) hn0 sz2 hs
      rw [l5] at R6
      refine wpS_pure ⟨rs' ++ [S2.take (m)],S2.drop (m),?_,R6,.inl ?_⟩
      ·show ((none:Option Unit),rs.flatten.length+(m))=_
       congr 1
       simp only [List.flatten_append,List.flatten_cons,List.flatten_nil,List.append_nil,List.length_append,List.length_take]
       lia
      ·simp only [List.flatten_append,List.flatten_cons,List.flatten_nil,List.append_nil,List.length_append,List.length_take]
       lia
 ·rintro c st1 ⟨rs,S,rfl,R,pr⟩
  have ln:rs.flatten.length+S.length=(arrOf st).size:=by
   have:=R.perm.length_eq
   rw [R.arr,List.length_append] at this
   lia
  obtain rfl:S = []:=by
   rcases pr with z | z
   ·exact List.length_eq_zero_iff.mp (by lia)
   ·exact z
  exact ⟨rs,rfl,R⟩
 ·rintro c st1 ⟨rs,hc,R⟩
  obtain ⟨c1,c2⟩:=c
  dsimp only at hc
  subst hc
  refine wpS_bind (wpS_mono (wpS_forRange (a:=0) (b:=(arrOf st).size) (I:=fun x c st'=>c=(none,()) /\ ∃rs',Rn lt kd (arrOf st).toList rs' [] st'/\rs'.length+x<=(arrOf st).size) (Q:=fun c st'=>c=(none,()) /\ ∃rs',Rn lt kd (arrOf st).toList rs' [] st'/\rs'.length<=1) ?_ ?_ ⟨rfl,rs,R,?_⟩) ?_)
  ·rintro y c st4 _ _ ⟨rfl,rs',R4,l4⟩
   have pl:(pendingOf st4).size=rs'.length:=by rw [<- R4.pend.1];simp
   refine wpS_bind (wpS_get ?_)
   show wpS _ _ _ _ (if (pendingOf st4).size<=1 then _ else _) _ _
   refine ZeG (fun z=>wpS_pure ⟨rfl,rs',R4,by lia⟩) (fun z=>?_)
   refine wpS_bind (Zdn C R4 hD ?_ fun rs'' st5 R5 a5 b5=>?_)
   ·show (if _=true then (pendingOf st4).size-2-1 else (pendingOf st4).size-2)+1<_
    exact Nat.lt_of_le_of_lt (Nat.succ_le_succ Zib) (by lia)
   ·exact wpS_pure ⟨rfl,rs'',R5,by lia⟩
  ·rintro c st4 ⟨rfl,rs',R4,l4⟩
   exact ⟨rfl,rs',R4,by lia⟩
  ·have:=R.low
   have:=R.perm.length_eq
   rw [R.arr,List.append_nil] at this
   lia
  ·rintro c st4 ⟨rfl,rs',R4,l4⟩
   refine wpS_pure (h st4 R4.perm ?_ R4.fail)
   rw [R4.arr,List.append_nil]
   match rs',l4,R4 with
   | [],_,_=>exact .nil
   | [r],_,R4=>simpa using (R4.srt r (by simp)).1
   | _::_::_,l4,_=>simp at l4
end
def lexLt:List Int->List Int->Bool
 | [],[]=>false
 | [],_::_=>true
 | _::_,[]=>false
 | a::as,b::bs=>if a=b then lexLt as bs else decide (a<b)
open PySem.SeqAt AutoSeq1 in
theorem ZbC (l b:Addr) (items items2:Array Value) (n n2:Nat) (dd dd2:Option Addr) (sl sl2:Array (Option Value)) (xs ys:List Int) (hx:IntsAre items.toList xs) (hy:IntsAre items2.toList ys):
  Meets (Builtin.«tuple.__lt__» ⟨[.ref l,.ref b],[]⟩) (fun A R s=>s.heap.get? l=some { cls:=.type "tuple", dict:=dd,data:=.seq items n,slots:=sl } /\ s.heap.get? b=some { cls:=.type "tuple", dict:=dd2,data:=.seq items2 n2,slots:=sl2 } /\ R (.ok (.ret (.bool (lexLt xs ys)))) s):=
 .of_wp fun prog w A R s h=>by
  obtain ⟨hp,g,d,tk,os⟩:=s;obtain ⟨hl,hb,h⟩:=h
  have:=AutoSeq1.sub_tuple_tuple
  have lx:items.size=xs.length:=by rw [<- Array.length_toList];exact IntsAre.length hx
  have ly:items2.size=ys.length:=by rw [<- Array.length_toList];exact IntsAre.length hy
  wp_walk using wpAny_loadPart' hl,wpAny_loadPart' hb,wpAny_forIn_list _ (fun rest r s'=>r.1=none/\s' = ⟨hp,g,d,tk,os⟩ /\ ∃us vs ps qs,rest=us.zip vs/\IntsAre us ps/\IntsAre vs qs/\lexLt xs ys=lexLt ps qs/\(xs.length<ys.length ↔ ps.length<qs.length)) _
  case turn=>
   rintro _ rest r s' ⟨_,rfl,us,vs,ps,qs,e,hu,hv,le,ln⟩
   cases hu with
   | nil=>cases e
   | cons p t hu=>
    cases hv with
    | nil=>cases e
    | cons q u hv=>
     cases e
     rw [lexLt] at le
     refine wpAny_bind (wpAny_eqBool_int ?_)
     by_cases z:p=q
     ·rw [if_neg (by simp [z])]
      exact wpAny_pure ⟨rfl,rfl,_,_,_,_,rfl,hu,hv,by rw [le,if_pos z],by simpa using ln⟩
     ·rw [if_pos (by simp [z])]
      rw [le,if_neg z] at h
      refine wpAny_bind (wpAny_rule (wpAny_bind (wpAny_lt_int ?_)))
      wp_walk
      exact ⟨_,rfl,h⟩
  case fin=>
   rintro ⟨_,_⟩ s' ⟨hr,rfl,us,vs,ps,qs,e,hu,hv,le,ln⟩
   cases hr
   have:lexLt ps qs=decide (items.size<items2.size):=by
    rw [lx,ly,show decide (xs.length<ys.length)=decide (ps.length<qs.length) from decide_eq_decide.mpr ln]
    cases hu with
    | nil=>cases hv<;>simp [lexLt]
    | cons=>cases hv with
     | nil=>simp [lexLt]
     | cons=>cases e
   rw [le,this] at h
   wp_walk
   exact ⟨_,rfl,h⟩
  case h=>exact ⟨rfl,rfl,_,_,_,_,rfl,hx,hy,rfl,Iff.rfl⟩
theorem GX:∀xs:List Int,lexLt xs xs=false
 | []=>rfl
 | a::as=>by rw [lexLt,if_pos rfl];exact GX as
theorem Zc5:∀(xs ys zs:List Int),lexLt xs zs=true->lexLt xs ys=true∨lexLt ys zs=true
 | [],[],[],h=>by simp [lexLt] at h
 | [],[],_::_,h=>.inr rfl
 | [],_::_,_,h=>.inl rfl
 | _::_,_,[],h=>by simp [lexLt] at h
 | _::_,[],_::_,h=>.inr rfl
 | a::as,b::bs,c::cs,h=>by
  simp only [lexLt] at h ⊢
  by_cases e1:a=c
  ·subst e1
   rw [if_pos rfl] at h
   by_cases e2:a=b
   ·subst e2
    rw [if_pos rfl,if_pos rfl]
    exact Zc5 as bs cs h
   ·rw [if_neg e2,if_neg (Ne.symm e2),decide_eq_true_eq,decide_eq_true_eq]
    lia
  ·rw [if_neg e1,decide_eq_true_eq] at h
   by_cases e2:a=b
   ·subst e2
    rw [if_neg e1]
    exact .inr (decide_eq_true h)
   ·rw [if_neg e2]
    by_cases e3:b=c
    ·subst e3
     exact .inl (decide_eq_true h)
    ·rw [if_neg e3,decide_eq_true_eq,decide_eq_true_eq]
     lia
theorem GG:∀(xs ys:List Int),lexLt xs ys=true->lexLt ys xs=false
 | [],[],h=>by simp [lexLt] at h
 | [],_::_,_=>rfl
 | _::_,[],h=>by simp [lexLt] at h
 | a::as,b::bs,h=>by
  simp only [lexLt] at h ⊢
  by_cases e:a=b
  ·subst e
   rw [if_pos rfl] at h ⊢
   exact GG as bs h
  ·rw [if_neg e,decide_eq_true_eq] at h
   rw [if_neg (Ne.symm e)]
   exact decide_eq_false (by lia)
section
variable {prog:Program}{w:World}{A:Around}{E:Value->Shared->Prop}{s:Shared}{a b:Addr}{xs ys:List Int}
def Gj (T:String) (h:Heap) (a:Addr) (ks:List Int):Prop:=∃(vs:Array Value) (dd:Option Addr) (n:Nat) (sl:Array (Option Value)),h.get? a=some { cls:=.type T,dict:=dd,data:=.seq vs n,slots:=sl } /\ IntsAre vs.toList ks
abbrev Ge:=Gj "tuple"
theorem ZiB {Q:Value->Shared->Prop} (ha:Ge s.heap a xs) (hb:Ge s.heap b ys) (hu:A.units<cLine) (h:Q (.bool (lexLt xs ys)) s):wpAny (model prog w) A (richCompare .Lt (.ref a) (.ref b)) Q E s:=by
 obtain ⟨vs,dd,n,sl,e,i⟩:=ha
 obtain ⟨vs2,dd2,n2,sl2,e2,i2⟩:=hb
 exact richCompare_meets_room (op:=.Lt) ⟨_,e,rfl⟩ ⟨_,e2,rfl⟩ F.slot_tuple_lt F.entry_tuple_lt (F.args_tuple_lt_2 _ _) (ZbC a b vs vs2 n n2 dd dd2 sl sl2 xs ys i i2) ⟨e,e2,show Value.bool (lexLt xs ys)≠Value.notImplemented/\Q _ s from ⟨(fun x=>nomatch x),h⟩⟩ hu
theorem Zkt {Q:Bool->Shared->Prop} (ha:Ge s.heap a xs) (hb:Ge s.heap b ys) (hu:A.units<cLine) (h:Q (lexLt xs ys) s):wpAny (model prog w) A (oneLt' false (.ref a) (.ref b)) Q E s:=by
 rw [oneLt'_eq]
 simp only [Bool.false_eq_true,if_false]
 exact wpAny_bind (ZiB ha hb hu (wpAny_truthy_bool h))
end
section
variable {prog:Program}{w:World}{A:Around}{E:Value->Shared->Prop}{s:Shared}{a b:Addr}{xs ys:List Int}
def ZcM (h:Heap):Value->List Int
 | .ref a=>match h.get? a with
  | some o=>match o.data with
   | .seq vs _=>vs.toList.map numOf
   | _=>[]
  | none=>[]
 | _=>[]
theorem Gj.key {T:String}{h:Heap} (x:Gj T h a xs):ZcM h (.ref a)=xs:=by
 obtain ⟨vs,dd,n,sl,e,i⟩:=x
 show (match h.get? a with | some o=>_ | none=>_)=_
 rw [e]
 exact i.nums
theorem Gj.kept {T:String}{h h':Heap} (x:Gj T h a xs) (k:∀o,h.get? a=some o->h'.get? a=some o):Gj T h' a xs:=
 let ⟨vs,dd,n,sl,e,i⟩:=x;⟨vs,dd,n,sl,k _ e,i⟩
theorem Zjh {Q:Bool->Shared->Prop} (ha:Ge s.heap a xs) (hb:Ge s.heap b ys) (hu:A.units<cLine) (h:Q (lexLt xs ys) s):wpAny (model prog w) A (oneLt' true (.ref a) (.ref b)) Q E s:=by
 rw [oneLt'_eq]
 simp only [if_true]
 refine wpAny_bind (wpAny_cRoomFor hu ?_)
 obtain ⟨vs,dd,n,sl,e,i⟩:=ha
 obtain ⟨vs2,dd2,n2,sl2,e2,i2⟩:=hb
 refine wpAny_bind (wpAny_callSpecialIfBound?_slot (T := "tuple") ⟨_,e,rfl⟩ F.slot_tuple_lt ?_)
 refine call_meets F.slot_tuple_lt ⟨_,e,rfl⟩ F.entry_tuple_lt (F.args_tuple_lt_2 _ _) (ZbC a b vs vs2 n n2 dd dd2 sl sl2 xs ys i i2) ⟨e,e2,?_⟩
 exact wpAny_bind (wpAny_truthy_bool (wpAny_pure h))
theorem ZfP {c:Bool}{Q:Bool->Shared->Prop}:∀{us vs:List Value}{xs ys:List Int},IntsAre us xs->IntsAre vs ys -> ∀(i:Nat) (fin:Bool),(xs.length<ys.length ↔ fin=true)->Q (lexLt xs ys) s->W.KatLex prog w A c fin Q (us.zip vs) i s
 | _,_,_,_,.nil,.nil,i,fin,hf,h=>by
  have:fin=false:=by cases fin with | false=>rfl | true=>exact absurd (hf.mpr rfl) (by simp)
  subst this;exact h
 | _,_,_,_,.nil,.cons n t hr,i,fin,hf,h=>by
  have:fin=true:=hf.mp (by simp)
  subst this;exact h
 | _,_,_,_,.cons n t hr,.nil,i,fin,hf,h=>by
  have:fin=false:=by cases fin with | false=>rfl | true=>exact absurd (hf.mpr rfl) (by simp)
  subst this;exact h
 | _,_,_,_,.cons n t hr,.cons m u hs,i,fin,hf,h=>by
  refine W.kat_cons (wpAny_eqBool_int ?_)
  rw [lexLt] at h
  by_cases e:n=m
  ·rw [if_pos e] at h
   rw [show (n==m)=true by simp [e]]
   exact W.kat_yes (ZfP hr hs (i+1) fin (by simpa using hf) h)
  ·rw [if_neg e] at h
   rw [show (n==m)=false by simp [e]]
   refine W.kat_no ?_
   cases hc:(c&&i==0) with
   | true=>exact oneLt_int h
   | false=>exact W.kat_one _ _ (wpAny_lt_int h)
theorem ZlF {c:Bool}{Q:Bool->Shared->Prop} (ha:Ge s.heap a xs) (hb:Ge s.heap b ys) (h:Q (lexLt xs ys) s):wpAny (model prog w) A (keyLt' (tuples' c) (.ref a) (.ref b)) Q E s:=by
 obtain ⟨vs,dd,n,sl,e,i⟩:=ha
 obtain ⟨vs2,dd2,n2,sl2,e2,i2⟩:=hb
 refine W.kat_lt e rfl e2 rfl (ZfP i i2 0 _ ?_ h)
 have l1:=IntsAre.length i
 have l2:=IntsAre.length i2
 rw [Array.length_toList] at l1 l2
 rw [decide_eq_true_eq]
 lia
def Kd3 (kd:SortKind):Prop:=(∃c,kd=tuples' c)∨kd=general'∨kd=oneType'
def DS (T:String) (s:Shared) (p:Keyed):Prop:=∃a ks,p.1 = .ref a/\Gj T s.heap a ks
def ltW (s:Shared) (p q:Keyed):Bool:=lexLt (ZcM s.heap p.1) (ZcM s.heap q.1)
theorem Zcp {kd:SortKind} (hkd:Kd3 kd) (hu:A.units<cLine):Cmp prog w A E s kd (DS "tuple" s) (ltW s) where
 wo:=⟨fun p=>GX _,fun p q h=>GG _ _ h,fun p q r h=>Zc5 _ _ _ h⟩
 cmp:=fun p q st Q ⟨a,ks,e1,h1⟩ ⟨b,js,e2,h2⟩ hk h=>by
  unfold ltW at h
  rw [e1,e2,h1.key,h2.key] at h
  rw [lt'_eq]
  refine wpS_bind (wpS_get ?_)
  rw [hk,e1,e2]
  refine wpS_bind (wpS_lift (wpAny_attempt ?_))
  rcases hkd with ⟨c,rfl⟩ | rfl | rfl
  ·exact ZlF h1 h2 ⟨rfl,wpS_pure h⟩
  ·exact Zkt h1 h2 hu ⟨rfl,wpS_pure h⟩
  ·exact Zjh h1 h2 hu ⟨rfl,wpS_pure h⟩
theorem Zbh {M:Model}:∀(vs:List Value) {Q:List (Option Value)->Shared->Prop},(∀v∈vs,∃a ks,v = .ref a/\Ge s.heap a ks)->(∀fs:List (Option Value),(∀f∈fs,f=none ∨ ∃n t,f=some (.int n t))->Q fs s)->wpAny M A (vs.mapM firstOfTuple') Q E s
 | [],Q,_,h=>by rw [List.mapM_nil];exact wpAny_pure (h [] fun f hf=>by cases hf)
 | v::vs,Q,hv,h=>by
  obtain ⟨a,ks,rfl,ws,dd,n,sl,e,i⟩:=hv v List.mem_cons_self
  rw [List.mapM_cons]
  refine wpAny_bind ?_
  rw [W.kas_first_eq]
  refine wpAny_bind (wpAny_typeOf (T := "tuple") ⟨_,e,rfl⟩ ?_)
  rw [if_neg (by first | decide | simp)]
  refine wpAny_bind (listItems_at e rfl (wpAny_pure ?_))
  refine wpAny_bind (Zbh vs (fun v hv'=>hv v (List.mem_cons_of_mem _ hv')) fun fs hfs=>wpAny_pure (h _ fun f hf=>?_))
  rcases List.mem_cons.mp hf with rfl | hf
  ·cases e0:ws[0]? with
   | none=>exact .inl rfl
   | some x=>
    obtain ⟨t,et⟩:=IntsAre.int_at i 0 x (by rw [Array.getElem?_toList];exact e0)
    exact .inr ⟨_,t,by rw [et]⟩
  ·exact hfs f hf
theorem Zbp {M:Model}{vs:List Value}{Q:SortKind->Shared->Prop} (hv:∀v∈vs,∃a ks,v = .ref a/\Ge s.heap a ks) (h:∀kd,Kd3 kd->Q kd s):wpAny M A (keyKind' vs.toArray) Q E s:=by
 rw [kat_kind_eq,List.mapM_toArray,map_eq_pure_bind]
 refine wpAny_bind (wpAny_bind (Zbh vs hv fun fs hfs=>wpAny_pure ?_))
 refine wpAny_ite_split (fun _=>?_) (fun _=>wpAny_ite_split (fun _=>wpAny_pure (h _ (.inr (.inl rfl)))) fun _=>?_)
 ·refine wpAny_bind (wpAny_rule ?_)
  have hfm:(fs.toArray.filterMap id)=(fs.filterMap id).toArray:=by simp
  rw [hfm,oneTypeOnly'_eq,List.mapM_toArray,map_eq_pure_bind]
  refine wpAny_bind (wpAny_bind (wpAny_bind (W.kas_mapM (r:=.type "int") _ (fun v hv' Q' hq=>?_) (wpAny_pure ?_))))
  ·obtain ⟨f,hf,ef⟩:=List.mem_filterMap.mp hv'
   rcases hfs f hf with rfl | ⟨n,t,rfl⟩
   ·cases ef
   ·cases ef
    exact wpAny_typeOf (typeIs_int s n t) hq
  ·split
   ·exact wpAny_pure (wpAny_pure (h _ (.inl ⟨_,rfl⟩)))
   ·exact wpAny_pure (wpAny_pure (h _ (.inl ⟨_,rfl⟩)))
 ·rw [oneTypeOnly'_eq,List.mapM_toArray,map_eq_pure_bind]
  refine wpAny_bind (wpAny_bind (wpAny_bind (W.kas_mapM (r:=.type "tuple") _ (fun v hv' Q' hq=>?_) (wpAny_pure ?_))))
  ·obtain ⟨a,ks,rfl,ws,dd,n,sl,e,i⟩:=hv v hv'
   exact wpAny_typeOf (T := "tuple") ⟨_,e,rfl⟩ hq
  ·split
   ·refine wpAny_pure (wpAny_pure (h _ ?_))
    split
    ·exact .inr (.inr rfl)
    ·exact .inr (.inl rfl)
   ·exact wpAny_pure (wpAny_pure (h _ (.inr (.inl rfl))))
def ZcD (h:Heap) (l:List Value):Prop:=l.Pairwise fun u v=>lexLt (ZcM h v) (ZcM h u)=false
theorem ZgV {M:Model} {α β:Type}{c:Prop} [Decidable c] {m n:Sem α}{f:α -> Sem β}{Q:β -> Shared->Prop} (R:α -> Prop) (h1:c -> ∀Q':α -> Shared->Prop,(∀x,R x->Q' x s)->wpAny M A m Q' E s) (h2:¬c -> ∀Q':α -> Shared->Prop,(∀x,R x->Q' x s)->wpAny M A n Q' E s)
  (h:∀x,R x->wpAny M A (f x) Q E s):wpAny M A (if c then m >>= f else n >>= f) Q E s:=by
 split
 ·exact wpAny_bind (h1 (by assumption) _ h)
 ·exact wpAny_bind (h2 (by assumption) _ h)
theorem Zcl {T:String} (kp:SortKind->Prop) {D:Addr}{vs:List Value}{n:Nat}{P:PySem.Fin->Shared->Prop} (cm:∀s' kd,kp kd->Cmp prog w A E s' kd (DS T s') (ltW s'))
  (kn:∀(s':Shared) (Q:SortKind->Shared->Prop),vs ≠ []->(∀v∈vs,∃a ks,v = .ref a/\Gj T s'.heap a ks)->(∀kd,kp kd->Q kd s')->wpAny (model prog w) A (keyKind' vs.toArray) Q E s')
  (ho:s.heap.get? D=some (seqObj "list" vs.toArray n)) (hv:∀v∈vs,∃a ks,v = .ref a/\a≠D/\Gj T s.heap a ks) (hz:vs.length<=sizeLine)
  (h:∀out:Array Value,out.toList.Perm vs->ZcD s.heap out.toList->P (.done (.ret .none)) { s with heap:=sortedHeap s.heap D vs out }):
  wpAny (model prog w) A (Builtin.«list.sort» ⟨[.ref D],[]⟩) P E s:=by
 rw [list_sort_plain]
 obtain ⟨ep,he⟩:∃ep,(s.heap.update D (Obj.mapSeq fun _=>#[])).get? D=some (seqObj "list" #[] ep):=⟨_,get?_update_seq ho fun _=>#[]⟩
 refine wpAny_bind (listItems_at ho rfl (wpAny_bind (listUpdate_at ho rfl (wpAny_bind (seqEpoch_at he rfl (wpAny_bind (wpAny_newTuple (wpAny_bind (wpAny_newList (wpAny_holding ?_))) (by simpa using hz))))) (by simpa using hz))))
 obtain ⟨u,eu⟩:∃u:Shared,u = { s with heap:=((s.heap.update D (Obj.mapSeq fun _=>#[])).push (seqObj "tuple" vs.toArray 0)).push (seqObj "list" #[] 0) }:=⟨_,rfl⟩
 have keep:∀b o,b≠D->s.heap.get? b=some o->u.heap.get? b=some o:=fun b o hb e=>by
  rw [eu]
  exact Heap.get?_push_of_some _ (Heap.get?_push_of_some _ ((Heap.get?_update_other _ _ (Ne.symm hb)).trans e))
 have hD:u.heap.get? D=some (seqObj "list" #[] ep):=by rw [eu];exact Heap.get?_push_of_some _ (Heap.get?_push_of_some _ he)
 have hu4:∀v∈vs,(∃a ks,v = .ref a/\Gj T u.heap a ks)/\ZcM u.heap v=ZcM s.heap v:=fun v hv'=>by
  obtain ⟨a,ks,rfl,ne,t⟩:=hv v hv'
  have t':=t.kept fun o q=>keep a o ne q
  exact ⟨⟨a,ks,rfl,t'⟩,by rw [t.key,t'.key]⟩
 show wpAny (model prog w) A _ P E { s with heap:=((s.heap.update D (Obj.mapSeq fun _=>#[])).push (seqObj "tuple" vs.toArray 0)).push (seqObj "list" #[] 0) }
 rw [<- eu]
 dsimp only
 refine ZgV (fun kd=>vs.toArray.size<2∨kp kd) (fun h2 Q' q=>wpAny_pure (q _ (.inl h2))) (fun h2 Q' q=>kn u Q' (fun z=>h2 (by rw [z];decide)) (fun v hv'=>(hu4 v hv').1) fun kd hk=>q kd (.inr hk)) fun kd hk=>?_
 refine wpAny_bind (wpAny_mono (Q:=fun r s''=>s''=u/\(arrOf r.2).toList.Perm (pairsOf vs).toList/\JQ (ltW u) (arrOf r.2).toList/\failedOf r.2=none) ?_ (fun r s'' hr=>?_) fun _ _ e=>e)
 ·by_cases h2:vs.toArray.size<2
  ·rw [if_pos h2,StateT.run_pure]
   refine wpAny_pure ⟨rfl,List.Perm.refl _,?_,rfl⟩
   have lp:(pairsOf vs).toList.length<2:=by rw [Array.length_toList,pairsOf_size];simpa using h2
   show JQ _ (pairsOf vs).toList
   generalize (pairsOf vs).toList=L at lp ⊢
   cases L with
   | nil=>exact .nil
   | cons x t=>
    cases t with
    | nil=>exact List.pairwise_singleton _ _
    | cons y t=>exact absurd lp (by simp)
  ·rw [if_neg h2]
   refine wpAny_mono (ZdZ (cm u kd (hk.resolve_left h2)) (st:=SortSt.mk' kd (vs.toArray.zip vs.toArray) #[] 7 none) (Q:=fun _ st'=>(arrOf st').toList.Perm (pairsOf vs).toList/\JQ (ltW u) (arrOf st').toList/\failedOf st'=none)
    (fun p hp=>?_) rfl rfl rfl fun st' a1 a2 a3=>⟨a1,a2,a3⟩) (fun r s'' x=>x) fun _ _ e=>e
   have hp':p∈(pairsOf vs).toList:=hp
   rw [pairsOf_toList] at hp'
   exact (hu4 _ (mem_zip_self hp').2).1
 obtain ⟨rfl,hp,hs,hf⟩:=hr
 refine wpAny_bind (seqEpoch_at hD rfl (wpAny_bind (listUpdate_at hD rfl ?_ (hsz2:=by
  have:=hp.length_eq
  rw [Array.length_toList,Array.length_toList,pairsOf_size] at this
  rw [Array.size_map,this];lia))))
 have same:∀p∈(arrOf r.2).toList,p.1=p.2/\p.1∈vs:=fun p hp'=>by
  have:=hp.mem_iff.mp hp'
  rw [pairsOf_toList] at this
  exact mem_zip_self this
 have:=h ((arrOf r.2).map (·.2)) (by
  rw [Array.toList_map]
  refine (hp.map _).trans ?_
  rw [pairsOf_toList,List.map_snd_zip (Nat.le_refl _)]) (by
  rw [Array.toList_map]
  refine List.pairwise_map.mpr (List.Pairwise.imp_of_mem (fun {p q} hp' hq' x=>?_) hs)
  rw [<- (same p hp').1,<- (same q hq').1,<- (hu4 _ (same p hp').2).2,<- (hu4 _ (same q hq').2).2]
  exact x)
 unfold sortedHeap at this
 subst eu
 rw [hf,if_neg (by simp)]
 exact wpAny_pure this
theorem ZeK {D:Addr}{vs:List Value}{n:Nat}{P:PySem.Fin->Shared->Prop} (hu:A.units<cLine) (ho:s.heap.get? D=some (seqObj "list" vs.toArray n)) (hv:∀v∈vs,∃a ks,v = .ref a/\a≠D/\Ge s.heap a ks) (hz:vs.length<=sizeLine)
  (h:∀out:Array Value,out.toList.Perm vs->ZcD s.heap out.toList->P (.done (.ret .none)) { s with heap:=sortedHeap s.heap D vs out }):
  wpAny (model prog w) A (Builtin.«list.sort» ⟨[.ref D],[]⟩) P E s:=Zcl Kd3 (fun s' kd hk=>Zcp hk hu) (fun s' Q _ hv h=>Zbp hv h) ho hv hz h
theorem Zee {T:String} (kp:SortKind->Prop) {l:Addr}{vs:List Value}{Q:Value->Shared->Prop} (cm:∀A,A.units<cLine -> ∀E s' kd,kp kd->Cmp prog w A E s' kd (DS T s') (ltW s'))
  (kn:∀(A:Around) E (s':Shared) (Q:SortKind->Shared->Prop),vs ≠ []->(∀v∈vs,∃a ks,v = .ref a/\Gj T s'.heap a ks)->(∀kd,kp kd->Q kd s')->wpAny (model prog w) A (keyKind' vs.toArray) Q E s')
  (hu:A.units+2<cLine) (hl:s.heap.IsList l vs.toArray) (hv:∀v∈vs,∃a ks,v = .ref a/\Gj T s.heap a ks) (hz:vs.length<=sizeLine)
  (h:∀(out:Array Value),out.toList.Perm vs->(∃h1:Heap,(∀a ks,Gj T s.heap a ks->Gj T h1 a ks)/\ZcD h1 out.toList)->Q (.ref (s.heap.objs.size+1)) { s with heap:=sortedAll s.heap vs out }):
  wpAny (model prog w) A (call (.builtin "sorted") [.ref l]) Q E s:=by
 refine Calls.call_function_entry kind_sorted plain_sorted entry_sorted (args_sorted1 _) ?_
 unfold Builtin.«sorted»
 refine wpAny_bind (wpAny_of_eq (a:=()) rfl (wpAny_bind (collect_list hl (wpAny_bind (wpAny_newList ?_ hz)) hz)))
 obtain ⟨u,eu⟩:∃u:Heap,u=(s.heap.push (seqObj "list" #[] 0)).update s.heap.objs.size (Obj.mapSeq (· ++ vs.toArray)):=⟨_,rfl⟩
 have zu:u.objs.size=s.heap.objs.size+1:=by rw [eu,Heap.size_update,size_push']
 have kp':∀b o,s.heap.get? b=some o->(u.push (seqObj "list" vs.toArray 0)).get? b=some o:=fun b o e=>Heap.get?_push_of_some _ (by
  rw [eu,Heap.get?_update_ne _ _ _ _ (Nat.ne_of_lt (Heap.lt_size e))]
  exact Heap.get?_push_of_some _ e)
 have nw:(u.push (seqObj "list" vs.toArray 0)).get? (s.heap.objs.size+1)=some (seqObj "list" vs.toArray 0):=zu ▸ Heap.get?_push_size _ rfl
 show wpAny _ _ _ _ _ { s with heap:=((s.heap.push (seqObj "list" #[] 0)).update s.heap.objs.size (Obj.mapSeq (· ++ vs.toArray))).push (seqObj "list" vs.toArray 0) }
 unfold sortedAll at h
 rw [<- eu] at h ⊢
 rw [zu]
 refine wpAny_bind (wpAny_holding (wpAny_call_entry slot_list_sort ⟨_,nw,rfl⟩ entry_list_sort (Zcl kp (cm _ (by exact hu) _) (kn _ _) nw (fun v hv'=>?_) hz fun out a2 a3=>⟨_,rfl,wpAny_pure ⟨_,rfl,h out a2 ⟨_,fun a ks t=>t.kept fun o e=>kp' a o e,a3⟩⟩⟩) (args_list_sort _)))
 obtain ⟨a,ks,e,t⟩:=hv v hv'
 refine ⟨a,ks,e,?_,t.kept fun o e=>kp' a o e⟩
 obtain ⟨_,_,_,_,e',_⟩:=t
 exact Nat.ne_of_lt (Nat.lt_succ_of_lt (Heap.lt_size e'))
end
theorem Ur {α β:Type} (f:α -> β):∀(l:List α) (j:Nat),(l.map f).eraseIdx j=(l.eraseIdx j).map f
 | [],_=>rfl
 | _::_,0=>rfl
 | x::l,j+1=>by show f x::(l.map f).eraseIdx j=f x::(l.eraseIdx j).map f;rw [Ur f l j]
section
variable {prog:Program}{w:World}{K:Type} [DecidableEq K] {knd:HeapKind prog w K}{A:Around}{E:Value->Shared->Prop}{s:Shared}
def Zfa (xs:List (K×Addr×Value)) (k:K):List (K×Addr×Value):=xs.filter fun x=>decide (x.1≠k)
theorem ZbS:∀{xs:List (K×Addr×Value)}{j:Nat}{k:K}{p:Addr×Value},(xs.map (·.1)).Nodup->xs[j]? = some (k,p)->xs.eraseIdx j=Zfa xs k
 | [],j,k,p,_,h=>by simp at h
 | x::xs,0,k,p,hn,h=>by
  simp only [List.getElem?_cons_zero,Option.some.injEq] at h
  subst h
  rw [List.map_cons,List.nodup_cons] at hn
  show xs=_
  unfold Zfa
  rw [List.filter_cons_of_neg (by simp)]
  symm
  refine List.filter_eq_self.mpr fun y hy=>?_
  have:¬y.1=k:=fun e=>hn.1 (List.mem_map.mpr ⟨y,hy,e⟩)
  simp [this]
 | x::xs,j+1,k,p,hn,h=>by
  rw [List.getElem?_cons_succ] at h
  rw [List.map_cons,List.nodup_cons] at hn
  have:¬x.1=k:=fun e=>hn.1 (List.mem_map.mpr ⟨_,List.mem_of_getElem? h,e.symm⟩)
  show x::xs.eraseIdx j=_
  unfold Zfa
  rw [List.filter_cons_of_pos (by simp [this]),ZbS hn.2 h];rfl
theorem Zc7 {d a:Addr}{xs:List (K×Addr×Value)}{k:K}{Q:Option DictEntry->Shared->Prop} (hu:knd.room A) (hkey:knd.is s.heap k a) (hm:s.heap.DictOfH knd d xs) (ht:(atKey xs k).isSome=true) (hsz:xs.length<=sizeLine)
  (h:∀e h',h'.DictOfH knd d (Zfa xs k)->Heap.SameBut d s.heap h'->Q (some e) { s with heap:=h',toks:=s.toks+knd.draws k }):
  wpAny (model prog w) A (Builtin.Dict.takeOut d (.ref a)) Q E s:=by
 obtain ⟨o,es,ep,ho,hc,hd,he,his,hn⟩:=hm
 have hes:es.size<=sizeLine:=by rw [size_of_entries he];exact hsz
 unfold Builtin.Dict.takeOut
 try with_reducible refine wpAny_holding ?_
 refine wpAny_bind (knd.pyHash hu hkey ?_)
 refine wpAny_bind (wpAny_dictFind_heap (s:={ s with toks:=s.toks+knd.draws k }) hu hkey ho hd he his hn (fun hno=>?_) fun j p hj=>?_)
 ·rw [atKey_none_of_get hno] at ht;cases ht
 ·refine wpAny_bind (wpAny_dictEntries (s:={ s with toks:=s.toks+knd.draws k }) ho hd ?_)
  have he':es[j]? = some (entryOfKey knd (k,p)):=by rw [entry_at he j,hj];rfl
  rw [he']
  refine wpAny_bind (wpAny_updateDictKeys (hz:=hes) (s:={ s with toks:=s.toks+knd.draws k }) ho hd (wpAny_pure (h _ _ ⟨_,_,ep+1,Heap.get?_update_self _ ho (Obj.isFreed_of_dict (Obj.data_mapDictKeys hd _)),
   hc.mapDictKeys _,Obj.data_mapDictKeys hd _,?_,fun x hx=>?_,?_⟩ (Heap.SameBut.update ..))))
  ·rw [<- ZbS hn hj]
   obtain ⟨l⟩:=es
   simp only [List.eraseIdxIfInBounds_toArray]
   have:l=xs.map (entryOfKey knd):=he
   rw [this,Ur]
  ·exact knd.keeps (his x (List.mem_filter.mp hx).1) ho hd (Heap.SameBut.update ..)
  ·exact List.Nodup.sublist ((List.filter_sublist).map _) hn
theorem Uk {d a:Addr}{k:K}:
  MeetsIn prog w (Builtin.«dict.__delitem__» ⟨[.ref d,.ref a],[]⟩) (fun A R s=>knd.room A.in1 /\ ∃xs,knd.is s.heap k a/\s.heap.DictOfH knd d xs/\xs.length<=sizeLine/\(atKey xs k).isSome=true /\
   ∀h',h'.DictOfH knd d (Zfa xs k)->Heap.SameBut d s.heap h'->R (.ok (.ret .none)) { s with heap:=h',toks:=s.toks+knd.draws k }):=
 .of_wp fun A R s ⟨hu,xs,hkey,hm,hsz,hthere,h⟩=>by
  unfold Builtin.«dict.__delitem__»
  refine wpAny_bind ?_
  unfold Builtin.Dict.dictSlotArgs
  refine wpAny_bind (wpAny_notOrdered_dict hm.typeIs ?_)
  show wpAny _ _ (pure (Value.ref d,Value.ref a)) _ _ s
  refine wpAny_pure ?_
  show wpAny _ _ (Builtin.Dict.takeOut d (.ref a) >>= _) _ _ s
  refine wpAny_bind (Zc7 hu hkey hm hthere hsz fun e h' hm' hs'=>?_)
  exact wpAny_bind (wpAny_letGo (wpAny_pure ⟨.none,rfl,h h' hm' hs'⟩))
end
theorem KT.drop {H:Hp}{kvs:List (List Key×V)}{xs:List (List Key×Addr×Value)} (r:KT H kvs xs) (k:List Key):KT H (ZbH kvs k) (Zfa xs k):=by
 unfold ZbH Zfa
 induction r with
 | nil=>exact .nil
 | @cons p q ps qs h t ih=>
  rw [List.filter_cons,List.filter_cons]
  obtain ⟨h1,h2,h3⟩:=h
  by_cases e:p.1=k
  ·have e':q.1=k:=h1.symm.trans e
   simp only [e,e',ne_eq,not_true,decide_false,Bool.false_eq_true,if_false];exact ih
  ·have e':¬q.1=k:=fun z=>e (h1.trans z)
   simp only [e,e',ne_eq,not_false_eq_true,decide_true,if_true];exact .cons ⟨h1,h2,h3⟩ ih
section
variable {X:Cx}{pins:List (Addr×Obj)} {σ:St}{H:Hp}{s:Shared}{a b:Addr}{kvs:List (List Key×V)}{k:List Key}{A:Around}{E:Value->Shared->Prop}
theorem Zfb {Q:Unit->Shared->Prop} (hu:A.units+1<cLine) (I:Inv X pins σ H s) (e:H a=some (.dT kvs)) (eb:H b=some (.tup (k.map kV))) (l:(J9 kvs k).isSome=true) (h:∀s',Inv X pins σ (upd H a (.dT (ZbH kvs k))) s'->Q () s'):
  wpAny (model X.prog X.w) A (delItem (.ref a) (.ref b)) Q E s:=by
 obtain ⟨z,hd,xs,rel,dd⟩:=Zhy I.hok e
 refine wpAny_delItem_slot dd.typeIs (by decide) PySem.F.slot_dict_delitem
  (call_meetsIn PySem.F.slot_dict_delitem dd.typeIs PySem.F.entry_dict_delitem (PySem.F.args_dict_delitem_2 _ _) (Uk (knd:=tupleKind (ZQ X.prog X.w)) (d:=a) (a:=b) (k:=k))
   ⟨tupleKind_room_in1 hu,xs,Zbr I.hok eb,dd,by rw [<- Paired.length rel];exact z,by
    have q:=(rel.val k).isSome_eq
    rw [Option.isSome_map] at q
    rw [<- q];exact l,fun h' dd' hs=>h _ ?_⟩)
 obtain ⟨q,es,ep,hq,h2,h3,h4,_,h5⟩:=dd'
 refine Zc6 I (by rw [e];exact True.intro) hs ⟨q,hq⟩ ⟨Nat.le_trans (Zh5 kvs k) z,hd,_,(rel.drop k).keeps fun c ys ec=>?_,q,es,ep,hq,h2,h3,h4,h5⟩
 rw [Zj (Zh3 ec e (fun z=>nomatch z))]
 exact ec
end
def Zlr (td ty:TE):TS:=fun D σ H=>td σ H fun x H1=>ty σ H1 fun y H2=>∃a kvs k b,x = .ref a/\H2 a=some (.dT kvs)/\y = .ref b/\H2 b=some (.tup (k.map kV))/\(J9 kvs k).isSome=true/\D.nx σ (upd H2 a (.dT (ZbH kvs k)))
theorem Zhd {X:Cx}{o i:Expr}{pos tpos:Pos}{td ty:TE} (hu:X.A.units+1<cLine) (ho:PE X o td) (hi:PE X i ty):PS X (.Delete [.Subscript o i tpos] pos) (Zlr td ty):=by
 intro pins s σ H D I h
 refine wpAny_Delete (wpAny_deleteEach_cons (wpAny_delete_Subscript (Yq (ho pins s σ H _ I h) fun u s1 ⟨x,H1,I1,rx,q1⟩=>Yq (hi pins s1 σ H1 _ I1 q1) fun iv s2 ⟨y,H2,I2,ry,a,kvs,k,b,ex,e,ey,eb,l,q2⟩=>?_)))
 subst ex ey
 obtain rfl:u=Value.ref a:=rx
 obtain rfl:iv=Value.ref b:=ry
 exact Zfb hu I2 e eb l fun s3 I3=>wpAny_deleteEach_nil ⟨σ,_,I3,q2⟩
def DAt (h:Heap) (d:Addr) (es:Array DictEntry) (ep:Nat):Prop:=∃o,h.get? d=some o/\o.ExactDict/\o.data = .dict es ep
section
variable {prog:Program}{w:World}{A:Around}{E:Value->Shared->Prop}{s:Shared}{d it:Addr}{es:Array DictEntry}{ep i:Nat}
theorem DAt.typeIs (x:DAt s.heap d es ep):s.TypeIs (.ref d) "dict" := let ⟨o,e,c,_⟩:=x;⟨o,e,c.1⟩
theorem DAt.kept {h h':Heap} (x:DAt h d es ep) (k:∀o,h.get? d=some o->h'.get? d=some o):DAt h' d es ep:=let ⟨o,e,r⟩:=x;⟨o,k o e,r⟩
theorem DAt.lt {h:Heap} (x:DAt h d es ep):d<h.objs.size:=let ⟨_,e,_⟩:=x;Heap.lt_size e
theorem ZlX {Q:Value->Shared->Prop} (hd:(d==sysModules)=false) (x:DAt s.heap d es ep)
  (hQ:Q (.ref s.heap.objs.size) { s with heap:=s.heap.push { cls:=.type "dict_keyiterator", data:=.fields #[.ref d,.int 0 0,.int es.size 0,.int ep 0] } }):wpAny (model prog w) A (pyIter (.ref d)) Q E s:=by
 obtain ⟨o,g1,g2,g3⟩:=id x
 have ty:=x.typeIs
 refine wpAny_pyIter_slot ty F.slot_dict_iter (wpAny_call_entry F.slot_dict_iter ty F.entry_dict_iter ?_ (F.args_dict_iter_1 _))
 unfold Builtin.«dict.__iter__» Builtin.Dict.dictSlotNone Builtin.Dict.showsAll
 wp_walk using wpAny_notOrdered_dict ty,wpAny_ite_false hd,wpAny_dictEntries g1 g3,wpAny_dictEpoch g1 g3,wpAny_newObj_type
 ·exact ⟨_,rfl,_,_,⟨_,Heap.get?_push_size _ rfl,rfl⟩,F.slot_dict_keyiterator_next.lookup,hQ⟩
 ·size_fits
theorem Zbc {α:Type}{Q:α -> Shared->Prop} (hh:A.handled=none) (h:∀h' a,(∀b o,s.heap.get? b=some o->h'.get? b=some o)->Shared.TypeIs { s with heap:=h' } (.ref a) "StopIteration" -> E (.ref a) { s with heap:=h' }):
  wpAny (model prog w) A ((newExc (.type "StopIteration") [] >>= raiseNew:Sem α)) Q E s:=by
 wp_walk using wpAny_newObj_type,wpAny_raiseNew_none hh
 ·exact h _ _ (fun b o e=>Heap.get?_push_of_some _ (Heap.get?_push_of_some _ e)) ⟨_,Heap.get?_push_size _ rfl,rfl⟩
 all_goals size_fits
theorem ZiG {Q:Option Value->Shared->Prop} (hit:s.heap.IsKeyIter it d i es.size ep) (hm:DAt s.heap d es ep)
  (hQ:∀e,es[i]? = some e -> ∀h',h'.IsKeyIter it d (i+1) es.size ep->Heap.SameBut it s.heap h'->Q (some e.key) { s with heap:=h' })
  (hE:es.size<=i->A.handled=none /\ ∀h',Heap.ExtBut it s.heap h'->Q none { s with heap:=h' }):wpAny (model prog w) A (pyNext (.ref it)) Q E s:=by
 obtain ⟨hp,g,dr,tk,os⟩:=s
 obtain ⟨o1,f1,f2,f3⟩:=id hit
 obtain ⟨o2,k1,k2,k3⟩:=hm
 have ty:=hit.typeIs
 unfold pyNext
 refine wpAny_bind (wpAny_attempt (wpAny_callSpecial?_slot (name:=Str.ofString "__next__") ty F.slot_dict_keyiterator_next (wpAny_call_entry F.slot_dict_keyiterator_next ty F.entry_dict_keyiterator_next ?_ (F.args_dict_keyiterator_next_1 _))))
 wp_walk using wpAny_dictEntries k1 k3,wpAny_dictEpoch k1 k3,wpAny_typeNameOfWhole_keyiter ty,wpAny_fieldsOf f1 f3
 rw [if_neg (by lia),Int.toNat_natCast]
 cases hx:es[i]? with
 | some e=>
  wp_walk using wpAny_typeNameOfWhole_keyiter ty,wpAny_isOneOf_keyiter ty,Zi4 f1 f3
  ·show 1<4
   decide
  rintro h1 ⟨o3,n1,n2,n3⟩ sb
  have n:h1.IsKeyIter it d (i+1) es.size ep:=⟨o3,n1,n2.trans f2,n3⟩
  have ty1:Shared.TypeIs ⟨h1,g,dr,tk,os⟩ (.ref it) "dict_keyiterator" := n.typeIs
  wp_walk using wpAny_isOneOf_keyiter ty1
  exact ⟨_,rfl,wpAny_pure (hQ e hx _ n sb)⟩
 | none=>
  obtain ⟨hh,hE⟩:=hE (by simpa using hx)
  wp_walk using wpAny_typeNameOfWhole_keyiter ty,wpAny_setField f1 f3
  ·show 0<4
   decide
  refine Zbc hh fun h' a k ty=>?_
  wp_walk using wpAny_isInstance (T := "StopIteration") (b:=true) ty isSubtype_stop
  exact hE h' fun b o hb e=>k b o ((Heap.get?_update_other _ _ (Ne.symm hb)).trans e)
theorem Zkq (hh:A.handled=none) (I:Addr) (hne:d≠I):Walks prog w A I [I,d] [I] es.size (fun i v=>∃e,es[i]? = some e/\v=e.key) (fun i h=>h.IsKeyIter I d i es.size ep/\DAt h d es ep) where
 sub:=fun b hb=>by simp at hb;simp [hb]
 frame:=fun _ _ _ st hk=>⟨st.1.at fun o e=>hk I (by simp) o e,st.2.kept fun o e=>hk d (by simp) o e⟩
 item:=fun i s Q E hi st hQ=>by
  refine ZiG st.1 st.2 (fun e he h' hit' hs'=>?_) (fun z=>absurd hi (Nat.not_lt.mpr z))
  exact hQ _ h' s.toks ⟨e,he,rfl⟩ ⟨hit',st.2.kept fun o e=>hs'.extBut d o hne e⟩ fun b o hb e=>hs'.extBut b o (fun h=>hb (by simp [h])) e
 done:=fun s Q E st hQ=>ZiG st.1 st.2 (fun e he=>by rw [Array.getElem?_eq_none (Nat.le_refl _)] at he;cases he) fun _=>⟨hh,fun h' he'=>hQ h' s.toks fun b o hb e=>he' b o (fun h=>hb (by simp [h])) e⟩
 self:=fun _ _ _ _ st hQ=>wpAny_pyIter_keyiter st.1 hQ
theorem Zmw (lo:(d==sysModules)=false):PySem.W.KdlSrc prog w "dict" d d es.size (fun i v=>∃e,es[i]? = some e/\v=e.key) (fun h=>DAt h d es ep) where
 type:=fun _ hm=>hm.typeIs
 there:=fun _ hm=>⟨hm.lt,hm.lt⟩
 keep:=fun _ _ hm hk=>hm.kept fun o e=>hk d (.inl rfl) o e
 notList:=by decide
 notTuple:=by decide
 hint:=fun _ _ _ _ hm hq=>PySem.W.kdl_hint_dict hm.typeIs hq
 iter:=fun _ _ hh hm=>⟨_,_,(fun _ _ hq=>ZlX lo hm hq),Zkq hh _ (Nat.ne_of_lt hm.lt),⟨⟨_,Heap.get?_push_size _ rfl,rfl,rfl⟩,hm.kept fun o e=>Heap.get?_push_of_some _ e⟩⟩
end
def Y9 (H:Hp) (v:V) (ks:List Int):Prop:=∃a,v = .ref a/\H a=some (.tup (ks.map V.int))
abbrev Words (H:Hp) (xs:List V) (ws:List (List Int)):Prop:=Paired (Y9 H) xs ws
theorem Paired.perm2 {α β:Type}{F:α -> β -> Prop}{l:List α}{m m':List β} (p:m.Perm m'):Paired F l m -> ∃l',l.Perm l'/\Paired F l' m':=by
 induction p generalizing l with
 | nil=>intro r;cases r;exact ⟨[],.nil,.nil⟩
 | cons x _ ih=>intro r;cases r with | cons h t=>obtain ⟨l',a,b⟩:=ih t;exact ⟨_::l',a.cons _,.cons h b⟩
 | swap x y t=>intro r;cases r with | cons h t=>cases t with | cons h2 t=>exact ⟨_,.swap _ _ _,.cons h2 (.cons h t)⟩
 | trans _ _ i1 i2=>intro r;obtain ⟨l1,a,b⟩:=i1 r;obtain ⟨l2,c,d⟩:=i2 b;exact ⟨l2,a.trans c,d⟩
theorem Paired.flip {α β:Type}{F:α -> β -> Prop}:∀{l:List α}{m:List β},Paired F l m->Paired (fun b a=>F a b) m l
 | _,_,.nil=>.nil
 | _,_,.cons h t=>.cons h (Paired.flip t)
theorem Paired.mem1 {α β:Type}{F:α -> β -> Prop}:∀{l:List α}{m:List β},Paired F l m -> ∀a∈l,∃b∈m,F a b
 | _,_,.nil,a,h=>by cases h
 | _,_,.cons r t,a,h=>by
  rcases List.mem_cons.mp h with rfl | h
  ·exact ⟨_,List.mem_cons_self,r⟩
  ·obtain ⟨b,hb,f⟩:=Paired.mem1 t a h
   exact ⟨b,List.mem_cons_of_mem _ hb,f⟩
def Zeh (ws:List (List Int)):Prop:=ws.Pairwise fun u v=>lexLt v u=false
section
variable {X:Cx}{pins:List (Addr×Obj)} {σ:St}{H:Hp}{s:Shared}
theorem ZfN {P:Program}{w:World}{h:Heap}{a:Addr}{ks:List Int} (ok:Wy P w H h) (e:H a=some (.tup (ks.map V.int))):Ge h a ks:=by
 obtain ⟨_,its,r,o,h1,h2,n,h3⟩:=(show Z7 P w H h a (.tup (ks.map V.int)) from ok a _ e)
 obtain ⟨cls,dd,data,sl⟩:=o
 dsimp only at h2 h3
 subst h2 h3
 exact ⟨its.toArray,dd,n,sl,h1,by simpa using UW r⟩
theorem ZdL {P:Program}{w:World}{h:Heap}{v:V}{u:Value}{ks:List Int} (ok:Wy P w H h) (x:Y9 H v ks) (r:RelV v u):∃a,u = .ref a/\H a=some (.tup (ks.map V.int))/\Ge h a ks:=by
 obtain ⟨a,rfl,e⟩:=x
 exact ⟨a,r,e,ZfN ok e⟩
theorem ZiM {T:String}{F:V->List Int->Prop}{h h1:Heap} (hF:∀{v u ks},F v ks->RelV v u -> ∃a,u = .ref a/\Gj T h a ks) {xs:List V}{us out:List Value}{ws:List (List Int)} (r:Vals xs us) (x:Paired F xs ws) (hp:out.Perm us)
  (hk:∀a ks,Gj T h a ks->Gj T h1 a ks) (hr:ZcD h1 out):∃ys vs,Vals ys out/\Paired F ys vs/\ys.Perm xs/\vs.Perm ws/\Zeh vs:=by
 obtain ⟨ys,p1,r1⟩:=Paired.perm2 hp.symm r
 obtain ⟨vs,p2,r2⟩:=Paired.perm2 p1 (Paired.flip x)
 have x2:Paired F ys vs:=Paired.flip r2
 refine ⟨ys,vs,r1,x2,p1.symm,p2.symm,?_⟩
 have key:∀{ys:List V}{out:List Value}{vs:List (List Int)},Vals ys out->Paired F ys vs->out.map (ZcM h1)=vs:=by
  intro ys out vs a b
  induction a generalizing vs with
  | nil=>cases b;rfl
  | cons r _ ih=>
   cases b with
   | cons f t=>
    obtain ⟨q,e1,e3⟩:=hF f r
    rw [List.map_cons,ih t,e1,(hk _ _ e3).key]
 rw [<- key r1 x2]
 unfold Zeh
 rw [List.pairwise_map]
 exact hr
end
section
variable {prog:Program}{w:World}{A:Around}{E:Value->Shared->Prop}{s:Shared}
theorem Zdf {l:Addr}{vs:List Value}{Q:Value->Shared->Prop} (hu:A.units+2<cLine) (hl:s.heap.IsList l vs.toArray) (hv:∀v∈vs,∃a ks,v = .ref a/\Ge s.heap a ks) (hz:vs.length<=sizeLine)
  (h:∀(out:Array Value),out.toList.Perm vs->(∃h1:Heap,(∀a ks,Ge s.heap a ks->Ge h1 a ks)/\ZcD h1 out.toList)->Q (.ref (s.heap.objs.size+1)) { s with heap:=sortedAll s.heap vs out }):
  wpAny (model prog w) A (call (.builtin "sorted") [.ref l]) Q E s:=Zee Kd3 (fun A hu E s' kd hk=>Zcp hk hu) (fun A E s' Q _ hv h=>Zbp hv h) hu hl hv hz h
end
section
variable {X:Cx}
def Zin (K:PySem.W.Frag):List V->Hp->VK->Prop:=fun xs H Q=>∃(p:Addr) (ys:List V) (ws:List (List Int)),xs = [.ref p]/\Zp K H p ys/\Words H ys ws /\
  ∀(l:Addr) (zs:List V) (vs:List (List Int)),H l=none->zs.Perm ys->vs.Perm ws->Words H zs vs->Zeh vs->Q (.ref l) (upd H l (.lst zs))
theorem ZcY (hu:X.A.units+64<cLine):Ja X (.builtin "sorted") (Zin X.K):=by
 intro pins s σ H xs us Q I r h
 obtain ⟨p,ys,ws,rfl,hq,hw,q⟩:=h
 obtain ⟨u,rfl,ru⟩:=r.one
 cases ru
 obtain ⟨its,rv,pl,hz⟩:=I.list hq
 have hlen:ys.length=its.length:=rv.length
 refine Zdf (by lia) pl.isList (fun v hv=>?_) (by lia) fun out a2 ⟨h1,k1,a3⟩=>?_
 ·obtain ⟨y,hy,ry⟩:=Paired.mem1 (Paired.flip rv) v hv
  obtain ⟨ks,_,hk⟩:=Paired.mem1 hw y hy
  obtain ⟨a,e1,e2,e3⟩:=ZdL I.hok hk ry
  exact ⟨a,ks,e1,e3⟩
 obtain ⟨zs,vs,b1,b2,b3,b4,b5⟩:=ZiM (fun f r=>(ZdL I.hok f r).imp fun _ z=>⟨z.1,z.2.2⟩) rv hw a2 k1 a3
 obtain ⟨e,he⟩:=sortedAll_at s.heap its out
 have fr:H (s.heap.objs.size+1)=none:=I.hok.fresh (Nat.le_succ _)
 refine ⟨.ref (s.heap.objs.size+1),_,I.laid (a:=s.heap.objs.size+1) (o:=.lst zs) (t':=s.toks) (fun b o q=>sortedAll_old q) (Nat.le_succ _) ⟨?_,out.toList,e,b1,?_⟩,rfl,q _ _ _ fr b3 b4 b2 b5⟩
 ·rw [b3.length_eq];lia
 ·simpa [seqObj] using he
end
def kW (ks:List Int):List Key:=ks.map Sum.inl
theorem Zmz (ks:List Int):(kW ks).map kV=ks.map V.int:=by unfold kW;rw [List.map_map];rfl
theorem Zhj {a b:List Int} (h:kW a=kW b):a=b:=(List.map_inj_right (fun x y h=>by injection h)).mp h
section
variable {prog:Program}{w:World}{A:Around}{E:Value->Shared->Prop}{s:Shared}{h₀:Heap}{L D:Addr}{m:Str->Option Value}{news:List (Addr×Obj)}{n:Nat}{vs:List Value}{Q:Value->Shared->Prop}
theorem ZlH (hu:A.units+1<cLine) (F:Fr h₀ L s.heap m) (N:News h₀ L s.heap ((D,W.listOf vs.toArray n)::news)) (lt:∀q∈news,q.1<D) (hv:∀v∈vs,∃a ks,v = .ref a/\a≠D/\Ge s.heap a ks) (hz:vs.length<=sizeLine)
  (h:∀vs' c h',Fr h₀ L h' m->News h₀ L h' ((D,W.listOf (List.toArray vs') c)::news)->vs'.Perm vs->ZcD s.heap vs'->Q .none { s with heap:=h' }):
  wpAny (model prog w) A (call (.builtin "list.sort") [.ref D]) Q E s:=by
 have z:=N (D,W.listOf vs.toArray n) List.mem_cons_self
 have ho:s.heap.get? D=some (seqObj "list" vs.toArray n):=z.1
 refine wpAny_call_entry PyProof.Rows.slot_list_sort ⟨_,z.1,rfl⟩ PyProof.Rows.entry_list_sort (ZeK (n:=n) (vs:=vs) (by exact hu) ho hv hz fun out hp hP=>⟨.none,rfl,?_⟩) (PyProof.Rows.args_list_sort _)
 obtain ⟨c,hc⟩:=sortedHeap_at (vs:=vs) (out:=out) ho
 have F4:Fr h₀ L (sortedHeap s.heap D vs out) m:=
  ksk_fr (((ksk_fr F (Heap.SameBut.update s.heap D (Obj.mapSeq fun _=>#[])) z.2.1 z.2.2).push (seqObj "tuple" vs.toArray 0)).push (seqObj "list" #[] 0)) (Heap.SameBut.update _ D (Obj.mapSeq fun _=>out)) z.2.1 z.2.2
 refine h out.toList c _ F4 ?_ hp hP
 intro p hq
 rcases List.mem_cons.mp hq with rfl | hq
 ·exact ⟨hc,z.2⟩
 ·have y:=N p (.tail _ hq)
  exact ⟨(sortedHeap_old (Nat.ne_of_lt (lt p hq)) (Heap.lt_size y.1)).trans y.1,y.2⟩
end
section
variable {X:Cx}
def Zlj:List V->Hp->VK->Prop:=fun xs H Q=>∃(p:Addr) (kvs:List (List Key×V)) (ws:List (List Int)),xs = [.ref p]/\H p=some (.dT kvs)/\kvs.map (·.1)=ws.map kW /\
  ∀(l:Addr) (zs:List V) (vs:List (List Int)),H l=none->vs.Perm ws->Words H zs vs->Zeh vs->Q (.ref l) (upd H l (.lst zs))
theorem Zd9 {H:Hp}:∀{kvs:List (List Key×V)}{xs:List (List Key×Addr×Value)}{ws:List (List Int)},KT H kvs xs->kvs.map (·.1)=ws.map kW->Words H (xs.map fun q=>V.ref q.2.1) ws
 | _,_,[],.nil,_=>.nil
 | _,_,_::_,.nil,e=>by simp at e
 | _,_,[],.cons _ _,e=>by simp at e
 | _,_,w::ws,.cons (a:=p) (b:=q) h t,e=>by
  rw [List.map_cons,List.map_cons] at e
  injection e with e1 e2
  refine .cons ⟨q.2.1,rfl,?_⟩ (Zd9 t e2)
  have:=h.2.1
  rw [e1,Zmz] at this
  exact this
theorem Wt (hc:X.calm=true) (hu:X.A.units+64<cLine):Ja X (.builtin "sorted") Zlj:=by
 intro pins s σ H xs us Q I r h
 obtain ⟨p,kvs,ws,rfl,hp,hk,q⟩:=h
 obtain ⟨u,rfl,ru⟩:=r.one
 cases ru
 obtain ⟨z,hsm,xs,rel,ob,es,ep,o1,o2,o3,o4,o5,o6⟩:=Zhy I.hok hp
 obtain ⟨m,fr⟩:=I.fr
 have lv:kvs.length=xs.length:=Paired.length rel
 have ln:kvs.length=ws.length:=by simpa using congrArg List.length hk
 have le:es.size=xs.length:=size_of_entries o4
 refine W.kdu_sorted (Zmw (es:=es) (ep:=ep) hsm) (I.ok.hd hc) fr (news:=Uh X.base s.heap X.env.locals) Ziv ⟨ob,o1,o2,o3⟩ (by lia) fun D h' tk us fr' nw' lt' hlen hP=>?_
 have hus:us=xs.map fun q=>Value.ref q.2.1:=by
  refine List.ext_getElem? fun j=>?_
  cases e:us[j]? with
  | none=>
   have:=List.getElem?_eq_none_iff.mp e
   rw [List.getElem?_eq_none (by rw [List.length_map];lia)]
  | some v=>
   obtain ⟨en,e1,rfl⟩:=hP j v e
   rw [entry_at o4 j] at e1
   cases e2:xs[j]? with
   | none=>rw [e2] at e1;cases e1
   | some x=>
    rw [e2] at e1
    cases e1
    rw [List.getElem?_map,e2]
    rfl
 have rv:Vals (xs.map fun q=>V.ref q.2.1) us:=by
  rw [hus]
  have:∀l:List (List Key×Addr×Value),Vals (l.map fun q=>V.ref q.2.1) (l.map fun q=>Value.ref q.2.1):=by
   intro l
   induction l with
   | nil=>exact .nil
   | cons a l ih=>exact .cons rfl ih
  exact this xs
 have hw:=Zd9 rel hk
 have hD:s.heap.get? D=none:=by
  have nb:X.base.get? D=none:=(nw' (D,W.listOf us.toArray 0) List.mem_cons_self).2.2
  have nL:D≠X.env.locals:=(nw' (D,W.listOf us.toArray 0) List.mem_cons_self).2.1
  cases e:s.heap.get? D with
  | none=>rfl
  | some o=>exact absurd (lt' (D,o) (Gn nL nb e)) (Nat.lt_irrefl _)
 have fresh:H D=none:=by
  cases e:H D with
  | none=>rfl
  | some o=>
   obtain ⟨ob,e2⟩:=(I.hok D o e).there
   rw [hD] at e2
   cases e2
 have kp:∀b u,b≠X.env.locals->s.heap.get? b=some u->h'.get? b=some u:=fun b u hb e=>by
  cases q:X.base.get? b with
  | some v=>
   have e1:=fr'.keep b v q
   have e2:=fr.keep b v q
   rw [e] at e2
   cases e2
   exact e1
  | none=>exact (nw' (b,u) (List.mem_cons_of_mem _ (Gn hb q e))).1
 have kt:∀a ks,H a=some (.tup (ks.map V.int))->Ge h' a ks:=fun a ks e=>by
  have t:=ZfN I.hok e
  refine t.kept fun o eo=>kp a o (fun zz=>?_) eo
  rw [zz,I.free] at e
  cases e
 refine ZlH (by show X.A.units+1+1<_;lia) fr' nw' lt' (fun v hv=>?_) (by lia) fun vs' c h'' fr'' nw'' pm rs=>?_
 ·obtain ⟨y,hy,ry⟩:=Paired.mem1 (Paired.flip rv) v hv
  obtain ⟨ks,_,a,e1,e2⟩:=Paired.mem1 hw y hy
  subst e1
  exact ⟨a,ks,ry,Zg e2 fresh,kt a ks e2⟩
 ·obtain ⟨ys,p1,r1⟩:=Paired.perm2 pm.symm rv
  obtain ⟨vss,p2,r2⟩:=Paired.perm2 p1 (Paired.flip hw)
  have x2:Words H ys vss:=Paired.flip r2
  have rise:Zeh vss:=by
   have key:∀{ys:List V}{out:List Value}{vs:List (List Int)},Vals ys out->Words H ys vs->out.map (ZcM h')=vs:=by
    intro ys out vs a b
    induction a generalizing vs with
    | nil=>cases b;rfl
    | cons r _ ih=>
     cases b with
     | cons f t=>
      obtain ⟨q,e1,e2⟩:=f
      subst e1
      rw [List.map_cons,ih t,show _=Value.ref q from r,(kt _ _ e2).key]
   rw [<- key r1 x2]
   unfold Zeh
   rw [List.pairwise_map]
   exact rs
  have I2:=I.laidN (o:=.lst ys) (D:=D) (h':=h'') (t':=tk) fr fr'' (fun q hq=>nw'' q (List.mem_cons_of_mem _ hq)) hD fresh ⟨by
   rw [<- p1.length_eq,List.length_map]
   lia,vs',c,r1,(nw'' _ List.mem_cons_self).1⟩
  exact ⟨.ref D,_,I2,rfl,q D ys vss fresh p2.symm x2 rise⟩
def Zkz:R2:=fun x y H Q=>∃a b:List Int,Y9 H x a/\Y9 H y b/\a.length+b.length<=sizeLine /\
 (a = []->Q y H)/\(b = []->Q x H)/\(∀p,H p=none->Q (.ref p) (upd H p (.tup ((a++b).map V.int))))
theorem Za1:OpR X (binaryOp .Add) Zkz:=by
 intro pins s σ H x y v u Q I rx ry h
 obtain ⟨a,b,⟨p,rfl,hp⟩,⟨r,rfl,hr⟩,hz,q1,q2,q3⟩:=h
 cases rx
 cases ry
 obtain ⟨_,its,r1,p1⟩:=(show Z7 X.prog X.w H s.heap p (.tup (a.map V.int)) from I.hok p _ hp)
 obtain ⟨_,its2,r2,p2⟩:=(show Z7 X.prog X.w H s.heap r (.tup (b.map V.int)) from I.hok r _ hr)
 have l1:a.length=its.length:=by simpa using r1.length
 have l2:b.length=its2.length:=by simpa using r2.length
 by_cases e:its = []
 ·obtain ⟨⟨cls,dd,data,sl⟩,ho,hc,n,hd⟩:=id p1
  obtain ⟨⟨cls2,dd2,data2,sl2⟩,ho2,hc2,n2,hd2⟩:=id p2
  simp only at hc hd hc2 hd2
  subst hc hd hc2 hd2
  have ea:a = []:=by rw [e] at l1;exact List.length_eq_zero_iff.mp l1
  exact concat_meets ⟨_,ho,rfl⟩ ⟨_,ho2,rfl⟩ noFill_tuple_add seq_tuple_add PySem.F.slot_tuple_add PySem.F.entry_tuple_add (PySem.F.args_tuple_add_2 _ _)
   (tuple_addW0 p r its.toArray its2.toArray n n2 dd dd2 sl sl2 (by simp [e])) ⟨ho,ho2,⟨.ref r,H,I,rfl,q1 ea⟩⟩
 ·refine HT.Zjc p1 p2 e (fun z=>⟨.ref p,H,I,rfl,q2 (by rw [z] at l2;exact List.length_eq_zero_iff.mp l2)⟩) (fun z=>?_) (by rw [<- l1,<- l2];exact hz)
  refine ⟨.ref s.heap.objs.size,_,I.laid (t':=s.toks) (o:=.tup ((a++b).map V.int)) (fun b ob q=>Heap.get?_push_of_some _ q) (Nat.le_refl _) ?_,rfl,q3 _ (I.hok.fresh (Nat.le_refl _))⟩
  exact ⟨by rw [List.length_map,List.length_append];exact hz,_,by rw [List.map_append];exact r1.append r2,IsTup.new _ _⟩
end
end L2
namespace L2
open PySem PySem.Spec PyProof.Rows PyProof.V
section
variable {X:Cx}
def ZnK:R2:=fun x y H Q=>∃a b:List Int,Y9 H x a/\Y9 H y b/\Q (.bl (decide (a=b))) H
theorem ZlE (hu:X.A.units+64<cLine):OpR X (compareOp .Eq) ZnK:=by
 intro pins s σ H x y v u Q I rx ry h
 obtain ⟨ns,ms,⟨p,rfl,hp⟩,⟨r,rfl,hr⟩,hQ⟩:=h
 cases rx
 cases ry
 obtain ⟨_,its,r1,p1⟩:=(show Z7 X.prog X.w H s.heap p (.tup (ns.map V.int)) from I.hok p _ hp)
 obtain ⟨_,its2,r2,p2⟩:=(show Z7 X.prog X.w H s.heap r (.tup (ms.map V.int)) from I.hok r _ hr)
 have l1:ns.length=its.length:=by simpa using r1.length
 have l2:ms.length=its2.length:=by simpa using r2.length
 refine SeqAt.eq_tupleAt (e:=fun j=>ns.getD j 0==ms.getD j 0) p1 p2 (by lia) (fun j h1 h2=>?_) ⟨.bl (decide (ns=ms)),H,I,?_,hQ⟩
 ·obtain ⟨t1,e1⟩:=Zfy r1 h1
  obtain ⟨t2,e2⟩:=Zfy r2 h2
  rw [e1,e2]
  exact SeqAt.EqAt.int_int _ _ _ _
 ·show Value.bool _=Value.bool _
  congr 1
  rw [Bool.eq_iff_iff,Bool.and_eq_true,List.all_eq_true,decide_eq_true_iff,beq_iff_eq]
  simp only [List.size_toArray]
  constructor
  ·rintro ⟨z,zl⟩
   refine List.ext_getElem (by lia) fun i h1 h2=>?_
   have:=z i (List.mem_range.mpr (by lia))
   simpa [h1,h2] using this
  ·intro z
   subst z
   exact ⟨fun i _=>by simp,by lia⟩
end
abbrev WS:=List (List Int)
theorem Za5:∀(a b:List Int),lexLt a b=false->lexLt b a=false->a=b
 | [],[],_,_=>rfl
 | [],_::_,h,_=>by simp [lexLt] at h
 | _::_,[],_,h=>by simp [lexLt] at h
 | x::a,y::b,h,h'=>by
  rw [lexLt] at h h'
  by_cases e:x=y
  ·subst e
   rw [if_pos rfl] at h h'
   rw [Za5 a b h h']
  ·rw [if_neg e] at h
   rw [if_neg (Ne.symm e)] at h'
   have h1:=of_decide_eq_false h
   have h2:=of_decide_eq_false h'
   lia
def SR (r:WS):Prop:=r.Pairwise fun u v=>lexLt u v=true
theorem ZhE:∀(r r':WS),SR r->SR r'->(∀w,w∈r ↔ w∈r')->r=r'
 | [],[],_,_,_=>rfl
 | [],b::_,_,_,h=>by have:=(h b).mpr List.mem_cons_self;cases this
 | a::_,[],_,_,h=>by have:=(h a).mp List.mem_cons_self;cases this
 | a::r,b::r',h1,h2,h=>by
  obtain ⟨p1,q1⟩:=List.pairwise_cons.mp h1
  obtain ⟨p2,q2⟩:=List.pairwise_cons.mp h2
  have e:a=b:=by
   rcases List.mem_cons.mp ((h a).mp List.mem_cons_self) with e | e
   ·exact e
   ·rcases List.mem_cons.mp ((h b).mpr List.mem_cons_self) with e' | e'
    ·exact e'.symm
    ·have z1:=p2 a e
     have z2:=p1 b e'
     rw [GG _ _ z1] at z2
     cases z2
  subst e
  have no:∀{l:WS},(∀x∈l,lexLt a x=true)->a∉l:=fun {l} p m=>by
   have:=p a m
   rw [GX] at this
   cases this
  rw [ZhE r r' q1 q2 fun w=>⟨fun m=>?_,fun m=>?_⟩]
  ·rcases List.mem_cons.mp ((h w).mp (List.mem_cons_of_mem _ m)) with e | e
   ·subst e;exact absurd m (no p1)
   ·exact e
  ·rcases List.mem_cons.mp ((h w).mpr (List.mem_cons_of_mem _ m)) with e | e
   ·subst e;exact absurd m (no p2)
   ·exact e
theorem SR.nodup {r:WS} (h:SR r):r.Nodup:=h.imp fun {u v} z e=>by subst e;rw [GX] at z;cases z
theorem Zmu {r:WS} (h:Zeh r) (n:r.Nodup):SR r:=(List.Pairwise.and h n).imp fun {u v} ⟨a,b⟩=>by
 cases e:lexLt u v with
 | true=>rfl
 | false=>exact absurd (Za5 _ _ e a) b
structure Z0 (L r:WS):Prop where
 rise:SR r
 mem:∀w,w∈r ↔ L.count w % 2=1
theorem Z0.one {L r r':WS} (x:Z0 L r) (y:Z0 L r'):r=r':=ZhE r r' x.rise y.rise fun w=>(x.mem w).trans (y.mem w).symm
def Y8 (L L':WS):Prop:=∀w,L.count w % 2=L'.count w % 2
theorem Y8.refl (L:WS):Y8 L L:=fun _=>rfl
theorem Y8.symm {L M:WS} (a:Y8 L M):Y8 M L:=fun w=>(a w).symm
theorem Y8.trans {L M N:WS} (a:Y8 L M) (b:Y8 M N):Y8 L N:=fun w=>(a w).trans (b w)
theorem Y8.app {A A' B B':WS} (a:Y8 A A') (b:Y8 B B'):Y8 (A++B) (A'++B'):=fun w=>by
 have:=a w;have:=b w
 rw [List.count_append,List.count_append];lia
theorem Z0.par {L L' r:WS} (x:Z0 L r) (p:Y8 L L'):Z0 L' r:=⟨x.rise,fun w=>by rw [x.mem w,p w]⟩
theorem Z0.self {L r:WS} (x:Z0 L r):Y8 r L:=fun w=>by
 by_cases h:w∈r
 ·rw [List.Nodup.count x.rise.nodup,if_pos h,(x.mem w).mp h]
 ·rw [List.count_eq_zero.mpr h]
  have:=mt (x.mem w).mpr h
  lia
theorem Z0.sub {L r:WS} (x:Z0 L r) {w:List Int} (h:w∈r):w∈L:=by
 have:=(x.mem w).mp h
 exact List.count_pos_iff.mp (by lia)
theorem sub_len:∀{r L:WS},r.Nodup->(∀w∈r,w∈L)->r.length<=L.length
 | [],_,_,_=>Nat.zero_le _
 | a::r,L,n,h=>by
  obtain ⟨n1,n2⟩:=List.nodup_cons.mp n
  have ha:=h a List.mem_cons_self
  have:=sub_len (r:=r) (L:=L.erase a) n2 fun w hw=>(List.mem_erase_of_ne (fun (e:w=a)=>n1 (e ▸ hw))).mpr (h w (List.mem_cons_of_mem _ hw))
  rw [List.length_erase_of_mem ha] at this
  have:=List.length_pos_of_mem ha
  rw [List.length_cons];lia
theorem Z0.len {L r:WS} (x:Z0 L r):r.length<=L.length:=sub_len x.rise.nodup fun _ h=>x.sub h
theorem ZfY:Z0 [] []:=⟨.nil,fun w=>by simp⟩
theorem ZiD {P r:WS}{w:List Int} (x:Z0 P (r ++ [w])):Z0 (P ++ [w]) r:=by
 have n:=x.rise.nodup
 have s:=x.rise
 unfold SR at s
 rw [List.nodup_append] at n
 rw [List.pairwise_append] at s
 refine ⟨s.1,fun y=>?_⟩
 have m:=x.mem y
 rw [List.count_append,List.count_singleton]
 by_cases e:w=y
 ·subst e
  have:¬w∈r:=fun h=>n.2.2 w h w (by simp) rfl
  have:=m.mp (by simp)
  simp only [beq_self_eq_true,if_true]
  constructor
  ·intro h;contradiction
  ·intro h;lia
 ·have e':¬y=w:=fun z=>e z.symm
  simp only [List.mem_append,List.mem_singleton,e',or_false] at m
  rw [m]
  simp [e]
theorem ZfJ {P r:WS}{w:List Int} (x:Z0 P r) (hw:∀p∈P,lexLt w p=false) (hl:r.getLast? ≠ some w):Z0 (P ++ [w]) (r ++ [w]):=by
 have no:w∉r:=fun h=>by
  obtain ⟨a,b,rfl⟩:=List.append_of_mem h
  cases hb:b.getLast? with
  | none=>
   have:b = []:=List.getLast?_eq_none_iff.mp hb
   subst this
   exact hl (by simp)
  | some l=>
   have hlb:l∈b:=List.mem_of_getLast? hb
   have s:=x.rise
   unfold SR at s
   rw [List.pairwise_append,List.pairwise_cons] at s
   have z1:=s.2.1.1 l hlb
   have z2:=hw l (x.sub (by simp [hlb]))
   rw [z1] at z2
   cases z2
 refine ⟨?_,fun y=>?_⟩
 ·unfold SR
  rw [List.pairwise_append]
  refine ⟨x.rise,List.pairwise_singleton _ _,fun u hu v hv=>?_⟩
  rw [List.mem_singleton.mp hv]
  cases e:lexLt u w with
  | true=>rfl
  | false=>exact absurd (Za5 _ _ e (hw u (x.sub hu))) fun z=>no (z ▸ hu)
 ·have m:=x.mem y
  rw [List.count_append,List.count_singleton,List.mem_append,List.mem_singleton]
  by_cases e:w=y
  ·subst e
   have:=mt m.mpr no
   simp only [beq_self_eq_true,if_true]
   constructor
   ·intro _;lia
   ·intro _;exact .inr trivial
  ·have e':¬y=w:=fun z=>e z.symm
   simp only [e',or_false]
   rw [m]
   simp [e]
structure ZaX (L ks:WS):Prop where
 nd:ks.Nodup
 mem:∀w,w∈ks ↔ L.count w % 2=1
theorem Zbs:ZaX [] []:=⟨.nil,fun w=>by simp⟩
theorem ZhI {L ks:WS}{w:List Int} (x:ZaX L ks) (h:w∈ks):ZaX (L ++ [w]) (ks.filter fun k=>decide (k≠w)):=by
 refine ⟨x.nd.filter _,fun y=>?_⟩
 have m:=x.mem y
 rw [List.mem_filter,List.count_append,List.count_singleton]
 by_cases e:w=y
 ·subst e
  have:=m.mp h
  simp
  lia
 ·have e':¬y=w:=fun z=>e z.symm
  simp [e,e',m]
theorem Zjb {L ks:WS}{w:List Int} (x:ZaX L ks) (h:w∉ks):ZaX (L ++ [w]) (ks ++ [w]):=by
 refine ⟨?_,fun y=>?_⟩
 ·rw [List.nodup_append]
  exact ⟨x.nd,by simp,fun a ha b hb e=>h (by rw [List.mem_singleton.mp hb] at e;exact e ▸ ha)⟩
 have m:=x.mem y
 rw [List.mem_append,List.mem_singleton,List.count_append,List.count_singleton]
 by_cases e:w=y
 ·subst e
  have:=mt m.mpr h
  simp
  lia
 ·have e':¬y=w:=fun z=>e z.symm
  simp [e,e',m]
theorem ZaX.sub {L ks:WS} (x:ZaX L ks) {w:List Int} (h:w∈ks):w∈L:=by
 have:=(x.mem w).mp h
 exact List.count_pos_iff.mp (by lia)
theorem ZaX.len {L ks:WS} (x:ZaX L ks):ks.length<=L.length:=sub_len x.nd fun _ h=>x.sub h
theorem ZaX.odd {L ks r:WS} (x:ZaX L ks) (p:r.Perm ks) (h:Zeh r):Z0 L r:=⟨Zmu h (p.nodup_iff.mpr x.nd),fun w=>by rw [p.mem_iff,x.mem]⟩
def ZD (A B:WS):WS:=A.flatMap fun u=>B.map fun v=>u++v
theorem ZY (u:List Int) (A B:WS):ZD (u::A) B=B.map (fun v=>u++v)++ZD A B:=by simp [ZD]
theorem Y0 (A B C:WS):ZD (A++B) C=ZD A C++ZD B C:=by simp [ZD]
theorem Zdc {f:List Int->List Int} (hf:∀a b,f a=f b->a=b) (v:List Int):∀B:WS,(B.map f).count (f v)=B.count v
 | []=>rfl
 | b::B=>by
  rw [List.map_cons,List.count_cons,List.count_cons,Zdc hf v B]
  congr 1
  by_cases e:b=v
  ·subst e;simp
  ·have:¬f b=f v:=fun z=>e (hf _ _ z)
   simp [e,this]
theorem Zf9 {f:List Int->List Int} (hf:∀a b,f a=f b->a=b) {B B':WS} (h:Y8 B B'):Y8 (B.map f) (B'.map f):=fun w=>by
 by_cases e:∃v,f v=w
 ·obtain ⟨v,rfl⟩:=e
  rw [Zdc hf,Zdc hf,h v]
 ·have z:∀B:WS,(B.map f).count w=0:=fun B=>List.count_eq_zero.mpr fun m=>by
   obtain ⟨v,_,q⟩:=List.mem_map.mp m
   exact e ⟨v,q⟩
  rw [z,z]
theorem Y3 {B B':WS} (h:Y8 B B'):∀A:WS,Y8 (ZD A B) (ZD A B')
 | []=>.refl _
 | u::A=>by
  rw [ZY,ZY]
  exact (Zf9 (fun a b z=>List.append_cancel_left z) h).app (Y3 h A)
theorem Zds (w v:List Int) (B:WS):∀A:WS,(ZD A (v::B)).count w=(A.map fun u=>u++v).count w+(ZD A B).count w
 | []=>rfl
 | u::A=>by
  rw [ZY,ZY,List.count_append,List.count_append,Zds w v B A,List.map_cons,List.map_cons,List.count_cons,List.count_cons]
  lia
theorem Ye:∀A:WS,ZD A [] = []
 | []=>rfl
 | u::A=>by rw [ZY,Ye A];rfl
theorem JA {A A':WS} (h:Y8 A A'):∀B:WS,Y8 (ZD A B) (ZD A' B)
 | []=>by rw [Ye,Ye];exact .refl _
 | v::B=>fun w=>by
  have h1:=Zf9 (f:=fun u=>u++v) (fun a b z=>List.append_cancel_right z) h w
  have h2:=JA h B w
  rw [Zds,Zds]
  lia
theorem YK (w:List Int) (B C:WS):∀A:WS,(ZD A (B++C)).count w=(ZD A B).count w+(ZD A C).count w
 | []=>rfl
 | u::A=>by
  rw [ZY,ZY,ZY,List.count_append,List.count_append,List.count_append,YK w B C A,List.map_append,List.count_append]
  lia
theorem Zfw (u:List Int) (C:WS):∀B:WS,ZD (B.map fun v=>u++v) C=(ZD B C).map fun v=>u++v
 | []=>rfl
 | b::B=>by
  rw [List.map_cons,ZY,ZY,Zfw u C B,List.map_append,List.map_map]
  congr 1
  exact List.map_congr_left fun v _=>by simp [List.append_assoc]
theorem YL (B C:WS):∀A:WS,ZD (ZD A B) C=ZD A (ZD B C)
 | []=>rfl
 | u::A=>by rw [ZY,Y0,Zfw,ZY,YL B C A]
def Gd (n m:Nat) (L:WS):Prop:=L.length<=n /\ ∀w∈L,w.length<=m /\ ∀k∈w,0<=k
theorem Z0.gd {L r:WS}{n m:Nat} (x:Z0 L r) (g:Gd n m L):Gd n m r:=⟨Nat.le_trans x.len g.1,fun w h=>g.2 w (x.sub h)⟩
theorem Gd.mono {n m n' m':Nat}{L:WS} (g:Gd n m L) (h1:n<=n') (h2:m<=m'):Gd n' m' L:=⟨Nat.le_trans g.1 h1,fun w h=>⟨Nat.le_trans (g.2 w h).1 h2,(g.2 w h).2⟩⟩
theorem Gd.app {n m n' m':Nat}{A B:WS} (a:Gd n m A) (b:Gd n' m' B):Gd (n+n') (max m m') (A++B):=by
 refine ⟨by rw [List.length_append];have:=a.1;have:=b.1;lia,fun w h=>?_⟩
 rcases List.mem_append.mp h with h | h
 ·exact ⟨Nat.le_trans (a.2 w h).1 (Nat.le_max_left _ _),(a.2 w h).2⟩
 ·exact ⟨Nat.le_trans (b.2 w h).1 (Nat.le_max_right _ _),(b.2 w h).2⟩
theorem Wc (B:WS):∀A:WS,(ZD A B).length=A.length*B.length
 | []=>by simp [ZD]
 | u::A=>by rw [ZY,List.length_append,List.length_map,Wc B A,List.length_cons,Nat.succ_mul];lia
theorem Gd.ZD {n m n' m':Nat}{A B:WS} (a:Gd n m A) (b:Gd n' m' B):Gd (n*n') (m+m') (L2.ZD A B):=by
 refine ⟨by rw [Wc];exact Nat.mul_le_mul a.1 b.1,fun w h=>?_⟩
 obtain ⟨u,hu,h⟩:=List.mem_flatMap.mp h
 obtain ⟨v,hv,rfl⟩:=List.mem_map.mp h
 refine ⟨by rw [List.length_append];have:=(a.2 u hu).1;have:=(b.2 v hv).1;lia,fun k hk=>?_⟩
 rcases List.mem_append.mp hk with hk | hk
 ·exact (a.2 u hu).2 k hk
 ·exact (b.2 v hv).2 k hk
theorem Ze8 {n m:Nat}:Gd n m []:=⟨Nat.zero_le _,fun _ h=>nomatch h⟩
def WL (H:Hp) (a:Addr) (L:WS):Prop:=∃xs,H a=some (.lst xs)/\Words H xs L
theorem Y9.mono {H H':Hp}{v:V}{w:List Int} (k:∀t p,H t=some (.tup p)->H' t=some (.tup p)) (x:Y9 H v w):Y9 H' v w:=let ⟨a,e,q⟩:=x;⟨a,e,k _ _ q⟩
theorem Words.mono {H H':Hp}{xs:List V}{L:WS} (k:∀t p,H t=some (.tup p)->H' t=some (.tup p)) (x:Words H xs L):Words H' xs L:=Paired.mapP x fun _ _ q=>Y9.mono k q
theorem Words.same {H H':Hp}{xs:List V}{L:WS} (s:Zd H H') (x:Words H xs L):Words H' xs L:=Words.mono (fun t p e=>s t _ e) x
theorem Y9.same {H H':Hp}{v:V}{w:List Int} (s:Zd H H') (x:Y9 H v w):Y9 H' v w:=Y9.mono (fun t p e=>s t _ e) x
theorem WL.same {H H':Hp}{a:Addr}{L:WS} (s:Zd H H') (x:WL H a L):WL H' a L:=let ⟨xs,e,q⟩:=x;⟨xs,s _ _ e,Words.same s q⟩
theorem Words.len {H:Hp}{xs:List V}{L:WS} (x:Words H xs L):xs.length=L.length:=Paired.length x
theorem Words.get {H:Hp}:∀{xs:List V}{L:WS}{i:Nat}{x:V},Words H xs L->xs[i]? = some x -> ∃w,L[i]? = some w/\Y9 H x w
 | _,_,_,_,.nil,e=>by simp at e
 | _,_,0,_,.cons r _,e=>by simp at e;subst e;exact ⟨_,rfl,r⟩
 | _,_,i+1,x,.cons _ t,e=>by
  obtain ⟨w,h1,h2⟩:=Words.get (i:=i) (x:=x) t (by simpa using e)
  exact ⟨w,by simpa using h1,h2⟩
theorem Words.snoc {H:Hp}{xs:List V}{L:WS}{x:V}{w:List Int} (h:Words H xs L) (e:Y9 H x w):Words H (xs ++ [x]) (L ++ [w]):=Paired.snoc h e
theorem Words.append {H:Hp}:∀{xs ys:List V}{L M:WS},Words H xs L->Words H ys M->Words H (xs++ys) (L++M)
 | _,_,_,_,.nil,s=>s
 | _,_,_,_,.cons r t,s=>.cons r (Words.append t s)
theorem Yp.tups {b:Addr}{H H':Hp} (f:Yp b H H') (hb:∀p,H b≠some (.tup p)):∀t p,H t=some (.tup p)->H' t=some (.tup p):=fun t p e=>f t _ e fun z=>hb p (z ▸ e)
theorem Zgx {K:PySem.W.Frag}{H:Hp}{xs ys:List V}{L:WS} (h1:Words H xs L) (h2:Words H ys L) {n:Nat} (hn:1<=n):∀(i:Nat) (x y:V),xs[i]? = some x->ys[i]? = some y->Eqv K H n x y:=fun i x y e1 e2=>by
 obtain ⟨w,q1,p,rfl,hp⟩:=Words.get h1 e1
 obtain ⟨w',q2,q,rfl,hq⟩:=Words.get h2 e2
 rw [q1] at q2
 cases q2
 obtain ⟨n',rfl⟩:∃n',n=n'+1:=⟨n-1,by lia⟩
 refine .tup (.inl (.inl hp)) (.inl (.inl hq)) rfl fun j u v e1 e2=>?_
 rw [e1] at e2
 cases e2
 obtain ⟨z,hz,rfl⟩:=ZeD e1
 exact .flat rfl
section
variable {X:Cx}
theorem Zb9 {K:PySem.W.Frag} (h:X.K=K) (hu:X.A.units+64<cLine):Ja X (.builtin "sorted") (Zin K):=h ▸ ZcY hu
theorem ZdC:Ja X (.type "tuple") (fun xs H Q=>∃p ys,xs = [.ref p]/\H p=some (.lst ys) /\ ∀l,H l=none->Q (.ref l) (upd H l (.tup ys))):=by
 intro pins s σ H xs us Q I r ⟨p,ys,e,hp,q⟩
 exact Zb1 pins s σ H xs us Q I r ⟨p,ys,e,.inl ⟨Zp.of hp,q⟩⟩
end
def DOd (H:Hp) (d:Addr) (L:WS):Prop:=∃(kvs:List (List Key×V)) (ks:WS),H d=some (.dT kvs)/\kvs.map (·.1)=ks.map kW/\ZaX L ks
theorem Zdr:∀{kvs:List (List Key×V)}{ks:WS}{w:List Int},kvs.map (·.1)=ks.map kW->((J9 kvs (kW w)).isSome=true ↔ w∈ks)
 | [],[],w,_=>by simp [J9]
 | [],_::_,_,e=>by simp at e
 | _::_,[],_,e=>by simp at e
 | p::kvs,k::ks,w,e=>by
  rw [List.map_cons,List.map_cons] at e
  injection e with e1 e2
  by_cases z:p.1=kW w
  ·rw [GA z]
   have:k=w:=Zhj (e1.symm.trans z)
   simp [this]
  ·rw [Gu z,Zdr e2]
   have:¬w=k:=fun q=>z (by rw [e1,q])
   simp [this]
theorem Zck:∀{kvs:List (List Key×V)}{ks:WS}{w:List Int},kvs.map (·.1)=ks.map kW->(ZbH kvs (kW w)).map (·.1)=(ks.filter fun k=>decide (k≠w)).map kW
 | [],[],w,_=>rfl
 | [],_::_,_,e=>by simp at e
 | _::_,[],_,e=>by simp at e
 | p::kvs,k::ks,w,e=>by
  rw [List.map_cons,List.map_cons] at e
  injection e with e1 e2
  have ih:=Zck (w:=w) e2
  unfold ZbH at ih ⊢
  by_cases z:k=w
  ·rw [List.filter_cons_of_neg (by rw [e1,z];simp),List.filter_cons_of_neg (by rw [z];simp),ih]
  ·have:¬p.1=kW w:=fun q=>z (Zhj (e1.symm.trans q))
   rw [List.filter_cons_of_pos (by simp [this]),List.filter_cons_of_pos (by simp [z]),List.map_cons,List.map_cons,ih,e1]
theorem Zif {kvs:List (List Key×V)}{ks:WS}{w:List Int}{v:V} (e:kvs.map (·.1)=ks.map kW) (h:w∉ks):(putK kvs (kW w) v).map (·.1)=(ks ++ [w]).map kW:=by
 have a:(kvs.any fun kv=>decide (kv.1=kW w))=false:=by
  rw [UX]
  cases q:(J9 kvs (kW w)).isSome with
  | false=>rfl
  | true=>exact absurd ((Zdr e).mp q) h
 unfold putK
 rw [a]
 simp [e]
theorem DOd.tups {H H':Hp}{d:Addr}{L:WS} (x:DOd H d L) (f:Yp d H H'):∀t p,H t=some (.tup p)->H' t=some (.tup p):=f.tups fun p z=>by
 obtain ⟨_,_,e,_⟩:=x
 rw [e] at z;cases z
theorem DOd.wl {H H':Hp}{d a:Addr}{L M:WS} (x:DOd H d L) (f:Yp d H H') (y:WL H a M):WL H' a M:=by
 obtain ⟨xs,e,q⟩:=y
 refine ⟨xs,f a _ e fun z=>?_,Words.mono (x.tups f) q⟩
 obtain ⟨_,_,e',_⟩:=x
 rw [z,e'] at e;cases e
end L2
namespace L2
open PySem PySem.Spec PyProof.Rows PyProof.V
section
variable {X:Cx}{C:Addr}{x m:Str}{p pos apos:Pos}{e o:Expr}{es:List Expr}{ta:TE}{t:TA}
structure MkO (K:PySem.W.Frag) (C:Addr):Prop where
 makes:PySem.W.makesIn K C=true
 init:PySem.W.findIn K (.ref C) "__init__" = some (some (.builtin "object.__init__"))
 kp:PySem.W.keepIn K (.ref C)=true
def ZlS (C:Addr):TE:=fun _ H Q=>∀x dx,H x=none->H dx=none->dx≠x->Q (.ref x) (upd (upd H dx (.own x)) x (.ins C dx []))
theorem Zhe (M:MkO X.K C) (hg:Gl X x) (hm:X.mg x=some (.ref C)) (hdb:(x==("__debug__" : Str))=false:=by decide):PE X (.Call (.Name x p) [] [] pos) (ZlS C):=by
 intro pins s σ H Q I h
 refine wpAny_Call_Name_kw (WZ I hg hm ?_ hdb)
 refine PySem.W.callWith_K0 I.kIn M.kp (wpAny_call ?_)
 have Y:=PySem.W.makes_of (M:=model X.prog X.w) I.kIn M.makes
 have I2:=Inv.made (C:=C) I
 have hq:=h (s.heap.objs.size+1) s.heap.objs.size (I.hok.fresh (Nat.le_succ _)) (I.hok.fresh (Nat.le_refl _)) (Nat.ne_of_lt (Nat.lt_succ_self _))
 have hx:((s.heap.push PySem.W.emptyDict).push (PySem.W.instObj C s.heap.objs.size)).get? (s.heap.objs.size+1)=some (PySem.W.instObj C s.heap.objs.size):=by
  have:=Heap.get?_push_size (s.heap.push PySem.W.emptyDict) (o:=PySem.W.instObj C s.heap.objs.size) rfl
  rwa [Heap.size_push] at this
 refine ZgI I.kIn M.makes M.init (fun self=>PySem.W.Looks.of_pure (PySem.W.oi_bind self)) ?_
 have t1:PySem.W.Looks (model X.prog X.w) ((s.heap.push PySem.W.emptyDict).push (PySem.W.instObj C s.heap.objs.size)) (typeOf (.ref (s.heap.objs.size+1))) (.ref C):=(PySem.W.Looks.ld hx).andThen .now
 have t2:PySem.W.Looks (model X.prog X.w) ((s.heap.push PySem.W.emptyDict).push (PySem.W.instObj C s.heap.objs.size)) (isInstance (.ref (s.heap.objs.size+1)) (.type "object")) true:=t1.andThen (Y.top.keeps fun b o e=>Heap.get?_push_of_some _ (Heap.get?_push_of_some _ e))
 refine codeAny_call_builtin PySem.W.oi_plain PySem.W.entry_oi (@PySem.W.check_slot (model X.prog X.w) _ _ _ "object.__init__" "object" "__init__" (.ref (s.heap.objs.size+1)) [] [] _ PySem.W.oi_kind PySem.W.oi_split t2 (PySem.W.oi_args (.ref (s.heap.objs.size+1))) ?_)
 rw [PySem.W.oi_run]
 exact wpAny_pure (And.intro rfl ⟨V.ref (s.heap.objs.size+1),_,I2,rfl,hq⟩)
def UM (P:Program) (w:World) (K:PySem.W.Frag) (mg:Str->Option Value) (base:Heap) (k:Nat) (C:Addr) (m:Str) (ps:List Str) (sp:Sp):Prop:=
 ∃(f:Addr) (fd:FuncData),Z6 P w K mg base WW k f fd ps sp/\Meth K C m f/\Binds K fd ps []
theorem Jv {k:Nat}{ps:List Str}{sp:Sp}{pl:Sem Bool} (h:UM X.prog X.w X.K X.mg X.base k C m ps sp) (c:Cls X.K C) (hr:Ji k X.A) (he:PE X o ta) (ha:PA X (e::es) t)
  (hst:starEach (e::es) X.env=(false,eval e X.env)::starEach es X.env:=by rfl) (hpl:(backTo pos (starEach es X.env)).any (·.1)=false:=by rfl)
  (ht:eval (.Call (.Attribute o m apos) (e::es) [] pos) X.env=(do
   let ov <- eval o X.env
   standAt apos.atName
   let (f,first) <- holding [ov] (getMethod ov m pl)
   callWith pos f first (backTo pos (starEach (e::es) X.env)) (backToKw pos (keywordEach [] X.env))):=by rfl):
  PE X (.Call (.Attribute o m apos) (e::es) [] pos) (ZfX C m sp [] E0 ta t):=by
 obtain ⟨f,fd,G,hm,hb⟩:=h
 exact Zka he c hm G hr hb .nil ZhF ha hst hpl ht
theorem Gk {k:Nat}{ps:List Str}{sp:Sp}{pl:Sem Bool} (h:UM X.prog X.w X.K X.mg X.base k C m ps sp) (c:Cls X.K C) (hr:Ji k X.A) (he:PE X o ta)
  (ht:eval (.Call (.Attribute o m apos) [] [] pos) X.env=(do
   let ov <- eval o X.env
   standAt apos.atName
   let (f,first) <- holding [ov] (getMethod ov m pl)
   callWith pos f first (backTo pos (starEach [] X.env)) (backToKw pos (keywordEach [] X.env))):=by rfl):
  PE X (.Call (.Attribute o m apos) [] [] pos) (ZfX C m sp [] E0 ta Zk6):=by
 obtain ⟨f,fd,G,hm,hb⟩:=h
 exact Zhm he c hm G hr hb .nil ZhF ht
def tFs (tv:TE):TE:=fun σ H Q=>tv σ H fun v H1=>∃i:Int,v = .int i/\i.natAbs<10 ^ 12 /\ ∀z,Q (.str z) H1
theorem ZmW {a b:Str}{v:Expr}{tv:TE}{j1 j2:Nat}{p1 p2 p3 pos:Pos} (hv:PE X v tv) (ha:a.length<=1000) (hb:b.length<=1000):
  PE X (.JoinedStr [.Constant (.str a) j1 p1,.FormattedValue v (-1) none p2,.Constant (.str b) j2 p3] pos) (tFs tv):=by
 intro pins s σ H Q I h
 refine wpAny_JoinedStr ?_
 have z1:(Str.empty++a).length<=sizeLine:=by rw [strLen_append,sizeLine_eq];show 0+_<=_;lia
 refine Calls.Constant_str ⟨a,_,rfl,z1,?_⟩
 refine wpAny_FormattedValue_plain (Yq (hv pins _ σ H _ (I.tok _) h) fun u s1 ⟨x,H1,I1,rx,i,e,hi,q⟩=>?_)
 subst e
 obtain ⟨t,rfl⟩:=rx
 have li:=int_text_length_le10 (k:=12) (by decide) hi
 have lg:i.natAbs.log2<1920:=by
  by_cases h0:i.natAbs=0
  ·rw [h0];decide
  ·exact Nat.lt_of_lt_of_le ((Nat.log2_lt (k:=40) h0).mpr (Nat.lt_of_lt_of_le hi (by decide))) (by decide)
 have z2:(Str.empty++a++Str.ofString (toString i)).length<=sizeLine:=by rw [strLen_append,strLen_append,PySem.ofString_length,sizeLine_eq];show 0+_+_<=_;lia
 refine wpAny_formatField_int lg ⟨_,_,rfl,z2,?_⟩
 have z3:(Str.empty++a++Str.ofString (toString i)++b).length<=sizeLine:=by rw [strLen_append,strLen_append,strLen_append,PySem.ofString_length,sizeLine_eq];show 0+_+_+_<=_;lia
 exact Calls.Constant_str ⟨b,_,rfl,z3,z3,⟨.str _,H1,((I1.tok _).tok _).tok _,⟨_,rfl⟩,q _⟩⟩
end
theorem lex_trans {x y z:List Int} (h1:lexLt x y=true) (h2:lexLt y z=true):lexLt x z=true:=by
 rcases Zc5 x z y h1 with h | h
 ·exact h
 ·rw [GG _ _ h2] at h;cases h
def tog (w:List Int):WS->WS
 | []=>[w]
 | x::r=>if w=x then r else if lexLt w x=true then w::x::r else x::tog w r
theorem ZhZ (w:List Int):∀{r:WS},SR r->SR (tog w r) /\ ∀y,y∈tog w r ↔ if y=w then w∉r else y∈r
 | [],_=>⟨List.pairwise_singleton _ _,fun y=>by by_cases e:y=w<;>simp [tog,e]⟩
 | x::r,h=>by
  obtain ⟨p,q⟩:=List.pairwise_cons.mp h
  have nx:x∉r:=fun m=>by have:=p x m;rw [GX] at this;cases this
  unfold tog
  by_cases e:w=x
  ·subst e
   rw [if_pos rfl]
   refine ⟨q,fun y=>?_⟩
   by_cases e:y=w
   ·subst e;simp [nx]
   ·simp [e]
  ·rw [if_neg e]
   by_cases l:lexLt w x=true
   ·rw [if_pos l]
    have nw:w∉x::r:=fun m=>by
     rcases List.mem_cons.mp m with z | z
     ·exact e z
     ·rw [GG _ _ (p w z)] at l;cases l
    refine ⟨List.pairwise_cons.mpr ⟨fun y hy=>?_,h⟩,fun y=>?_⟩
    ·rcases List.mem_cons.mp hy with rfl | hy
     ·exact l
     ·exact lex_trans l (p y hy)
    ·by_cases e:y=w
     ·subst e;rw [if_pos rfl];exact ⟨fun _=>nw,fun _=>List.mem_cons_self⟩
     ·rw [if_neg e,List.mem_cons];simp [e]
   ·rw [if_neg l]
    have l':lexLt x w=true:=by
     cases q:lexLt x w with
     | true=>rfl
     | false=>exact absurd (Za5 _ _ (by simpa using l) q) e
    obtain ⟨i1,i2⟩:=ZhZ w q
    refine ⟨List.pairwise_cons.mpr ⟨fun y hy=>?_,i1⟩,fun y=>?_⟩
    ·have:=(i2 y).mp hy
     by_cases z:y=w
     ·rw [z];exact l'
     ·rw [if_neg z] at this;exact p y this
    ·rw [List.mem_cons,i2 y]
     by_cases z:y=w
     ·subst z;simp [e]
     ·simp [z]
def canon:WS->WS
 | []=>[]
 | w::L=>tog w (canon L)
theorem ZE:∀L:WS,Z0 L (canon L)
 | []=>ZfY
 | w::L=>by
  have ih:=ZE L
  obtain ⟨a,b⟩:=ZhZ w ih.rise
  refine ⟨a,fun y=>?_⟩
  show y∈tog w (canon L) ↔ _
  rw [b y,List.count_cons]
  have m:=ih.mem y
  by_cases e:y=w
  ·subst e
   rw [if_pos rfl]
   simp only [beq_self_eq_true,if_true]
   constructor
   ·intro h;have:=mt m.mpr h;lia
   ·intro h z;have:=m.mp z;lia
  ·have e':¬w=y:=fun z=>e z.symm
   rw [if_neg e,m]
   simp [e']
theorem Z0.canon {L r:WS} (x:Z0 L r):r=canon L:=x.one (ZE L)
def Yx (A B:WS):WS:=canon (A++B)
def ZL (A B:WS):WS:=canon (ZD A B)
def JH (H:Hp) (r:Addr) (n:Nat) (f:Nat->WS):Prop:=∃xs,H r=some (.lst xs)/\xs.length=n /\ ∀(j:Nat) (x:V),xs[j]? = some x -> ∃e,x = .ref e/\WL H e (f j)
theorem JH.same {H H':Hp}{r:Addr}{n:Nat}{f:Nat->WS} (s:Zd H H') (x:JH H r n f):JH H' r n f:=
 let ⟨xs,a,b,c⟩:=x;⟨xs,s _ _ a,b,fun j x h=>let ⟨e,p,q⟩:=c j x h;⟨e,p,q.same s⟩⟩
theorem JH.congr {H:Hp}{r:Addr}{n:Nat}{f g:Nat->WS} (x:JH H r n f) (h:∀j,j<n->f j=g j):JH H r n g:=by
 obtain ⟨xs,a,b,c⟩:=x
 refine ⟨xs,a,b,fun j x hx=>?_⟩
 obtain ⟨e,p,q⟩:=c j x hx
 have:=(List.getElem?_eq_some_iff.mp hx).1
 exact ⟨e,p,by rw [<- h j (by lia)];exact q⟩
theorem JH.at {H:Hp}{r:Addr}{n:Nat}{f:Nat->WS} (x:JH H r n f) {j:Nat} (h:j<n):∃(xs:List V) (e:Addr),H r=some (.lst xs)/\xs.length=n/\xs[j]? = some (.ref e)/\WL H e (f j):=by
 obtain ⟨xs,a,b,c⟩:=x
 obtain ⟨e,p,q⟩:=c j (xs[j]'(by lia)) (by simp)
 exact ⟨xs,e,a,b,by rw [<- p];simp,q⟩
theorem ZeN {H:Hp}{r e:Addr}{n:Nat}{f:Nat->WS}{L:WS} (x:JH H r n f) (hn:0<n) (y:WL H e L):e≠r:=fun z=>by
 obtain ⟨xs,e0,a,b,c,us,d,_⟩:=x.at hn
 subst z
 obtain ⟨ys,a',w⟩:=y
 rw [a] at a'
 have hxy:xs=ys:=by injection a' with a';injection a'
 subst hxy
 obtain ⟨_,_,t,ht,hh⟩:=Words.get w c
 cases ht
 rw [d] at hh
 cases hh
theorem WL.upd {H:Hp}{e r:Addr}{L:WS}{xs ys:List V} (hr:H r=some (.lst xs)) (n:e≠r) (y:WL H e L):WL (L2.upd H r (.lst ys)) e L:=by
 obtain ⟨us,a,w⟩:=y
 refine ⟨us,by rw [Zj n];exact a,Words.mono (fun t p q=>?_) w⟩
 rw [Zj (fun z=>by subst z;rw [hr] at q;cases q)];exact q
def UK (H:Hp) (A:List Addr) (m n:Nat) (F:Nat->Nat->WS):Prop:=A.length=m/\A.Nodup /\ ∀(i:Nat) (r:Addr),A[i]? = some r->JH H r n (F i)
theorem UK.same {H H':Hp}{A:List Addr}{m n:Nat}{F:Nat->Nat->WS} (s:Zd H H') (x:UK H A m n F):UK H' A m n F:=⟨x.1,x.2.1,fun i r h=>(x.2.2 i r h).same s⟩
theorem UK.congr {H:Hp}{A:List Addr}{m n:Nat}{F G:Nat->Nat->WS} (x:UK H A m n F) (h:∀i j,i<m->j<n->F i j=G i j):UK H A m n G:=
 ⟨x.1,x.2.1,fun i r e=>(x.2.2 i r e).congr fun j hj=>h i j (by have:=(List.getElem?_eq_some_iff.mp e).1;have:=x.1;lia) hj⟩
def Uw (F:Nat->Nat->WS) (i j:Nat) (L:WS):Nat->Nat->WS:=fun a b=>if a=i/\b=j then L else F a b
theorem UK.put {H:Hp}{A:List Addr}{m n i j:Nat}{F:Nat->Nat->WS}{r e:Addr}{xs:List V}{L:WS} (x:UK H A m n F) (hi:A[i]? = some r) (hr:H r=some (.lst xs)) (hj:j<n) (we:WL H e L):
  UK (upd H r (.lst (xs.set j (.ref e)))) A m n (Uw F i j L):=by
 have R:=x.2.2 i r hi
 have hn:0<n:=by lia
 refine ⟨x.1,x.2.1,fun i' r' h'=>?_⟩
 by_cases z:r'=r
 ·subst z
  have e1:i'=i:=by
   obtain ⟨h1,e1⟩:=List.getElem?_eq_some_iff.mp h'
   obtain ⟨h2,e2⟩:=List.getElem?_eq_some_iff.mp hi
   exact (List.getElem_inj x.2.1).mp (e1.trans e2.symm)
  subst e1
  obtain ⟨us,a,b,c⟩:=R
  rw [hr] at a
  have hxy:xs=us:=by injection a with a;injection a
  subst hxy
  refine ⟨_,Zb,by rw [List.length_set];exact b,fun j' y hy=>?_⟩
  rw [List.getElem?_set] at hy
  by_cases q:j=j'
  ·subst q
   rw [if_pos rfl,if_pos (by lia)] at hy
   cases hy
   refine ⟨e,rfl,?_⟩
   unfold Uw
   rw [if_pos ⟨rfl,rfl⟩]
   exact we.upd hr (ZeN (x.2.2 i' _ hi) hn we)
  ·rw [if_neg q] at hy
   obtain ⟨e',p',w'⟩:=c j' y hy
   refine ⟨e',p',?_⟩
   unfold Uw
   rw [if_neg (fun z=>q z.2.symm)]
   exact w'.upd hr (ZeN (x.2.2 i' _ hi) hn w')
 ·obtain ⟨us,a,b,c⟩:=x.2.2 i' r' h'
  refine ⟨us,by rw [Zj z];exact a,b,fun j' y hy=>?_⟩
  obtain ⟨e',p',w'⟩:=c j' y hy
  refine ⟨e',p',?_⟩
  unfold Uw
  rw [if_neg (fun q=>z (by
   have:=q.1
   subst this
   rw [h'] at hi
   exact Option.some.inj hi))]
  exact w'.upd hr (ZeN R hn w')
def Tab (H:Hp) (a:Addr) (n:Nat) (F:Nat->Nat->WS):Prop:=∃A,H a=some (.lst (A.map V.ref))/\UK H A n n F
theorem Tab.same {H H':Hp}{a:Addr}{n:Nat}{F:Nat->Nat->WS} (s:Zd H H') (x:Tab H a n F):Tab H' a n F:=let ⟨A,e,q⟩:=x;⟨A,s _ _ e,q.same s⟩
theorem Tab.congr {H:Hp}{a:Addr}{n:Nat}{F G:Nat->Nat->WS} (x:Tab H a n F) (h:∀i j,i<n->j<n->F i j=G i j):Tab H a n G:=let ⟨A,e,q⟩:=x;⟨A,e,q.congr h⟩
theorem Tab.row {H:Hp}{a:Addr}{n:Nat}{F:Nat->Nat->WS} (x:Tab H a n F) {i:Nat} (h:i<n):∃(ys:List V) (r:Addr),H a=some (.lst ys)/\ys.length=n/\ys[i]? = some (.ref r)/\JH H r n (F i):=by
 obtain ⟨A,e,q⟩:=x
 have hl:=q.1
 refine ⟨_,A[i]'(by lia),e,by rw [List.length_map];exact hl,by simp [show i<A.length by lia],q.2.2 i _ (by simp)⟩
theorem UK.snoc {H:Hp}{A:List Addr}{m n:Nat}{F:Nat->Nat->WS}{r:Addr} (x:UK H A m n F) (hn:r∉A) (hr:JH H r n (F m)):UK H (A ++ [r]) (m+1) n F:=by
 refine ⟨by rw [List.length_append,x.1];rfl,?_,fun i r' h=>?_⟩
 ·rw [List.nodup_append]
  exact ⟨x.2.1,by simp,fun a ha b hb e=>hn (by rw [List.mem_singleton.mp hb] at e;exact e ▸ ha)⟩
 ·by_cases hi:i<m
  ·rw [List.getElem?_append_left (by rw [x.1];exact hi)] at h
   exact x.2.2 i r' h
  ·rw [List.getElem?_append_right (by rw [x.1];lia)] at h
   have:i-A.length=0:=by
    have:=(List.getElem?_eq_some_iff.mp h).1
    simp at this;lia
   rw [this] at h
   cases h
   have:i=m:=by have:=x.1;lia
   subst this
   exact hr
theorem GW {H:Hp}{n:Nat}{F:Nat->Nat->WS}:UK H [] 0 n F:=⟨rfl,.nil,fun i r h=>by simp at h⟩
theorem UK.fresh {H:Hp}{A:List Addr}{m n:Nat}{F:Nat->Nat->WS} (x:UK H A m n F) {p:Addr} (h:H p=none):p∉A:=fun z=>by
 obtain ⟨i,hi,e⟩:=List.getElem_of_mem z
 obtain ⟨us,a,_⟩:=x.2.2 i p (by rw [<- e];simp)
 rw [h] at a;cases a
def Y5 (k:Nat) (F:Nat->Nat->WS):Nat->Nat->WS:=fun i j=>
 if i=k/\j=k+1 then [[]] else if i=k∨i=k+1∨j=k∨j=k+1 then [] else F (if i<k then i else i-2) (if j<k then j else j-2)
def JE (k:Nat) (t:Int) (F:Nat->Nat->WS):Nat->Nat->WS:=fun i j=>
 if i=k/\j=k+1 then [] else if i=k/\k+2<=j then F (k+1) j else if i=k+1/\k+2<=j then Yx (F k j) (ZL [[t]] (F (k+1) j))
 else if i<k/\j=k+1 then F i k else if i<k/\j=k then Yx (F i (k+1)) (ZL (F i k) [[t]]) else F i j
def Gv (k:Nat) (t:Int) (F:Nat->Nat->WS):Nat->WS:=fun i=>Yx (F i (k+1)) (ZL (F i k) [[t]])
def ZbP (k:Nat) (t:Int) (F:Nat->Nat->WS):Nat->WS:=fun j=>Yx (F k j) (ZL [[t]] (F (k+1) j))
def ZaQ (k:Nat) (t:Int) (F:Nat->Nat->WS):Nat->Nat->WS:=fun i j=>
 if i<k/\k<=j then Yx (F i (j+2)) (ZL (Gv k t F i) (ZbP k t F (j+2))) else F (if i<k then i else i+2) (if j<k then j else j+2)
section
variable {X:Cx}
theorem range_any (bs:List Bool):(List.range bs.length).any (fun i=>bs.getD i false)=bs.any id:=by
 rw [Bool.eq_iff_iff,List.any_eq_true,List.any_eq_true]
 constructor
 ·rintro ⟨i,hi,h⟩
  have hi':i<bs.length:=List.mem_range.mp hi
  exact ⟨bs[i],List.getElem_mem hi',by simpa [hi'] using h⟩
 ·rintro ⟨b,hb,h⟩
  obtain ⟨i,hi,rfl⟩:=List.mem_iff_getElem.mp hb
  exact ⟨i,List.mem_range.mpr hi,by simpa [hi] using h⟩
theorem Zgn (hc:X.calm=true):Ja X (.builtin "any") (fun xs H Q=>∃(p:Addr) (bs:List Bool),xs = [.ref p]/\Zp X.K H p (bs.map V.bl)/\Q (.bl (bs.any id)) H):=by
 intro pins s σ H xs us Q I r h
 obtain ⟨p,bs,rfl,hq,q⟩:=h
 obtain ⟨u,rfl,ru⟩:=r.one
 cases ru
 obtain ⟨its,rv,pl,hz⟩:=I.list hq
 have hlen:bs.length=its.length:=by simpa using rv.length
 have hh:X.A.in1.handled=none:=I.ok.hd hc
 have hp:p<s.heap.objs.size:=by
  obtain ⟨o,ho,_⟩:=pl.isList
  exact Heap.lt_size ho
 refine call_any_walk (wpAny_pyIter_list pl.isList ?_)
 refine ⟨s.heap.objs.size,_,_,_,_,_,fun i=>bs.getD i false,rfl,Walks.list hh s.heap.objs.size p (Nat.ne_of_lt hp) its.toArray,⟨⟨_,Heap.get?_push_size _ rfl,rfl,rfl⟩,?_⟩,fun i v s2 Q2 E2 hv hq2=>?_,fun h' tk kk=>?_⟩
 ·obtain ⟨o,ho,r⟩:=pl.isList
  exact ⟨o,Heap.get?_push_of_some _ ho,r⟩
 ·have hv':its[i]? = some v:=by simpa using hv
  have hi:i<bs.length:=by rw [hlen];exact (List.getElem?_eq_some_iff.mp hv').1
  obtain ⟨w,hw,rw'⟩:=rv.get (i:=i) (x:=.bl bs[i]) (by simp [hi])
  rw [hv'] at hw
  cases hw
  cases rw'
  refine wpAny_truthy_bool ?_
  have e:bs.getD i false=bs[i]:=by simp [hi]
  rw [<- e]
  exact hq2
 ·have hk:∀b o,s.heap.get? b=some o->h'.get? b=some o:=fun b o e=>kk b o (fun z=>by
   have z':b=s.heap.objs.size:=by simpa using z
   exact Nat.lt_irrefl _ (z' ▸ Heap.lt_size e)) (Heap.get?_push_of_some _ e)
  refine ⟨.bl (bs.any id),H,I.kept (t':=tk) hk,?_,q⟩
  have e:its.toArray.size=bs.length:=by rw [List.size_toArray,hlen]
  rw [e,range_any]
  rfl
theorem ZgY {K:PySem.W.Frag} (h:X.K=K) (hc:X.calm=true):Ja X (.builtin "any") (fun xs H Q=>∃(p:Addr) (bs:List Bool),xs = [.ref p]/\Zp K H p (bs.map V.bl)/\Q (.bl (bs.any id)) H):=h ▸ Zgn hc
end
def xeS (X:Cx) (R:L2.St->Addr->Hp->Prop):Value->Shared->Prop:=fun e s'=>∃(a T C:Addr) (σ':L2.St) (H':Hp),e = .ref a/\Inv X [] σ' H' s'/\Exc s'.heap a T (.ref C)/\X.s₀.heap.get? a=none/\X.s₀.heap.get? T=none /\
 H' a=none/\H' T=none/\(∀p∈X.pn,p.1≠a/\p.1≠T)/\R σ' C H'
abbrev ES (R:L2.St->Addr->Hp->Prop) (σ:L2.St):XK:=fun c _ H'=>∃C,c = .ref C/\R σ C H'
def ZkR (sp:Sp) (E:L2.St->XK) (t:TA):TE:=fun σ H Q=>t σ H fun vs H1=>sp vs H1 Q (E σ)
section
variable {X:Cx}{pins:List (Addr×Obj)} {σ:L2.St}{H:Hp}{s:Shared}{R:L2.St->Addr->Hp->Prop}
theorem ZmN (hex:X.ex = []):∀(pins:List (Addr×Obj)) (σ:L2.St) (H:Hp) (s:Shared) (e:Value) (s':Shared),Inv (X.wish (xeS X R)) pins σ H s->CX1 X.prog X.w X.stack H s (ES R σ) e s'->xeS X R e s':=by
 intro pins σ H s e s' I c
 obtain ⟨a,T,C,H',rfl,os,bare,un,ok,ex,na,nT,ha,hT,C',hC,hR⟩:=c
 cases hC
 have I0:=I.unwish
 have I':Inv X pins σ H' s':=I0.call' os un ok bare (fun b z=>nomatch z)
 have old:∀b,s.heap.get? b=none->X.s₀.heap.get? b=none:=fun b e=>by
  cases q:X.s₀.heap.get? b with
  | none=>rfl
  | some o=>
   obtain ⟨o',z⟩:=I0.base.there b o q (by rw [hex];exact fun y=>nomatch y)
   rw [e] at z
   cases z
 have pin:∀b,s.heap.get? b=none -> ∀p∈X.pn,p.1≠b:=fun b e p hp z=>by
  have:=(I0.pin p (List.mem_append_left _ hp)).1
  rw [z,e] at this
  cases this
 exact ⟨a,T,C,σ,H',rfl,I'.pins_of (fun p hp=>nomatch hp),ex,old a na,old T nT,ha,hT,fun p hp=>⟨pin a na p hp,pin T nT p hp⟩,hR⟩
theorem ZhP {k:Nat}{x:Str}{ps:List Str}{sp:Sp}{p pos:Pos}{e:Expr}{es:List Expr}{t:TA}{E:L2.St->XK} (h:GF X.prog X.w X.K X.mg X.base k x ps sp) (hr:Ji k X.A) (hx:∀(pins:List (Addr×Obj)) (σ:L2.St) (H:Hp) (s:Shared) (e:Value) (s':Shared),Inv X pins σ H s->CX1 X.prog X.w X.stack H s (E σ) e s'->X.xe e s') (ha:PA X (e::es) t) (hg:Gl X x:=by rfl) (hdb:(x==("__debug__" : Str))=false:=by decide)
  (he:starEach (e::es) X.env=(false,eval e X.env)::starEach es X.env:=by rfl) (hpl:(backTo pos (starEach es X.env)).any (·.1)=false:=by rfl):PE X (.Call (.Name x p) (e::es) [] pos) (ZkR sp E t):=by
 obtain ⟨f,fd,F,hm,hk,hb⟩:=h
 intro pins s σ H Q I h
 refine wpAny_Call_Name_kw (WZ I hg hm ?_ hdb)
 refine PySem.W.callWith_K (h₀:=X.base) I.ok.mod.kin hk (Yq (ha pos pins s σ H _ I h) fun us s1 ⟨vs,H1,I1,r,q⟩=>⟨I1.kIn,?_⟩) he hpl
 have hl:(us ++ []).length=ps.length:=by rw [List.append_nil,<- r.length];exact F.len _ _ _ _ q
 rw [<- List.append_nil vs] at q
 refine wpAny_call (codeAny_mono (F.run X.A X.stack s1 H1 ⟨us,[]⟩ (us ++ []) (vs ++ []) Q (E σ) hr I1.env0 (hb s1 us I1.kIn hl) (r.append .nil) q) fun r s' hq=>?_)
 cases r with
 | error e=>exact hx pins σ H1 s1 e s' I1 hq
 | ok fl=>
  cases fl with
  | ret u=>exact I1.after hq
  | next=>exact False.elim hq
  | brk=>exact False.elim hq
  | cont=>exact False.elim hq
end
theorem Zhv:entryFor table "zip.__getattribute__" = some Builtin.«object.__getattribute__»:=entryFor_alias (id' := "object.__getattribute__") (by kernel_rfl) (by decide +kernel) (by decide +kernel) (by kernel_rfl)
theorem Zj1:typeLookup (.type "zip") "__getattr__" = pure none:=by rw [typeLookup_type,builtinLookup_eq_fast];kernel_rfl
theorem ZeC:typeLookup (.type "zip") "keys" = pure none:=by rw [typeLookup_type,builtinLookup_eq_fast];kernel_rfl
abbrev Zhu (f0 f1:Value) (TI TO:Addr):Obj:={ cls:=.type "zip", dict:=none,data:=.fields #[f0,f1,.bool false,.ref TI,.ref TO],slots:=#[] }
theorem Zjl (a TI TO:Addr) (f0 f1:Value) (u:Tok):Meets (Builtin.«object.__getattribute__» ⟨[.ref a,.str "keys" u],[]⟩) (fun A R s=>s.heap.get? a=some (Zhu f0 f1 TI TO)/\raisesAttr (.ref a) "keys" A R s):=
 .of_wp fun prog w A R ⟨hp,g,d,tk,os⟩ ⟨hx,hn,hr⟩=>by
  have ty:Shared.TypeIs ⟨hp,g,d,tk,os⟩ (.ref a) "zip" := ⟨_,hx,rfl⟩
  have no:=ZeC
  wp_walk
  exact wpAny_raiseAttrError hn hr (attrMsg_fits (by decide +kernel) (by decide))
theorem ZjW {prog:Program}{w:World}{A:Around}{E:Value->Shared->Prop}{s:Shared}{a TI TO:Addr}{f0 f1:Value}{Q:Option Value->Shared->Prop} (hx:s.heap.get? a=some (Zhu f0 f1 TI TO)) (hA:A.handled=none)
  (h:∀h' tk,(∀b o,s.heap.get? b=some o->h'.get? b=some o)->Q none { s with heap:=h',toks:=tk }):wpAny (model prog w) A (getAttr? (.ref a) "keys") Q E s:=by
 obtain ⟨hp,g,d,tk,os⟩:=s
 have ty:∀t,Shared.TypeIs ⟨hp,g,d,t,os⟩ (.ref a) "zip" := fun _=>⟨_,hx,rfl⟩
 have kind:=sub_AttributeError
 have own:=F.slot_zip_getattribute.lookup
 have bound:=F.slot_zip_getattribute.bind (.ref a)
 have hook:=Zj1
 have said:∀{A':Around}{R:Result->Shared->Prop} (t:Nat) (u:Tok),A'.handled=none->(∀h' tk e,Heap.NewAttrErr hp h' e (.ref a) "keys" -> R (.error (.ref e)) ⟨h',g,d,tk,os⟩)->codeAny (model prog w) A' (.call (.builtin "zip.__getattribute__") ⟨[.ref a,.str "keys" u],[]⟩) R ⟨hp,g,d,t,os⟩:=
  fun {A' R} t u hA' k=>codeAny_call_builtin F.slot_zip_getattribute.plain Zhv (F.slot_zip_getattribute.check _ _ _ _ _ _ _ _ (ty t) (F.args_zip_getattribute_2 _ _) (Zjl a TI TO f0 f1 u _ _ A' R _ ⟨hx,hA',k⟩))
 unfold getAttr? getAttrBy? getAttrBy
 wp_walk
 refine said _ _ hA fun h' tk' e new=>?_
 obtain ⟨t',u',there⟩:=new.there
 unfold getattributeRaised
 wp_walk
 exact h _ _ new.1
section
variable {prog:Program}{w:World}{A:Around}{E:Value->Shared->Prop}{s:Shared}
theorem Zel {a:Addr}{Q:Option Obj->Shared->Prop} (h:Q (s.heap.get? a) s):wpAny (model prog w) A (loadIfAlive a) Q E s:=fun Γ p _=>by
 unfold loadIfAlive
 rw [Sem.wp_loadIfAlive]
 exact h
abbrev Zbt (h:Heap) (z TI TO T:Addr) (b:Bool):Prop:=
 h.get? z=some { cls:=.type "zip", dict:=none,data:=.fields #[rawInt T,.bool b,.bool false,.ref TI,.ref TO],slots:=#[] }
theorem Zen {z TI TO T:Addr}{bb:Bool}{oT:Obj}{Q:Bool->Shared->Prop} (hz:Zbt s.heap z TI TO T bb) (hT:s.heap.get? T=some oT)
  (h:∀h₁,Zbt h₁ z TI TO T true->Heap.SameBut z s.heap h₁->Q false { s with heap:=h₁ }):wpAny (model prog w) A (Builtin.SmallTypes.ownedTupleIsFree (.ref z)) Q E s:=by
 unfold Builtin.SmallTypes.ownedTupleIsFree
 wp_walk using Zel,wpAny_field hz rfl rfl
 cases bb with
 | true=>exact wpAny_pure (h s.heap hz ⟨rfl,fun _ _=>rfl⟩)
 | false=>exact wpAny_bind (wpAny_setField_rec hz (by simp) fun h₁ a b=>wpAny_pure (h h₁ a b))
theorem Zic {z TI TO T i1 i2 l1 l2:Addr}{k:Nat}{bb:Bool}{oT:Obj}{xs ys:Array Value}{R:Fin->Shared->Prop} (D:ZipApart z TI TO i1 i2 l1 l2)
  (hz:Zbt s.heap z TI TO T bb) (hT:s.heap.get? T=some oT) (hTI:IsPair s.heap TI (.ref i1) (.ref i2))
  (h1:s.heap.IsListIter i1 l1 k) (h2:s.heap.IsListIter i2 l2 k) (hl1:s.heap.IsList l1 xs) (hl2:s.heap.IsList l2 ys)
  (more:∀x y h',xs[k]? = some x->ys[k]? = some y->Zbt h' z TI TO T true->h'.IsListIter i1 l1 (k+1)->h'.IsListIter i2 l2 (k+1)->IsPair h' s.heap.objs.size x y->h'.objs.size=s.heap.objs.size+1 ->
   (∀c o,c≠z->c≠i1->c≠i2->s.heap.get? c=some o->h'.get? c=some o)->R (.done (.ret (.ref s.heap.objs.size))) { s with heap:=h' })
  (over:xs[k]? = none->A.handled=none /\ ∀h' e,(∀c o,c≠z->c≠i1->s.heap.get? c=some o->h'.get? c=some o)->(∃o,h'.get? e=some o/\o.cls = .type "StopIteration")->E (.ref e) { s with heap:=h' })
  (even:∀x,xs[k]? = some x -> ∃y,ys[k]? = some y):
  wpAny (model prog w) A (Builtin.«zip.__next__» ⟨[.ref z],[]⟩) R E s:=by
 unfold Builtin.«zip.__next__»
 refine wpAny_bind (show wpAny _ _ (pure (Value.ref z,[])) _ _ _ from wpAny_pure ?_)
 dsimp only
 refine wpAny_bind (wpAny_field hz rfl rfl (wpAny_bind (wpAny_field hz rfl rfl (wpAny_bind (wpAny_seqItems hTI rfl ?_)))))
 refine wpAny_bind (Zen hz hT fun h₁ hz₁ hs₁=>?_)
 simp only [Bool.false_eq_true,if_false,List.forIn_toArray,List.forIn_cons,List.forIn_nil]
 have b1:=h1.extBut hs₁.extBut D.i1z
 have b2:=hl1.extBut hs₁.extBut D.l1z
 refine wpAny_bind (wpAny_bind (wpAny_bind (wpAny_holding ?_)))
 show wpAny _ _ (Builtin.SmallTypes.nextOf (.ref i1) >>= fun v=>pure (some v)) _ _ _
 cases hx:xs[k]? with
 | none=>
  obtain ⟨hh,fin⟩:=over hx
  exact wpAny_bind (wpAny_nextOf_list_end hh b1 b2 hx fun h₂ e keep stop=>fin h₂ e (fun c o n1 n2 g=>keep c o n2 (hs₁.extBut c o n1 g)) stop)
 | some x=>
  obtain ⟨y,hy⟩:=even x hx
  refine wpAny_bind (wpAny_nextOf_list_item b1 b2 hx fun h₂ c1 hs₂=>wpAny_pure (wpAny_pure ?_))
  refine wpAny_bind (wpAny_bind (wpAny_holding ?_))
  show wpAny _ _ (Builtin.SmallTypes.nextOf (.ref i2) >>= fun v=>pure (some v)) _ _ _
  refine wpAny_bind (wpAny_nextOf_list_item ((h2.extBut hs₁.extBut D.i2z).extBut hs₂.extBut D.i12.symm) ((hl2.extBut hs₁.extBut D.l2z).extBut hs₂.extBut D.l2i1) hy fun h₃ c2 hs₃=>wpAny_pure (wpAny_pure (wpAny_pure ?_)))
  show wpAny _ _ (newTuple [x,y] >>= ret) _ _ _
  have size:h₃.objs.size=s.heap.objs.size:=hs₃.1.trans (hs₂.1.trans hs₁.1)
  refine wpAny_bind (wpAny_newTuple (wpAny_pure ?_))
  show R (.done (.ret (.ref h₃.objs.size))) _
  rw [size]
  have lay:∀c o,h₃.get? c=some o->(h₃.push { cls:=.type "tuple", data:=.seq #[x,y] }).get? c=some o:=fun c o=>Heap.get?_push_of_some _
  refine more x y _ hx hy (lay _ _ (hs₃.extBut _ _ D.i2z.symm (hs₂.extBut _ _ D.i1z.symm hz₁))) ((c1.extBut hs₃.extBut D.i12).at fun o=>lay _ o) (c2.at fun o=>lay _ o) ?_ (by rw [Heap.size_push,size]) fun c o n1 n2 n3 g=>lay _ _ (hs₃.extBut _ _ n3 (hs₂.extBut _ _ n2 (hs₁.extBut _ _ n1 g)))
  rw [<- size]
  exact Heap.get?_push_size _ rfl
theorem Zgj {z:Addr}{Q:Option Value->Shared->Prop} (ty:s.TypeIs (.ref z) "zip")
  (h:∀E',(∀e s',(∃o,s'.heap.get? e=some o/\o.cls = .type "StopIteration")->Q none s'->E' (.ref e) s') -> ∀A',A'.handled=A.handled->wpAny (model prog w) A' (Builtin.«zip.__next__» ⟨[.ref z],[]⟩) (fun fin s'=>∃v,fin = .done (.ret v)/\wpAny (model prog w) A (pure (some v)) Q E s') E' s):wpAny (model prog w) A (pyNext (.ref z)) Q E s:=by
 unfold pyNext
 refine wpAny_bind (wpAny_attempt (wpAny_callSpecial?_slot (name:=Str.ofString "__next__") ty F.slot_zip_next (wpAny_call_entry F.slot_zip_next ty F.entry_zip_next (h _ (fun e s' ⟨o,g,c⟩ q=>?_) _ rfl) (F.args_zip_next_1 _))))
 exact wpAny_bind (wpAny_isInstance (T := "StopIteration") (b:=true) ⟨o,g,c⟩ isSubtype_stop (wpAny_pure q))
structure ZS (h:Heap) (z TI TO i1 i2 l1 l2:Addr) (k:Nat):Prop where
 zp:(IsZip h z TI TO .none /\ ∃a b,IsPair h TO a b) ∨ ∃T b o,Zbt h z TI TO T b/\h.get? T=some o/\o.cls = .type "tuple" /\ T≠z/\T≠TO/\T≠i1/\T≠i2
 ti:IsPair h TI (.ref i1) (.ref i2)
 j1:h.IsListIter i1 l1 k
 j2:h.IsListIter i2 l2 k
theorem ZS.keep {h h':Heap}{z TI TO i1 i2 l1 l2:Addr}{k:Nat} (x:ZS h z TI TO i1 i2 l1 l2 k) (kk:∀c o,h.get? c=some o->o.cls ≠ .type "dict" -> h'.get? c=some o):ZS h' z TI TO i1 i2 l1 l2 k:=by
 refine ⟨?_,kk _ _ x.ti (by show Value.type "tuple" ≠ _;decide),?_,?_⟩
 ·rcases x.zp with ⟨a,p,q,b⟩ | ⟨T,b,o,a,c,d,e⟩
  ·exact .inl ⟨kk _ _ a (by show Value.type "zip" ≠ _;decide),p,q,kk _ _ b (by show Value.type "tuple" ≠ _;decide)⟩
  ·exact .inr ⟨T,b,o,kk _ _ a (by show Value.type "zip" ≠ _;decide),kk _ _ c (by rw [d];decide),d,e⟩
 ·obtain ⟨o,ho,hc,r⟩:=x.j1
  exact ⟨o,kk _ _ ho (by rw [hc];decide),hc,r⟩
 ·obtain ⟨o,ho,hc,r⟩:=x.j2
  exact ⟨o,kk _ _ ho (by rw [hc];decide),hc,r⟩
theorem Zja {z TI TO i1 i2 l1 l2:Addr}{k:Nat}{xs ys:Array Value}{x y:Value}{Q:Option Value->Shared->Prop} (D:ZipApart z TI TO i1 i2 l1 l2) (Z:ZS s.heap z TI TO i1 i2 l1 l2 k)
  (hl1:s.heap.IsList l1 xs) (hl2:s.heap.IsList l2 ys) (hx:xs[k]? = some x) (hy:ys[k]? = some y)
  (hQ:∀h',ZS h' z TI TO i1 i2 l1 l2 (k+1)->IsPair h' s.heap.objs.size x y->h'.objs.size=s.heap.objs.size+1->(∀c o,c≠z->c≠TO->c≠i1->c≠i2->s.heap.get? c=some o->h'.get? c=some o)->Q (some (.ref s.heap.objs.size)) { s with heap:=h' }):
  wpAny (model prog w) A (pyNext (.ref z)) Q E s:=by
 have lt:∀{c:Addr}{o:Obj},s.heap.get? c=some o->s.heap.objs.size≠c:=fun e=>Ne.symm (Nat.ne_of_lt (Heap.lt_size e))
 have n1:s.heap.objs.size≠i1:=by obtain ⟨o,ho,_⟩:=Z.j1;exact lt ho
 have n2:s.heap.objs.size≠i2:=by obtain ⟨o,ho,_⟩:=Z.j2;exact lt ho
 rcases Z.zp with ⟨hz,a,b,hTO⟩ | ⟨T,b,o,hz,hT,hc,t1,t2,t3,t4⟩
 ·exact wpAny_pyNext_zip_item D hz Z.ti hTO Z.j1 Z.j2 hl1 hl2 hx hy fun h' a1 a2 a3 a4 a5 a6 a7=>
   hQ h' ⟨.inr ⟨s.heap.objs.size,false,_,a1,a5,rfl,lt hz,lt hTO,n1,n2⟩,a7 _ _ D.TIz D.TITO D.TIi1 D.TIi2 Z.ti,a3,a4⟩ a5 a6 a7
 ·refine Zgj ⟨_,hz,rfl⟩ fun E' _ A' _=>Zic D hz hT Z.ti Z.j1 Z.j2 hl1 hl2 (fun x' y' h' e1 e2 a1 a3 a4 a5 a6 a7=>⟨_,rfl,wpAny_pure ?_⟩) (fun e=>by rw [hx] at e;cases e) (fun _ _=>⟨y,hy⟩)
  rw [hx] at e1
  rw [hy] at e2
  cases e1
  cases e2
  exact hQ h' ⟨.inr ⟨T,true,o,a1,a7 _ _ t1 t3 t4 hT,hc,t1,t2,t3,t4⟩,a7 _ _ D.TIz D.TIi1 D.TIi2 Z.ti,a3,a4⟩ a5 a6 fun c o c1 _ c3 c4 e=>a7 c o c1 c3 c4 e
theorem ZlW {z TI TO i1 i2 l1 l2:Addr}{k:Nat}{xs ys:Array Value}{Q:Option Value->Shared->Prop} (hh:A.handled=none) (D:ZipApart z TI TO i1 i2 l1 l2) (Z:ZS s.heap z TI TO i1 i2 l1 l2 k)
  (hl1:s.heap.IsList l1 xs) (hl2:s.heap.IsList l2 ys) (hx:xs[k]? = none)
  (hQ:∀h',(∀c o,c≠z->c≠TO->c≠i1->c≠i2->s.heap.get? c=some o->h'.get? c=some o)->Q none { s with heap:=h' }):
  wpAny (model prog w) A (pyNext (.ref z)) Q E s:=by
 rcases Z.zp with ⟨hz,a,b,hTO⟩ | ⟨T,b,o,hz,hT,hc,t1,t2,t3,t4⟩
 ·exact wpAny_pyNext_zip_end hh D hz Z.ti hTO Z.j1 Z.j2 hl1 hl2 (.inl hx) hQ
 ·exact Zgj ⟨_,hz,rfl⟩ fun E' out A' hA=>Zic D hz hT Z.ti Z.j1 Z.j2 hl1 hl2 (fun x' y' h' e1=>by rw [hx] at e1;cases e1) (fun _=>⟨hA.trans hh,fun h' e keep stop=>out e _ stop (hQ h' fun c o c1 _ c3 _ g=>keep c o c1 c3 g)⟩) (fun x' e=>by rw [hx] at e;cases e)
end
theorem ZdJ:entryFor table "dict.update.loop" = some Builtin.«dict.update.loop»:=entryFor_of_tree (by kernel_rfl)
theorem Zal:plainId "dict.update.loop" = true:=by decide +kernel
def ZhK (kvs:List (Key×Value)) (ps:List (Key×Value)):List (Key×Value):=ps.foldl (fun a p=>stored a p.1 p.2) kvs
section
variable {prog:Program}{w:World}{A:Around}{R:Result->Shared->Prop}
theorem Zk2 {E:Value->Shared->Prop}{s:Shared}{d:Addr}{kvs:List (Key×Value)}{k:Int}{t:Tok}{v:Value}{Q:Unit->Shared->Prop} (hm:s.heap.DictOf (ZQ prog w) d kvs) (hsz:kvs.length<=sizeLine)
  (hQ:∀h',h'.DictOf (ZQ prog w) d (stored kvs (Sum.inl k) v)->Heap.SameBut d s.heap h'->Q () { s with heap:=h',toks:=s.toks+1 }):wpAny (model prog w) A (dictSet d (.int k t) v) Q E s:=by
 unfold dictSet
 try with_reducible refine wpAny_holding ?_
 refine wpAny_bind (wpAny_pyHash_int ?_)
 exact wpAny_dictSetHashed_pairs (knd:=ZQ prog w) (k:=Sum.inl k) (by show Value.isInt k (.int k t)=true;simp [Value.isInt]) (s:={ s with toks:=s.toks+1 }) hm hQ hsz
theorem Zje {z TI TO i1 i2 l1 l2 d:Addr}{xs ys:Array Value}{ps:List (Key×Value)} (D:ZipApart z TI TO i1 i2 l1 l2) (hh:A.handled=none) (hn:xs.size=ys.size) (hz:xs.size<=100000)
  (hp:ps.length=xs.size) (hps:∀(i:Nat) (k:Key) (v:Value),ps[i]? = some (k,v) -> ∃(a:Int) (t:Tok),k=Sum.inl a/\xs[i]? = some (Value.int a t)/\ys[i]? = some v)
  (dz:d≠z/\d≠TO/\d≠i1/\d≠i2/\l1≠d/\l2≠d):
  ∀(m k:Nat) (s:Shared) (kvs:List (Key×Value)),m+k=xs.size->ZS s.heap z TI TO i1 i2 l1 l2 k->s.heap.IsList l1 xs->s.heap.IsList l2 ys->s.heap.DictOf (ZQ prog w) d kvs->kvs.length<=k ->
   (∀h' tk,h'.DictOf (ZQ prog w) d (ZhK kvs (ps.drop k))->(∀c o,c≠z->c≠TO->c≠i1->c≠i2->c≠d->s.heap.get? c=some o->h'.get? c=some o)->R (.ok (.ret .none)) { s with heap:=h',toks:=tk }) ->
   codeAny (model prog w) A (.builtin "dict.update.loop" ⟨[.ref d,.ref z,rawInt (k:Int),.none],[]⟩) R s:=by
 intro m
 induction m with
 | zero=>
  intro k s kvs hk Z hl1 hl2 hd hlen fin
  refine codeAny_builtin ZdJ ?_
  rw [Around.under_plainId Zal _]
  show wpAny _ A.in1 (pyNext (.ref z) >>= _) _ _ s
  refine wpAny_bind (ZlW (A:=A.in1) hh D Z hl1 hl2 (by rw [Array.getElem?_eq_none];lia) fun h' kk=>?_)
  refine wpAny_pure ?_
  have e:ps.drop k = []:=List.drop_eq_nil_of_le (by lia)
  rw [e] at fin
  refine fin h' s.toks ?_ fun c o c1 c2 c3 c4 _ x=>kk c o c1 c2 c3 c4 x
  obtain ⟨o,es,ep,ho,r⟩:=hd
  exact ⟨o,es,ep,kk _ _ dz.1 dz.2.1 dz.2.2.1 dz.2.2.2.1 ho,r⟩
 | succ m ih=>
  intro k s kvs hk Z hl1 hl2 hd hlen fin
  refine codeAny_builtin ZdJ ?_
  rw [Around.under_plainId Zal _]
  show wpAny _ A.in1 (pyNext (.ref z) >>= _) _ _ s
  obtain ⟨⟨pk,pv⟩,hpk⟩:∃p,ps[k]? = some p:=⟨ps[k]'(by lia),by simp⟩
  obtain ⟨a,t,rfl,hx,hy⟩:=hps k pk pv hpk
  refine wpAny_bind (Zja (A:=A.in1) D Z hl1 hl2 hx hy fun h' Z' hpair hsz kk=>?_)
  refine wpAny_bind (wpAny_holding ?_)
  refine wpAny_bind (wpAny_tryCatch ?_)
  unfold Builtin.Dict.pairItems
  refine wpAny_bind (wpAny_typeOf (T := "tuple") ⟨_,hpair,rfl⟩ ?_)
  refine wpAny_ite ?_
  rw [if_pos (by decide)]
  refine wpAny_bind (wpAny_seqItems hpair rfl ?_)
  refine wpAny_pure ?_
  show wpAny _ _ (holding [.int a t,pv] (dictSet d (.int a t) pv)) _ _ _
  have hd':h'.DictOf (ZQ prog w) d kvs:=by
   obtain ⟨o,es,ep,ho,r⟩:=hd
   exact ⟨o,es,ep,kk _ _ dz.1 dz.2.1 dz.2.2.1 dz.2.2.2.1 ho,r⟩
  have lst:∀{h h2:Heap}{l:Addr}{zs:Array Value},h.IsList l zs->(∀o,h.get? l=some o->h2.get? l=some o)->h2.IsList l zs:=fun {h h2 l zs} q k=>by
   obtain ⟨o,ho,r⟩:=q
   exact ⟨o,k o ho,r⟩
  refine wpAny_holding (Zk2 (s:={ s with heap:=h' }) hd' (by rw [sizeLine_eq];lia) fun h2 hd2 sb=>?_)
  refine wpAny_pure ⟨plainId_quiet Zal _,?_⟩
  have hk2:∀c o,c≠z->c≠TO->c≠i1->c≠i2->c≠d->s.heap.get? c=some o->h2.get? c=some o:=fun c o c1 c2 c3 c4 c5 e=>sb.extBut _ _ c5 (kk c o c1 c2 c3 c4 e)
  have e:((k:Int)+1)=((k+1:Nat):Int):=by lia
  rw [e]
  have e2:ps.drop k=(Sum.inl a,pv)::ps.drop (k+1):=by
   obtain ⟨h1,h3⟩:=List.getElem?_eq_some_iff.mp hpk
   rw [<- h3]
   exact List.drop_eq_getElem_cons h1
  refine ih (k+1) { s with heap:=h2,toks:=s.toks+1 } _ (by lia) (Z'.keep fun c o e nd=>sb.extBut _ _ (fun q=>?_) e) (lst hl1 fun o e=>hk2 _ o D.l1z D.l1TO D.l1i1 D.l1i2 dz.2.2.2.2.1 e) (lst hl2 fun o e=>hk2 _ o D.l2z D.l2TO D.l2i1 D.l2i2 dz.2.2.2.2.2 e) hd2 ?_ fun h3 tk hd3 k3=>?_
  ·obtain ⟨o',es,ep,ho,hc,_⟩:=hd'
   rw [q,ho] at e
   cases e
   exact nd hc.1
  ·have:=stored_length_le kvs (Sum.inl a:Key) pv
   lia
  ·refine fin h3 tk ?_ fun c o c1 c2 c3 c4 c5 e=>k3 c o c1 c2 c3 c4 c5 (hk2 c o c1 c2 c3 c4 c5 e)
   rw [e2]
   exact hd3
theorem Zjr {z TI TO i1 i2 l1 l2:Addr}{E:Value->Shared->Prop}{s:Shared}{xs ys:Array Value}{ps:List (Key×Value)}{Q:Value->Shared->Prop} (D:ZipApart z TI TO i1 i2 l1 l2) (hh:A.handled=none) (hn:xs.size=ys.size) (hz:xs.size<=100000)
  (hp:ps.length=xs.size) (hps:∀(i:Nat) (k:Key) (v:Value),ps[i]? = some (k,v) -> ∃(a:Int) (t:Tok),k=Sum.inl a/\xs[i]? = some (Value.int a t)/\ys[i]? = some v)
  (hzp:IsZip s.heap z TI TO .none) (hTI:IsPair s.heap TI (.ref i1) (.ref i2)) (hTO:∃a b,IsPair s.heap TO a b) (h1:s.heap.IsListIter i1 l1 0) (h2:s.heap.IsListIter i2 l2 0) (hl1:s.heap.IsList l1 xs) (hl2:s.heap.IsList l2 ys)
  (h:∀h' tk,h'.DictOf (ZQ prog w) s.heap.objs.size (ZhK [] ps)->(∀c o,c≠z->c≠TO->c≠i1->c≠i2->s.heap.get? c=some o->h'.get? c=some o)->Q (.ref s.heap.objs.size) { s with heap:=h',toks:=tk }):
  wpAny (model prog w) A (call (.type "dict") [.ref z]) Q E s:=by
 refine callType_codes (Q₁:=fun obj s₁=>obj = .ref s.heap.objs.size/\s₁ = { s with heap:=s.heap.push { cls:=.type "dict", data:=.dict #[] } }) F.kt_called_dict (F.kt_typeCall_dict_1 _) F.entry_dict_init (kt_code_dict_new _ ⟨rfl,rfl⟩) ?_
 rintro obj s₁ ⟨rfl,rfl⟩
 have hnew:(s.heap.push { cls:=.type "dict", data:=.dict #[] }).DictOf (ZQ prog w) s.heap.objs.size []:=Heap.DictOf.new s.heap
 have up:∀c o,s.heap.get? c=some o->(s.heap.push { cls:=.type "dict", data:=.dict #[] }).get? c=some o:=fun c o e=>Heap.get?_push_of_some _ e
 refine ⟨hnew.typeIs,F.args_dict_init_2 _ _,?_⟩
 unfold Builtin.«dict.__init__»
 refine wpAny_bind ?_
 unfold Builtin.Dict.selfAndRest
 refine wpAny_bind (wpAny_notOrdered_dict hnew.typeIs ?_)
 show wpAny _ _ (pure (s.heap.objs.size,[Value.ref z])) _ _ _
 refine wpAny_pure ?_
 show wpAny _ _ (Builtin.Dict.updateFrom "dict.__init__" s.heap.objs.size (.ref z) [] .none) _ _ _
 unfold Builtin.Dict.updateFrom
 refine wpAny_bind (wpAny_typeOf (T := "zip") ⟨_,up _ _ hzp,rfl⟩ ?_)
 rw [if_pos (by decide)]
 refine wpAny_bind (ZjW (up _ _ hzp) hh fun h' tk kk=>?_)
 rw [if_pos (by rfl)]
 refine wpAny_bind (wpAny_rule ?_)
 refine wpAny_bind (wpAny_pyIter_zip (kk _ _ (up _ _ hzp)) ?_)
 have U:∀c o,s.heap.get? c=some o->h'.get? c=some o:=fun c o e=>kk c o (up c o e)
 have lt:∀{c:Addr}{o:Obj},s.heap.get? c=some o->s.heap.objs.size≠c:=fun e=>Ne.symm (Nat.ne_of_lt (Heap.lt_size e))
 obtain ⟨ta,tb,hto⟩:=hTO
 have n1:s.heap.objs.size≠i1:=by obtain ⟨o,ho,_⟩:=h1;exact lt ho
 have n2:s.heap.objs.size≠i2:=by obtain ⟨o,ho,_⟩:=h2;exact lt ho
 have n3:l1≠s.heap.objs.size:=by obtain ⟨o,ho,_⟩:=hl1;exact (lt ho).symm
 have n4:l2≠s.heap.objs.size:=by obtain ⟨o,ho,_⟩:=hl2;exact (lt ho).symm
 have cp:∀{l:Addr}{zs:Array Value},s.heap.IsList l zs->h'.IsList l zs:=fun {l zs} q=>by obtain ⟨o,ho,r⟩:=q;exact ⟨o,U _ _ ho,r⟩
 have ci:∀{i l:Addr}{k:Nat},s.heap.IsListIter i l k->h'.IsListIter i l k:=fun {i l k} q=>by obtain ⟨o,ho,r⟩:=q;exact ⟨o,U _ _ ho,r⟩
 have hd':h'.DictOf (ZQ prog w) s.heap.objs.size []:=by
  obtain ⟨o,es,ep,ho,r⟩:=hnew
  exact ⟨o,es,ep,kk _ _ ho,r⟩
 refine wpAny_pure ⟨plainId_quiet Zal _,?_⟩
 refine Zje (A:=A.in1) D hh hn hz hp hps ⟨lt hzp,lt hto,n1,n2,n3,n4⟩ xs.size 0 _ [] rfl ⟨.inl ⟨U _ _ hzp,ta,tb,U _ _ hto⟩,U _ _ hTI,ci h1,ci h2⟩ (cp hl1) (cp hl2) hd' (Nat.le_refl _) fun h3 tk3 d3 k3=>?_
 exact ⟨rfl,h h3 tk3 d3 fun c o c1 c2 c3 c4 e=>k3 c o c1 c2 c3 c4 (lt e).symm (U c o e)⟩
end
def WK (acc:List (Key×V)) (ps:List (Int×V)):List (Key×V):=ps.foldl (fun a p=>putK a (Sum.inl p.1) p.2) acc
def tDz (K:PySem.W.Frag) (ta:TA):TE:=fun σ H Q=>ta σ H fun vs H1=>∃(a b:Addr) (ns:List Int) (ys:List V),vs = [.ref a,.ref b]/\Zp K H1 a (ns.map V.int)/\Zp K H1 b ys/\ns.length=ys.length/\ns.length<=100000 /\ ∀D,H1 D=none->Q (.ref D) (upd H1 D (.dK (WK [] (ns.zip ys))))
theorem Zfv:∀{ns:List Int}{ys:List V}{us vs:List Value}{acc:List (Key×V)}{acc':List (Key×Value)},Vals (ns.map V.int) us->Vals ys vs->KV acc acc'->KV (WK acc (ns.zip ys)) (ZhK acc' ((ns.map fun n=>(Sum.inl n:Key)).zip vs))
 | [],_,_,_,_,_,_,_,r=>r
 | n::ns,[],_,_,_,_,_,h,r=>by cases h;exact r
 | n::ns,y::ys,_,_,_,_,h1,h2,r=>by
  cases h1 with
  | cons a1 t1=>
   cases h2 with
   | cons a2 t2=>exact Zfv (ns:=ns) (ys:=ys) t1 t2 (r.put (Sum.inl n) a2)
theorem Zca:∀(ps:List (Int×V)) (acc:List (Key×V)),(WK acc ps).length<=acc.length+ps.length
 | [],acc=>Nat.le_refl _
 | p::ps,acc=>by
  have h1:=Zca ps (putK acc (Sum.inl p.1) p.2)
  have h2:=Gp acc (Sum.inl p.1:Key) p.2
  show (WK (putK acc (Sum.inl p.1) p.2) ps).length<=_
  rw [List.length_cons];lia
section
variable {X:Cx}
theorem ZcJ:∀{xs:List V}{us:List Value}{i:Nat}{x:V},Vals xs us->xs[i]? = some x -> ∃u,us[i]? = some u/\RelV x u
 | _,_,_,_,.nil,h=>by simp at h
 | _,_,0,_,.cons r _,h=>by simp at h;subst h;exact ⟨_,rfl,r⟩
 | _,_,i+1,x,.cons _ t,h=>by
  obtain ⟨b,h1,h2⟩:=ZcJ (i:=i) (x:=x) t (by simpa using h)
  exact ⟨b,by simpa using h1,h2⟩
theorem Zez {K:PySem.W.Frag}{a b:Expr}{ta:TA}{p p2 pos pos2:Pos} (hK:X.K=K) (hc:X.calm=true) (hgd:Gl X "dict") (hmd:X.mg "dict" = none) (hgz:Gl X "zip") (hmz:X.mg "zip" = none) (ha:PA X [a,b] ta)
  (hs:starEach [a,b] X.env = [(false,eval a X.env),(false,eval b X.env)]:=by rfl) (hs2:starEach [b] X.env = [(false,eval b X.env)]:=by rfl)
  (he:starEach [Expr.Call (.Name "zip" p2) [a,b] [] pos2] X.env=(false,eval (Expr.Call (.Name "zip" p2) [a,b] [] pos2) X.env)::starEach [] X.env:=by rfl) (hpl:(backTo pos (starEach [] X.env)).any (·.1)=false:=by rfl):
  PE X (.Call (.Name "dict" p) [.Call (.Name "zip" p2) [a,b] [] pos2] [] pos) (tDz K ta):=by
 subst hK
 intro pins s σ H Q I h
 refine wpAny_Call_Name_kw (Wq I hgd hmd boot_dict ?_ (by decide) (by decide))
 refine PyProof.Rows.callWith_type1 ?_ he hpl
 rw [he]
 show wpAny _ _ (spliced ((false,eval (Expr.Call (.Name "zip" p2) [a,b] [] pos2) X.env)::backTo pos (starEach [] X.env))) _ _ s
 refine Calls.spliced_cons ?_
 refine Call_ (Wq I hgz hmz boot_zip (PyProof.Rows.callWith_type1 (Yq (ha pos2 pins s σ H _ I h) fun us s1 ⟨vs,H1,I1,r1,q1⟩=>?_) (by rw [hs,hs2]) (by rw [hs2];rfl)))
 obtain ⟨l1,l2,ns,ys,e,hq1,hq2,hl,hz,q⟩:=q1
 subst e
 obtain ⟨u,v,rfl,ru,rv⟩:=r1.two
 cases ru
 cases rv
 obtain ⟨its1,rv1,p1,hz1⟩:=I1.list hq1
 obtain ⟨its2,rv2,p2',hz2⟩:=I1.list hq2
 have L1:@LT.lt Nat _ l1 s1.heap.objs.size:=by obtain ⟨o,ho,_⟩:=p1.isList;exact aLt ho
 have L2:@LT.lt Nat _ l2 s1.heap.objs.size:=by obtain ⟨o,ho,_⟩:=p2'.isList;exact aLt ho
 refine call_zip_2 p1.isList p2'.isList fun h' g1 g2 g3 g4 g5 hsz kk=>?_
 have ap:ZipApart (s1.heap.objs.size+4) (s1.heap.objs.size+2) (s1.heap.objs.size+3) s1.heap.objs.size (s1.heap.objs.size+1) l1 l2:=by
  constructor<;>(intro e;have e':@Eq Nat _ _:=e;lia)
 refine Calls.spliced_nil ?_
 have le1:its1.length=ns.length:=by rw [<- rv1.length,List.length_map]
 have le2:its2.length=ys.length:=rv2.length.symm
 have hb:@LT.lt Nat _ sysModules h'.objs.size:=by have:@LT.lt Nat _ sysModules s1.heap.objs.size:=I1.big;rw [hsz];lia
 have cp:∀{l:Addr}{zs:Array Value},s1.heap.IsList l zs->h'.IsList l zs:=fun {l zs} q=>by obtain ⟨o,ho,r⟩:=q;exact ⟨o,kk _ _ ho,r⟩
 refine Zjr (s:={ s1 with heap:=h' }) (ps:=(ns.map fun n=>(Sum.inl n:Key)).zip its2) ap (I1.ok.hd hc) (by simp;lia) (by simp;lia) (by simp;lia) (fun i k v hi=>?_) g1 g2 ⟨_,_,g3⟩ g4 g5 (cp p1.isList) (cp p2'.isList) fun h2 tk hd k2=>?_
 ·obtain ⟨e1,e2⟩:=List.getElem?_zip_eq_some.mp hi
  rw [List.getElem?_map] at e1
  obtain ⟨a,ha',rfl⟩:=Option.map_eq_some_iff.mp e1
  obtain ⟨u,hu,t,rfl⟩:=ZcJ rv1 (i:=i) (x:=.int a) (by rw [List.getElem?_map,ha'];rfl)
  exact ⟨a,t,rfl,by simpa using hu,by simpa using e2⟩
 ·have keep:∀c o,s1.heap.get? c=some o->h2.get? c=some o:=fun c o e=>by
   have lt:@LT.lt Nat _ c s1.heap.objs.size:=aLt e
   refine k2 c o ?_ ?_ ?_ ?_ (kk c o e)<;>(intro e;have e':@Eq Nat _ _:=e;lia)
  have le:@LE.le Nat _ s1.heap.objs.size h'.objs.size:=by rw [hsz];lia
  refine ⟨.ref h'.objs.size,_,I1.laid (a:=h'.objs.size) (o:=.dK (WK [] (ns.zip ys))) (h':=h2) (t':=tk) keep le (ZiO ?_ (beq_eq_false_iff_ne.mpr (Ne.symm (Nat.ne_of_lt hb))) (Zfv rv1 rv2 .nil) hd),rfl,q _ (I1.hok.fresh le)⟩
  have:=Zca (ns.zip ys) []
  rw [List.length_zip,List.length_nil] at this
  rw [sizeLine_eq];lia
end
section
variable {prog:Program}{w:World}{A:Around}{E:Value->Shared->Prop}{s:Shared}
theorem Uu {it t:Addr}{i:Nat}{items:Array Value}{Q:Value->Shared->Prop} (hit:s.heap.IsTupleIter it t i) (ht:s.heap.IsTuple t items)
  (more:∀x h',items[i]? = some x->h'.IsTupleIter it t (i+1)->Heap.SameBut it s.heap h'->Q x { s with heap:=h' })
  (over:items[i]? = none->A.handled=none /\ ∀h' e,Heap.ExtBut it s.heap h'->(∃o,h'.get? e=some o/\o.cls = .type "StopIteration")->E (.ref e) { s with heap:=h' }):
  wpAny (model prog w) A (Builtin.SmallTypes.nextOf (.ref it)) Q E s:=by
 have ty:=hit.typeIs
 obtain ⟨⟨c,dc,da,sl⟩,ho,hc,hd⟩:=hit
 obtain ⟨⟨c',dc',da',sl'⟩,hol,hc',n,hdl⟩:=ht
 subst hc hd hc' hdl
 unfold Builtin.SmallTypes.nextOf
 refine wpAny_bind (wpAny_callSpecial?_slot (name:=Str.ofString "__next__") ty F.slot_tuple_iterator_next (wpAny_call_entry F.slot_tuple_iterator_next ty F.entry_tuple_iterator_next ?_ (F.args_tuple_iterator_next_1 _)))
 unfold Builtin.«tuple_iterator.__next__»
 wp_walk using wpAny_field ho rfl rfl,wpAny_seqItems hol rfl
 rw [Int.toNat_natCast]
 cases hx:items[i]? with
 | some x=>
  refine wpAny_bind (wpAny_setField ho rfl (by simp) (wpAny_pure ⟨x,rfl,wpAny_pure (more x _ hx ⟨_,Heap.get?_update_self _ ho rfl,rfl,?_⟩ (Heap.SameBut.update ..))⟩))
  simp [Obj.mapFields,rawInt]
 | none=>
  obtain ⟨hh,fin⟩:=over hx
  refine wpAny_bind (wpAny_rule (wpAny_bind (wpAny_setField ho rfl (by simp) ?_)))
  unfold Builtin.SmallTypes.stopIteration
  wp_walk
  unfold raiseNew
  refine wpAny_bind (wpAny_handled ?_)
  rw [show A.in1.handled=none from hh]
  exact wpAny_bind (wpAny_pure (wpAny_throw (fin _ _ (((Heap.SameBut.update ..).extBut.push _).push _) ⟨_,Heap.get?_push_size _ rfl,rfl⟩)))
end
theorem ZgJ {prog:Program}{w:World}{A:Around} (hh:A.handled=none) (it l:Addr) (hne:l≠it) (items:Array Value):
  Draws prog w A it [it,l] items.size (fun i v=>items[i]? = some v) (fun i h=>h.IsTupleIter it l i/\h.IsTuple l items) where
 live:=fun i h ⟨⟨o,ho,_⟩,_⟩=>⟨o,ho⟩
 frame:=fun i h h' ⟨⟨o,ho,r⟩,o',ho',r'⟩ k=>⟨⟨o,k it (by simp) o ho,r⟩,o',k l (by simp) o' ho',r'⟩
 item:=fun i s Q E hi st hQ=>Uu st.1 st.2 (fun x h' hx hit sb=>hQ x h' s.toks hx ⟨hit,st.2.extBut sb.extBut hne⟩ sb) (fun z=>by rw [Array.getElem?_eq_getElem hi] at z;cases z)
 done:=fun s Q E st hE=>Uu st.1 st.2 (fun x h' hx=>by rw [Array.getElem?_eq_none (Nat.le_refl _)] at hx;cases hx) (fun _=>⟨hh,hE⟩)
open AutoSeq1 (wpAny_loadPart') in
theorem Zgq (l:Addr) (o:Obj) (items:Array Value) (n:Nat) (hc:o.cls = .type "tuple") (hd:o.data = .seq items n):
  Meets (Builtin.«enumerate.__new__» ⟨[.type "enumerate", .ref l],[]⟩) (fun _ R s=>s.heap.get? l=some o /\
   R (.ok (.ret (.ref (s.heap.push { cls:=.type "tuple_iterator", data:=.fields #[.ref l,.int 0 0] }).objs.size)))
    { s with heap:=(s.heap.push { cls:=.type "tuple_iterator", data:=.fields #[.ref l,.int 0 0] }).push { cls:=.type "enumerate", data:=.fields #[.none,.bool false,.ref s.heap.objs.size,rawInt 0,.none,.none] } }):=
 .of_wp fun prog w A R ⟨hp,g,d,tk,os⟩ ⟨hl,k⟩=>by
  have sub:=sub_enumerate
  have tup:Heap.IsTuple hp l items:=⟨_,hl,hc,n,hd⟩
  wp_walk using wpAny_loadPart' hl
  refine wpAny_stack_any fun st=>wpAny_pure ?_
  split
  rename_i c _ _ _ _ _
  cases (c==Value.type "enumerate")
  all_goals
   wp_walk using wpAny_loadPart' hl,wpAny_pyIter_tuple tup
   exact ⟨_,rfl,k⟩
section
variable {prog:Program}{w:World}{A:Around}{E:Value->Shared->Prop}{s:Shared}
theorem ZeX {l:Addr}{items:Array Value}{Q:Value->Shared->Prop} (hL:s.heap.IsTuple l items)
  (h:∀h',IsEnum h' (s.heap.objs.size+1) s.heap.objs.size 0 .none->h'.IsTupleIter s.heap.objs.size l 0->h'.IsTuple l items->h'.objs.size=s.heap.objs.size+2 ->
   (∀b o,s.heap.get? b=some o->h'.get? b=some o)->Q (.ref (s.heap.objs.size+1)) { s with heap:=h' }):
  wpAny (model prog w) A (call (.type "enumerate") [.ref l]) Q E s:=by
 obtain ⟨o,hl,hc,n,hd⟩:=id hL
 refine callType_new F.called_enumerate (by decide) (F.typeCall_enumerate_1 _) (F.newCall_enumerate_1 _) (fun obj=>F.args_object_init_2 obj _) F.entry_enumerate_new (Zgq l o items n hc hd) ⟨hl,?_⟩
 obtain ⟨h1,e1⟩:∃h1,s.heap.push { cls:=.type "tuple_iterator", data:=.fields #[.ref l,.int 0 0] } = h1:=⟨_,rfl⟩
 have z1:h1.objs.size=s.heap.objs.size+1:=by rw [<- e1];exact Heap.size_push ..
 have g1:h1.get? s.heap.objs.size=some { cls:=.type "tuple_iterator", data:=.fields #[.ref l,.int 0 0] }:=by rw [<- e1];exact Heap.get?_push_size _ rfl
 have k1:∀b o,s.heap.get? b=some o->h1.get? b=some o:=fun b o e=>by rw [<- e1];exact Heap.get?_push_of_some _ e
 show _/\_
 rw [e1]
 obtain ⟨h2,e2⟩:∃h2,h1.push { cls:=.type "enumerate", data:=.fields #[.none,.bool false,.ref s.heap.objs.size,rawInt 0,.none,.none] } = h2:=⟨_,rfl⟩
 have he:IsEnum h2 (s.heap.objs.size+1) s.heap.objs.size 0 .none:=by rw [<- e2,<- z1];exact Heap.get?_push_size _ rfl
 have k2:∀b o,h1.get? b=some o->h2.get? b=some o:=fun b o e=>by rw [<- e2];exact Heap.get?_push_of_some _ e
 rw [e2,z1]
 exact ⟨⟨_,he,rfl⟩,h h2 he ⟨_,k2 _ _ g1,rfl,rfl⟩ ⟨o,k2 _ _ (k1 _ _ hl),hc,n,hd⟩ (by rw [<- e2,Heap.size_push,z1]) fun b o e=>k2 _ _ (k1 _ _ e)⟩
end
theorem Ze7 {prog:Program}{w:World}{A:Around} (hh:A.handled=none) (it l:Addr) (items:Array Value) (n:Nat) (hx:items[n]? = none):
  Draws prog w A it [it,l] n (fun _ _=>True) (fun i h=>i=n/\h.IsTupleIter it l n/\h.IsTuple l items) where
 live:=fun i h ⟨_,⟨o,ho,_⟩,_⟩=>⟨o,ho⟩
 frame:=fun i h h' ⟨e,⟨o,ho,r⟩,o',ho',r'⟩ k=>⟨e,⟨o,k it (by simp) o ho,r⟩,o',k l (by simp) o' ho',r'⟩
 item:=fun i s Q E hi st hQ=>absurd st.1 (Nat.ne_of_lt hi)
 done:=fun s Q E st hE=>Uu st.2.1 st.2.2 (fun x h' q=>by rw [hx] at q;cases q) (fun _=>⟨hh,hE⟩)
def ZiX (K:PySem.W.Frag) (a:Addr):It:=
 ⟨fun i H=>∃xs x,Gh K H a xs/\xs[i]? = some x,fun i H v H'=>∃p x,v = .ref p/\H p=none/\H'=upd H p (.tup [.int i,x]) /\ ∀xs,Gh K H a xs->xs[i]? = some x,fun i H=>∃xs,Gh K H a xs/\xs.length<=i⟩
theorem Zew {P:Program}{w:World}{K:PySem.W.Frag}{es:List Expr}{k:Nat}{pos:Pos} (a e it:Addr) (hei:e≠it):
  Turn P w K (.Tuple es k pos) (ZiX K a) [e,it] e (fun i h=>(∃old,IsEnum h e it i old)/\h.IsTupleIter it a i) where
 mem:=by simp
 obj:=fun i h st b hb=>by
  obtain ⟨⟨old,he⟩,o,ho,c,d⟩:=st
  rcases List.mem_cons.mp hb with z | z
  ·subst z
   exact ⟨_,he,fun v z=>by
    have z':Data.fields _=Data.cell v:=z
    cases z'⟩
  ·have z':b=it:=by simpa using z
   subst z'
   exact ⟨o,ho,fun v z=>by rw [d] at z;cases z⟩
 keep:=fun i h h' st k=>by
  obtain ⟨⟨old,he⟩,hi⟩:=st
  exact ⟨⟨old,k e (by simp) _ he⟩,hi.at fun o x=>k it (by simp) o x⟩
 item:=by
  intro X hP hw hK hc i pins s σ H E I hf st hg
  subst hP hw hK
  obtain ⟨xs,x,hq,hx⟩:=hg
  obtain ⟨its,rv,p,hz⟩:=I.tuple hq
  obtain ⟨u,hu,ru⟩:=rv.get hx
  obtain ⟨⟨old,he⟩,hi⟩:=st
  have pt:s.heap.IsTuple a its.toArray:=p
  have nai:a≠it:=fun z=>by
   obtain ⟨o,h1,h2,_⟩:=pt
   obtain ⟨o',h3,h4,_⟩:=hi
   rw [z,h3] at h1
   cases h1
   rw [h2] at h4
   exact absurd h4 (by decide)
  have nae:e≠a:=fun z=>by
   obtain ⟨o,h1,h2,_⟩:=pt
   rw [<- z,he] at h1
   cases h1
   exact absurd (show Value.type "enumerate" = Value.type "tuple" from h2) (by decide)
  have hil:i<its.toArray.size:=by have:=(List.getElem?_eq_some_iff.mp hu).1;simpa using this
  obtain ⟨e0,e1,e2,e3,e4,e5⟩:=hf e (by simp)
  obtain ⟨f0,f1,f2,f3,f4,f5⟩:=hf it (by simp)
  refine wpAny_pyNext_enum_itemD (ZgJ (A:=X.A.in1) (I.ok.hd hc) it a nai its.toArray) he ⟨hi,pt⟩ hil hei (by simp [hei,nae]) fun x' h' tk hx' ho ⟨hit,_⟩ ht hsz kk=>⟨_,rfl,?_⟩
  have exu:x'=u:=by
   have:its[i]? = some x':=by simpa using hx'
   rw [hu] at this
   exact (Option.some.inj this).symm
  subst exu
  refine wpAny_letOwnedTupleGo_enum (s:={ s with heap:=h',toks:=tk+1 }) ho fun h'' he'' hs''=>?_
  have Tn:@LT.lt Nat _ e s.heap.objs.size:=aLt he
  have kk2:∀b o,b≠e->b≠it->s.heap.get? b=some o->h''.get? b=some o:=fun b o h1 h2 q=>(hs''.2 b h1).trans (kk b o h1 h2 q)
  have nne:∀b u,H b=some u->b≠e/\b≠it:=fun b u q=>⟨fun z=>by (rw [z,e0] at q;cases q),fun z=>by (rw [z,f0] at q;cases q)⟩
  have fr:H s.heap.objs.size=none:=I.hok.fresh (Nat.le_refl _)
  have hT:h''.get? s.heap.objs.size=some { cls:=.type "tuple", data:=.seq #[.int i tk,x'] }:=(hs''.2 _ (Nat.ne_of_gt Tn)).trans ht
  have nT:∀b o,s.heap.get? b=some o->b≠s.heap.objs.size:=fun b o q=>Nat.ne_of_lt (aLt q)
  have ok':Wy X.prog X.w (upd H s.heap.objs.size (.tup [.int i,x])) h'':=fun b o q=>by
   by_cases hb:b=s.heap.objs.size
   ·subst hb
    rw [Zb] at q
    cases q
    exact ⟨show 2<=sizeLine by decide,[.int i tk,x'],.cons ⟨_,rfl⟩ (.cons ru .nil),⟨_,hT,rfl,_,rfl⟩⟩
   ·rw [Zj hb] at q
    refine (I.hok b o q).stay (fun c v hc r=>?_) (fun c r=>by rw [Zj (Zg r fr)];exact r) fun c xs r=>by rw [Zj (Zg r fr)];exact r
    rcases hc with z | z
    ·subst z
     exact kk2 c v (nne c o q).1 (nne c o q).2 r
    ·exact kk2 c v (nne c _ z).1 (nne c _ z).2 r
  have I1:Inv X pins σ (upd H s.heap.objs.size (.tup [.int i,x])) { s with heap:=h'',gens:=s.gens,drawn:=s.drawn,toks:=tk+1 }:=by
   refine I.step (ch:=[e,it]) (fun b hb=>?_) (fun b o _ _ hc q _=>kk2 b o (fun z=>hc (by simp [z])) (fun z=>hc (by simp [z])) q) (fun b o _ _ hc q _=>⟨o.slots,kk2 b o (fun z=>hc (by simp [z])) (fun z=>hc (by simp [z])) q⟩)
    (fun b o _ q n=>by rw [Zj (nT b o q)];exact n) (fun b o hc q=>⟨o,kk2 b o (fun z=>hc (by simp [z])) (fun z=>hc (by simp [z])) q⟩) (fun b xs q=>by rw [Zj (Zg q fr)];exact q) (fun b o u q=>by rw [Zj (Zg q fr)];exact q)
    (fun b ps q=>⟨#[],by rw [Zj (Zg q fr),q];simp⟩) (fun m hm=>?_) ok' I.bare
   ·rcases List.mem_cons.mp hb with z | z
    ·subst z;exact ⟨e3,e1,e4,e5⟩
    ·have z':b=it:=by simpa using z
     subst z';exact ⟨f3,f1,f4,f5⟩
   ·obtain ⟨o,es,ep,ho,r⟩:=hm
    exact ⟨o,es,ep,kk2 _ o (Ne.symm e1) (Ne.symm f1) ho,r⟩
  refine ⟨.ref s.heap.objs.size,_,I1,rfl,⟨s.heap.objs.size,x,rfl,fr,rfl,fun ys hy=>by rw [I.tuple_inj hy hq];exact hx⟩,⟨⟨_,by simpa using he''⟩,hit.at fun o q=>(hs''.2 it (Ne.symm hei)).trans q⟩,fun b hb=>?_⟩
  have hbo:∃o,s.heap.get? b=some o:=by
   rcases List.mem_cons.mp hb with z | z
   ·subst z;exact ⟨_,he⟩
   ·have z':b=it:=by simpa using z
    subst z'
    obtain ⟨o,ho,_⟩:=hi
    exact ⟨o,ho⟩
  obtain ⟨o,hbo⟩:=hbo
  rw [Zj (nT b o hbo)]
  exact (hf b hb).1
 done:=by
  intro X hP hw hK hc i pins s σ H E I hf st hg
  subst hP hw hK
  obtain ⟨xs,hq,hx⟩:=hg
  obtain ⟨its,rv,p,hz⟩:=I.tuple hq
  obtain ⟨⟨old,he⟩,hi⟩:=st
  have pt:s.heap.IsTuple a its.toArray:=p
  obtain ⟨f0,f1,f2,f3,f4,f5⟩:=hf it (by simp)
  have hl:=rv.length
  exact wpAny_pyNext_enum_endD (Ze7 (A:=X.A.in1) (I.ok.hd hc) it a its.toArray i (by simp;lia)) he ⟨rfl,hi,pt⟩ fun h' eb=>⟨rfl,I.turned (t':=s.toks) (fun b o hb e=>eb b o hb e) f0 f1 f3 f4 f5⟩
 self:=fun _ _ _ _ _ st h=>by
  obtain ⟨⟨old,he⟩,_⟩:=st
  exact wpAny_pyIter_enum he h
section
variable {X:Cx}
def ZlA (K:PySem.W.Frag) (ta:TA):TI:=fun σ H R=>ta σ H fun vs H1=>∃a,vs = [.ref a]/\(∃xs,Gh K H1 a xs)/\R (ZiX K a) H1
theorem Zho {K:PySem.W.Frag}{a:Expr}{ta:TA}{p pos tpos:Pos}{es:List Expr}{k:Nat} (hK:X.K=K) (hg:Gl X "enumerate") (hm:X.mg "enumerate" = none) (ha:PA X [a] ta) (hs:starEach [a] X.env = [(false,eval a X.env)]:=by rfl):
  PI X (.Tuple es k tpos) (.Call (.Name "enumerate" p) [a] [] pos) (ZlA K ta):=by
 subst hK
 intro pins s σ H R I h
 refine Call_ (Wq I hg hm boot_enumerate (PyProof.Rows.callWith_type1 (Yq (ha pos pins s σ H _ I h) fun us s1 ⟨vs,H1,I1,r1,q1⟩=>?_) hs rfl))
 obtain ⟨l,e,⟨xs,hq⟩,q⟩:=q1
 subst e
 cases r1 with
 | cons r rr=>
  cases rr
  cases r
  obtain ⟨its,rv,pl,hz⟩:=I1.tuple hq
  refine ZeX (items:=its.toArray) pl fun h' he hi _ hsz kk=>?_
  have I2:Inv X pins σ H1 { s1 with heap:=h' }:=I1.kept (t':=s1.toks) kk
  refine wpAny_pyIter_enum (s:={ s1 with heap:=h' }) he ?_
  refine ⟨_,[s1.heap.objs.size+1,s1.heap.objs.size],_,_,H1,rfl,I2,Zew l _ _ (Nat.succ_ne_self _),⟨⟨_,he⟩,hi⟩,fun b hb=>?_,q⟩
  have hb':s1.heap.objs.size<=b:=by
   rcases List.mem_cons.mp hb with z | z
   ·subst z;exact Nat.le_succ _
   ·have z':b=s1.heap.objs.size:=by simpa using z
    subst z'
    exact Nat.le_refl _
  exact I1.fpOk hb' (I1.hok.fresh hb')
end
theorem ZiE {K:PySem.W.Frag}{a:Addr}{xs:List V}{g:TG}{tb:TS}{D:Ends} {σ:St}{H:Hp} (Pv:Nat->St->Hp->Prop) (h0:Pv 0 σ H) (hl:∀i σ H,i<=xs.length->Pv i σ H->Gh K H a xs)
  (hs:∀i x p σ H,xs[i]? = some x->Pv i σ H->H p=none->g (.ref p) σ (upd H p (.tup [.int i,x])) fun σ2 H2=>tb { D with nx:=Pv (i+1),ct:=Pv (i+1),bk:=D.nx } σ2 H2) (hd:∀ σ H,Pv xs.length σ H->D.nx σ H):
  ∃W:Nat->Nat->St->Hp->Prop,(∃m,W 0 m σ H) /\ ∀i m σ H,W i m σ H ->
   ((ZiX K a).stop i H/\D.nx σ H)∨((ZiX K a).go i H /\ ∃N:St->Hp->Prop,(∀ σ' H',N σ' H' -> ∃m',m'<m/\W (i+1) m' σ' H') /\ ∀x H',(ZiX K a).yld i H x H'->g x σ H' fun σ2 H2=>tb { D with nx:=N,ct:=N,bk:=D.nx } σ2 H2):=by
 refine ⟨fun i m σ H=>m=xs.length-i/\i<=xs.length/\Pv i σ H,⟨xs.length,by simp,Nat.zero_le _,h0⟩,?_⟩
 rintro i m σ H ⟨rfl,hi,p⟩
 have q:=hl i σ H hi p
 by_cases hlt:i<xs.length
 ·refine .inr ⟨⟨xs,xs[i],q,by simp [hlt]⟩,Pv (i+1),fun σ' H' p'=>⟨xs.length-(i+1),by lia,rfl,hlt,p'⟩,fun x H' y=>?_⟩
  obtain ⟨r,z,e1,e2,e3,y⟩:=y
  subst e1 e3
  exact hs i z r σ _ (y xs q) p e2
 ·have e:i=xs.length:=by lia
  subst e
  exact .inl ⟨⟨xs,q,Nat.le_refl _⟩,hd σ H p⟩
theorem Zfo {X:Cx}{K:PySem.W.Frag} (h:X.K=K):SlR X (ZjN K):=h ▸ Zla
theorem ZjM (xs:List V) (k:Nat):JI xs none (some (k:Int))=xs.take k:=by
 unfold JI
 rw [HT.U1,HT.Uj,List.drop_zero,Nat.sub_zero,List.take_eq_take_iff]
 lia
theorem Zkr (xs:List V) (k:Nat):JI xs (some (k:Int)) none=xs.drop k:=by
 unfold JI
 rw [HT.U1,HT.Uj]
 by_cases h:k<=xs.length
 ·rw [Nat.min_eq_left h,List.take_of_length_le (by rw [List.length_drop];lia)]
 ·rw [Nat.min_eq_right (by lia),List.drop_eq_nil_of_le (Nat.le_refl _),List.drop_eq_nil_of_le (by lia),List.take_nil]
theorem ZlJ {K:PySem.W.Frag}{G:Hp}{x:V}{w:List Int}{k:Nat}{Q:VK} (hx:Y9 G x w) (hk:k<w.length) (q:∀v G',Zd G G'->Y9 G' v (w.take k)->Q v G'):ZjN K x none (some (k:Int)) G Q:=by
 obtain ⟨a,rfl,ha⟩:=hx
 refine ⟨a,_,rfl,Gh.of ha,fun z=>?_,fun p hp=>q _ _ (Zd.laid hp) ⟨p,rfl,?_⟩⟩
 ·have:=z.2
  rw [HT.Uj,List.length_map] at this
  lia
 ·rw [Zb,ZjM,List.map_take]
theorem Zlp {K:PySem.W.Frag}{G:Hp}{x:V}{w:List Int}{k:Nat}{i:Int}{Q:VK} (hi:i=((k+1:Nat):Int)) (hx:Y9 G x w) (hk:k<w.length) (q:∀v G',Zd G G'->Y9 G' v (w.drop (k+1))->Q v G'):ZjN K x (some i) none G Q:=by
 subst hi
 obtain ⟨a,rfl,ha⟩:=hx
 refine ⟨a,_,rfl,Gh.of ha,fun z=>?_,fun p hp=>q _ _ (Zd.laid hp) ⟨p,rfl,?_⟩⟩
 ·have:=z.1
  rw [HT.Uj,List.length_map] at this
  lia
 ·rw [Zb,Zkr,List.map_drop]
end L2
namespace L2
open PySem PySem.Spec PyProof.Rows HT
def adv (mask:Nat) (p:SetTable.Probe):SetTable.Probe:=
 if p.more>0 then { p with j:=p.j+1,more:=p.more-1 } else
 { p with j:=(SetTable.leap mask p.i p.perturb).1,more:=SetTable.runEnd mask (SetTable.leap mask p.i p.perturb).1-(SetTable.leap mask p.i p.perturb).1,i:=(SetTable.leap mask p.i p.perturb).1,perturb:=(SetTable.leap mask p.i p.perturb).2 }
def stH (mask:Nat) (h:Int):Nat->SetTable.Probe
 | 0=>{ j:=SetTable.bits h % (mask+1),more:=SetTable.runEnd mask (SetTable.bits h % (mask+1))-SetTable.bits h % (mask+1),i:=SetTable.bits h % (mask+1),perturb:=SetTable.bits h,dummy:=none }
 | n+1=>adv mask (stH mask h n)
def pj (mask:Nat) (h:Int) (n:Nat):Nat:=(stH mask h n).j
def Rch (mask:Nat) (P:Nat->Prop) (h:Int) (j:Nat):Prop:=∃s,s<10*SetTable.turns mask/\pj mask h s=j /\ ∀m,m<s->P (pj mask h m)
structure TbG (t:SetTable) (hs:List Int):Prop where
 dum:t.dummies = #[]
 rise:t.place.toList.Pairwise (· < ·)
 dom:∀j∈t.place.toList,j<=t.mask
 len:t.place.size=hs.length
 msk:t.mask=7∨t.mask=31
 few:hs.length*5<t.mask*3
 rch:∀(i j:Nat) (h:Int),t.place.toList[i]? = some j->hs[i]? = some h->Rch t.mask (· ∈ t.place.toList) h j
def occ (owner:Array (Option Nat)) (j:Nat):Prop:=∃k,owner[j]? = some (some k)
structure OC (mask:Nat) (owner:Array (Option Nat)) (hs:List Int):Prop where
 sz:owner.size=mask+1
 sur:∀i:Nat,i<hs.length -> ∃j:Nat,owner[j]? = some (some i)
 lt:∀j i:Nat,owner[j]? = some (some i)->i<hs.length
 one:∀j j' i:Nat,owner[j]? = some (some i)->owner[j']? = some (some i)->j=j'
 rch:∀(j i:Nat) (h:Int),owner[j]? = some (some i)->hs[i]? = some h->Rch mask (occ owner) h j
end L2
namespace L2
def Zjy (T:Nat->Nat):Nat->Nat->Nat
 | 0,_=>0
 | n+1,v=>(if v.testBit n=true then T n else 0) ^^^ Zjy T n v
def LB (v j:Nat):Prop:=v.testBit j=true /\ ∀k,k<j->v.testBit k=false
structure Up (T:Nat->Nat) (n i:Nat) (S:Nat->Nat) (p:Nat->Option Nat):Prop where
 lb:∀r,i<=r->r<n->LB (S r) r
 bd:∀r,i<=r->r<n->S r<2 ^ n
 inv:∀r q,i<=r->r<n->p r=some q->i<=q/\q<n/\q≠r/\p q=some r
 img:∀r q,i<=r->r<n->p r=some q->r<q->Zjy T n (S r)=S q
 ker:∀r,i<=r->r<n->(∀q,p r=some q->q<r)->Zjy T n (S r)=0
def Zmg:List Nat->Nat
 | []=>0
 | a::l=>a ^^^ Zmg l
structure Tk (T:Nat->Nat) (n i:Nat) (S:Nat->Nat) (p:Nat->Option Nat) (rest a:Nat) (lone:List Nat):Prop where
 up:Up T n (i+1) S p
 eq:Zjy T n a=rest ^^^ Zmg (lone.map S)
 la:LB a i
 ba:a<2 ^ n
 br:rest<2 ^ n
 lo:∀k,k<=i->rest.testBit k=false
 ln:∀l∈lone,i<l/\l<n/\p l=none
 as:lone.Pairwise (· < ·)
 ab:∀l∈lone,∀k,k<=l->rest.testBit k=false
end L2
namespace L2
def cE (i j v:Nat):Nat:=v ^^^ (if v.testBit i=true then 2 ^ j else 0)
def sT (T:Nat->Nat) (i j:Nat):Nat->Nat:=fun r=>cE i j (if r=i then T i ^^^ T j else T r)
def pT (p:Nat->Option Nat):Nat->Nat:=fun r=>match p r with
 | some q=>if r<q then 2 ^ q else 0
 | none=>0
end L2
namespace L2
open PySem PyProof.Rows
structure Zmi (N:List Str) (osc scope:Scope) (Ls Fs:List Str) (fi:List Nat):Prop where
 kind:scope.kind = .function
 cells:∀y∈scope.names,y.2 = .cell->scope.names.lookup y.1=some .cell
 names:∀y∈scope.names,y.2 = .local->scope.names.lookup y.1=some .local
 fre:∀x∈Fs,scope.names.lookup x=some .free
 all:∀y∈scope.names,y.2 = .free->osc.names.lookup y.1=some .cell∨osc.names.lookup y.1=some .free
 ix:fi.map (fun i=>N[i]?)=Fs.map some
end L2
namespace L2
open PySem PySem.Spec PyProof.Rows
def Trk (H:Hp) (v:Value):Prop:=∃a C,v = .ref a/\H a=some (.ext (isX a C))
def Hnd (A:Around) (H:Hp):Prop:=∀v,A.handled=some v->Trk H v
def Quiet (A:Around) (h:Heap):Prop:=∀v,A.handled=some v -> ∃a o vs,v = .ref a/\h.get? a=some o/\o.data = .fields vs/\vs[2]? = some .none
theorem Inv.quietH {X:Cx}{pins:List (Addr×Obj)} {σ:St}{H:Hp}{s:Shared} (I:Inv X pins σ H s) (hq:Hnd X.A H):Quiet X.A s.heap:=fun v e=>by
 obtain ⟨a,C,rfl,ha⟩:=hq v e
 obtain ⟨o,e1,_,vs,d,z⟩:=(show isX a C s.heap from (I.hok a _ ha).1)
 exact ⟨a,o,vs,rfl,e1,d,z⟩
theorem Hnd.same {A:Around}{H H':Hp} (x:Hnd A H) (s:Zd H H'):Hnd A H':=fun v e=>let ⟨a,C,r,h⟩:=x v e;⟨a,C,r,s a _ h⟩
section
variable {prog:Program}{w:World}{A:Around}{E:Value->Shared->Prop}{s:Shared}
theorem Zb4:entryFor table "proto.unchain" = some Builtin.«proto.unchain»:=entryFor_of_tree (by kernel_rfl)
theorem Zb0:plainId "proto.unchain" = true:=by decide +kernel
theorem Gm {α:Type}{Q:α -> Shared->Prop} (hq:Quiet A s.heap) (h:∀h' a,(∀b o,s.heap.get? b=some o->h'.get? b=some o)->Shared.TypeIs { s with heap:=h' } (.ref a) "StopIteration" -> E (.ref a) { s with heap:=h' }):
  wpAny (model prog w) A ((newExc (.type "StopIteration") [] >>= raiseNew:Sem α)) Q E s:=by
 cases hh:A.handled with
 | none=>exact Zbc hh h
 | some v=>
  obtain ⟨a,o,vs,rfl,ha,hd,h2⟩:=hq v hh
  wp_walk using wpAny_newObj_type
  ·obtain ⟨h1,e1⟩:∃h1,h1=s.heap.push { cls:=.type "tuple", data:=.seq #[] }:=⟨_,rfl⟩
   obtain ⟨ws,e2⟩:∃ws,ws=(#[Value.ref s.heap.objs.size,Value.none,Value.none,Value.none,Value.bool false,if ((Manifest.find? "StopIteration").elim false fun t=>t.mro.contains "StopIteration" || t.mro.contains "SystemExit")=true then [].headD Value.none else Value.none]++ownMembersOf (Value.type "StopIteration") []):=⟨_,rfl⟩
   have wz:2<ws.size:=by rw [e2,Array.size_append];simp only [List.size_toArray,List.length_cons,List.length_nil];lia
   obtain ⟨h2',e3⟩:∃h2',h2'=h1.push { cls:=.type "StopIteration", data:=.fields ws }:=⟨_,rfl⟩
   have up:∀b o,s.heap.get? b=some o->h1.get? b=some o:=fun b o e=>by rw [e1];exact Heap.get?_push_of_some _ e
   have up2:∀b o,s.heap.get? b=some o->h2'.get? b=some o:=fun b o e=>by rw [e3];exact Heap.get?_push_of_some _ (up b o e)
   have nw:h2'.get? h1.objs.size=some { cls:=.type "StopIteration", data:=.fields ws }:=by rw [e3];exact Heap.get?_push_size _ rfl
   have ne:(Value.ref a != Value.ref h1.objs.size)=true:=bne_iff_ne.mpr fun z=>by
    have:=Heap.lt_size (up a o ha)
    rw [Value.ref.inj z] at this
    exact Nat.lt_irrefl _ this
   show wpAny (model prog w) A (raiseNew (.ref (s.heap.push { cls:=.type "tuple", data:=.seq #[] }).objs.size)) Q E { s with heap:=(s.heap.push { cls:=.type "tuple", data:=.seq #[] }).push { cls:=.type "StopIteration", data:=.fields (#[Value.ref s.heap.objs.size,Value.none,Value.none,Value.none,Value.bool false,if ((Manifest.find? "StopIteration").elim false fun t=>t.mro.contains "StopIteration" || t.mro.contains "SystemExit")=true then [].headD Value.none else Value.none]++ownMembersOf (Value.type "StopIteration") []) } }
   rw [<- e1,<- e2,<- e3]
   unfold raiseNew
   refine wpAny_bind (wpAny_handled ?_)
   rw [hh]
   refine wpAny_ite_true (decide_eq_true ne) (wpAny_bind (wpAny_holding (wpAny_runValue (codeAny_builtin Zb4 ?_))))
   rw [Around.under_plainId Zb0 _]
   unfold Builtin.«proto.unchain»
   refine wpAny_bind (wpAny_field (up2 a o ha) hd h2 ?_)
   wp_walk
   rw [if_pos wz]
   wp_walk
   refine h _ _ (fun b o e=>(Heap.get?_update_other _ _ fun z=>?_).trans (up2 b o e)) ⟨_,Heap.get?_update_self _ nw rfl,rfl⟩
   have q:=Heap.lt_size (up b o e)
   rw [<- z] at q
   exact Nat.lt_irrefl _ q
  all_goals size_fits
theorem ZeT {it:Addr}{x left step:Int}{Q:Option Value->Shared->Prop} (hq:Quiet A s.heap) (hit:IsRangeIter s.heap it x left step) (hl:left<=0)
  (hQ:∀h',(∀b o,b≠it->s.heap.get? b=some o->h'.get? b=some o)->Q none { s with heap:=h' }):wpAny (model prog w) A (pyNext (.ref it)) Q E s:=by
 have ty:s.TypeIs (.ref it) "range_iterator" := ⟨_,hit,rfl⟩
 have hq':Quiet A.in1 s.heap:=hq
 unfold pyNext
 refine wpAny_bind (wpAny_attempt (wpAny_callSpecial?_slot (name:=Str.ofString "__next__") ty F.slot_range_iterator_next (wpAny_call_entry F.slot_range_iterator_next ty F.entry_range_iterator_next ?_ (F.args_range_iterator_next_1 _))))
 wp_walk using Gm hq',wpAny_ite_true (decide_eq_true hl),wpAny_fieldsOf hit rfl
 intro h' a k tys
 wp_walk using wpAny_isInstance (T := "StopIteration") (b:=true) tys isSubtype_stop
 exact hQ h' fun b o _ e=>k b o e
end
def Ziw (A:Around) (lo:Int) (n:Nat):It:=⟨(Itr lo n).go,(Itr lo n).yld,fun i H=>(Itr lo n).stop i H/\Hnd A H⟩
def Zno (X:Cx) (pins:List (Addr×Obj)) (σ:St) (tg:Expr) (R:It->Hp->Prop) (itv:Value) (s2:Shared):Prop:=
 ∃(it:Addr) (fp:List Addr) (tn:Nat->Heap->Prop) (J:It) (H':Hp),itv = .ref it/\Inv X pins σ H' s2/\(∀X':Cx,X'.A=X.A->Zcm X' tg J fp it tn)/\tn 0 s2.heap/\(∀b∈fp,UB X pins H' b)/\R J H'
def PIQ (X:Cx) (tg iter:Expr) (wi:TI):Prop:=
 ∀(pins:List (Addr×Obj)) (s:Shared) (σ:St) (H:Hp) (R:It->Hp->Prop),Inv X pins σ H s->wi σ H R ->
  wpAny (model X.prog X.w) X.A (eval iter X.env) (fun v s1=>wpAny (model X.prog X.w) X.A (pyIter v) (Zno X pins σ tg R) X.xe s1) X.xe s
theorem ZdD {X:Cx}{A:Around} (hA:X.A=A) {tg:Expr} (it:Addr) (lo:Int) (n:Nat):Zcm X tg (Ziw A lo n) [it] it (fun i h=>IsRangeIter h it (lo+(i:Nat)*1) ((n:Int)-(i:Nat)) 1):=by
 subst hA
 have T:=ZbA (P:=X.prog) (w:=X.w) (K:=X.K) (tg:=tg) it lo n
 refine ⟨T.obj,T.keep,fun i pins s σ H E I hf st hg=>?_,fun i pins s σ H E I hf st hg=>?_,T.self⟩
 ·obtain ⟨f0,f1,f2,f3,f4,f5⟩:=hf it (by simp)
  have lt:i<n:=hg
  refine wpAny_pyNext_range_item st (by lia) fun h' st' sb=>?_
  have st'':IsRangeIter h' it (lo+((i+1:Nat):Int)*1) ((n:Int)-((i+1:Nat):Int)) 1:=by
   rw [show lo+((i+1:Nat):Int)*1=lo+(i:Nat)*1+1 by lia,show (n:Int)-((i+1:Nat):Int)=(n:Int)-(i:Nat)-1 by lia]
   exact st'
  have I1:Inv X pins σ H { s with heap:=h',toks:=s.toks+1 }:=I.turned (fun b o hb e=>(sb.2 b hb).trans e) f0 f1 f3 f4 f5
  refine ⟨_,rfl,ZfC (s:={ s with heap:=h',toks:=s.toks+1 }) (n := "range_iterator") st'' rfl rfl (by decide) ⟨.int (lo+i),H,I1,⟨s.toks,?_⟩,⟨rfl,rfl⟩,st'',fun b hb=>(hf b hb).1⟩⟩
  rw [Int.mul_one]
 ·obtain ⟨f0,f1,f2,f3,f4,f5⟩:=hf it (by simp)
  exact ZeT (I.quietH hg.2) st (by have:n<=i:=hg.1;lia) fun h' eb=>⟨rfl,I.turned (t':=s.toks) eb f0 f1 f3 f4 f5⟩
def ZmF (A:Around) (ta:TA):TI:=fun σ H R=>ta σ H fun vs H1=>∃j:Int,vs = [.int j] /\ -(2 ^ 62)<=j/\j<2 ^ 62/\R (Ziw A 0 j.toNat) H1
section
variable {X:Cx}{tg:Expr}
theorem Zgw {A:Around}{a:Expr}{ta:TA}{p pos:Pos} (hA:X.A=A) (hg:Gl X "range") (hm:X.mg "range" = none) (ha:PA X [a] ta) (hs:starEach [a] X.env = [(false,eval a X.env)]:=by rfl):PIQ X tg (.Call (.Name "range" p) [a] [] pos) (ZmF A ta):=by
 subst hA
 intro pins s σ H R I h
 refine Call_ (Wq I hg hm boot_range (PyProof.Rows.callWith_type1 (Yq (ha pos pins s σ H _ I h) fun us s1 ⟨vs,H1,I1,r1,q1⟩=>?_) hs rfl))
 obtain ⟨j,e,q1,q2,q⟩:=q1
 subst e
 cases r1 with
 | cons r rr=>
  cases rr
  obtain ⟨t,rfl⟩:=r
  refine call_range_1 (wpAny_pyIter_range (IsRange.new ..) (small_one (by lia) (by lia) q1 q2) ?_)
  have I2:Inv X pins σ H1 { s1 with heap:=s1.heap.push { cls:=.type "range", data:=.fields #[.int 0 s1.toks,.int j t,.int 1 (s1.toks+1)] },toks:=s1.toks+1+1 }:=I1.kept fun b o e=>Heap.get?_push_of_some _ e
  refine ⟨_,[(s1.heap.push { cls:=.type "range", data:=.fields #[.int 0 s1.toks,.int j t,.int 1 (s1.toks+1)] }).objs.size],_,_,H1,rfl,I2.kept (t':=s1.toks+1+1) fun b o e=>Heap.get?_push_of_some _ e,fun X' hX=>ZdD hX _ 0 j.toNat,?_,fun b hb=>?_,q⟩
  ·have e2:((j.toNat:Nat):Int)-((0:Nat):Int)=Builtin.Range.rangeSize 0 j 1:=by rw [rangeSize_one];split<;>lia
   show IsRangeIter _ _ (0+((0:Nat):Int)*1) (((j.toNat:Nat):Int)-((0:Nat):Int)) 1
   rw [e2]
   exact Heap.get?_push_size _ rfl
  ·obtain rfl:b=_:=by simpa using hb
   have e:(s1.heap.push { cls:=.type "range", data:=.fields #[.int 0 s1.toks,.int j t,.int 1 (s1.toks+1)] }).objs.size=s1.heap.objs.size+1:=Heap.size_push ..
   exact I2.fpOk (Nat.le_of_eq e) (I2.hok.fresh (Nat.le_of_eq e))
end
section
variable {P:Program}{w:World}{K:PySem.W.Frag}{mg:Str->Option Value}{base:Heap}
structure Zej (P:Program) (w:World) (K:PySem.W.Frag) (mg:Str->Option Value) (base:Heap) (k:Nat) (f:Addr) (fd:FuncData) (ps:List Str) (sp:Sp):Prop where
 len:∀vs H Q E,sp vs H Q E->vs.length=ps.length
 run:∀(A:Around) (outer:List Env) (s:Shared) (H:Hp) (args:Args) (us:List Value) (vs:List V) (Q:VK),ZdW k A->Hnd A H->Zem P w K mg base A outer s H->BindsTo s fd args (ps.zip us)->Vals vs us->sp vs H Q E0 ->
  codeAny (model P w) A (.call (.ref f) args) (CR WW outer P w H s Q E0) s
theorem YH.okQ {x qual:Str}{st:Stmt}{f:Addr}{fd:FuncData}{N ps:List Str}{k:Nat}{sp:Sp} (F:YH K x qual st f fd) (S:Zw N ps (Zh st)) (len:∀vs H Q E,sp vs H Q E->vs.length=ps.length)
  (hbody:∀(cdv:Value) (A:Around) (outer:List Env) (s:Shared) (H:Hp) (vs:List V) (Q:VK),ZdW k (A.deeper (envOfC qual (Zh st) s.heap.objs.size f cdv))->Hnd (A.deeper (envOfC qual (Zh st) s.heap.objs.size f cdv)) H->sp vs H Q E0 ->
   ∃t,PSs (cxS P w K mg base N qual (Zh st) f cdv A outer s H) (We st) t/\t { nx:=fun _ H'=>Q .non H',rt:=Q } (start N vs) H):Zej P w K mg base (k+1) f fd ps sp:=by
 obtain ⟨oc,od,kV,doc,pm,an,cdv,ct,osl,rfl,lk,hcd⟩:=F.ex
 refine ⟨len,fun A outer s H args us vs Q hr hq e0 hb r hsp=>?_⟩
 have hl:=len _ _ _ _ hsp
 have KX:K.In s.heap:=e0.mod.kin.keeps fun b o e=>(e0.bs b o e).1
 have lim:s.heap.NoLimit:=e0.mod.nolimit.keeps fun b o e=>(e0.bs b o e).1
 have hkind:∀y∈ps.zip us,(Zh st).names.lookup y.1=some .local∨((Zh st).names.lookup y.1=some .cell/\((cellsFrom (s.heap.objs.size+1) (Zh st).names []).lookup y.1).isSome=true):=fun ⟨n,v⟩ hy=>by
  rcases S.par n (List.of_mem_zip hy).1 with q | q
  ·exact .inl q
  ·exact .inr ⟨q,PySem.W.cellsFrom_some _ _ _ (.inl q)⟩
 have dep:A.depth<recursionLimit:=by have:=hr.dp;lia
 refine codeAny_call_function dep (KX _ _ lk) rfl S.co S.gen rfl (PySem.W.codeRec_of KX hcd) (hb _ _ _ _ ?_)
 refine wpAny_newFunctionEnv_cells S.kind hkind fun env he s1 x=>?_
 subst he
 refine ⟨lim.keeps x.toInCall.keep,codeAny_func ?_⟩
 obtain ⟨t,ht,hq⟩:=hbody cdv A outer s H vs Q ⟨by have:=hr.dp;show A.depth+1+3*k+5<_;lia,by have:=hr.un;show A.units+3+16*k+200<_;lia⟩ hq hsp
 have e1:Zem P w K mg base ({ A with handled:=none }) outer s H:=⟨e0.frames,e0.mod,e0.bs,e0.bsz,e0.funs,e0.frf,e0.hok,e0.bare⟩
 have I0:Inv (Jw WW P w K mg base N qual (Zh st) f cdv ({ A with handled:=none }) outer s H E0) [] (start N vs) H s1:=ZcA S rfl e1 hl r x
 have ok:=I0.ok
 have I:Inv (cxS P w K mg base N qual (Zh st) f cdv A outer s H) [] (start N vs) H s1:=
  ⟨⟨ok.mod,ok.kind,ok.glob,ok.blt,ok.above,ok.inj,ok.has,ok.cab,(fun z=>nomatch z),Around.frames_deeper e0.frames,ok.stk,ok.exf,ok.bs,ok.bsz,ok.noex,ok.exfs,ok.funs,ok.frf⟩,I0.os,I0.bare,I0.base,I0.loc,I0.cell,I0.free,I0.freeC,I0.pin,I0.hok,I0.len⟩
 refine wpAny_mono (ht [] s1 (start N vs) H _ I hq) (fun fl s' hs=>?_) fun e s' hs=>hs.elim
 have fin:∀{σ':L2.St}{H':Hp}{v:V}{u:Value},Inv (cxS P w K mg base N qual (Zh st) f cdv A outer s H) [] σ' H' s'->RelV v u->Q v H'->CE outer P w H s Q u s':=
  fun {σ' H' v u} J rv q=>⟨v,H',J.os,J.bare,J.base,J.hok,rv,q⟩
 cases fl with
 | ret u=>obtain ⟨v,σ',H',J,rv,q⟩:=hs;exact fin J rv q
 | next=>obtain ⟨σ',H',J,q⟩:=hs;exact fin (v:=V.non) (u:=Value.none) J rfl q
 | brk=>obtain ⟨_,_,_,q⟩:=hs;exact False.elim q
 | cont=>obtain ⟨_,_,_,q⟩:=hs;exact False.elim q
def Zk4 (A:Around) (sp:Sp) (ta:TA):TE:=fun σ H Q=>ta σ H fun vs H1=>Hnd A H1/\sp vs H1 Q E0
def ZgG (P:Program) (w:World) (K:PySem.W.Frag) (mg:Str->Option Value) (base:Heap) (k:Nat) (x:Str) (ps:List Str) (sp:Sp):Prop:=
 ∃(f:Addr) (fd:FuncData),Zej P w K mg base k f fd ps sp/\mg x=some (.ref f)/\PySem.W.keepIn K (.ref f)=true/\Binds K fd ps []
theorem Zad {X:Cx}{k:Nat}{x:Str}{ps:List Str}{sp:Sp}{p pos:Pos}{e:Expr}{es:List Expr}{t:TA}{A:Around} (h:ZgG X.prog X.w X.K X.mg X.base k x ps sp) (hr:ZdW k X.A) (hA:X.A=A) (ha:PA X (e::es) t) (hg:Gl X x:=by rfl) (hdb:(x==("__debug__" : Str))=false:=by decide)
  (he:starEach (e::es) X.env=(false,eval e X.env)::starEach es X.env:=by rfl) (hpl:(backTo pos (starEach es X.env)).any (·.1)=false:=by rfl):PE X (.Call (.Name x p) (e::es) [] pos) (Zk4 A sp t):=by
 subst hA
 obtain ⟨f,fd,G,hm,hk,hb⟩:=h
 intro pins s σ H Q I hw
 refine wpAny_Call_Name_kw (WZ I hg hm ?_ hdb)
 refine PySem.W.callWith_K (h₀:=X.base) I.ok.mod.kin hk (Yq (ha pos pins s σ H _ I hw) fun us s1 ⟨vs,H1,I1,r,q⟩=>⟨I1.kIn,?_⟩) he hpl
 obtain ⟨hq,q⟩:=q
 have hl:=G.len _ _ _ _ q
 refine wpAny_call (codeAny_mono (G.run X.A X.stack s1 H1 ⟨us,[]⟩ us vs Q hr hq I1.env0 ?_ r q) fun res s2 c=>?_)
 ·have:=hb s1 us I1.kIn (by rw [List.append_nil,<- r.length,hl])
  rwa [List.append_nil] at this
 ·cases res with
  | error e=>exact c.elim
  | ok fl=>
   cases fl with
   | ret u=>exact I1.after c
   | next=>exact c.elim
   | brk=>exact c.elim
   | cont=>exact c.elim
end
end L2
namespace L2
open PySem PySem.Spec PyProof.Rows PyProof.V
section
variable {prog:Program}{w:World}{A:Around}{E:Value->Shared->Prop}{s:Shared}
theorem Quiet.but {A:Around}{h h':Heap}{it:Addr}{o:Obj}{vs:Array Value} (x:Quiet A h) (ho:h.get? it=some o) (hd:o.data = .fields vs) (h2:vs[2]? = none) (k:∀b o,b≠it->h.get? b=some o->h'.get? b=some o):Quiet A h':=fun v e=>by
 obtain ⟨a,o',us,r,ha,hu,h3⟩:=x v e
 refine ⟨a,o',us,r,k a o' (fun z=>?_) ha,hu,h3⟩
 rw [z,ho] at ha
 cases ha
 rw [hd] at hu
 cases hu
 rw [h2] at h3
 cases h3
theorem ZgB {it l:Addr}{i:Nat}{items:Array Value}{Q:Option Value->Shared->Prop} (hq:Quiet A s.heap) (hit:s.heap.IsListIter it l i) (hl:s.heap.IsList l items) (hx:items[i]? = none)
  (hQ:∀h',(∀b o,b≠it->s.heap.get? b=some o->h'.get? b=some o)->Q none { s with heap:=h' }):wpAny (model prog w) A (pyNext (.ref it)) Q E s:=by
 obtain ⟨o,ho,_,hd⟩:=id hit
 obtain ⟨ol,hol,_,nl,hdl⟩:=hl
 have hq':Quiet A.in1 s.heap:=hq
 unfold pyNext
 refine wpAny_bind (wpAny_attempt (wpAny_callSpecial?_slot (name:=Str.ofString "__next__") hit.typeIs slot_listiter_next (wpAny_call_entry slot_listiter_next hit.typeIs entry_listiter_next ?_ (args_listiter_next _))))
 wp_walk using wpAny_fieldsOf ho hd
 rw [hdl]
 wp_walk
 simp only [Int.toNat_natCast,hx]
 have up:∀(f:Obj->Obj) (b:Addr) (o:Obj),b≠it->s.heap.get? b=some o->(s.heap.update it f).get? b=some o:=fun f b o hb e=>(Heap.get?_update_other _ _ (Ne.symm hb)).trans e
 refine wpAny_bind (wpAny_rule (wpAny_bind (wpAny_setField ho hd (by decide:0<2) ?_)))
 refine Gm (hq'.but ho hd (by rfl) (up _)) fun h' a k tys=>?_
 wp_walk using wpAny_isInstance (T := "StopIteration") (b:=true) tys isSubtype_stop
 exact hQ h' fun b o hb e=>k b o (up _ b o hb e)
theorem Zix {it l:Addr}{i:Nat}{items:Array Value}{Q:Option Value->Shared->Prop} (hq:Quiet A s.heap) (hit:s.heap.IsTupleIter it l i) (hl:s.heap.IsTuple l items) (hx:items[i]? = none)
  (hQ:∀h',(∀b o,b≠it->s.heap.get? b=some o->h'.get? b=some o)->Q none { s with heap:=h' }):wpAny (model prog w) A (pyNext (.ref it)) Q E s:=by
 obtain ⟨o,ho,_,hd⟩:=id hit
 obtain ⟨ol,hol,_,nl,hdl⟩:=hl
 have hq':Quiet A.in1 s.heap:=hq
 unfold pyNext
 refine wpAny_bind (wpAny_attempt (wpAny_callSpecial?_slot (name:=Str.ofString "__next__") hit.typeIs F.slot_tuple_iterator_next (wpAny_call_entry F.slot_tuple_iterator_next hit.typeIs F.entry_tuple_iterator_next ?_ (F.args_tuple_iterator_next_1 _))))
 wp_walk using wpAny_fieldsOf ho hd
 rw [hdl]
 wp_walk
 simp only [Int.toNat_natCast,hx]
 have up:∀(f:Obj->Obj) (b:Addr) (o:Obj),b≠it->s.heap.get? b=some o->(s.heap.update it f).get? b=some o:=fun f b o hb e=>(Heap.get?_update_other _ _ (Ne.symm hb)).trans e
 refine wpAny_bind (wpAny_rule (wpAny_bind (wpAny_setField ho hd (by decide:0<2) ?_)))
 refine Gm (hq'.but ho hd (by rfl) (up _)) fun h' a k tys=>?_
 wp_walk using wpAny_isInstance (T := "StopIteration") (b:=true) tys isSubtype_stop
 exact hQ h' fun b o hb e=>k b o (up _ b o hb e)
theorem ZiA {a b:Int}{t u:Tok}{Q:Value->Shared->Prop} (hq:Quiet A s.heap)
  (h:∀h' tk,(∀c o,s.heap.get? c=some o->h'.get? c=some o)->Q (if b>a then .int b u else .int a t) { s with heap:=h',toks:=tk }):
  wpAny (model prog w) A (call (.builtin "max") [.int a t,.int b u]) Q E s:=by
 obtain ⟨xs,exs⟩:∃xs:Array (Int×Tok),xs = #[(a,t),(b,u)]:=⟨_,rfl⟩
 obtain ⟨h1,e1⟩:∃h1,h1=s.heap.push { cls:=.type "tuple", data:=.seq #[.int a t,.int b u] }:=⟨_,rfl⟩
 have hT:h1.IsTuple s.heap.objs.size (intItems xs):=by rw [e1];exact ⟨_,Heap.get?_push_size _ rfl,rfl,0,by simp [intItems,exs]⟩
 have z1:h1.objs.size=s.heap.objs.size+1:=by rw [e1];exact Heap.size_push ..
 have old:∀c o,s.heap.get? c=some o->h1.get? c=some o:=fun c o e=>by rw [e1];exact Heap.get?_push_of_some _ e
 have hq':Quiet A.in1 s.heap:=hq
 refine call_max_two ?_
 rw [<- e1]
 refine wpAny_pyIter_tuple hT ?_
 obtain ⟨it,eit⟩:∃it,it=h1.objs.size:=⟨_,rfl⟩
 have ne:s.heap.objs.size≠it:=by rw [eit,z1];lia
 have W:Walks prog w A.in1 it ((it::s.heap.objs.size::(match A.handled with | some (.ref x)=>[x] | _=>[]))) [it] (intItems xs).size (fun i v=>(intItems xs)[i]? = some v) (fun i h=>h.IsTupleIter it s.heap.objs.size i/\h.IsTuple s.heap.objs.size (intItems xs)/\Quiet A.in1 h):=by
  refine ⟨fun b hb=>by simp at hb;simp [hb],fun i h h' st hk=>⟨st.1.at fun o e=>hk it (by simp) o e,st.2.1.at fun o e=>hk _ (by simp) o e,fun v e=>?_⟩,fun i s' Q' E' hi st hQ=>?_,fun s' Q' E' st hQ=>?_,fun i s' Q' E' st hQ=>wpAny_pyIter_tupleiter st.1 hQ⟩
  ·obtain ⟨x,o,vs,rfl,hx,hd,h2⟩:=st.2.2 v e
   have e:A.handled=some (.ref x):=e
   exact ⟨x,o,vs,rfl,hk x (by rw [e];simp) o hx,hd,h2⟩
  ·refine wpAny_pyNext_tuple_item st.1 st.2.1 (x:=(intItems xs)[i]) (by simp [hi]) fun h' hit' hs'=>?_
   obtain ⟨o,ho,_,hd⟩:=id st.1
   exact hQ _ h' s'.toks (by simp [hi]) ⟨hit',st.2.1.extBut hs'.extBut ne,st.2.2.but ho hd (by rfl) fun b o hb e=>hs'.extBut b o hb e⟩ fun b o hb e=>hs'.extBut b o (fun z=>hb (by simp [z])) e
  ·exact Zix st.2.2 st.1 st.2.1 (by simp) fun h' k=>hQ h' s'.toks fun b o hb e=>k b o (fun z=>hb (by simp [z])) e
 have nq:∀x,A.handled=some (.ref x)->x<s.heap.objs.size:=fun x e=>by
  obtain ⟨y,o,vs,r,hy,_⟩:=hq _ e
  cases r
  exact Heap.lt_size hy
 have quietN:Quiet A.in1 (h1.push { cls:=.type "tuple_iterator", data:=.fields #[.ref s.heap.objs.size,.int 0 0] }):=fun v e=>by
  obtain ⟨x,o,vs,r,hx,hd,h2⟩:=hq' v e
  exact ⟨x,o,vs,r,Heap.get?_push_of_some _ (old x o hx),hd,h2⟩
 refine ⟨it,_,[it],_,_,_,_,by rw [eit],W,⟨⟨_,by rw [eit];exact Heap.get?_push_size _ rfl,rfl,rfl⟩,hT.push _,quietN⟩,fun c hc=>?_,by simp [intItems,exs],CmpOf.ints_gt (numAt xs) (fun _ _=>intItems_at),fun v h' tk hP hk=>?_⟩
 ·show c<(h1.push _).objs.size
  rw [Heap.size_push,z1]
  rcases List.mem_cons.mp hc with rfl | hc
  ·rw [eit,z1];exact Nat.lt_succ_self _
  ·rcases List.mem_cons.mp hc with rfl | hc
   ·exact Nat.lt_succ_of_lt (Nat.lt_succ_self _)
   ·cases e:A.handled with
    | none=>rw [e] at hc;cases hc
    | some v=>
     rw [e] at hc
     cases v with
     | ref x=>
      have z:c=x:=by simpa using hc
      rw [z]
      exact Nat.lt_trans (nq x e) (Nat.lt_succ_of_lt (Nat.lt_succ_self _))
     | _=>cases hc
 ·have hold:∀c o,s.heap.get? c=some o->h'.get? c=some o:=fun c o e=>hk c o (fun z=>by
   have q:=Heap.lt_size (old c o e)
   rw [List.mem_singleton.mp z,eit] at q
   exact Nat.lt_irrefl _ q) (Heap.get?_push_of_some _ (old c o e))
  have hv:v=if b>a then .int b u else .int a t:=by
   subst exs
   by_cases hba:b>a<;>simp [intItems,argBest,numAt,hba] at hP ⊢<;>exact hP.symm
  rw [hv]
  exact h h' tk hold
end
def Zlh (A:Around) (K:PySem.W.Frag) (a:Addr):It:=⟨(Itl K a).go,(Itl K a).yld,fun i H=>(Itl K a).stop i H/\Hnd A H⟩
theorem ZeS {X:Cx}{A:Around} (hA:X.A=A) {tg:Expr} (a it:Addr):Zcm X tg (Zlh A X.K a) [it] it (fun i h=>h.IsListIter it a i):=by
 subst hA
 have T:=Zco (P:=X.prog) (w:=X.w) (K:=X.K) (tg:=tg) a it
 refine ⟨T.obj,T.keep,fun i pins s σ H E I hf st hg=>?_,fun i pins s σ H E I hf st hg=>?_,T.self⟩
 ·obtain ⟨xs,x,hq,hx⟩:=hg
  obtain ⟨its,rv,p,hz⟩:=I.list hq
  obtain ⟨u,hu,ru⟩:=rv.get hx
  obtain ⟨f0,f1,f2,f3,f4,f5⟩:=hf it (by simp)
  refine wpAny_pyNext_list_item st p.isList (x:=u) (by simpa using hu) fun h' st' sb=>?_
  have I1:Inv X pins σ H { s with heap:=h' }:=I.turned (t':=s.toks) (fun b o hb e=>(sb.2 b hb).trans e) f0 f1 f3 f4 f5
  obtain ⟨o,e,c,d⟩:=id st'
  exact ⟨u,rfl,ZfC (s:={ s with heap:=h' }) e c d (by decide) ⟨x,H,I1,ru,⟨rfl,fun ys hy=>by rw [I.list_inj hy hq];exact hx⟩,st',fun b hb=>(hf b hb).1⟩⟩
 ·obtain ⟨⟨xs,hq,hx⟩,hn⟩:=hg
  obtain ⟨its,rv,p,hz⟩:=I.list hq
  obtain ⟨f0,f1,f2,f3,f4,f5⟩:=hf it (by simp)
  have hl:=rv.length
  exact ZgB (I.quietH hn) st p.isList (by simp;lia) fun h' eb=>⟨rfl,I.turned (t':=s.toks) eb f0 f1 f3 f4 f5⟩
def Znr (X:Cx) (pins:List (Addr×Obj)) (σ:St) (tg:Expr) (R:It->Hp->Prop) (itv:Value) (s2:Shared):Prop:=
 ∃(it:Addr) (fp:List Addr) (tn:Nat->Heap->Prop) (J:It) (H':Hp),itv = .ref it/\Inv X pins σ H' s2/\(∀X':Cx,X'.A=X.A->X'.K=X.K->Zcm X' tg J fp it tn)/\tn 0 s2.heap/\(∀b∈fp,UB X pins H' b)/\R J H'
def PI2 (X:Cx) (tg iter:Expr) (wi:TI):Prop:=
 ∀(pins:List (Addr×Obj)) (s:Shared) (σ:St) (H:Hp) (R:It->Hp->Prop),Inv X pins σ H s->wi σ H R ->
  wpAny (model X.prog X.w) X.A (eval iter X.env) (fun v s1=>wpAny (model X.prog X.w) X.A (pyIter v) (Znr X pins σ tg R) X.xe s1) X.xe s
theorem PIQ.two {X:Cx}{tg iter:Expr}{wi:TI} (h:PIQ X tg iter wi):PI2 X tg iter wi:=fun pins s σ H R I q=>
 wpAny_mono (h pins s σ H R I q) (fun v s1 h1=>wpAny_mono h1 (fun itv s2 ⟨it,fp,tn,J,H',a,b,c,d⟩=>⟨it,fp,tn,J,H',a,b,fun X' e _=>c X' e,d⟩) fun _ _ e=>e) fun _ _ e=>e
section
variable {X:Cx}{tg:Expr}
def ZlK (A:Around) (K:PySem.W.Frag) (tl:TE):TI:=fun σ H R=>tl σ H fun v H1=>∃a,v = .ref a/\(∃xs,Zp K H1 a xs)/\R (Zlh A K a) H1
theorem Zih {A:Around}{K:PySem.W.Frag}{l:Expr}{tl:TE} (hA:X.A=A) (hk:X.K=K) (hl:PE X l tl):PI2 X tg l (ZlK A K tl):=by
 subst hA
 subst hk
 intro pins s σ H R I h
 refine Yq (hl pins s σ H _ I h) fun v s1 ⟨x,H1,I1,r1,q⟩=>?_
 obtain ⟨a,rfl,⟨xs,hq⟩,q⟩:=q
 cases r1
 obtain ⟨its,rv,p,hz⟩:=I1.list hq
 refine wpAny_pyIter_list p.isList ⟨s1.heap.objs.size,[s1.heap.objs.size],_,_,H1,rfl,I1.kept (t':=s1.toks) fun b o e=>Heap.get?_push_of_some _ e,fun X' e1 e2=>e2 ▸ ZeS e1 a _,⟨_,Heap.get?_push_size _ rfl,rfl,rfl⟩,fun b hb=>?_,q⟩
 obtain rfl:b=_:=by simpa using hb
 exact I1.fpOk (Nat.le_refl _) (I1.hok.fresh (Nat.le_refl _))
theorem ZkP {elt iter:Expr}{ifs:List Expr}{scope:Scope}{pos:Pos}{Ls Fs:List Str}{fi:List Nat}{g:TG}{tc:TT}{te:TE}{wi:TI}{i:Nat}{x:Str}{pos' spos:Pos} (hN:X.N.Nodup) (hi':X.N[i]? = some x) (hx:Loc X.env.scope x) (S:ZJ X.N X.env.scope scope Ls Fs fi) (hi:PI2 X tg iter wi)
  (hb:∀cl C s3 H3 ex,PG (blk X scope (Ls++Fs) cl C s3 H3 ex) tg g/\PTs (blk X scope (Ls++Fs) cl C s3 H3 ex) ifs tc/\PE (blk X scope (Ls++Fs) cl C s3 H3 ex) elt te)
  (hsw:swapsWith (.ListComp elt [⟨tg,iter,ifs,0⟩] scope pos) (some (.Name x pos')) spos.line X.env=pure true:=by rfl)
  (hs:∀x,foldedSetIterable iter X.env x=pure x:=by intro _;rfl) (hf:X.fn x=true∨X.env.scope.names.lookup x=some .local:=by first | exact .inl rfl | exact .inr rfl | assumption):
  PS X (.Assign [.Name x pos'] (.ListComp elt [⟨tg,iter,ifs,0⟩] scope pos) spos) (Zj6 (tLc Ls.length fi wi g tc te) (Jf i)):=by
 intro pins s σ H D' I h
 rw [exec_Assign_Name_used _ _ _ _ hsw]
 obtain ⟨cl,hcl,hcl1,hcl2⟩:=ZcN (scope:=scope) (env:=X.env) fun y hy hf=>I.ok.has y.1 (S.all y hy hf)
 refine wpAny_bind (wpAny_standAt (wpAny_bind ?_))
 show wpAny _ X.A (do let _ <- comprehension (.ListComp elt [⟨tg,iter,ifs,0⟩] scope pos) scope X.env _ (newList []) false (eval iter X.env) (some (assign (.Name x pos') X.env))) _ _ s
 refine wpAny_bind (wpAny_mono (wpAny_comprehension_free (use:=some (assign (.Name x pos') X.env)) (Q:=fun _ s'=>SP X pins D' .next s') rfl hs hcl S.kind S.names
  (wpAny_mono (hi pins s σ H _ I h) (fun v s1 h1=>wpAny_mono h1 (fun itv s2 h2=>?_) fun _ _ e=>e) fun _ _ e=>e)) (fun _ s' hq=>wpAny_pure (wpAny_pure hq)) fun _ _ e=>e)
 obtain ⟨it,fp,tn,J,H2,e,I2,T,st2,f2,hW⟩:=h2
 subst e
 refine ZbM (RR:=fun acc C=>compPost (model X.prog X.w) X.A X.xe (some (assign (.Name x pos') X.env)) (fun _ s'=>SP X pins D' .next s') acc C) (Q:=fun x H1=>Jf i x σ H1 D'.nx) S (hb cl) hcl1 hcl2 I2 (fun C s3 H3 ex=>T _ rfl rfl) st2 f2 hW fun D C H' s' m I' q hn f=>?_
 obtain ⟨f0,f1,f2,f3,f4,f5⟩:=f
 show wpAny _ X.A (assign (.Name x pos') X.env (.ref D)) _ _ _
 refine wpAny_assign_Name (Zap I' hN hi' hx (v:=.ref D) rfl (fun s'' I'' hch=>?_) hf)
 obtain ⟨a,sb,ha⟩:=hch
 have hCa:C≠a:=by
  rcases ha with z | z
  ·rw [z];exact f1
  ·exact (f4 x a z).symm
 exact ⟨m,hn.sameBut sb hCa,fun h' hs'=>⟨_,H',I''.turned (it:=C) (t':=s''.toks) (fun b o hb e=>(hs'.2 b hb).trans e) f0 f1 f3 f4 f5,q⟩⟩
theorem Zev {A:Around} (hA:X.A=A):Ja X (.builtin "max") (fun xs H Q=>∃i j,xs = [.int i,.int j]/\Hnd A H/\Q (.int (if j>i then j else i)) H):=by
 subst hA
 intro pins s σ H xs us Q I r h
 obtain ⟨i,j,rfl,hn,q⟩:=h
 obtain ⟨u,w',rfl,⟨t,rfl⟩,⟨t',rfl⟩⟩:=vals2 r
 refine ZiA (I.quietH hn) fun h' tk k=>⟨_,H,I.kept k,?_,q⟩
 by_cases hj:j>i
 ·rw [if_pos hj,if_pos hj];exact ⟨_,rfl⟩
 ·rw [if_neg hj,if_neg hj];exact ⟨_,rfl⟩
theorem ZjG {iter:Expr}{body:List Stmt}{wi:TI}{g:TG}{tb:TS}{pos:Pos} (hp:PassesOwn (model X.prog X.w) X.A X.env X.xe) (hi:PI2 X tg iter wi) (hg:PG X tg g) (hb:PSs X body tb)
  (hs:∀x,foldedSetIterable iter X.env x=pure x:=by intro _;rfl):PS X (.For tg iter body [] pos) (Zme wi g tb):=by
 intro pins s σ H D I h
 refine wpAny_For (Yq (hi pins s σ H _ I h) fun v s1 h1=>Yq h1 fun itv s2 h2=>?_) hs
 obtain ⟨it,fp,tn,J,H2,e,I2,T0,st2,f2,W,⟨m0,w0⟩,turn⟩:=h2
 subst e
 have T:=T0 X rfl rfl
 have stat:∀{H':Hp},(∀b∈fp,H' b=none) -> ∀b∈fp,UB X pins H' b:=fun hn b hb=>⟨hn b hb,(f2 b hb).2⟩
 refine codeAny_forLoop_any (fun n s'=>∃i σ' H',Inv X pins σ' H' s'/\tn i s'.heap/\(∀b∈fp,H' b=none)/\W i n σ' H') ?_ m0 ⟨0,σ,H2,I2,st2,fun b hb=>(f2 b hb).1,w0⟩
 rintro n s3 ⟨i,σ3,H3,I3,st3,fr3,w3⟩
 rcases turn i n σ3 H3 w3 with ⟨stop,qn⟩ | ⟨go,N,hN,step⟩
 ·refine wpAny_passesOwn hp (Yq (T.done i pins s3 σ3 H3 X.xe I3 (stat fr3) st3 stop) fun r s4 ⟨hr,I4⟩=>?_)
  subst hr
  exact wpAny_execs_nil ⟨σ3,H3,I4,qn⟩
 ·refine wpAny_passesOwn hp (Yq (T.item i pins s3 σ3 H3 X.xe I3 (stat fr3) st3 go) fun r s4 ⟨u,hr,h4⟩=>?_)
  subst hr
  refine wpAny_passesOwn hp (Yq h4 fun _ s5 ⟨x,H5,I5,r5,y5,st5,fr5⟩=>?_)
  have I5':=I5.pinned (stat fr5) (T.obj _ _ st5)
  refine wpAny_passesOwn hp (Yq (hg _ s5 σ3 H5 x u _ I5' r5 (step x H5 y5)) fun _ s6 ⟨σ6,H6,I6,q6⟩=>?_)
  refine wpAny_passesOwn hp (Yq (hb _ s6 σ6 H6 _ I6 q6) fun f s7 q7=>?_)
  have again:∀{σ7:St}{H7:Hp},Inv X (pins++Zay fp s5.heap) σ7 H7 s7->N σ7 H7 -> ∃m,m<n /\ ∃i σ' H',Inv X pins σ' H' s7/\tn i s7.heap/\(∀b∈fp,H' b=none)/\W i m σ' H':=fun {σ7 H7} I7 n7=>by
   obtain ⟨m',hm,w7⟩:=hN σ7 H7 n7
   refine ⟨m',hm,i+1,σ7,H7,I7.unpinned,T.keep _ _ _ st5 fun b hb o e=>(I7.pin (b,o) (List.mem_append_right _ (List.mem_append_right _ (Jp hb e)))).1,fun b hb=>?_,w7⟩
   obtain ⟨o,e,d⟩:=T.obj _ _ st5 b hb
   exact (I7.pin (b,o) (List.mem_append_right _ (List.mem_append_right _ (Jp hb e)))).2.1
  cases f with
  | next=>obtain ⟨σ7,H7,I7,n7⟩:=q7;exact again I7 n7
  | cont=>obtain ⟨σ7,H7,I7,n7⟩:=q7;exact again I7 n7
  | brk=>obtain ⟨σ7,H7,I7,q7⟩:=q7;exact ⟨σ7,H7,I7.unpinned,q7⟩
  | ret v=>obtain ⟨x7,σ7,H7,I7,r7,q7⟩:=q7;exact ⟨x7,σ7,H7,I7.unpinned,r7,q7⟩
end
theorem ZiT {A:Around}{K:PySem.W.Frag}{a:Addr}{xs:List V} {σ:St}{g:TG}{tc:TT}{te:TE}{H:Hp}{Q:VK} (hn:xs.length<=sizeLine) (Pv:Nat->List V->Hp->Prop) (h0:Pv 0 [] H) (hlen:∀i ys H,Pv i ys H->ys.length<=i) (hS:∀i ys H,Pv i ys H->Zp K H a xs/\Hnd A H)
  (hs:∀i x ys H,xs[i]? = some x->Pv i ys H->g x σ H fun σ2 H2=>tc σ2 H2 fun b H3=>if b=true then te σ2 H3 fun y H4=>Pv (i+1) (ys ++ [y]) H4 else Pv (i+1) ys H3)
  (hd:∀ys H,Pv xs.length ys H -> ∀D,H D=none->Q (.ref D) (upd H D (.lst ys))):LcW (Zlh A K a) σ g tc te H Q:=
 ZbE hn Pv h0 hlen (fun i ys H hi p=>⟨xs,xs[i],(hS i ys H p).1,by simp [hi]⟩) (fun ys H p=>⟨⟨xs,(hS _ ys H p).1,Nat.le_refl _⟩,(hS _ ys H p).2⟩) (fun i ys H hi p x H' y=>by
  obtain ⟨e,y⟩:=y
  subst e
  exact hs i x ys _ (y xs (hS i ys _ p).1) p) hd
theorem Zep {A:Around}{lo:Int}{n:Nat}{g:TG}{tb:TS}{D:Ends} {σ:St}{H:Hp} (Pv:Nat->St->Hp->Prop) (h0:Pv 0 σ H) (hq:∀i σ H,Pv i σ H->Hnd A H)
  (hs:∀i σ H,i<n->Pv i σ H->g (.int (lo+i)) σ H fun σ2 H2=>tb { D with nx:=Pv (i+1),ct:=Pv (i+1),bk:=D.nx } σ2 H2) (hd:∀ σ H,Pv n σ H->D.nx σ H):
  ∃W:Nat->Nat->St->Hp->Prop,(∃m,W 0 m σ H) /\ ∀i m σ H,W i m σ H ->
   ((Ziw A lo n).stop i H/\D.nx σ H)∨((Ziw A lo n).go i H /\ ∃N:St->Hp->Prop,(∀ σ' H',N σ' H' -> ∃m',m'<m/\W (i+1) m' σ' H') /\ ∀x H',(Ziw A lo n).yld i H x H'->g x σ H' fun σ2 H2=>tb { D with nx:=N,ct:=N,bk:=D.nx } σ2 H2):=by
 refine ⟨fun i m σ H=>m=n-i/\i<=n/\Pv i σ H,⟨n,by simp,Nat.zero_le _,h0⟩,?_⟩
 rintro i m σ H ⟨rfl,hi,p⟩
 by_cases hlt:i<n
 ·refine .inr ⟨hlt,Pv (i+1),fun σ' H' p'=>⟨n-(i+1),by lia,rfl,hlt,p'⟩,fun x H' y=>?_⟩
  obtain ⟨e,y⟩:=y
  subst e y
  exact hs i σ _ hlt p
 ·have e:i=n:=by lia
  subst e
  exact .inl ⟨⟨Nat.le_refl _,hq _ _ _ p⟩,hd σ H p⟩
def ZmO (K:PySem.W.Frag) (Dc:Addr) (tb:(L2.St->Addr->Hp->Prop)->TS) (th:Addr->TS):TS:=fun D σ H=>∃R:L2.St->Addr->Hp->Prop,tb R D σ H /\ ∀(a C:Addr) (σ':L2.St) (H':Hp),R σ' C H'->H' a=none->PySem.W.mroIn K C (.ref Dc)=some true/\th a D σ' (upd H' a (.ext (isX a C)))
section
variable {X:Cx}{pins:List (Addr×Obj)} {σ:L2.St}{H:Hp}{s:Shared}{R:L2.St->Addr->Hp->Prop}
theorem ZjC {K:PySem.W.Frag}{body suite:List Stmt}{b₀:Stmt}{cx:Str}{Dc:Addr}{tb:(L2.St->Addr->Hp->Prop)->TS}{th:Addr->TS}{np hpos pos:Pos}{newId:String} (hk:X.K=K) (hb:∀pins R,PSs ((X.nailed pins).wish (xeS (X.nailed pins) R)) body (tb R)) (hs:∀pins a,PSs (X.suite pins a) (b₀::suite) (th a))
  (hg:Gl X cx) (hm:X.mg cx=some (.ref Dc)) (hcD:PySem.W.excIn X.K Dc bmV newId=true)
  (hex:X.ex = []:=by rfl) (hst:X.stack=X.env::X.outer:=by rfl) (hfr:X.env.frame=some X.env.locals:=by rfl) (hd:(cx==("__debug__" : Str))=false:=by decide):
  PS X (.Try body [.ExceptHandler (some (.Name cx np)) none (b₀::suite) hpos] [] [] pos) (ZmO K Dc tb th):=by
 intro pins s σ H D I hw
 subst hk
 obtain ⟨R,hw1,hw2⟩:=hw
 refine wpAny_Try_except ?_
 refine wpAny_mono (hb pins R [] s σ H D (I.nail.wish _) hw1) (fun f s1 q=>?_) (fun e s1 xe=>?_)
 ·cases f with
  | next=>obtain ⟨σ',H',I',d⟩:=q;exact wpAny_execs_nil ⟨σ',H',I'.unwish.unnail,d⟩
  | brk=>obtain ⟨σ',H',I',d⟩:=q;exact ⟨σ',H',I'.unwish.unnail,d⟩
  | cont=>obtain ⟨σ',H',I',d⟩:=q;exact ⟨σ',H',I'.unwish.unnail,d⟩
  | ret u=>obtain ⟨v,σ',H',I',r,d⟩:=q;exact ⟨v,σ',H',I'.unwish.unnail,r,d⟩
 ·obtain ⟨a,T,C,σ',H',rfl,I',ex,a0,T0,ha,hT,np',hR'⟩:=xe
  have ok:X.Ok:=I.ok
  have np1:∀p∈(X.nailed pins).pn ++ [],p.1≠a/\p.1≠T:=fun p hp=>np' p (by simpa using hp)
  refine looked (L:=X.env.locals) (outer:=X.outer) (base:=X.base) (by rw [<- hst];exact ok.frames) hfr (by rw [<- hst];exact I'.stack) ex fun h2 T2 keep slot ex2 oT=>?_
  have I2:Inv (X.nailed pins) [] σ' H' { s1 with heap:=h2 }:=I'.left hex ⟨ha,a0⟩ ⟨hT,T0⟩ np1 ⟨_,ex⟩ (by show ∀b o,_->b∉W9 X.stack->_;rw [hst];exact keep) (by show ∀b o,_->b∈W9 X.stack->_;rw [hst];exact slot)
  have old:∀{h:Heap} {σ'':L2.St}{s2:Shared},Inv (X.nailed pins) [] σ'' H' s2 -> ∀b,s2.heap.get? b=none->H' b=none/\X.s₀.heap.get? b=none /\ ∀p∈(X.nailed pins).pn,p.1≠b:=fun J b e=>by
   refine ⟨YN J.hok e,?_,fun p hp z=>?_⟩
   ·cases q:X.s₀.heap.get? b with
    | none=>rfl
    | some o=>
     obtain ⟨o',z⟩:=J.base.there b o q (by show b∉X.ex;rw [hex];exact fun y=>nomatch y)
     rw [e] at z
     cases z
   ·have:=(J.pin p (List.mem_append_left _ hp)).1
    rw [z,e] at this
    cases this
  have T2f:H' T2=none/\X.s₀.heap.get? T2=none /\ ∀p∈(X.nailed pins).pn,p.1≠T2:=by
   rcases oT with z | z
   ·rw [z];exact ⟨hT,T0,fun p hp=>(np' p hp).2⟩
   ·exact old (h:=s1.heap) I' T2 z
  obtain ⟨bmD,ND,nmD,qnD,bsD,hdD,snD,subD,abD,colD,ddD,j0,j1,j2,j3,j5,mD,hD,hND,hniD,TD⟩:=ZiZ I2.kIn hcD
  have hbD:bmD.contains (.type "BaseException")=true:=TD.hasType PySem.F.excBase_ValueError.hasBase
  refine wpAny_handleBy_cons (codeAny_handlers_test ?_) (fun z=>nomatch z)
  refine WZ (X:=X.suite pins a) (I2.suite ok a) hg hm ?_ hd
  obtain ⟨oe,vs,oT',ts,x1,x2,x3⟩:=id ex2
  refine ZgR hD x1 x2 hbD (PySem.W.looks_mroIn I2.kIn (hw2 a C σ' H' hR' ha).1) ?_
  refine codeAny_handlers_suite ?_
  refine landed (s:={ s1 with heap:=h2 }) ex2 fun h3 keep3 ex3=>?_
  have np2:∀p∈(X.nailed pins).pn ++ [],p.1≠a/\p.1≠T2:=fun p hp=>⟨(np1 p hp).1,T2f.2.2 p (by simpa using hp)⟩
  have I3:Inv (X.nailed pins) [] σ' H' { s1 with heap:=h3 }:=I2.left hex ⟨ha,a0⟩ ⟨T2f.1,T2f.2.1⟩ np2 ⟨_,ex2⟩ (fun b o e _ z1 z2=>keep3 b o e z1 z2) (fun b o e hb=>by
   obtain ⟨_,o',e',dd⟩:=I2.stack.mem hb
   rw [e] at e'
   cases e'
   have n:=ex2.ne_dict e dd
   exact ⟨o.slots,keep3 b o e n.1 n.2⟩)
  have hx3:isX a C h3:=by obtain ⟨oe,vs,oT,ts,y1,y2,y3,_,_,_,_,_,y9⟩:=ex3;exact ⟨oe,y1,y2,vs,y3,y9⟩
  have hL:a≠X.env.locals:=by
   obtain ⟨m,⟨o,es,ep,ho,hdt,_⟩,_⟩:=I3.loc
   exact fun z=>(ex3.ne_dict ho (fun vs y=>by rw [hdt] at y;cases y)).1 z.symm
  have hcl:∀x c,X.env.cells.lookup x=some c->c≠a:=fun x c e=>by
   obtain ⟨v,o,ho,hdt⟩:=I3.cell x c e
   exact (ex3.ne_dict ho (fun vs y=>by rw [hdt] at y;cases y)).1
  have I4:Inv (X.nailed pins) [] σ' (upd H' a (.ext (isX a C))) { s1 with heap:=h3 }:=I3.track ha a0 hL hcl (fun p hp=>(np1 p hp).1) hx3
  refine wpAny_mono (hs pins a [] _ _ _ _ (I4.suite ok a) (hw2 a C σ' H' hR' ha).2) (fun f s7 q=>?_) (fun _ _ z=>z.elim)
  cases f with
  | next=>obtain ⟨σ7,H7,I7,dq⟩:=q;exact ⟨_,H7,I7.unsuite ok,dq⟩
  | brk=>obtain ⟨σ7,H7,I7,dq⟩:=q;exact ⟨_,H7,I7.unsuite ok,dq⟩
  | cont=>obtain ⟨σ7,H7,I7,dq⟩:=q;exact ⟨_,H7,I7.unsuite ok,dq⟩
  | ret u=>obtain ⟨v,σ7,H7,I7,r,dq⟩:=q;exact ⟨v,_,H7,I7.unsuite ok,r,dq⟩
end
end L2
namespace Qk15
open PySem L2 PyProof.Rows
def top (i:Nat):Stmt:=PySem.Challenge.pw_bendfronts_k15_whole_deed_twice.main.body.getD i (.Pass ⟨0,0,0,0⟩)
section
variable {P:Program}{w:World}{K:PySem.W.Frag}{mg:Str->Option Value}{base:Heap}
def JX:Sp:=fun vs H Q _=>∃(b:Addr) (m:Int),vs = [.ref b,.int m]/\Ww H b/\1<=m/\m<1073741824 /\ ∀(d:Int) (H':Hp),0<=d->d<m->Ww H' b->Yp b H H'->Q (.int d) H'
abbrev Wb:Stmt:=top 24
theorem JK:Zw ["_law_bag_here", "_law_many", "_law_digit"] ["_law_bag_here", "_law_many"] (Zh Wb):={}
theorem Zj4 {f:Addr}{fd:FuncData} (F:YH K "_law_take" "_law_take" Wb f fd):Z6 P w K mg base WW 1 f fd ["_law_bag_here", "_law_many"] JX:=by
 refine F.ok JK (fun vs H Q E h=>?_) (fun cdv A outer s H vs Q E hr h=>?_)
 ·obtain ⟨b,m,rfl,_⟩:=h
  rfl
 ·obtain ⟨b,m,rfl,⟨g,r,hg,hb⟩,h1,h2,k⟩:=h
  refine ⟨_,(Ze (YY (ZH US (Zx (Zk (K:=K) rfl) (pv 0) Zf (fun _ _=>rfl)) Zf (ZP _)) (Ze (Zq (i:=2) JK.nd rfl (Or.inl rfl) (Zm JG (Zx (Zk (K:=K) rfl) (pv 0) Zf (fun _ _=>rfl)) (pv 1)))
   (Ze (YE (Zm UR (Zx (Zk (K:=K) rfl) (pv 0) Zf (fun _ _=>rfl)) (pv 1)) (JC (pv 0) Zf set_list))
   (Zi (Zz (pv 2))))) Yd)
   (Ze (YE (Zm JG (Zm ZA (Zm Wm (Zx (Zk (K:=K) rfl) (pv 0) Zf (fun _ _=>rfl)) Zf) Zf) Zf) (JC (pv 0) Zf set_list))
   (Zi (Zz (Zm JG (Zm JG (Zm ZcP (Zm UR (Zx (Zk (K:=K) rfl) (pv 0) Zf (fun _ _=>rfl)) Zf) Zf) Zf) (pv 1)))))),?_⟩
  refine ⟨_,rfl,b,_,_,_,rfl,rfl,Zp.of hb,Zs (j:=0) rfl,_,_,rfl,rfl,_,rfl,?_⟩
  refine Gg (fun hp=>?_) (fun hp=>?_)
  ·have hp':0<g:=of_decide_eq_true hp
   refine ⟨_,rfl,b,_,_,_,rfl,rfl,Zp.of hb,Zs (j:=0) rfl,_,rfl,_,_,rfl,rfl,(by omega:0<m),?_⟩
   refine ⟨_,rfl,b,_,_,_,rfl,rfl,Zp.of hb,Zs (j:=0) rfl,_,rfl,_,_,rfl,rfl,⟨by omega,by omega⟩,_,rfl,b,_,_,0,rfl,rfl,hb,rfl,?_⟩
   refine ⟨_,rfl,k _ _ (Int.emod_nonneg _ (by omega)) (Int.emod_lt_of_pos _ (by omega)) ⟨g / m,r,Int.ediv_nonneg (by omega) (by omega),Zb⟩ Yp.upd⟩
  ·refine ⟨_,rfl,b,_,_,_,rfl,rfl,Zp.of hb,Zs (j:=1) rfl,_,_,rfl,rfl,.inr ⟨by decide,by decide⟩,_,_,rfl,rfl,_,_,rfl,rfl,(show (0:Int)<2147483647 by decide),_,rfl,b,_,_,1,rfl,rfl,hb,rfl,?_⟩
   have e1:0<=(r*48271+11) % 2147483647:=Int.emod_nonneg _ (by decide)
   have e2:(r*48271+11) % 2147483647<2147483647:=Int.emod_lt_of_pos _ (by decide)
   refine ⟨_,rfl,b,_,_,_,rfl,rfl,Zp.of Zb,Zs (j:=1) rfl,_,_,rfl,rfl,⟨by decide,by decide⟩,_,_,rfl,rfl,⟨by decide,by decide,by omega⟩,_,_,rfl,rfl,(show (0:Int)<2147483629 by decide),_,rfl,_,_,rfl,rfl,(by omega:0<m),?_⟩
   exact k _ _ (Int.emod_nonneg _ (by omega)) (Int.emod_lt_of_pos _ (by omega)) ⟨g,_,hg,Zb⟩ Yp.upd
def Zhw (K:PySem.W.Frag):Sp:=fun vs H Q _=>∃(a:Addr) (i:Int) (ns:List Int),vs = [.ref a,.int i]/\Zp K H a (ns.map V.int)/\0<=i/\i<1000 /\ ∀(l:Addr) (H':Hp),H l=none->Zd H H'->Ww H' l->Q (.ref l) H'
abbrev UH:Stmt:=top 23
theorem Y6:Zw ["_law_script", "_law_at", "_law_cell", "_law_great", "_law_primes"] ["_law_script", "_law_at"] (Zh UH):={}
theorem ZlP {f:Addr}{fd:FuncData} (F:YH K "_law_bag" "_law_bag" UH f fd) (Z3:mg "len" = none) (ZfE:mg "abs" = none):Z6 P w K mg base WW 1 f fd ["_law_script", "_law_at"] (Zhw K):=by
 refine F.ok Y6 (fun vs H Q E h=>?_) (fun cdv A outer s H vs Q E hr h=>?_)
 ·obtain ⟨a,i,ns,rfl,_⟩:=h
  rfl
 ·obtain ⟨a,i,ns,rfl,hS,h0,h1,k⟩:=h
  refine ⟨_,(Ze (Zq (i:=2) Y6.nd rfl (Or.inl rfl) Zf)
   (Ze (YY (ZH Zf6 (pv 1) (ZG (Yb (K:=K) rfl) (by rfl) Z3 PySem.boot_len (Za (pv 0) Zc)) (ZP _)) (Zi (Zq (i:=2) Y6.nd rfl (Or.inl rfl) (Zx (Zk (K:=K) rfl) (pv 0) (pv 1) (fun _ _=>rfl)))) Yd)
   (Ze (Zq (i:=3) Y6.nd rfl (Or.inl rfl) Zf)
   (Ze (YY (ZH ZmQ (ZG Zed (by rfl) ZfE boot_abs (Za (pv 2) Zc)) (Zm ZcP Zf Zf) (ZP _)) (Zi (Zq (i:=3) Y6.nd rfl (Or.inl rfl) (ZG Zed (by rfl) ZfE boot_abs (Za (pv 2) Zc)))) Yd)
   (Ze (Zq (i:=4) Y6.nd rfl (Or.inl rfl) (Z4 (Za Zf (Za Zf (Za Zf (Za Zf (Za Zf (Za Zf (Za Zf (Za Zf Zc))))))))))
   (Zi (Zz (Z4 (Za (pv 3) (Za (Zm JG (Zm ZcP (Zm ZA (Zm ZA (Zm JG (pv 2) Zf) (Zm Wm Zf (pv 1))) Zf) Zf) (Zx (Zk (K:=K) rfl) (pv 4) (Zm JG (pv 1) Zf) (fun _ _=>rfl))) Zc)))))))))),?_⟩
  refine ⟨_,rfl,_,rfl,a,_,rfl,.inl hS,_,_,rfl,rfl,_,rfl,?_⟩
  have last:∀(c:Int),0<=c % 2147483647/\c % 2147483647<2147483647:=fun c=>⟨Int.emod_nonneg _ (by decide),Int.emod_lt_of_pos _ (by decide)⟩
  have e3:0<=i % 8:=Int.emod_nonneg _ (by decide)
  have e4:i % 8<8:=Int.emod_lt_of_pos _ (by decide)
  obtain ⟨j,hj⟩:∃j:Nat,i % 8=(j:Int):=⟨(i % 8).toNat,by omega⟩
  have hj8:j<8:=by omega
  obtain ⟨q,hq,hq0⟩:∃q:Int,([V.int 2147483629,.int 2147483587,.int 2147483579,.int 2147483563,.int 2147483549,.int 2147483543,.int 2147483497,.int 2147483489]:List V)[j]? = some (.int q)/\0<q:=by
   match j,hj8 with
   | 0,_=>exact ⟨_,rfl,by decide⟩
   | 1,_=>exact ⟨_,rfl,by decide⟩
   | 2,_=>exact ⟨_,rfl,by decide⟩
   | 3,_=>exact ⟨_,rfl,by decide⟩
   | 4,_=>exact ⟨_,rfl,by decide⟩
   | 5,_=>exact ⟨_,rfl,by decide⟩
   | 6,_=>exact ⟨_,rfl,by decide⟩
   | 7,_=>exact ⟨_,rfl,by decide⟩
  have two:∀(c:Int) (B:Prop),B->(c=0 ∨ ∃j:Nat,i=(j:Int)/\ns[j]? = some c)->B:=fun _ _ b _=>b
  refine Gg (fun hp=>?_) (fun hp=>?_)
  ·have hp':i<((ns.map V.int).length:Int):=of_decide_eq_true hp
   rw [List.length_map] at hp'
   obtain ⟨n,hn⟩:∃n:Nat,i=(n:Int):=⟨i.toNat,by omega⟩
   have hnl:n<ns.length:=by omega
   refine ⟨_,rfl,_,rfl,a,_,_,_,rfl,rfl,hS,(by rw [hn];exact Zs (v:=V.int ns[n]) (by simp [hnl])),?_⟩
   refine ⟨_,rfl,_,rfl,_,_,rfl,rfl,⟨by decide,by decide,by decide⟩,_,_,rfl,rfl,_,rfl,?_⟩
   refine Gg (fun hp=>?_) (fun hp=>?_)
   ·refine ⟨_,rfl,_,rfl,?_⟩
    have l0:=last ns[n]
    refine ⟨(by show 8<=sizeLine;decide),fun pl hpl=>?_⟩
    refine ⟨_,rfl,_,rfl,_,_,rfl,rfl,(show (0:Int)<2147483647 by decide),_,rfl,_,_,rfl,rfl,.inl ⟨by decide,by decide⟩,_,_,rfl,rfl,_,_,rfl,rfl,_,_,rfl,rfl,⟨by decide,by decide,by omega⟩,_,rfl,_,rfl,_,_,rfl,rfl,(show (0:Int)<8 by decide),pl,_,_,_,rfl,rfl,Zp.of Zb,(by rw [hj];exact Zs hq),_,_,rfl,rfl,hq0,(by show 2<=sizeLine;decide),fun l hl=>?_⟩
    have hl0:H l=none:=(Zd.laid hpl).free hl
    exact k l _ hl0 ((Zd.laid hpl).step hl) ⟨_,_,(by split<;>omega),Zb⟩
   ·have l0:=last ns[n]
    refine ⟨(by show 8<=sizeLine;decide),fun pl hpl=>?_⟩
    refine ⟨_,rfl,_,rfl,_,_,rfl,rfl,(show (0:Int)<2147483647 by decide),_,rfl,_,_,rfl,rfl,.inl ⟨by decide,by decide⟩,_,_,rfl,rfl,_,_,rfl,rfl,_,_,rfl,rfl,⟨by decide,by decide,by omega⟩,_,rfl,_,rfl,_,_,rfl,rfl,(show (0:Int)<8 by decide),pl,_,_,_,rfl,rfl,Zp.of Zb,(by rw [hj];exact Zs hq),_,_,rfl,rfl,hq0,(by show 2<=sizeLine;decide),fun l hl=>?_⟩
    have hl0:H l=none:=(Zd.laid hpl).free hl
    exact k l _ hl0 ((Zd.laid hpl).step hl) ⟨0,_,Int.le_refl _,Zb⟩
  ·refine ⟨_,rfl,_,rfl,_,_,rfl,rfl,⟨by decide,by decide,by decide⟩,_,_,rfl,rfl,_,rfl,?_⟩
   refine Gg (fun hp=>?_) (fun hp=>?_)
   ·exact absurd hp (by decide)
   ·have l0:=last 0
    refine ⟨(by show 8<=sizeLine;decide),fun pl hpl=>?_⟩
    refine ⟨_,rfl,_,rfl,_,_,rfl,rfl,(show (0:Int)<2147483647 by decide),_,rfl,_,_,rfl,rfl,.inl ⟨by decide,by decide⟩,_,_,rfl,rfl,_,_,rfl,rfl,_,_,rfl,rfl,⟨by decide,by decide,by omega⟩,_,rfl,_,rfl,_,_,rfl,rfl,(show (0:Int)<8 by decide),pl,_,_,_,rfl,rfl,Zp.of Zb,(by rw [hj];exact Zs hq),_,_,rfl,rfl,hq0,(by show 2<=sizeLine;decide),fun l hl=>?_⟩
    have hl0:H l=none:=(Zd.laid hpl).free hl
    exact k l _ hl0 ((Zd.laid hpl).step hl) ⟨0,_,Int.le_refl _,Zb⟩
theorem Zle {ls:List (Str×Int)}{i:Nat}{q:Str×Int} (hq:ls[i]? = some q) (pr:Str->Bool):isK ls pr i=pr q.1:=by
 unfold isK
 rw [hq]
 cases h:pr q.1<;>simp [h]
theorem Zdd {ls:List (Str×Int)}{n:Int} (h:Wk ls n):Z8 ls=n:=by
 have g1:Zdu "born" = 2:=by decide +kernel
 have g2:Zdu "cross" = 0:=by decide +kernel
 have g3:Zdu "end" = -2:=by decide +kernel
 induction h with
 | nil=>rfl
 | born _ _ _ ih=>rw [JR,ih,g1]
 | cross _ _ _ ih=>rw [JR,ih,g2];lia
 | fin _ _ _ ih=>rw [JR,ih,g3];lia
def InB (ls:List (Str×Int)):Prop:=(∀i,Z8 (ls.take i)<=8)/\(Jd ls (fun x=>decide (x = "born")) ls.length).length<=4/\(Jd ls (fun x=>decide (x = "cross")) ls.length).length<=12
def cnt (x:Str) (ls:List (Str×Int)):Nat:=(ls.filter fun p=>decide (p.1=x)).length
theorem Z5 (x:Str) (ls:List (Str×Int)) (p:Str×Int):cnt x (ls ++ [p])=cnt x ls+if p.1=x then 1 else 0:=by
 unfold cnt
 rw [List.filter_append,List.length_append]
 by_cases e:p.1=x<;>simp [e]
theorem GY (x:Str) (ls:List (Str×Int)):(Jd ls (fun y=>decide (y=x)) ls.length).length=cnt x ls:=by
 have key:∀n,n<=ls.length->(Jd ls (fun y=>decide (y=x)) n).length=cnt x (ls.take n):=by
  intro n
  induction n with
  | zero=>intro _;rfl
  | succ n ih=>
   intro hn
   have hq:ls[n]? = some ls[n]:=by simp [show n<ls.length by lia]
   rw [Uc,List.length_append,ih (by lia),List.take_add_one,hq]
   show _=cnt x (ls.take n ++ [ls[n]])
   rw [Z5,Zle hq]
   by_cases e:ls[n].1=x<;>simp [e]
 have:=key ls.length (Nat.le_refl _)
 rwa [List.take_of_length_le (Nat.le_refl _)] at this
structure Gd (ls:List (Str×Int)) (n:Int) (b c:Nat):Prop where
 wk:Wk ls n
 mx:∀i,Z8 (ls.take i)<=8
 bo:cnt "born" ls=b
 cr:cnt "cross" ls=c
theorem ZcO {ls:List (Str×Int)}{p:Str×Int} (h:∀i,Z8 (ls.take i)<=8) (h2:Z8 (ls ++ [p])<=8):∀i,Z8 ((ls ++ [p]).take i)<=8:=fun i=>by
 by_cases hi:i<=ls.length
 ·rw [List.take_append_of_le_length hi];exact h i
 ·rw [List.take_of_length_le (by rw [List.length_append,List.length_singleton];lia)];exact h2
theorem Ze8:Gd [] 0 0 0:=⟨.nil,fun i=>by simp [Z8],rfl,rfl⟩
theorem ZfW {ls:List (Str×Int)}{n k:Int}{b c:Nat} (h:Gd ls n b c) (h0:0<=k) (h1:k<=n) (h2:n+2<=8):Gd (ls ++ [(("born" : Str),k)]) (n+2) (b+1) c:=by
 have wk:=Wk.born (k:=k) h.wk h0 h1
 refine ⟨wk,ZcO h.mx (by rw [Zdd wk];exact h2),?_,?_⟩
 ·rw [Z5,h.bo];simp
 ·rw [Z5,h.cr,if_neg (fun z=>nb1 z.symm)];rfl
theorem UP {ls:List (Str×Int)}{n k:Int}{b c:Nat} (h:Gd ls n b c) (h0:0<=k) (h1:k+1<n) (h2:n<=8):Gd (ls ++ [(("cross" : Str),k)]) n b (c+1):=by
 have wk:=Wk.cross (k:=k) h.wk h0 h1
 refine ⟨wk,ZcO h.mx (by rw [Zdd wk];exact h2),?_,?_⟩
 ·rw [Z5,h.bo,if_neg (fun z=>nb1 z)];rfl
 ·rw [Z5,h.cr];simp
theorem Zfd {ls:List (Str×Int)}{n k:Int}{b c:Nat} (h:Gd ls n b c) (h0:0<=k) (h1:k+1<n) (h2:n<=10):Gd (ls ++ [(("end" : Str),k)]) (n-2) b c:=by
 have wk:=Wk.fin (k:=k) h.wk h0 h1
 refine ⟨wk,ZcO h.mx (by rw [Zdd wk];lia),?_,?_⟩
 ·rw [Z5,h.bo,if_neg (fun z=>nb2 z)];rfl
 ·rw [Z5,h.cr,if_neg (fun z=>nb3 z)];rfl
theorem ZkE {ls:List (Str×Int)}{n:Int}{b c:Nat} (h:Gd ls n b c) (hb:b<=4) (hc:c<=12):InB ls:=by
 refine ⟨h.mx,?_,?_⟩
 ·rw [GY,h.bo];exact hb
 ·rw [GY,h.cr];exact hc
theorem Zcw:∀(n:Nat),n<=4->Gd ((List.range n).map fun (k:Nat)=>((("born" : Str),2*(k:Int)):Str×Int)) (2*(n:Int)) n 0
 | 0,_=>by simpa using Ze8
 | n+1,h=>by
  rw [List.range_succ,List.map_append]
  have e:(2*((n+1:Nat):Int))=2*(n:Int)+2:=by lia
  rw [e]
  exact ZfW (Zcw n (by lia)) (by lia) (by lia) (by lia)
theorem Zc8 {ls:List (Str×Int)}{b c:Nat}:∀(n:Nat),n<=4->Gd ls (2*(n:Int)) b c -> ∀m,m<=n->Gd (ls++List.replicate m ((("end" : Str),0):Str×Int)) (2*((n-m:Nat):Int)) b c
 | n,_,h,0,_=>by simpa using h
 | n,h4,h,m+1,hm=>by
  have ih:=Zc8 n h4 h m (by lia)
  rw [List.replicate_succ',<- List.append_assoc]
  have e:(2*((n-(m+1):Nat):Int))=2*((n-m:Nat):Int)-2:=by lia
  rw [e]
  exact Zfd ih (by decide) (by lia) (by lia)
def Zfm (lo:Int):Sp:=fun vs H Q _=>∃(b:Addr) (m n:Int),vs = [.ref b,.int m,.int n]/\Ww H b/\1<=m/\m<=4/\0<=n/\n<=12 /\ ∀(l:Addr) (H':Hp) (ls:List (Str×Int)),H l=none->Ww H' b->Yp b H H'->Drw H' l ls->InB ls->ls.length<=50->ls ≠ []->Q (.ref l) H'
def Zcy:Sp:=fun vs H Q _=>∃(b:Addr) (n:Int),vs = [.ref b,.int n]/\Ww H b/\0<=n/\n<=12 /\ ∀(l:Addr) (H':Hp) (ls:List (Str×Int)),H l=none->Ww H' b->Yp b H H'->Drw H' l ls->InB ls->ls.length<=50->ls ≠ []->Q (.ref l) H'
abbrev J2:Stmt:=top 25
theorem Zy:Zw ["_law_bag_here", "_law_births", "_law_most", "_law_letters", "_law_many", "_law_left", "_law_crosses", "_law_turn", "_law_way"] ["_law_bag_here", "_law_births", "_law_most"] (Zh J2):={}
theorem ZjR {f:Addr}{fd:FuncData} (F:YH K "_law_drawing" "_law_drawing" J2 f fd) (Zl:JB P w K mg base 1 "_law_take" ["_law_bag_here", "_law_many"] JX) (Zt:mg "range" = none):
  Z6 P w K mg base WW 2 f fd ["_law_bag_here", "_law_births", "_law_most"] (Zfm 0):=by
 refine F.ok Zy (fun vs H Q E h=>?_) (fun cdv A outer s H vs Q E hr h=>?_)
 ·obtain ⟨b,m,n,rfl,_⟩:=h
  rfl
 ·obtain ⟨b,m,n,rfl,hbag,m1,m2,n1,n2,k⟩:=h
  refine ⟨_,(Ze (Zq (i:=3) Zy.nd rfl (Or.inl rfl) (Z4 Zc))
   (Ze (Zq (i:=4) Zy.nd rfl (Or.inl rfl) Zf)
   (Ze (Zq (i:=5) Zy.nd rfl (Or.inl rfl) (Zm ZA Zf (Zv Zl hr (Za (pv 0) (Za (pv 1) Zc)))))
   (Ze (Zq (i:=6) Zy.nd rfl (Or.inl rfl) (Zv Zl hr (Za (pv 0) (Za (Zm ZA (pv 2) Zf) Zc))))
   (Ze (Yh PassesOwn.never rfl (Ya (by rfl) Zt (Za Zf Zc)) (Zn (i:=7) Zy.nd rfl (Or.inl rfl)) (Ze (Zq (i:=8) Zy.nd rfl (Or.inl rfl) (Zv Zl hr (Za (pv 0) (Za Zf Zc))))
   (Zi (YY (PW.pt (ZaD (ZH US (pv 5) Zf (ZP _)) (ZaD (ZH Zf6 (pv 4) Zf (ZP _)) (Zaj (PW.pt (ZmT (ZH U0 (pv 4) Zf (ZP _)) (ZlU (ZH U0 (pv 8) Zf (ZP _))))))))) (Ze (Yj (Jo (K:=K) rfl (Wz PySem.F.plainAttrs_list PySem.F.slot_list_append PySem.F.type_list_append Y2 (pv 3) (Za (Yo (Za ZV (Za (Zv Zl hr (Za (pv 0) (Za (Zm ZA (pv 4) Zf) Zc))) Zc))) Zc))))
   (Ze (Zq (i:=4) Zy.nd rfl (Or.inl rfl) (Zm ZA (pv 4) Zf))
   (Zi (Zq (i:=5) Zy.nd rfl (Or.inl rfl) (Zm YI (pv 5) Zf))))) (Zi (YY (PW.pt (ZaD (ZH US (pv 4) Zf (ZP _)) (Zaj (ZH U0 (pv 8) Zf (ZP _))))) (Ze (Yj (Jo (K:=K) rfl (Wz PySem.F.plainAttrs_list PySem.F.slot_list_append PySem.F.type_list_append Y2 (pv 3) (Za (Yo (Za ZV (Za (Zv Zl hr (Za (pv 0) (Za (Zm YI (pv 4) Zf) Zc))) Zc))) Zc))))
   (Zi (Zq (i:=4) Zy.nd rfl (Or.inl rfl) (Zm YI (pv 4) Zf)))) (Zi (YY (PW.pt (ZaD (ZH US (pv 4) Zf (ZP _)) (Zaj (ZH US (pv 6) Zf (ZP _))))) (Ze (Yj (Jo (K:=K) rfl (Wz PySem.F.plainAttrs_list PySem.F.slot_list_append PySem.F.type_list_append Y2 (pv 3) (Za (Yo (Za ZV (Za (Zv Zl hr (Za (pv 0) (Za (Zm YI (pv 4) Zf) Zc))) Zc))) Zc))))
   (Zi (Zq (i:=6) Zy.nd rfl (Or.inl rfl) (Zm YI (pv 6) Zf)))) Yd))))))))
   (Ze (ZiC PassesOwn.never (ZH US (pv 4) Zf (ZP _)) (Ze (Yj (Jo (K:=K) rfl (Wz PySem.F.plainAttrs_list PySem.F.slot_list_append PySem.F.type_list_append Y2 (pv 3) (Za (Yo (Za ZV (Za (Zv Zl hr (Za (pv 0) (Za (Zm YI (pv 4) Zf) Zc))) Zc))) Zc))))
   (Zi (Zq (i:=4) Zy.nd rfl (Or.inl rfl) (Zm YI (pv 4) Zf)))))
   (Zi (Zz (pv 3))))))))),?_⟩
  refine ⟨(by show 0<=sizeLine;decide),fun l hl=>?_⟩
  obtain ⟨g0,r0,hg0,hb0⟩:=id hbag
  have hlb:l≠b:=(Zg hb0 hl).symm
  have bag1:Ww (upd H l (.lst [])) b:=⟨g0,r0,hg0,by rw [Zj (Ne.symm hlb)];exact hb0⟩
  refine ⟨_,rfl,_,rfl,b,m,rfl,bag1,m1,by lia,fun d1 H1 p1 q1 bg1 f1=>?_⟩
  refine ⟨_,_,rfl,rfl,?_⟩
  refine ⟨_,rfl,_,rfl,_,_,rfl,rfl,b,_,rfl,bg1,by lia,by lia,fun d2 H2 p2 q2 bg2 f2=>?_⟩
  have hl2:H2 l=some (.lst []):=f2 l _ (f1 l _ Zb hlb) hlb
  have fr2:Yp b H H2:=fun c o e nb=>f2 c o (f1 c o (by rw [Zj (Zg e hl)];exact e) nb) nb
  refine ⟨30,rfl,by decide,by decide,Yk (n:=30) (fun i σ H'=>∃(xs:List V) (ls:List (Str×Int)) (c:Nat) (lf cr:Int) (tv wv:Option V),σ = [some (.ref b),some (.int m),some (.int n),some (.ref l),some (.int (2*(c:Int))),some (.int lf),some (.int cr),tv,wv]/\c<=4/\Ww H' b/\Yp b H H'/\H' l=some (.lst xs)/\Zu H' xs ls/\(∃bo cc:Nat,Gd ls (2*(c:Int)) bo cc/\(bo:Int)+lf<=m/\(cc:Int)+cr<=n/\0<=lf/\0<=cr)/\ls.length<=i/\(i=0->0<lf/\c=0)/\(0<i->ls ≠ []))
   ⟨[],[],0,_,_,none,none,rfl,by decide,bg2,fr2,hl2,.nil,⟨0,0,by simpa using Ze8,by lia,by lia,by lia,by lia⟩,Nat.le_refl _,fun _=>⟨by lia,rfl⟩,fun h=>absurd h (by decide)⟩ ?_ ?_⟩
  ·rintro i σ H3 hi ⟨xs,ls,c,lf,cr,tv,wv,rfl,hc,bg3,fr3,hl3,hL,⟨bo,cc,gd,hbo,hcc,hlf,hcr⟩,hlen,hz,hne⟩
   have hxl:xs.length<sizeLine:=by
    rw [hL.len]
    exact Z9 (by lia)
   refine ⟨_,rfl,b,8,rfl,bg3,by decide,by decide,fun wy H4 _ _ bg4 f4=>?_⟩
   have hl4:H4 l=some (.lst xs):=f4 l _ hl3 hlb
   have fr4:Yp b H H4:=fr3.trans f4
   have hL4:Zu H4 xs ls:=hL.frm f4 bg3
   dsimp only [Jf]
   refine ZeL (Zdg (β:=decide (0<lf)) (fun Q q=>⟨_,rfl,_,_,rfl,rfl,_,rfl,q⟩) fun _=>Zdg (β:=decide (2*(c:Int)<7)) (fun Q q=>⟨_,rfl,_,_,rfl,rfl,_,rfl,q⟩) fun _=>ZmX (fun Q q=>⟨_,rfl,rfl,_,rfl,q⟩) fun _=>(fun Q q=>⟨_,rfl,rfl,_,rfl,q⟩)) (fun hp=>?_) (fun hn=>?_)
   ·
    have hp1:2*(c:Int)<7:=by
     simp only [Bool.and_eq_true,decide_eq_true_eq] at hp
     exact hp.2.1
    have hp0:0<lf:=by
     simp only [Bool.and_eq_true,decide_eq_true_eq] at hp
     exact hp.1
    refine ⟨_,rfl,.inl ⟨rfl,_,Zp.of hl4⟩,_,rfl,_,rfl,_,_,rfl,rfl,b,_,rfl,bg4,by lia,by lia,fun d H5 hd0 hd1 bg5 f5=>⟨(by show 2<=sizeLine;decide),fun t ht=>?_⟩⟩
    obtain ⟨a1,a2,a3,a4,a5⟩:=J0 "born" d fr4 bg4 hl4 hL4 hlb hl f5 bg5 ht
    refine ⟨l,_,_,rfl,rfl,a1,hxl,_,rfl,_,_,rfl,rfl,_,rfl,_,_,rfl,rfl,?_⟩
    refine ⟨xs ++ [.ref t],ls ++ [((("born" : Str),d):Str×Int)],c+1,lf-1,cr,some (.int (0+(i:Int))),some (.int wy),?_,by lia,a2,a3,a4,a5,?_,by rw [List.length_append,List.length_singleton];lia,fun h=>absurd h (by lia),fun _=>by simp⟩
    ·have e:2*((c+1:Nat):Int)=2*(c:Int)+2:=by lia
     rw [e]
     rfl
    ·have e:2*((c+1:Nat):Int)=2*(c:Int)+2:=by lia
     rw [e]
     exact ⟨bo+1,cc,ZfW gd hd0 (by lia) (by lia),by lia,by lia,by lia,by lia⟩
   ·have hpos:0<i:=Nat.pos_of_ne_zero fun h=>by
     obtain ⟨q1,q2⟩:=hz h
     subst q2
     simp [q1] at hn
    refine ZeL (Zdg (β:=decide (1<2*(c:Int))) (fun Q q=>⟨_,rfl,_,_,rfl,rfl,_,rfl,q⟩) fun _=>(fun Q q=>⟨_,rfl,rfl,_,rfl,q⟩)) (fun hp=>?_) (fun _=>?_)
    ·
     have hp1:1<2*(c:Int):=by
      simp only [Bool.and_eq_true,decide_eq_true_eq] at hp
      exact hp.1
     refine ⟨_,rfl,.inl ⟨rfl,_,Zp.of hl4⟩,_,rfl,_,rfl,_,_,rfl,rfl,b,_,rfl,bg4,by lia,by lia,fun d H5 hd0 hd1 bg5 f5=>⟨(by show 2<=sizeLine;decide),fun t ht=>?_⟩⟩
     obtain ⟨a1,a2,a3,a4,a5⟩:=J0 "end" d fr4 bg4 hl4 hL4 hlb hl f5 bg5 ht
     refine ⟨l,_,_,rfl,rfl,a1,hxl,_,rfl,_,_,rfl,rfl,?_⟩
     have e:2*((c-1:Nat):Int)=2*(c:Int)-2:=by lia
     refine ⟨xs ++ [.ref t],ls ++ [((("end" : Str),d):Str×Int)],c-1,lf,cr,some (.int (0+(i:Int))),some (.int wy),?_,by lia,a2,a3,a4,a5,?_,by rw [List.length_append,List.length_singleton];lia,fun h=>absurd h (by lia),fun _=>by simp⟩
     ·rw [e]
      rfl
     ·rw [e]
      exact ⟨bo,cc,Zfd gd hd0 (by lia) (by lia),by lia,by lia,by lia,by lia⟩
    ·refine ZeL (Zdg (β:=decide (1<2*(c:Int))) (fun Q q=>⟨_,rfl,_,_,rfl,rfl,_,rfl,q⟩) fun _=>(fun Q q=>⟨_,rfl,_,_,rfl,rfl,_,rfl,q⟩)) (fun hp=>?_) (fun _=>?_)
     ·
      have hp1:1<2*(c:Int):=by
       simp only [Bool.and_eq_true,decide_eq_true_eq] at hp
       exact hp.1
      have hp2:0<cr:=by
       simp only [Bool.and_eq_true,decide_eq_true_eq] at hp
       exact hp.2
      refine ⟨_,rfl,.inl ⟨rfl,_,Zp.of hl4⟩,_,rfl,_,rfl,_,_,rfl,rfl,b,_,rfl,bg4,by lia,by lia,fun d H5 hd0 hd1 bg5 f5=>⟨(by show 2<=sizeLine;decide),fun t ht=>?_⟩⟩
      obtain ⟨a1,a2,a3,a4,a5⟩:=J0 "cross" d fr4 bg4 hl4 hL4 hlb hl f5 bg5 ht
      refine ⟨l,_,_,rfl,rfl,a1,hxl,_,rfl,_,_,rfl,rfl,?_⟩
      exact ⟨xs ++ [.ref t],ls ++ [((("cross" : Str),d):Str×Int)],c,_,_,_,_,rfl,hc,a2,a3,a4,a5,⟨bo,cc+1,UP gd hd0 (by lia) (by lia),by lia,by lia,by lia,by lia⟩,by rw [List.length_append,List.length_singleton];lia,fun h=>absurd h (by lia),fun _=>by simp⟩
     ·exact ⟨xs,ls,c,_,_,_,_,rfl,hc,bg4,fr4,hl4,hL4,⟨bo,cc,gd,by lia,by lia,by lia,by lia⟩,by lia,fun h=>absurd h (by lia),fun _=>hne hpos⟩
  ·
   rintro σ H3 ⟨xs,ls,c,lf,cr,tv,wv,rfl,hc,bg3,fr3,hl3,hL,⟨bo,cc,gd,hbo,hcc,hlf,hcr⟩,hlen,_,hne⟩
   refine Zit (fun σ H'=>∃(xs:List V) (ls:List (Str×Int)) (c:Nat),σ = [some (.ref b),some (.int m),some (.int n),some (.ref l),some (.int (2*(c:Int))),some (.int lf),some (.int cr),tv,wv]/\c<=4/\Ww H' b/\Yp b H H'/\H' l=some (.lst xs)/\Zu H' xs ls/\Gd ls (2*(c:Int)) bo cc/\ls.length+c<=34/\ls ≠ [])
    (fun (σ:L2.St) _=>match σ[4]? with | some (some (V.int m))=>m.toNat | _=>0) ⟨xs,ls,c,rfl,hc,bg3,fr3,hl3,hL,gd,by lia,hne (by decide)⟩ ?_ ?_
   ·rintro σ H4 ⟨xs,ls,c,rfl,hc,bg4,fr4,hl4,hL4,gd,hlen,hne'⟩
    have hxl:xs.length<sizeLine:=by
     rw [hL4.len]
     exact Z9 (by lia)
    refine ⟨_,rfl,_,_,rfl,rfl,_,rfl,?_⟩
    refine Gg (fun hp=>?_) (fun hp=>?_)
    ·have hp1:0<2*(c:Int):=of_decide_eq_true hp
     refine ⟨_,rfl,.inl ⟨rfl,_,Zp.of hl4⟩,_,rfl,_,rfl,_,_,rfl,rfl,b,_,rfl,bg4,by lia,by lia,fun d H5 hd0 hd1 bg5 f5=>⟨(by show 2<=sizeLine;decide),fun t ht=>?_⟩⟩
     obtain ⟨a1,a2,a3,a4,a5⟩:=J0 "end" d fr4 bg4 hl4 hL4 hlb hl f5 bg5 ht
     refine ⟨l,_,_,rfl,rfl,a1,hxl,_,rfl,_,_,rfl,rfl,?_⟩
     have e:2*((c-1:Nat):Int)=2*(c:Int)-2:=by lia
     refine ⟨⟨xs ++ [.ref t],ls ++ [((("end" : Str),d):Str×Int)],c-1,?_,by lia,a2,a3,a4,a5,?_,by rw [List.length_append,List.length_singleton];lia,by simp⟩,?_⟩
     ·rw [e]
      rfl
     ·rw [e]
      exact Zfd gd hd0 (by lia) (by lia)
     ·show (2*(c:Int)-2).toNat<(2*(c:Int)).toNat
      lia
    ·have hp1:¬ 0<2*(c:Int):=fun z=>hp (decide_eq_true z)
     have hc0:c=0:=by lia
     subst hc0
     have gd':Gd ls 0 bo cc:=by simpa using gd
     refine ⟨_,rfl,k l H4 ls hl bg4 fr4 ⟨xs,hl4,hL4,gd'.wk,by lia⟩ (ZkE gd' (by lia) (by lia)) (by lia) hne'⟩
   ·rintro σ H Q Q' f ⟨v,e,i,j,e1,e2,kk,e3,q⟩
    exact ⟨v,e,i,j,e1,e2,kk,e3,f _ _ q⟩
abbrev Jy:Stmt:=top 26
theorem YQ:Zw ["_law_bag_here", "_law_most", "_law_births", "_law_letters", "_law_turn", "_law_k"] ["_law_bag_here", "_law_most"] (Zh Jy):={}
theorem ZjS {f:Addr}{fd:FuncData} (F:YH K "_law_plat" "_law_plat" Jy f fd) (Zl:JB P w K mg base 1 "_law_take" ["_law_bag_here", "_law_many"] JX) (Zt:mg "range" = none):
  Z6 P w K mg base WW 2 f fd ["_law_bag_here", "_law_most"] Zcy:=by
 refine F.ok YQ (fun vs H Q E h=>?_) (fun cdv A outer s H vs Q E hr h=>?_)
 ·obtain ⟨b,n,rfl,_⟩:=h
  rfl
 ·obtain ⟨b,n,rfl,hbag,n1,n2,k⟩:=h
  refine ⟨_,(Ze (Zq (i:=2) YQ.nd rfl (Or.inl rfl) (Zm ZA Zf (Zv Zl hr (Za (pv 0) (Za Zf Zc)))))
   (Ze (Zbe (i:=3) YQ.nd rfl (Or.inl rfl) (Ls:=["_law_k"]) (Fs:=[]) (fi:=[]) (ZJ.of (show Yi ["_law_bag_here", "_law_most", "_law_births", "_law_letters", "_law_turn", "_law_k"] (Zh Jy) _ [] []=true by decide +kernel)) rfl (Ya (by rfl) Zt (Za (pv 2) Zc)) (fun cl C s3 H3 ex=>⟨(Zn (i:=0) (show ((["_law_k"]:List Str)++([]:List Str)).Nodup by decide +kernel) rfl (Or.inl rfl)),ZW,(Yo (Za ZV (Za (Zm Wm Zf (pv 0)) Zc)))⟩))
   (Ze (Yh PassesOwn.never rfl (Ya (by rfl) Zt (Za (Zv Zl hr (Za (pv 0) (Za (Zm ZA (pv 1) Zf) Zc))) Zc)) (Zn (i:=4) YQ.nd rfl (Or.inl rfl)) (Ze (Zq (i:=5) YQ.nd rfl (Or.inl rfl) (Zv Zl hr (Za (pv 0) (Za (Zm YI (Zm Wm Zf (pv 2)) Zf) Zc))))
   (Ze (YY (PW.pt (ZaD (ZH US (pv 2) Zf (ZP _)) (Zaj (ZH U0 (Zv Zl hr (Za (pv 0) (Za Zf Zc))) Zf (ZP _))))) (Zi (Zq (i:=5) YQ.nd rfl (Or.inl rfl) (Zm ZA (Zm Wm Zf (Zm JG (Zm UR (pv 5) Zf) (Zm YI (pv 2) Zf))) Zf))) Yd)
   (Zi (Yj (Jo (K:=K) rfl (Wz PySem.F.plainAttrs_list PySem.F.slot_list_append PySem.F.type_list_append Y2 (pv 3) (Za (Yo (Za ZV (Za (pv 5) Zc))) Zc))))))))
   (Zi (Zz (Zm Zat (pv 3) (Wh (Ls:=["_law_k"]) (Fs:=[]) (fi:=[]) (ZJ.of (show Yi ["_law_bag_here", "_law_most", "_law_births", "_law_letters", "_law_turn", "_law_k"] (Zh Jy) _ [] []=true by decide +kernel)) rfl (Ya (by rfl) Zt (Za (pv 2) Zc)) (fun cl C s3 H3 ex=>⟨(Zn (i:=0) (show ((["_law_k"]:List Str)++([]:List Str)).Nodup by decide +kernel) rfl (Or.inl rfl)),ZW,(Yo (Za ZV (Za Zf Zc)))⟩)))))))),?_⟩
  refine ⟨_,rfl,b,3,rfl,hbag,by decide,by decide,fun d H1 hd0 hd1 bg1 f1=>?_⟩
  refine ⟨_,_,rfl,rfl,?_⟩
  have hc1:1<=(1+d).toNat:=by lia
  have hc2:(1+d).toNat<=3:=by lia
  refine ⟨_,rfl,_,rfl,by lia,by lia,ZbL (n:=(1+d).toNat) (Nat.le_of_lt (Z9 (by lia))) (fun i ys H'=>Zd H1 H'/\Zu H' ys ((List.range i).map fun (j:Nat)=>(("born", 2*(j:Int)):Str×Int))) ⟨Zd.refl _,.nil⟩
   (fun i ys H' p=>by rw [p.2.len];simp) (fun i ys H' hi p=>?_) (fun ys H2 p l hl=>?_)⟩
  ·refine lcG ?_
   refine ⟨_,rfl,_,_,rfl,rfl,.inl ⟨by decide,by decide⟩,(by show 2<=sizeLine;decide),fun t ht=>⟨p.1.step ht,?_⟩⟩
   rw [List.range_succ,List.map_append]
   have e:(2*(0+(i:Int)))=2*(i:Int):=by lia
   refine Zu.snoc (p.2.same (Zd.laid ht)) ?_
   rw [<- e]
   exact Zb
  ·
   obtain ⟨sm,hL0⟩:=p
   obtain ⟨g0,r0,hg0,hb0⟩:=id bg1
   have hb2:H2 b=some (.lst [.int g0,.int r0]):=sm b _ hb0
   have hlb:l≠b:=(Zg hb2 hl).symm
   have bg2:Ww (upd H2 l (.lst ys)) b:=⟨g0,r0,hg0,by rw [Zj (Ne.symm hlb)];exact hb2⟩
   have hlH:H l=none:=f1.free bg1 (sm.free hl)
   have fr2:Yp b H (upd H2 l (.lst ys)):=(f1.trans sm.frm).new hl
   have hL2:Zu (upd H2 l (.lst ys)) ys ((List.range (1+d).toNat).map fun (j:Nat)=>(("born", 2*(j:Int)):Str×Int)):=hL0.same (Zd.laid hl)
   refine ⟨_,rfl,_,rfl,_,_,rfl,rfl,b,_,rfl,bg2,by lia,by lia,fun d2 H3 he0 he1 bg3 f3=>?_⟩
   refine ⟨_,rfl,by lia,by lia,Yk (n:=d2.toNat) (fun i σ H'=>∃(xs:List V) (ls:List (Str×Int)) (tv kv:Option V),σ = [some (.ref b),some (.int n),some (.int (1+d)),some (.ref l),tv,kv]/\Ww H' b/\Yp b H H'/\H' l=some (.lst xs)/\Zu H' xs ls/\Gd ls (2*((1+d).toNat:Int)) (1+d).toNat i/\ls.length<=3+i)
    ⟨ys,_,none,none,rfl,bg3,fr2.trans f3,f3 l _ Zb hlb,hL2.frm f3 bg2,Zcw _ (by lia),by rw [List.length_map,List.length_range];lia⟩ ?_ ?_⟩
   ·rintro i σ H4 hi ⟨xs,ls,tv,kv,rfl,bg4,fr4,hl4,hL4,hW,hlen⟩
    have hxl:xs.length<sizeLine:=by
     rw [hL4.len]
     exact Z9 (by lia)
    refine ⟨_,rfl,_,rfl,_,_,rfl,rfl,.inl ⟨by decide,by decide⟩,_,_,rfl,rfl,b,_,rfl,bg4,by lia,by lia,fun k1 H5 hk0 hk1 bg5 f5=>?_⟩
    have hl5:H5 l=some (.lst xs):=f5 l _ hl4 hlb
    have fr5:Yp b H H5:=fr4.trans f5
    have hL5:Zu H5 xs ls:=hL4.frm f5 bg4
    refine ⟨_,rfl,_,_,rfl,rfl,_,rfl,?_⟩
    refine Gg (fun hp=>?_) (fun hp=>?_)
    ·have hp1:1<1+d:=of_decide_eq_true hp
     refine ⟨_,rfl,b,2,rfl,bg5,by decide,by decide,fun d3 H6 _ _ bg6 f6=>⟨rfl,_,rfl,?_⟩⟩
     have hl6:H6 l=some (.lst xs):=f6 l _ hl5 hlb
     have fr6:Yp b H H6:=fr5.trans f6
     have hL6:Zu H6 xs ls:=hL5.frm f6 bg5
     refine Gg (fun hq=>?_) (fun hq=>?_)
     ·refine ⟨_,rfl,_,_,rfl,rfl,⟨by decide,by decide⟩,_,rfl,_,_,rfl,rfl,_,_,rfl,rfl,(show (0:Int)<1+d-1 by lia),_,_,rfl,rfl,.inl ⟨by decide,by decide⟩,_,_,rfl,rfl,?_⟩
      have z0:0<=k1 / 2 % (1+d-1):=Int.emod_nonneg _ (by lia)
      have z1:k1 / 2 % (1+d-1)<1+d-1:=Int.emod_lt_of_pos _ (by lia)
      refine ⟨_,rfl,.inl ⟨rfl,_,Zp.of hl6⟩,_,rfl,(by show 2<=sizeLine;decide),fun t ht=>?_⟩
      obtain ⟨a1,a2,a3,a4,a5⟩:=J0 "cross" (2*(k1 / 2 % (1+d-1))+1) fr6 bg6 hl6 hL6 hlb hlH (Yp.refl b H6) bg6 ht
      refine ⟨l,_,_,rfl,rfl,a1,hxl,?_⟩
      exact ⟨xs ++ [.ref t],_,_,_,rfl,a2,a3,a4,a5,UP hW (by lia) (by lia) (by lia),by rw [List.length_append,List.length_singleton];lia⟩
     ·refine ⟨_,rfl,.inl ⟨rfl,_,Zp.of hl6⟩,_,rfl,(by show 2<=sizeLine;decide),fun t ht=>?_⟩
      obtain ⟨a1,a2,a3,a4,a5⟩:=J0 "cross" k1 fr6 bg6 hl6 hL6 hlb hlH (Yp.refl b H6) bg6 ht
      refine ⟨l,_,_,rfl,rfl,a1,hxl,?_⟩
      exact ⟨xs ++ [.ref t],_,_,_,rfl,a2,a3,a4,a5,UP hW (by lia) (by lia) (by lia),by rw [List.length_append,List.length_singleton];lia⟩
    ·refine ⟨_,rfl,.inl ⟨rfl,_,Zp.of hl5⟩,_,rfl,(by show 2<=sizeLine;decide),fun t ht=>?_⟩
     obtain ⟨a1,a2,a3,a4,a5⟩:=J0 "cross" k1 fr5 bg5 hl5 hL5 hlb hlH (Yp.refl b H5) bg5 ht
     refine ⟨l,_,_,rfl,rfl,a1,hxl,?_⟩
     exact ⟨xs ++ [.ref t],_,_,_,rfl,a2,a3,a4,a5,UP hW (by lia) (by lia) (by lia),by rw [List.length_append,List.length_singleton];lia⟩
   ·rintro σ H4 ⟨xs,ls,tv,kv,rfl,bg4,fr4,hl4,hL4,hW,hlen⟩
    refine ⟨_,rfl,_,rfl,_,rfl,by lia,by lia,ZbL (n:=(1+d).toNat) (Nat.le_of_lt (Z9 (by lia))) (fun i ys H'=>Zd H4 H'/\Zu H' ys (List.replicate i ((("end" : Str),0):Str×Int))) ⟨Zd.refl _,.nil⟩
     (fun i ys H' p=>by rw [p.2.len];simp) (fun i ys H' hi p=>?_) (fun zs H5 p D hD=>?_)⟩
    ·refine lcG ?_
     refine ⟨(by show 2<=sizeLine;decide),fun t ht=>⟨p.1.step ht,?_⟩⟩
     rw [List.replicate_succ']
     exact Zu.snoc (p.2.same (Zd.laid ht)) Zb
    ·obtain ⟨sm5,hZ⟩:=p
     have hl5:H5 l=some (.lst xs):=sm5 l _ hl4
     have hZl:=hZ.len
     rw [List.length_replicate] at hZl
     have hXl:=hL4.len
     refine ⟨l,D,xs,zs,rfl,rfl,(by rw [Zj (Zg hl5 hD)];exact hl5),Zb,Nat.le_of_lt (Z9 (by lia)),fun p hp=>?_⟩
     have sm6:Zd H4 (upd (upd H5 D (.lst zs)) p (.lst (xs++zs))):=(sm5.step hD).step hp
     have hpH:H p=none:=fr4.free bg4 ((sm5.step hD).free hp)
     obtain ⟨g4,r4,hg4,hb4⟩:=id bg4
     refine k p _ (ls++List.replicate (1+d).toNat ((("end" : Str),0):Str×Int)) hpH ⟨g4,r4,hg4,sm6 b _ hb4⟩ (fr4.trans sm6.frm) ⟨xs++zs,Zb,?_,?_,?_⟩ ?_ ?_ ?_
     ·exact (hL4.same sm6).append (hZ.same ((Zd.laid hD).step hp))
     ·have:=(Zc8 _ (by lia) hW (1+d).toNat (Nat.le_refl _)).wk
      simpa using this
     ·rw [List.length_append,List.length_replicate]
      lia
     ·exact ZkE (Zc8 _ (by lia) hW (1+d).toNat (Nat.le_refl _)) (by lia) (by lia)
     ·rw [List.length_append,List.length_replicate]
      lia
     ·intro z
      have:=congrArg List.length z
      rw [List.length_append,List.length_replicate,List.length_nil] at this
      lia
abbrev UI:Stmt:=top 27
theorem ZdX:Zw ["_law_bag_here", "_law_most"] ["_law_bag_here", "_law_most"] (Zh UI):={}
theorem Zlg {f:Addr}{fd:FuncData} (F:YH K "_law_any" "_law_any" UI f fd) (Zl:JB P w K mg base 1 "_law_take" ["_law_bag_here", "_law_many"] JX) (Gr:JB P w K mg base 2 "_law_plat" ["_law_bag_here", "_law_most"] Zcy)
  (J7:JB P w K mg base 2 "_law_drawing" ["_law_bag_here", "_law_births", "_law_most"] (Zfm 0)):Z6 P w K mg base WW 3 f fd ["_law_bag_here", "_law_most"] Zcy:=by
 refine F.ok ZdX (fun vs H Q E h=>?_) (fun cdv A outer s H vs Q E hr h=>?_)
 ·obtain ⟨b,n,rfl,_⟩:=h
  rfl
 ·obtain ⟨b,n,rfl,hbag,n1,n2,k⟩:=h
  refine ⟨_,(Ze (YY (ZH U0 (Zv Zl hr (Za (pv 0) (Za Zf Zc))) Zf (ZP _)) (Zi (Zz (Zv Gr hr (Za (pv 0) (Za (pv 1) Zc))))) Yd)
   (Zi (Zz (Zv J7 hr (Za (pv 0) (Za Zf (Za (pv 1) Zc))))))),?_⟩
  refine ⟨_,rfl,b,3,rfl,hbag,by decide,by decide,fun d H1 _ _ bg1 f1=>⟨rfl,_,rfl,?_⟩⟩
  refine Gg (fun _=>?_) (fun _=>?_)
  ·exact ⟨_,rfl,_,rfl,b,n,rfl,bg1,n1,n2,fun l H2 ls hl bg2 f2 dr ib ll ne=>k l H2 ls (f1.free bg1 hl) bg2 (f1.trans f2) dr ib ll ne⟩
  ·exact ⟨_,rfl,_,rfl,b,4,n,rfl,bg1,by decide,by decide,n1,by lia,fun l H2 ls hl bg2 f2 dr ib ll ne=>k l H2 ls (f1.free bg1 hl) bg2 (f1.trans f2) dr ib ll ne⟩
theorem take_snoc {α:Type}{l:List α}{j:Nat}{x:α} (h:l[j]? = some x):l.take (j+1)=l.take j ++ [x]:=by rw [List.take_add_one,h];rfl
def Zd3:Sp:=fun vs H Q _=>∃(d l:Addr) (L ws:WS),vs = [.ref d,.ref l]/\DOd H d L/\WL H l ws/\L.length+ws.length<=14000000 /\ ∀H',Yp d H H'->DOd H' d (L++ws)->Q .non H'
abbrev ZhJ:Stmt:=top 11
theorem Zhp:Zw ["odd", "words", "word"] ["odd", "words"] (Zh ZhJ):={}
theorem Zk9 {f:Addr}{fd:FuncData} (F:YH K "put" "put" ZhJ f fd):Z6 P w K mg base WW 1 f fd ["odd", "words"] Zd3:=by
 refine F.ok Zhp (fun vs H Q E h=>?_) (fun cdv A outer s H vs Q E hr h=>?_)
 ·obtain ⟨d,l,L,ws,rfl,_⟩:=h
  rfl
 ·obtain ⟨d,l,L,ws,rfl,hd,hl,hz,k⟩:=h
  refine ⟨_,(Zi (Yh PassesOwn.never rfl (ZM (K:=K) rfl (pv 1)) (Zn (i:=2) Zhp.nd rfl (Or.inl rfl)) (Zi (YY (ZkY (ZlB (ZfS hr) (pv 2) (pv 0))) (Zi (Zhd (ZfS hr) (pv 0) (pv 2))) (Zi (YE ZbJ (JC (pv 0) (pv 2) (set_dict (ZfS hr))))))))),?_⟩
  obtain ⟨xs,el,hw⟩:=id hl
  have hdl:l≠d:=fun z=>by
   obtain ⟨_,_,e,_⟩:=hd
   rw [z,e] at el;cases el
  have lx:=Words.len hw
  refine ⟨_,rfl,l,rfl,⟨_,Zp.of el⟩,Jx (K:=K) (a:=l) (xs:=xs) (fun j σ G=>∃v2:Option V,σ = [some (.ref d),some (.ref l),v2]/\Yp d H G/\DOd G d (L++ws.take j)) ⟨none,rfl,Yp.refl _ _,by simpa using hd⟩ (fun j σ G _ ⟨_,_,fr,_⟩=>Zp.of (fr l _ el hdl)) ?_ ?_⟩
  ·rintro j x σ G hx ⟨v2,rfl,fr,dg⟩
   obtain ⟨w,hj,p,rfl,hp⟩:=Words.get hw hx
   have ep:G p=some (.tup ((kW w).map kV)):=by rw [Zmz];exact hd.tups fr p _ hp
   obtain ⟨kvs,ks,ed,ek,ok⟩:=dg
   have hlen:=ok.len
   have lk:kvs.length=ks.length:=by simpa using congrArg List.length ek
   rw [List.length_append,List.length_take] at hlen
   refine ⟨_,rfl,_,rfl,d,_,rfl,ZaS.t ed ep,_,rfl,Gg (fun hp=>?_) (fun hp=>?_)⟩
   ·refine ⟨_,rfl,_,rfl,d,kvs,kW w,p,rfl,ed,rfl,ep,hp,?_⟩
    refine ⟨_,rfl,fr.trans Yp.upd,_,_,Zb,Zck ek,?_⟩
    rw [take_snoc hj,<- List.append_assoc]
    exact ZhI ok ((Zdr ek).mp hp)
   ·have nk:w∉ks:=fun z=>hp ((Zdr ek).mpr z)
    refine ⟨_,rfl,_,rfl,d,_,rfl,ZhO.t ed ep (by rw [sizeLine_eq];lia),?_⟩
    refine ⟨_,rfl,fr.trans Yp.upd,_,_,Zb,Zif ek nk,?_⟩
    rw [take_snoc hj,<- List.append_assoc]
    exact Zjb ok nk
  ·rintro σ G ⟨v2,rfl,fr,dg⟩
   refine k G fr ?_
   rwa [List.take_of_length_le (by lia)] at dg
def Za9:Sp:=fun vs H Q _=>∃(a b:Addr) (L M:WS),vs = [.ref a,.ref b]/\WL H a L/\WL H b M/\L.length+M.length<=14000000 /\ ∀(p:Addr) (H':Hp) (r:WS),H p=none->Zd H H'->WL H' p r->Z0 (L++M) r->Q (.ref p) H'
abbrev Zdl:Stmt:=top 12
theorem Zd4:Zw ["one", "other", "odd"] ["one", "other"] (Zh Zdl):={}
theorem Zhl {f:Addr}{fd:FuncData} (F:YH K "added" "added" Zdl f fd) (Uo:JB P w K mg base 1 "put" ["odd", "words"] Zd3) (Yy:mg "sorted" = none):Z6 P w K mg base WW 2 f fd ["one", "other"] Za9:=by
 refine F.ok Zd4 (fun vs H Q E h=>?_) (fun cdv A outer s H vs Q E hr h=>?_)
 ·obtain ⟨a,b,L,M,rfl,_⟩:=h
  rfl
 ·obtain ⟨a,b,L,M,rfl,ha,hb,hz,k⟩:=h
  refine ⟨_,(Ze (Zq (i:=2) Zd4.nd rfl (Or.inl rfl) Zbg)
   (Ze (Yj (Zv Uo hr (Za (pv 2) (Za (pv 0) Zc))))
   (Ze (Yj (Zv Uo hr (Za (pv 2) (Za (pv 1) Zc))))
   (Zi (Zz (ZG (Wt rfl hr.units) (by rfl) Yy boot_sorted (Za (pv 2) Zc))))))),?_⟩
  intro d hd
  have s0:Zd H (upd H d (.dT [])):=Zd.laid hd
  have d0:DOd (upd H d (.dT [])) d []:=⟨[],[],Zb,rfl,Zbs⟩
  refine ⟨_,rfl,_,rfl,d,a,[],L,rfl,d0,ha.same s0,by simp;lia,fun H1 f1 d1=>?_⟩
  refine ⟨_,rfl,_,rfl,d,b,_,M,rfl,d1,d0.wl f1 (hb.same s0),by simpa using hz,fun H2 f2 d2=>?_⟩
  have sm:Zd H H2:=fun c o e=>by
   have nd:=Zg e hd
   exact f2 c o (f1 c o (s0 c o e) nd) nd
  obtain ⟨kvs,ks,ed,ek,ok⟩:=d2
  refine ⟨_,rfl,d,kvs,ks,rfl,ed,ek,fun l zs vs hl pm hw rs=>?_⟩
  have s3:Zd H2 (upd H2 l (.lst zs)):=Zd.laid hl
  exact k l _ vs (sm.free hl) (sm.trans s3) ⟨zs,Zb,Words.same s3 hw⟩ (by simpa using ok.odd pm rs)
def Zfh:Sp:=fun vs H Q _=>∃(a b:Addr) (L M:WS),vs = [.ref a,.ref b]/\WL H a L/\WL H b M/\L2.Gd 1000 100000 L/\L2.Gd 1000 100000 M /\ ∀(p:Addr) (H':Hp) (r:WS),H p=none->Zd H H'->WL H' p r->Z0 (ZD L M) r->Q (.ref p) H'
theorem Zd0 {L:WS}{j:Nat}{w:List Int} (h:L[j]? = some w) (M:WS):ZD (L.take (j+1)) M=ZD (L.take j) M++M.map fun v=>w++v:=by
 rw [take_snoc h,Y0,ZY]
 simp [ZD]
abbrev JN:Stmt:=top 13
theorem Wn:Zw ["one", "other", "odd", "word"] ["one", "other"] (Zh JN):={}
theorem Zj2 {f:Addr}{fd:FuncData} (F:YH K "multiplied" "multiplied" JN f fd) (Uo:JB P w K mg base 1 "put" ["odd", "words"] Zd3) (Yy:mg "sorted" = none):Z6 P w K mg base WW 2 f fd ["one", "other"] Zfh:=by
 refine F.ok Wn (fun vs H Q E h=>?_) (fun cdv A outer s H vs Q E hr h=>?_)
 ·obtain ⟨a,b,L,M,rfl,_⟩:=h
  rfl
 ·obtain ⟨a,b,L,M,rfl,ha,hb,gL,gM,k⟩:=h
  refine ⟨_,(Ze (Zq (i:=2) Wn.nd rfl (Or.inl rfl) Zbg)
   (Ze (Yh PassesOwn.never rfl (ZM (K:=K) rfl (pv 0)) (Zn (i:=3) Wn.nd rfl (Or.inr rfl)) (Zi (Yj (Zv Uo hr (Za (pv 2) (Za (Wh (Ls:=["behind"]) (Fs:=["word"]) (fi:=[3]) (ZJ.of (show Yi ["one", "other", "odd", "word"] (Zh JN) _ ["word"] [3]=true by decide +kernel)) rfl (ZM (K:=K) rfl (pv 1)) (fun cl C s3 H3 ex=>⟨(Zn (i:=0) (show ((["behind"]:List Str)++(["word"]:List Str)).Nodup by decide +kernel) rfl (Or.inl rfl)),ZW,(Zm Za1 (pv 1) (pv 0))⟩)) Zc))))))
   (Zi (Zz (ZG (Wt rfl hr.units) (by rfl) Yy boot_sorted (Za (pv 2) Zc)))))),?_⟩
  intro d hd
  have s0:Zd H (upd H d (.dT [])):=Zd.laid hd
  have d0:DOd (upd H d (.dT [])) d []:=⟨[],[],Zb,rfl,Zbs⟩
  obtain ⟨xs,ea,wa⟩:=id ha
  obtain ⟨ys,eb,wb⟩:=id hb
  have lx:=Words.len wa
  have ly:=Words.len wb
  have nL:=gL.1
  have nM:=gM.1
  refine ⟨_,rfl,a,rfl,⟨_,Zp.of (s0 a _ ea)⟩,Jx (K:=K) (a:=a) (xs:=xs) (fun j σ G=>∃v3:Option V,σ = [some (.ref a),some (.ref b),some (.ref d),v3]/\Zd H G/\DOd G d (ZD (L.take j) M)) ⟨none,rfl,s0,by simpa [ZD] using d0⟩ (fun j σ G _ ⟨_,_,sg,_⟩=>Zp.of (sg a _ ea)) ?_ ?_⟩
  ·rintro j x σ G hx ⟨v3,rfl,sg,dg⟩
   obtain ⟨w,hj,wx⟩:=Words.get wa hx
   have gw:=gL.2 w (List.mem_of_getElem? hj)
   refine ⟨_,rfl,_,rfl,b,rfl,⟨_,Zp.of (sg b _ eb)⟩,YM (K:=K) (xs:=ys) (by rw [sizeLine_eq];lia) (fun i zs G'=>Zd G G'/\Words G' zs ((M.take i).map fun v=>w++v)) ⟨Zd.refl _,.nil⟩
    (fun i zs G' ⟨_,z⟩=>by rw [Words.len z,List.length_map,List.length_take];lia) (fun i zs G' ⟨s',_⟩=>Zp.of (s' b _ (sg b _ eb))) ?_ ?_⟩
   ·rintro i y zs G' hy ⟨s',wz⟩
    obtain ⟨v,hv,wy⟩:=Words.get wb hy
    have gv:=gM.2 v (List.mem_of_getElem? hv)
    have wx':Y9 G' x w:=(wx.same sg).same s'
    have wy':Y9 G' y v:=(wy.same sg).same s'
    have em:(M.take (i+1)).map (fun v=>w++v)=(M.take i).map (fun v=>w++v) ++ [w++v]:=by rw [take_snoc hv,List.map_append];rfl
    dsimp only [Jf,Wd]
    refine Ux ⟨_,rfl,_,rfl,w,v,wx',wy',by rw [sizeLine_eq];lia,fun z=>⟨s',?_⟩,fun z=>⟨s',?_⟩,fun p hp=>⟨s'.step hp,?_⟩⟩
    ·rw [em];refine Words.snoc wz ?_;rw [z];exact wy'
    ·rw [em];refine Words.snoc wz ?_;rw [z,List.append_nil];exact wx'
    ·rw [em];exact Words.snoc (Words.same (Zd.laid hp) wz) ⟨p,rfl,Zb⟩
   ·rintro zs G' ⟨s',wz⟩ D hD
    rw [List.take_of_length_le (by lia)] at wz
    have s2:Zd G' (upd G' D (.lst zs)):=Zd.laid hD
    have s3:Zd G (upd G' D (.lst zs)):=s'.trans s2
    have dg2:DOd (upd G' D (.lst zs)) d (ZD (L.take j) M):=let ⟨kvs,ks,e,r⟩:=dg;⟨kvs,ks,s3 d _ e,r⟩
    refine ⟨d,D,_,_,rfl,dg2,⟨zs,Zb,Words.same s2 wz⟩,?_,fun G2 f2 d2=>?_⟩
    ·have h1:(L.take j).length*M.length<=1000*1000:=Nat.mul_le_mul (by rw [List.length_take];lia) nM
     rw [Wc,List.length_map]
     lia
    ·refine ⟨_,rfl,fun c o e=>f2 c o (s3 c o (sg c o e)) (Zg e hd),?_⟩
     rw [Zd0 hj]
     exact d2
  ·rintro σ G ⟨v3,rfl,sg,dg⟩
   rw [List.take_of_length_le (by lia)] at dg
   obtain ⟨kvs,ks,ed,ek,ok⟩:=dg
   refine ⟨_,rfl,d,kvs,ks,rfl,ed,ek,fun l zs vs hl pm hw rs=>?_⟩
   have s3:Zd G (upd G l (.lst zs)):=Zd.laid hl
   exact k l _ vs (sg.free hl) (sg.trans s3) ⟨zs,Zb,Words.same s3 hw⟩ (ok.odd pm rs)
def Za7:Stmt->List Stmt
 | .ClassDef _ _ _ body ..=>body
 | _=>[]
def ZaK (H:Hp) (C x:Addr):Prop:=∃(dx:Addr) (fs:List (Str×V)),H x=some (.ins C dx fs)/\fs = []
theorem Zek {H H':Hp}{C x:Addr} (s:Zd H H') (h:ZaK H C x):ZaK H' C x:=let ⟨dx,fs,e,q⟩:=h;⟨dx,fs,s _ _ e,q⟩
def U6 (C:Addr):Sp:=fun vs H Q _=>∃x:Addr,vs = [.ref x] /\ ∀(p:Addr) (H':Hp),H p=none->Zd H H'->WL H' p []->Q (.ref p) H'
def Zfe (C:Addr):Sp:=fun vs H Q _=>∃x:Addr,vs = [.ref x] /\ ∀(p:Addr) (H':Hp),H p=none->Zd H H'->WL H' p [[]]->Q (.ref p) H'
def Za4:Sp:=fun vs H Q _=>∃(x a b:Addr) (L M:WS),vs = [.ref x,.ref a,.ref b]/\WL H a L/\WL H b M/\L.length+M.length<=14000000 /\ ∀(p:Addr) (H':Hp),H p=none->Zd H H'->WL H' p (Yx L M)->Q (.ref p) H'
def UN:Sp:=fun vs H Q _=>∃(x a b:Addr) (L M:WS),vs = [.ref x,.ref a,.ref b]/\WL H a L/\WL H b M/\L2.Gd 1000 100000 L/\L2.Gd 1000 100000 M /\ ∀(p:Addr) (H':Hp),H p=none->Zd H H'->WL H' p (ZL L M)->Q (.ref p) H'
abbrev Jn:Stmt:=(Za7 (top 16)).getD 0 (.Pass ⟨0,0,0,0⟩)
theorem Zag:Zw ["self"] ["self"] (Zh Jn):={}
theorem ZgQ {C:Addr}{f:Addr}{fd:FuncData} (F:YH K "nought" "WordWay.nought" Jn f fd):Z6 P w K mg base WW 1 f fd ["self"] (U6 C):=by
 refine F.ok Zag (fun vs H Q E h=>?_) (fun cdv A outer s H vs Q E hr h=>?_)
 ·obtain ⟨x,rfl,_⟩:=h
  rfl
 ·obtain ⟨x,rfl,k⟩:=h
  refine ⟨_,(Zi (Zz (Z4 Zc))),?_⟩
  exact ⟨(by show 0<=sizeLine;decide),fun p hp=>k p _ hp (Zd.laid hp) ⟨[],Zb,.nil⟩⟩
abbrev J5:Stmt:=(Za7 (top 16)).getD 1 (.Pass ⟨0,0,0,0⟩)
theorem ZaY:Zw ["self"] ["self"] (Zh J5):={}
theorem Zjg {C:Addr}{f:Addr}{fd:FuncData} (F:YH K "unit" "WordWay.unit" J5 f fd):Z6 P w K mg base WW 1 f fd ["self"] (Zfe C):=by
 refine F.ok ZaY (fun vs H Q E h=>?_) (fun cdv A outer s H vs Q E hr h=>?_)
 ·obtain ⟨x,rfl,_⟩:=h
  rfl
 ·obtain ⟨x,rfl,k⟩:=h
  refine ⟨_,(Zi (Zz (Z4 (Za (Yo Zc) Zc)))),?_⟩
  refine ⟨(by show 0<=sizeLine;decide),fun t ht=>⟨(by show 1<=sizeLine;decide),fun p hp=>k p _ ((Zd.laid ht).free hp) ((Zd.laid ht).step hp) ⟨_,Zb,.cons ⟨t,rfl,Zd.laid hp t _ Zb⟩ .nil⟩⟩⟩
abbrev J6:Stmt:=(Za7 (top 16)).getD 2 (.Pass ⟨0,0,0,0⟩)
theorem ZaT:Zw ["self", "one", "other"] ["self", "one", "other"] (Zh J6):={}
theorem Zg9 {f:Addr}{fd:FuncData} (F:YH K "plus" "WordWay.plus" J6 f fd) (GR:JB P w K mg base 2 "added" ["one", "other"] Za9):Z6 P w K mg base WW 3 f fd ["self", "one", "other"] Za4:=by
 refine F.ok ZaT (fun vs H Q E h=>?_) (fun cdv A outer s H vs Q E hr h=>?_)
 ·obtain ⟨x,a,b,L,M,rfl,_⟩:=h
  rfl
 ·obtain ⟨x,a,b,L,M,rfl,ha,hb,hz,k⟩:=h
  refine ⟨_,(Zi (Zz (Zv GR hr (Za (pv 1) (Za (pv 2) Zc))))),?_⟩
  exact ⟨_,rfl,_,rfl,a,b,L,M,rfl,ha,hb,hz,fun p H' r fp s' wr od=>k p H' fp s' (by have:=od.canon;subst this;exact wr)⟩
abbrev JD:Stmt:=(Za7 (top 16)).getD 3 (.Pass ⟨0,0,0,0⟩)
theorem Zas:Zw ["self", "one", "other"] ["self", "one", "other"] (Zh JD):={}
theorem ZgO {f:Addr}{fd:FuncData} (F:YH K "times" "WordWay.times" JD f fd) (WU:JB P w K mg base 2 "multiplied" ["one", "other"] Zfh):Z6 P w K mg base WW 3 f fd ["self", "one", "other"] UN:=by
 refine F.ok Zas (fun vs H Q E h=>?_) (fun cdv A outer s H vs Q E hr h=>?_)
 ·obtain ⟨x,a,b,L,M,rfl,_⟩:=h
  rfl
 ·obtain ⟨x,a,b,L,M,rfl,ha,hb,gL,gM,k⟩:=h
  refine ⟨_,(Zi (Zz (Zv WU hr (Za (pv 1) (Za (pv 2) Zc))))),?_⟩
  exact ⟨_,rfl,_,rfl,a,b,L,M,rfl,ha,hb,gL,gM,fun p H' r fp s' wr od=>k p H' fp s' (by have:=od.canon;subst this;exact wr)⟩
theorem Za8 (xs:List V) (k:Nat):JI xs none (some (k:Int))=xs.take k:=by
 unfold JI
 rw [HT.U1,HT.Uj,List.drop_zero,Nat.sub_zero,List.take_eq_take_iff]
 lia
theorem ZiU (xs:List V) (k:Nat):JI xs (some (k:Int)) none=xs.drop k:=by
 unfold JI
 rw [HT.U1,HT.Uj]
 by_cases h:k<=xs.length
 ·rw [Nat.min_eq_left h,List.take_of_length_le (by rw [List.length_drop];lia)]
 ·rw [Nat.min_eq_right (by lia),Nat.sub_self,List.take_zero,List.drop_of_length_le (by lia)]
def Zlf (k:Nat) (f:Nat->WS):Nat->WS:=fun j=>if j<k then f j else if j<k+2 then [] else f (j-2)
theorem Zi3 {α:Type}{xs:List α}{a b:α}{k:Nat} (hk:k<=xs.length) {j:Nat}{x:α} (h:(xs.take k ++ [a,b]++xs.drop k)[j]? = some x):(j<k/\xs[j]? = some x)∨(j=k/\x=a)∨(j=k+1/\x=b)∨(k+2<=j/\xs[j-2]? = some x):=by
 have lt:(xs.take k).length=k:=by rw [List.length_take];lia
 by_cases h1:j<k
 ·rw [List.append_assoc,List.getElem?_append_left (by lia),List.getElem?_take,if_pos h1] at h
  exact .inl ⟨h1,h⟩
 ·by_cases h2:j<k+2
  ·rw [List.getElem?_append_left (by rw [List.length_append,lt];simp;lia),List.getElem?_append_right (by lia),lt] at h
   by_cases h3:j=k
   ·subst h3;rw [Nat.sub_self] at h;cases h;exact .inr (.inl ⟨rfl,rfl⟩)
   ·have:j=k+1:=by lia
    subst this
    rw [show k+1-k=1 by lia] at h
    cases h
    exact .inr (.inr (.inl ⟨rfl,rfl⟩))
  ·rw [List.getElem?_append_right (by rw [List.length_append,lt];simp;lia),List.length_append,lt,List.getElem?_drop] at h
   refine .inr (.inr (.inr ⟨by lia,?_⟩))
   rw [<- h]
   congr 1
   simp
   lia
theorem Zga {α:Type}{xs:List α}{a b:α}{k:Nat} (hk:k<=xs.length):(xs.take k ++ [a,b]++xs.drop k).length=xs.length+2:=by
 simp;lia
theorem Zkf {H:Hp}{A:List Addr}{n k:Nat}{F:Nat->Nat->WS}{r0 r1:Addr}{w:Nat} (x:UK H A n w F) (y:UK H [r0,r1] 2 w fun _ _=>[]) (hk:k<=n) (h0:r0∉A) (h1:r1∉A):
  UK H (A.take k ++ [r0,r1]++A.drop k) (n+2) w fun i j=>if i<k then F i j else if i<k+2 then [] else F (i-2) j:=by
 have hl:=x.1
 refine ⟨by rw [Zga (by lia),hl],?_,fun i r h=>?_⟩
 ·have p:(A.take k ++ [r0,r1]++A.drop k).Perm ([r0,r1]++A):=by
   refine (List.Perm.append_right _ List.perm_append_comm).trans ?_
   rw [List.append_assoc,List.take_append_drop]
  rw [p.nodup_iff,List.nodup_append]
  refine ⟨y.2.1,x.2.1,fun a ha b hb e=>?_⟩
  subst e
  rcases List.mem_cons.mp ha with rfl | ha
  ·exact h0 hb
  ·rw [List.mem_singleton.mp ha] at hb;exact h1 hb
 ·rcases Zi3 (by lia) h with ⟨a,b⟩ | ⟨a,b⟩ | ⟨a,b⟩ | ⟨a,b⟩
  ·exact (x.2.2 i r b).congr fun j _=>by dsimp only;rw [if_pos a]
  ·subst a b
   exact (y.2.2 0 r rfl).congr fun j _=>by dsimp only;rw [if_neg (by lia),if_pos (by lia)]
  ·subst a b
   exact (y.2.2 1 r rfl).congr fun j _=>by dsimp only;rw [if_neg (by lia),if_pos (by lia)]
  ·exact (x.2.2 (i-2) r b).congr fun j _=>by dsimp only;rw [if_neg (by lia),if_neg (by lia)]
def Sep (a:Addr) (H:Hp) (A:List Addr):Prop:=∀r∈A,r≠a /\ ∀(xs:List V) (e:Addr),H r=some (.lst xs)->V.ref e∈xs->e≠a
theorem Zec {H:Hp}{A:List Addr}{m n:Nat}{F:Nat->Nat->WS}{a:Addr}{us vs:List V} (x:UK H A m n F) (s:Sep a H A) (ha:H a=some (.lst us)):UK (upd H a (.lst vs)) A m n F:=by
 refine ⟨x.1,x.2.1,fun i r h=>?_⟩
 obtain ⟨xs,e1,l,c⟩:=x.2.2 i r h
 obtain ⟨n1,n2⟩:=s r (List.mem_of_getElem? h)
 refine ⟨xs,by rw [Zj n1];exact e1,l,fun j y hy=>?_⟩
 obtain ⟨e,p,q⟩:=c j y hy
 refine ⟨e,p,q.upd ha (n2 xs e e1 (by rw [<- p];exact List.mem_of_getElem? hy))⟩
theorem Zjp {G H:Hp}{A:List Addr}{m n:Nat}{F:Nat->Nat->WS}{a:Addr} (x:UK G A m n F) (s:Zd G H) (ha:G a=none):Sep a H A:=fun r hr=>by
 obtain ⟨i,hi,rfl⟩:=List.getElem_of_mem hr
 obtain ⟨xs,e1,l,c⟩:=x.2.2 i A[i] (by simp)
 refine ⟨Zg e1 ha,fun ys e h he=>?_⟩
 rw [s _ _ e1] at h
 have hxy:xs=ys:=by injection h with h;injection h
 subst hxy
 obtain ⟨j,hj⟩:=List.mem_iff_getElem?.mp he
 obtain ⟨e',p,us,q,_⟩:=c j _ hj
 cases p
 exact Zg q ha
def Zkv (B G:Hp) (Z:List Addr):Prop:=∀r∈Z,B r=none /\ ∃ws,G r=some (.lst ws) /\ ∀e,V.ref e∈ws->B e=none
theorem Zcv {B G G':Hp}{Z:List Addr} (s:Zd G G') (h:Zkv B G Z):Zkv B G' Z:=fun r hr=>let ⟨a,ws,b,c⟩:=h r hr;⟨a,ws,s _ _ b,c⟩
theorem ZjH {B H:Hp}{A:List Addr}{a:Addr}{o:HO} (x:Zkv B H A) (ha:B a=some o):Sep a H A:=fun r hr=>by
 obtain ⟨h1,ws,h2,h3⟩:=x r hr
 refine ⟨(fun z=>by rw [z,ha] at h1;cases h1),fun xs e hx he z=>?_⟩
 rw [h2] at hx
 have hxy:ws=xs:=by injection hx with hx;injection hx
 subst hxy
 have:=h3 e he
 rw [z,ha] at this;cases this
def Zc2 (C:Addr):Sp:=fun vs H Q _=>∃(tA x:Addr) (n k:Nat) (F:Nat->Nat->WS),vs = [.ref tA,.int (k:Int),.ref x]/\ZaK H C x/\Tab H tA n F/\k<=n/\n<=500 /\ ∀(p:Addr) (H':Hp),H p=none->Zd H H'->Tab H' p (n+2) (Y5 k F)->Q (.ref p) H'
abbrev YG:Stmt:=top 6
theorem Gb:Zw ["table", "k", "way", "rows"] ["table", "k", "way"] (Zh YG):={}
theorem ZiK {C:Addr}{f:Addr}{fd:FuncData} (F:YH K "behind_birth" "behind_birth" YG f fd) (c_way:Cls K C) (Jz:UM P w K mg base 1 C "nought" ["self"] (U6 C)) (Zex:UM P w K mg base 1 C "unit" ["self"] (Zfe C)) (Zt:mg "range" = none) (Z3:mg "len" = none):Z6 P w K mg base WW 2 f fd ["table", "k", "way"] (Zc2 C):=by
 refine F.ok Gb (fun vs H Q E h=>?_) (fun cdv A outer s H vs Q E hr h=>?_)
 ·obtain ⟨tA,x,n,k,F,rfl,_⟩:=h
  rfl
 ·obtain ⟨tA,x,n,k,F,rfl,hw,hT,hk,hn,fin⟩:=h
  refine ⟨_,(Ze (Zbe (i:=3) Gb.nd rfl (Or.inl rfl) (Ls:=["row"]) (Fs:=["k", "way"]) (fi:=[1,2]) (ZJ.of (show Yi ["table", "k", "way", "rows"] (Zh YG) _ ["k", "way"] [1,2]=true by decide +kernel)) rfl (ZM (K:=K) rfl (pv 0)) (fun cl C s3 H3 ex=>⟨(Zn (i:=0) (show ((["row"]:List Str)++(["k", "way"]:List Str)).Nodup by decide +kernel) rfl (Or.inl rfl)),ZW,(Zm Zat (Zm Zat (Yw (YU (K:=K) rfl) (pv 0) Jg (ZZ (pv 1))) (Z4 (Za (Gk Jz c_way (hr.mono (by decide)) (pv 2)) (Za (Gk Jz c_way (hr.mono (by decide)) (pv 2)) Zc)))) (Yw (YU (K:=K) rfl) (pv 0) (ZZ (pv 1)) Jg))⟩))
   (Ze (YE (Wh (Ls:=["new"]) (Fs:=["way", "table"]) (fi:=[2,0]) (ZJ.of (show Yi ["table", "k", "way", "rows"] (Zh YG) _ ["way", "table"] [2,0]=true by decide +kernel)) rfl (Ya (by rfl) Zt (Za Zf Zc)) (fun cl C s3 H3 ex=>⟨(Zn (i:=0) (show ((["new"]:List Str)++(["way", "table"]:List Str)).Nodup by decide +kernel) rfl (Or.inl rfl)),ZW,(Wh (Ls:=["j"]) (Fs:=["way"]) (fi:=[1]) (ZJ.of (by rfl)) rfl (Ya (by rfl) Zt (Za (Zm ZA (ZG (Yb (K:=K) rfl) (by rfl) Z3 PySem.boot_len (Za (pv 2) Zc)) Zf) Zc)) (fun cl C s3 H3 ex=>⟨(Zn (i:=0) (show ((["j"]:List Str)++(["way"]:List Str)).Nodup by decide +kernel) rfl (Or.inl rfl)),ZW,(Gk Jz c_way (hr.mono (by decide)) (pv 1))⟩))⟩)) (ZeO (pv 3) (ZZ (pv 1)) (ZZ (pv 1))))
   (Ze (YE (Gk Zex c_way (hr.mono (by decide)) (pv 2)) (JC (Zx (Zk (K:=K) rfl) (pv 3) (pv 1) (fun _ _=>rfl)) (Zm ZA (pv 1) Zf) set_list))
   (Zi (Zz (pv 3)))))),?_⟩
  obtain ⟨dx,fs,ew,rfl⟩:=id hw
  obtain ⟨A,et,mt⟩:=id hT
  have lA:=mt.1
  have z2:2<=sizeLine:=by decide
  refine ⟨_,rfl,tA,rfl,⟨_,Zp.of et⟩,YM (K:=K) (xs:=A.map V.ref) (by rw [List.length_map,sizeLine_eq];lia) (fun i zs G=>Zd H G /\ ∃Z:List Addr,zs=Z.map V.ref/\UK G Z i (n+2) fun i j=>Zlf k (F i) j) ⟨Zd.refl _,[],rfl,GW⟩
   (fun i zs G ⟨_,Z,e,m⟩=>by rw [e,List.length_map,m.1];exact Nat.le_refl _) (fun i zs G ⟨s',_⟩=>Zp.of (s' tA _ et)) ?_ ?_⟩
  ·rintro i v zs G hv ⟨sG,Z,rfl,mZ⟩
   rw [List.getElem?_map] at hv
   obtain ⟨r,hr',rfl⟩:=Option.map_eq_some_iff.mp hv
   obtain ⟨xs,ex,lx,hx⟩:=mt.2.2 i r hr'
   dsimp only [Jf,Wd]
   refine Ux ?_
   refine ⟨_,rfl,_,rfl,_,rfl,r,xs,rfl,Zp.of (sG r _ ex),fun p1 f1=>?_⟩
   rw [Za8]
   have s1:Zd G (upd G p1 (.lst (xs.take k))):=Zd.laid f1
   refine ⟨_,rfl,x,dx,[],rfl,s1 x _ (sG x _ ew),rfl,x,rfl,fun q1 G1 fq1 t1 wq1=>?_⟩
   have S1:=(sG.trans s1).trans t1
   refine ⟨_,rfl,x,dx,[],rfl,S1 x _ ew,rfl,x,rfl,fun q2 G2 fq2 t2 wq2=>?_⟩
   have S2:=S1.trans t2
   refine ⟨z2,fun q3 f3=>?_⟩
   have s3:Zd G2 (upd G2 q3 (.lst [.ref q1,.ref q2])):=Zd.laid f3
   refine ⟨p1,q3,_,_,rfl,rfl,s3 _ _ (t2 _ _ (t1 _ _ Zb)),Zb,(by rw [List.length_take,sizeLine_eq];simp;lia),fun p4 f4=>?_⟩
   have S4:=(S2.trans s3).step (o:=.lst (xs.take k ++ [.ref q1,.ref q2])) f4
   refine ⟨_,rfl,_,rfl,_,rfl,r,xs,rfl,Zp.of (S4 r _ ex),fun p5 f5=>?_⟩
   rw [ZiU]
   have S5:=S4.step (o:=.lst (xs.drop k)) f5
   refine ⟨p4,p5,_,_,rfl,rfl,Zd.laid f5 _ _ Zb,Zb,(by rw [List.length_append,List.length_take,List.length_drop,sizeLine_eq];simp;lia),fun D fD=>?_⟩
   have S6:=S5.step (o:=.lst (xs.take k ++ [.ref q1,.ref q2]++xs.drop k)) fD
   have U:Zd G2 _:=((s3.step (o:=.lst (xs.take k ++ [.ref q1,.ref q2])) f4).step (o:=.lst (xs.drop k)) f5).step (o:=.lst (xs.take k ++ [.ref q1,.ref q2]++xs.drop k)) fD
   have W1:=((s1.trans t1).trans t2).trans U
   refine ⟨S6,Z ++ [D],by rw [List.map_append];rfl,(mZ.same W1).snoc ((mZ.same (((((s1.trans t1).trans t2).trans s3).step f4).step f5)).fresh fD) ⟨_,Zb,by rw [Zga (by lia),lx],fun j y hy=>?_⟩⟩
   unfold Zlf
   rcases Zi3 (by lia) hy with ⟨a,b⟩ | ⟨a,b⟩ | ⟨a,b⟩ | ⟨a,b⟩
   ·obtain ⟨e,p,q⟩:=hx j y b
    exact ⟨e,p,by dsimp only;rw [if_pos a];exact q.same S6⟩
   ·subst a b
    exact ⟨q1,rfl,by dsimp only;rw [if_neg (by lia),if_pos (by lia)];exact (wq1.same t2).same U⟩
   ·subst a b
    exact ⟨q2,rfl,by dsimp only;rw [if_neg (by lia),if_pos (by lia)];exact wq2.same U⟩
   ·obtain ⟨e,p,q⟩:=hx (j-2) y b
    exact ⟨e,p,by dsimp only;rw [if_neg (by lia),if_neg (by lia)];exact q.same S6⟩
  rintro zs G ⟨sG,Z,rfl,mZ⟩ rA fA
  rw [List.length_map,lA] at mZ
  obtain ⟨G1,hG1⟩:∃G1,upd G rA (.lst (Z.map V.ref))=G1:=⟨_,rfl⟩
  have sA:Zd G G1:=by rw [<- hG1];exact Zd.laid fA
  have eA:G1 rA=some (.lst (Z.map V.ref)):=by rw [<- hG1];exact Zb
  rw [hG1]
  have S1:=sG.trans sA
  have mZ1:=mZ.same sA
  have fAH:H rA=none:=sG.free fA
  have e2:(((A.map V.ref).length:Int)+2).toNat=n+2:=by rw [List.length_map];lia
  refine ⟨2,rfl,by decide,by decide,ZbL (n:=2) z2 (fun i zs G=>Zd G1 G /\ ∃Z2:List Addr,zs=Z2.map V.ref/\(UK G Z2 i (n+2) fun _ _=>[])/\Zkv G1 G Z2) ⟨Zd.refl _,[],rfl,GW,fun r h=>nomatch h⟩ (fun i zs G ⟨_,Z2,e,m,_⟩=>by rw [e,List.length_map,m.1];exact Nat.le_refl _) ?_ ?_⟩
  ·rintro i zs G2 hi ⟨s2,Z2,rfl,mZ2,nw⟩
   dsimp only [Jf,Wd]
   refine Ux ?_
   refine ⟨_,rfl,tA,_,rfl,.inl (Zp.of (s2 _ _ (S1 _ _ et))),_,_,rfl,rfl,_,rfl,by rw [List.length_map];lia,by rw [List.length_map];lia,?_⟩
   rw [e2]
   refine ZbL (n:=n+2) (by rw [sizeLine_eq];lia) (fun j ws G=>Zd G2 G/\ws.length=j /\ ∀(j':Nat) (y:V),ws[j']? = some y -> ∃e,y = .ref e/\WL G e []/\G1 e=none) ⟨Zd.refl _,rfl,fun j' y h=>by simp at h⟩ (fun j ws G ⟨_,e,_⟩=>by rw [e];exact Nat.le_refl _) ?_ ?_
   ·rintro j ws G3 hj ⟨s3,lw,hw3⟩
    dsimp only [Jf,Wd]
    refine Ux ⟨_,rfl,x,dx,[],rfl,s3 _ _ (s2 _ _ (S1 _ _ ew)),rfl,x,rfl,fun q G4 fq t4 wq=>⟨s3.trans t4,by rw [List.length_append,lw];rfl,fun j' y hy=>?_⟩⟩
    by_cases z:j'<ws.length
    ·rw [List.getElem?_append_left z] at hy
     obtain ⟨e,p,q,q'⟩:=hw3 j' y hy
     exact ⟨e,p,q.same t4,q'⟩
    ·rw [List.getElem?_append_right (by lia)] at hy
     have:j'-ws.length=0:=by
      have:=(List.getElem?_eq_some_iff.mp hy).1
      simp at this;lia
     rw [this] at hy
     cases hy
     exact ⟨q,rfl,wq,(s2.trans s3).free fq⟩
   ·rintro ws G3 ⟨s3,lw,hw3⟩ D fD
    have sD:Zd G3 (upd G3 D (.lst ws)):=Zd.laid fD
    refine ⟨(s2.trans s3).trans sD,Z2 ++ [D],by rw [List.map_append];rfl,(mZ2.same (s3.trans sD)).snoc ((mZ2.same s3).fresh fD) ⟨ws,Zb,lw,fun j y hy=>?_⟩,fun r hr=>?_⟩
    ·obtain ⟨e,p,q,_⟩:=hw3 j y hy
     exact ⟨e,p,q.same sD⟩
    ·rcases List.mem_append.mp hr with hr | hr
     ·exact Zcv (s3.trans sD) nw r hr
     ·rw [List.mem_singleton.mp hr]
      refine ⟨(s2.trans s3).free fD,ws,Zb,fun e he=>?_⟩
      obtain ⟨j,hj⟩:=List.mem_iff_getElem?.mp he
      obtain ⟨e',p,_,q⟩:=hw3 j _ hj
      cases p
      exact q
  rintro zs G2 ⟨s2,Z2,rfl,mZ2,nw⟩ nA fnA
  obtain ⟨r0,r1,rfl⟩:∃r0 r1,Z2 = [r0,r1]:=by
   match Z2,mZ2.1 with
   | [a,b],_=>exact ⟨a,b,rfl⟩
  obtain ⟨G3,hG3⟩:∃G3,upd G2 nA (.lst ([r0,r1].map V.ref))=G3:=⟨_,rfl⟩
  have s3:Zd G2 G3:=by rw [<- hG3];exact Zd.laid fnA
  have enA:G3 nA=some (.lst ([r0,r1].map V.ref)):=by rw [<- hG3];exact Zb
  rw [hG3]
  have s13:=s2.trans s3
  have lZ:=mZ1.1
  have nrA:rA≠nA:=fun z=>by
   have:=s2 _ _ eA
   rw [z,fnA] at this;cases this
  refine ⟨_,rfl,_,rfl,_,rfl,_,rfl,_,rfl,rA,nA,_,_,_,_,rfl,rfl,rfl,rfl,s13 _ _ eA,enA,nrA,by lia,by lia,by rw [List.length_map];lia,by rw [List.length_map,sizeLine_eq];simp;lia,?_⟩
  rw [Int.toNat_natCast,<- List.map_take,<- List.map_drop,<- List.map_append,<- List.map_append]
  have old:∀r∈Z,G1 r≠none:=fun r hr z=>by
   obtain ⟨i,hi,rfl⟩:=List.getElem_of_mem hr
   obtain ⟨xs,e1,_⟩:=mZ1.2.2 i Z[i] (by simp)
   rw [z] at e1;cases e1
  have fr0:r0∉Z:=fun z=>old r0 z (nw r0 (by simp)).1
  have fr1:r1∉Z:=fun z=>old r1 z (nw r1 (by simp)).1
  have m3:=Zkf (mZ1.same s13) (mZ2.same s3) hk fr0 fr1
  have sp:Sep rA G3 (Z.take k ++ [r0,r1]++Z.drop k):=fun r hr=>by
   rw [List.append_assoc,List.mem_append,List.mem_append] at hr
   have o:=Zjp mZ (sA.trans s13) fA
   rcases hr with hr | hr | hr
   ·exact o r (List.mem_of_mem_take hr)
   ·exact ZjH (Zcv s3 nw) eA r hr
   ·exact o r (List.mem_of_mem_drop hr)
  obtain ⟨G4,hG4⟩:∃G4,upd G3 rA (.lst ((Z.take k ++ [r0,r1]++Z.drop k).map V.ref))=G4:=⟨_,rfl⟩
  rw [hG4]
  have m4:=Zec (vs:=(Z.take k ++ [r0,r1]++Z.drop k).map V.ref) m3 sp (s13 _ _ eA)
  rw [hG4] at m4
  have e4:G4 rA=some (.lst ((Z.take k ++ [r0,r1]++Z.drop k).map V.ref)):=by rw [<- hG4];exact Zb
  have S4:Zd H G4:=by rw [<- hG4];exact (S1.trans s13).put fAH
  refine ⟨_,rfl,x,dx,[],rfl,S4 _ _ ew,rfl,x,rfl,fun u G5 fu t5 wu=>?_⟩
  have m5:=m4.same t5
  have hk0:(Z.take k ++ [r0,r1]++Z.drop k)[k]? = some r0:=by
   rw [List.append_assoc,List.getElem?_append_right (by rw [List.length_take];lia),List.length_take]
   rw [show k-min k Z.length=0 by lia]
   rfl
  obtain ⟨xs,ex,lx,_⟩:=m5.2.2 k r0 hk0
  refine ⟨_,rfl,_,rfl,rA,_,_,_,rfl,rfl,Zp.of (t5 _ _ e4),Zs (v:=V.ref r0) (by rw [List.getElem?_map,hk0];rfl),?_⟩
  refine ⟨_,rfl,_,_,rfl,rfl,r0,xs,_,k+1,rfl,rfl,ex,?_,?_⟩
  ·rw [lx]
   show ixN (n+2) ((k:Int)+1)=some (k+1)
   rw [show (k:Int)+1=((k+1:Nat):Int) by lia]
   exact Zf4 (by lia)
  have m6:=m5.put hk0 ex (show k+1<n+2 by lia) wu
  have fr0H:H r0=none:=S1.free (nw r0 (by simp)).1
  refine ⟨_,rfl,fin rA _ fAH ((S4.trans t5).put fr0H) ⟨_,?_,m6.congr fun i j hi hj=>?_⟩⟩
  ·rw [Zj (fun z=>by have:=(nw r0 (by simp)).1;rw [<- z,eA] at this;cases this)]
   exact t5 _ _ e4
  ·unfold Uw Y5 Zlf
   dsimp only
   by_cases a:i=k/\j=k+1
   ·rw [if_pos a,if_pos a]
   ·rw [if_neg a,if_neg a]
    by_cases b:i<k
    ·rw [if_pos b]
     by_cases c:j<k
     ·rw [if_pos c,if_neg (by lia),if_pos b,if_pos c]
     ·rw [if_neg c]
      by_cases d:j<k+2
      ·rw [if_pos d,if_pos (by lia)]
      ·rw [if_neg d,if_neg (by lia),if_pos b,if_neg c]
    ·rw [if_neg b]
     by_cases b':i<k+2
     ·rw [if_pos b',if_pos (by lia)]
     ·rw [if_neg b']
      by_cases c:j<k
      ·rw [if_pos c,if_neg (by lia),if_neg b,if_pos c]
      ·rw [if_neg c]
       by_cases d:j<k+2
       ·rw [if_pos d,if_pos (by lia)]
       ·rw [if_neg d,if_neg (by lia),if_neg b,if_neg c]
theorem Yu {α:Type}{xs:List α}{i:Int}{j:Nat}{v:α} (e:i=(j:Int)) (h:xs[j]? = some v):atI xs i=some v:=by rw [e];exact Zs h
theorem ZaH {n:Nat}{i:Int}{j:Nat} (e:i=(j:Int)) (h:j<n):ixN n i=some j:=by rw [e];exact Zf4 h
structure Wr (H G:Hp) (rA:Addr) (Z:List Addr) (n:Nat) (F:Nat->Nat->WS):Prop where
 sm:Zd H G
 eA:G rA=some (.lst (Z.map V.ref))
 mat:UK G Z n n F
 fr:∀r∈Z,H r=none/\r≠rA
 fA:H rA=none
theorem Za2 {H G G':Hp}{rA:Addr}{Z:List Addr}{n:Nat}{F:Nat->Nat->WS} (w:Wr H G rA Z n F) (s:Zd G G'):Wr H G' rA Z n F:=⟨w.sm.trans s,s _ _ w.eA,w.mat.same s,w.fr,w.fA⟩
theorem JV {H G:Hp}{rA:Addr}{Z:List Addr}{n:Nat}{F F':Nat->Nat->WS} (w:Wr H G rA Z n F) (h:∀i j,i<n->j<n->F i j=F' i j):Wr H G rA Z n F':=⟨w.sm,w.eA,w.mat.congr h,w.fr,w.fA⟩
theorem ZaA {H G:Hp}{rA e:Addr}{Z:List Addr}{n i j:Nat}{F:Nat->Nat->WS}{L:WS} (w:Wr H G rA Z n F) (hi:i<n) (hj:j<n) (we:WL G e L):
  ∃(r:Addr) (xs:List V),(Z.map V.ref)[i]? = some (.ref r)/\G r=some (.lst xs)/\xs.length=n/\Wr H (upd G r (.lst (xs.set j (.ref e)))) rA Z n (Uw F i j L):=by
 have hl:=w.mat.1
 have hz:Z[i]? = some (Z[i]'(by lia)):=by simp
 obtain ⟨xs,a,b,c⟩:=w.mat.2.2 i _ hz
 have f:=w.fr _ (List.mem_of_getElem? hz)
 refine ⟨Z[i]'(by lia),xs,by rw [List.getElem?_map,hz];rfl,a,b,w.sm.put f.1,?_,w.mat.put hz a hj we,w.fr,w.fA⟩
 rw [Zj (Ne.symm f.2)];exact w.eA
theorem Zeu {H G:Hp}{rA:Addr}{Z:List Addr}{n:Nat}{F:Nat->Nat->WS} (w:Wr H G rA Z n F):Tab G rA n F:=⟨Z,w.eA,w.mat⟩
theorem Us {G:Hp}{tA:Addr}{n i j:Nat}{F:Nat->Nat->WS} (x:Tab G tA n F) (hi:i<n) (hj:j<n):∃(ys:List V) (r:Addr) (xs:List V) (e:Addr),G tA=some (.lst ys)/\ys[i]? = some (.ref r)/\G r=some (.lst xs)/\xs[j]? = some (.ref e)/\WL G e (F i j):=by
 obtain ⟨ys,r,a,_,b,c⟩:=x.row hi
 obtain ⟨xs,e,d,_,e1,e2⟩:=c.at hj
 exact ⟨ys,r,xs,e,a,b,d,e1,e2⟩
theorem Ziq {H G:Hp}{Z:List Addr}{n:Nat}{F:Nat->Nat->WS}{rA:Addr} (sm:Zd H G) (m:UK G Z n n F) (fr:∀r∈Z,H r=none) (fA:G rA=none):Wr H (upd G rA (.lst (Z.map V.ref))) rA Z n F:=
 ⟨sm.step fA,Zb,m.same (Zd.laid fA),fun r hr=>⟨fr r hr,fun z=>m.fresh fA (z ▸ hr)⟩,sm.free fA⟩
def TGd (n b:Nat) (F:Nat->Nat->WS):Prop:=∀i j,i<n->j<n->L2.Gd 200 b (F i j)
theorem JM {t:Int} (h:0<=t) {n m:Nat} (hn:1<=n) (hm:1<=m):L2.Gd n m [[t]]:=⟨hn,fun w hw=>by
 rw [List.mem_singleton.mp hw]
 exact ⟨hm,fun k hk=>by rw [List.mem_singleton.mp hk];exact h⟩⟩
theorem JZ {A B:WS}{n m n' m':Nat} (a:L2.Gd n m A) (b:L2.Gd n' m' B):L2.Gd (n*n') (m+m') (ZL A B):=(ZE _).gd (a.ZD b)
theorem Zft {A B:WS}{n m n' m':Nat} (a:L2.Gd n m A) (b:L2.Gd n' m' B):L2.Gd (n+n') (max m m') (Yx A B):=(ZE _).gd (a.app b)
def cr1 (k:Nat) (t:Int) (F:Nat->Nat->WS) (c:Nat):Nat->Nat->WS:=fun i j=>
 if i=k/\j=k+1 then [] else if i=k/\k+2<=j/\j<k+2+c then F (k+1) j else if i=k+1/\k+2<=j/\j<k+2+c then Yx (F k j) (ZL [[t]] (F (k+1) j)) else F i j
def cr2 (k n:Nat) (t:Int) (F:Nat->Nat->WS) (c:Nat):Nat->Nat->WS:=fun i j=>
 if i<c/\j=k+1 then F i k else if i<c/\j=k then Yx (F i (k+1)) (ZL (F i k) [[t]]) else cr1 k t F (n-(k+2)) i j
theorem Zi6 (k c:Nat) (t:Int) (F:Nat->Nat->WS) (i j:Nat):Uw (Uw (cr1 k t F c) k (k+2+c) (F (k+1) (k+2+c))) (k+1) (k+2+c) (Yx (F k (k+2+c)) (ZL [[t]] (F (k+1) (k+2+c)))) i j=cr1 k t F (c+1) i j:=by
 unfold Uw cr1
 by_cases e:j=k+2+c
 ·subst e
  by_cases a:i=k+1
  ·subst a
   rw [if_pos ⟨rfl,rfl⟩,if_neg (by lia),if_neg (by lia),if_pos (by lia)]
  ·rw [if_neg (by lia)]
   by_cases b:i=k
   ·subst b
    rw [if_pos ⟨rfl,rfl⟩,if_neg (by lia),if_pos (by lia)]
   ·rw [if_neg (by lia),if_neg (by lia),if_neg (by lia),if_neg (by lia),if_neg (by lia),if_neg (by lia),if_neg (by lia)]
 ·rw [if_neg (by lia),if_neg (by lia)]
  have h1:(i=k/\k+2<=j/\j<k+2+c) ↔ (i=k/\k+2<=j/\j<k+2+(c+1)):=by lia
  have h2:(i=k+1/\k+2<=j/\j<k+2+c) ↔ (i=k+1/\k+2<=j/\j<k+2+(c+1)):=by lia
  simp only [h1,h2]
theorem ZhH (k n c:Nat) (t:Int) (F:Nat->Nat->WS) (i j:Nat):Uw (Uw (cr2 k n t F c) c (k+1) (F c k)) c k (Yx (F c (k+1)) (ZL (F c k) [[t]])) i j=cr2 k n t F (c+1) i j:=by
 unfold Uw cr2
 grind
theorem Zjm (k n:Nat) (t:Int) (F:Nat->Nat->WS) (i j:Nat) (hj:j<n):cr2 k n t F k i j=JE k t F i j:=by
 unfold cr2 cr1 JE
 grind
def ZcQ (C:Addr):Sp:=fun vs H Q _=>∃(tA nA x:Addr) (n k:Nat) (t:Int) (F:Nat->Nat->WS),vs = [.ref tA,.int (k:Int),.ref nA,.ref x]/\ZaK H C x/\Tab H tA n F/\WL H nA [[t]]/\0<=t/\k+1<n/\n<=500/\TGd n 50000 F /\
 ∀(p:Addr) (H':Hp),H p=none->Zd H H'->Tab H' p n (JE k t F)->Q (.ref p) H'
abbrev YD:Stmt:=top 7
theorem Yr:Zw ["table", "k", "name", "way", "rows", "j", "i"] ["table", "k", "name", "way"] (Zh YD):={}
theorem ZhG {C:Addr}{f:Addr}{fd:FuncData} (F:YH K "behind_crossing" "behind_crossing" YD f fd) (c_way:Cls K C) (Jz:UM P w K mg base 1 C "nought" ["self"] (U6 C)) (WJ:UM P w K mg base 3 C "plus" ["self", "one", "other"] Za4) (JJ:UM P w K mg base 3 C "times" ["self", "one", "other"] UN) (Zt:mg "range" = none) (Z3:mg "len" = none) (Zaz:mg "list" = none):Z6 P w K mg base WW 4 f fd ["table", "k", "name", "way"] (ZcQ C):=by
 refine F.ok Yr (fun vs H Q E h=>?_) (fun cdv A outer s H vs Q E hr h=>?_)
 ·obtain ⟨tA,nA,x,n,k,t,F,rfl,_⟩:=h
  rfl
 ·obtain ⟨tA,nA,x,n,k,t,F,rfl,hw,hT,hN,ht,hk,hn,tg,fin⟩:=h
  refine ⟨_,(Ze (Zbe (i:=4) Yr.nd rfl (Or.inl rfl) (Ls:=["row"]) (Fs:=[]) (fi:=[]) (ZJ.of (show Yi ["table", "k", "name", "way", "rows", "j", "i"] (Zh YD) _ [] []=true by decide +kernel)) rfl (ZM (K:=K) rfl (pv 0)) (fun cl C s3 H3 ex=>⟨(Zn (i:=0) (show ((["row"]:List Str)++([]:List Str)).Nodup by decide +kernel) rfl (Or.inl rfl)),ZW,(Zav (ZbK (K:=K) rfl) (by rfl) Zaz boot_list (Za (pv 0) Zc))⟩))
   (Ze (YE (Gk Jz c_way (hr.mono (by decide)) (pv 3)) (JC (Zx (Zk (K:=K) rfl) (pv 4) (pv 1) (fun _ _=>rfl)) (Zm ZA (pv 1) Zf) set_list))
   (Ze (Yh PassesOwn.never rfl (Ub (by rfl) Zt (Za (Zm ZA (pv 1) Zf) (Za (ZG (Yb (K:=K) rfl) (by rfl) Z3 PySem.boot_len (Za (pv 0) Zc)) Zc))) (Zn (i:=5) Yr.nd rfl (Or.inl rfl)) (Ze (YE (Zx (Zk (K:=K) rfl) (Zx (Zk (K:=K) rfl) (pv 0) (Zm ZA (pv 1) Zf) (fun _ _=>rfl)) (pv 5) (fun _ _=>rfl)) (JC (Zx (Zk (K:=K) rfl) (pv 4) (pv 1) (fun _ _=>rfl)) (pv 5) set_list))
   (Zi (YE (Jv WJ c_way (hr.mono (by decide)) (pv 3) (Za (Zx (Zk (K:=K) rfl) (Zx (Zk (K:=K) rfl) (pv 0) (pv 1) (fun _ _=>rfl)) (pv 5) (fun _ _=>rfl)) (Za (Jv JJ c_way (hr.mono (by decide)) (pv 3) (Za (pv 2) (Za (Zx (Zk (K:=K) rfl) (Zx (Zk (K:=K) rfl) (pv 0) (Zm ZA (pv 1) Zf) (fun _ _=>rfl)) (pv 5) (fun _ _=>rfl)) Zc))) Zc))) (JC (Zx (Zk (K:=K) rfl) (pv 4) (Zm ZA (pv 1) Zf) (fun _ _=>rfl)) (pv 5) set_list)))))
   (Ze (Yh PassesOwn.never rfl (Ya (by rfl) Zt (Za (pv 1) Zc)) (Zn (i:=6) Yr.nd rfl (Or.inl rfl)) (Ze (YE (Zx (Zk (K:=K) rfl) (Zx (Zk (K:=K) rfl) (pv 0) (pv 6) (fun _ _=>rfl)) (pv 1) (fun _ _=>rfl)) (JC (Zx (Zk (K:=K) rfl) (pv 4) (pv 6) (fun _ _=>rfl)) (Zm ZA (pv 1) Zf) set_list))
   (Zi (YE (Jv WJ c_way (hr.mono (by decide)) (pv 3) (Za (Zx (Zk (K:=K) rfl) (Zx (Zk (K:=K) rfl) (pv 0) (pv 6) (fun _ _=>rfl)) (Zm ZA (pv 1) Zf) (fun _ _=>rfl)) (Za (Jv JJ c_way (hr.mono (by decide)) (pv 3) (Za (Zx (Zk (K:=K) rfl) (Zx (Zk (K:=K) rfl) (pv 0) (pv 6) (fun _ _=>rfl)) (pv 1) (fun _ _=>rfl)) (Za (pv 2) Zc))) Zc))) (JC (Zx (Zk (K:=K) rfl) (pv 4) (pv 6) (fun _ _=>rfl)) (pv 1) set_list)))))
   (Zi (Zz (pv 4))))))),?_⟩
  obtain ⟨dx,fs,ew,rfl⟩:=id hw
  obtain ⟨A,et,mt⟩:=id hT
  have lA:=mt.1
  refine ⟨_,rfl,tA,rfl,⟨_,Zp.of et⟩,YM (K:=K) (xs:=A.map V.ref) (by rw [List.length_map,sizeLine_eq];lia) (fun i zs G=>Zd H G /\ ∃Z:List Addr,zs=Z.map V.ref/\UK G Z i n F /\ ∀r∈Z,H r=none) ⟨Zd.refl _,[],rfl,GW,fun r h=>nomatch h⟩
   (fun i zs G ⟨_,Z,e,m,_⟩=>by rw [e,List.length_map,m.1];exact Nat.le_refl _) (fun i zs G ⟨s',_⟩=>Zp.of (s' tA _ et)) ?_ ?_⟩
  ·rintro i v zs G hv ⟨sG,Z,rfl,mZ,nw⟩
   rw [List.getElem?_map] at hv
   obtain ⟨r,hr',rfl⟩:=Option.map_eq_some_iff.mp hv
   obtain ⟨xs,ex,lx,hx⟩:=(mt.2.2 i r hr').same sG
   dsimp only [Jf,Wd]
   refine Ux ⟨_,rfl,r,xs,rfl,.inl (Zp.of ex),fun D fD=>⟨sG.step fD,Z ++ [D],by rw [List.map_append];rfl,(mZ.same (Zd.laid fD)).snoc (mZ.fresh fD) ⟨xs,Zb,lx,fun j y hy=>?_⟩,fun r' hr''=>?_⟩⟩
   ·obtain ⟨e,p,q⟩:=hx j y hy
    exact ⟨e,p,q.same (Zd.laid fD)⟩
   ·rcases List.mem_append.mp hr'' with z | z
    ·exact nw r' z
    ·rw [List.mem_singleton.mp z];exact sG.free fD
  rintro zs G ⟨sG,Z,rfl,mZ,nw⟩ rA fA
  rw [List.length_map,lA] at mZ
  have W0:=Ziq sG mZ nw fA
  obtain ⟨G1,hG1⟩:∃G1,upd G rA (.lst (Z.map V.ref))=G1:=⟨_,rfl⟩
  rw [hG1] at W0 ⊢
  refine ⟨_,rfl,x,dx,[],rfl,W0.sm _ _ ew,rfl,x,rfl,fun u G2 fu t2 wu=>?_⟩
  obtain ⟨r,xs,h1,h2,h3,W1⟩:=ZaA (i:=k) (j:=k+1) (Za2 W0 t2) (by lia) (by lia) wu
  refine ⟨_,rfl,_,rfl,rA,_,_,_,rfl,rfl,Zp.of (t2 _ _ W0.eA),Zs h1,_,rfl,_,_,rfl,rfl,r,xs,_,k+1,rfl,rfl,h2,ZaH (by lia) (by lia),?_⟩
  obtain ⟨G3,hG3⟩:∃G3,upd G2 r (.lst (xs.set (k+1) (.ref u)))=G3:=⟨_,rfl⟩
  rw [hG3] at W1 ⊢
  have e2:(((A.map V.ref).length:Int)-((k:Int)+2)).toNat=n-(k+2):=by rw [List.length_map];lia
  refine ⟨_,rfl,_,_,rfl,rfl,_,rfl,tA,_,rfl,.inl (Zp.of (W1.sm _ _ et)),_,_,rfl,⟨by lia,by lia,by lia,by rw [List.length_map];lia⟩,?_⟩
  rw [e2]
  refine Yk (n:=n-(k+2)) (fun c σ G=>∃v5 v6:Option V,σ = [some (.ref tA),some (.int (k:Int)),some (.ref nA),some (.ref x),some (.ref rA),v5,v6]/\Wr H G rA Z n (cr1 k t F c)) ⟨none,none,rfl,JV W1 fun i j _ _=>by unfold Uw cr1;grind⟩ ?_ ?_
  ·rintro c σ G hc ⟨v5,v6,rfl,W⟩
   obtain ⟨ys,r1,xs1,e1,a1,a2,a3,a4,a5⟩:=Us (hT.same W.sm) (i:=k+1) (j:=k+2+c) (by lia) (by lia)
   obtain ⟨r,xs,h1,h2,h3,W2⟩:=ZaA (i:=k) (j:=k+2+c) W (by lia) (by lia) a5
   refine ⟨_,rfl,_,rfl,_,_,rfl,rfl,tA,_,_,_,rfl,rfl,Zp.of a1,Yu (by lia) a2,_,rfl,r1,_,_,_,rfl,rfl,Zp.of a3,Yu (by lia) a4,?_⟩
   refine ⟨_,rfl,_,rfl,rA,_,_,_,rfl,rfl,Zp.of W.eA,Zs h1,_,rfl,r,xs,_,k+2+c,rfl,rfl,h2,ZaH (by lia) (by lia),?_⟩
   obtain ⟨G4,hG4⟩:∃G4,upd G r (.lst (xs.set (k+2+c) (.ref e1)))=G4:=⟨_,rfl⟩
   rw [hG4] at W2 ⊢
   obtain ⟨ys,r1,xs1,e1,a1,a2,a3,a4,a5⟩:=Us (hT.same W2.sm) (i:=k+1) (j:=k+2+c) (by lia) (by lia)
   obtain ⟨ys',r2,xs2,e2,b1,b2,b3,b4,b5⟩:=Us (hT.same W2.sm) (i:=k) (j:=k+2+c) (by lia) (by lia)
   have g1:=tg (k+1) (k+2+c) (by lia) (by lia)
   have g2:=tg k (k+2+c) (by lia) (by lia)
   refine ⟨_,rfl,x,dx,[],rfl,W2.sm _ _ ew,rfl,_,rfl,_,rfl,tA,_,_,_,rfl,rfl,Zp.of b1,Zs b2,_,rfl,r2,_,_,_,rfl,rfl,Zp.of b3,Yu (by lia) b4,?_⟩
   refine ⟨_,rfl,x,dx,[],rfl,W2.sm _ _ ew,rfl,_,rfl,_,rfl,_,rfl,_,_,rfl,rfl,tA,_,_,_,rfl,rfl,Zp.of a1,Yu (by lia) a2,_,rfl,r1,_,_,_,rfl,rfl,Zp.of a3,Yu (by lia) a4,?_⟩
   refine ⟨x,nA,e1,_,_,rfl,hN.same W2.sm,a5,JM ht (by decide) (by decide),g1.mono (by decide) (by decide),fun p G5 fp t5 wp=>?_⟩
   have g3:=JZ (JM ht (n:=1) (m:=1) (by decide) (by decide)) g1
   have l2:=g2.1
   have l3:=g3.1
   refine ⟨x,e2,p,_,_,rfl,b5.same t5,wp,by lia,fun q G6 fq t6 wq=>?_⟩
   have W3:=Za2 W2 (t5.trans t6)
   obtain ⟨r',xs',h1',h2',h3',W4⟩:=ZaA (i:=k+1) (j:=k+2+c) W3 (by lia) (by lia) wq
   refine ⟨_,rfl,_,rfl,_,_,rfl,rfl,rA,_,_,_,rfl,rfl,Zp.of W3.eA,Yu (by lia) h1',_,rfl,r',xs',_,k+2+c,rfl,rfl,h2',ZaH (by lia) (by lia),?_⟩
   exact ⟨_,_,rfl,JV W4 fun i j _ _=>Zi6 k c t F i j⟩
  rintro σ G ⟨v5,v6,rfl,W⟩
  refine ⟨_,rfl,_,rfl,by lia,by lia,?_⟩
  rw [Int.toNat_natCast]
  refine Yk (n:=k) (fun c σ G=>∃v5 v6:Option V,σ = [some (.ref tA),some (.int (k:Int)),some (.ref nA),some (.ref x),some (.ref rA),v5,v6]/\Wr H G rA Z n (cr2 k n t F c)) ⟨_,_,rfl,JV W fun i j _ _=>by unfold cr2;grind⟩ ?_ ?_
  ·rintro c σ G hc ⟨v5,v6,rfl,W⟩
   obtain ⟨ys,r1,xs1,e1,a1,a2,a3,a4,a5⟩:=Us (hT.same W.sm) (i:=c) (j:=k) (by lia) (by lia)
   obtain ⟨r,xs,h1,h2,h3,W2⟩:=ZaA (i:=c) (j:=k+1) W (by lia) (by lia) a5
   refine ⟨_,rfl,_,rfl,tA,_,_,_,rfl,rfl,Zp.of a1,Yu (by lia) a2,_,rfl,r1,_,_,_,rfl,rfl,Zp.of a3,Zs a4,?_⟩
   refine ⟨_,rfl,_,rfl,rA,_,_,_,rfl,rfl,Zp.of W.eA,Yu (by lia) h1,_,rfl,_,_,rfl,rfl,r,xs,_,k+1,rfl,rfl,h2,ZaH (by lia) (by lia),?_⟩
   obtain ⟨G4,hG4⟩:∃G4,upd G r (.lst (xs.set (k+1) (.ref e1)))=G4:=⟨_,rfl⟩
   rw [hG4] at W2 ⊢
   obtain ⟨ys,r1,xs1,e1,a1,a2,a3,a4,a5⟩:=Us (hT.same W2.sm) (i:=c) (j:=k) (by lia) (by lia)
   obtain ⟨ys',r2,xs2,e2,b1,b2,b3,b4,b5⟩:=Us (hT.same W2.sm) (i:=c) (j:=k+1) (by lia) (by lia)
   have g1:=tg c k (by lia) (by lia)
   have g2:=tg c (k+1) (by lia) (by lia)
   refine ⟨_,rfl,x,dx,[],rfl,W2.sm _ _ ew,rfl,_,rfl,_,rfl,tA,_,_,_,rfl,rfl,Zp.of b1,Yu (by lia) b2,_,rfl,_,_,rfl,rfl,r2,_,_,_,rfl,rfl,Zp.of b3,Yu (by lia) b4,?_⟩
   refine ⟨_,rfl,x,dx,[],rfl,W2.sm _ _ ew,rfl,_,rfl,_,rfl,tA,_,_,_,rfl,rfl,Zp.of a1,Yu (by lia) a2,_,rfl,r1,_,_,_,rfl,rfl,Zp.of a3,Zs a4,_,rfl,?_⟩
   refine ⟨x,e1,nA,_,_,rfl,a5,hN.same W2.sm,g1.mono (by decide) (by decide),JM ht (by decide) (by decide),fun p G5 fp t5 wp=>?_⟩
   have g3:=JZ g1 (JM ht (n:=1) (m:=1) (by decide) (by decide))
   have l2:=g2.1
   have l3:=g3.1
   refine ⟨x,e2,p,_,_,rfl,b5.same t5,wp,by lia,fun q G6 fq t6 wq=>?_⟩
   have W3:=Za2 W2 (t5.trans t6)
   obtain ⟨r',xs',h1',h2',h3',W4⟩:=ZaA (i:=c) (j:=k) W3 (by lia) (by lia) wq
   refine ⟨_,rfl,_,rfl,rA,_,_,_,rfl,rfl,Zp.of W3.eA,Yu (by lia) h1',_,rfl,r',xs',_,k,rfl,rfl,h2',ZaH (by lia) (by lia),?_⟩
   exact ⟨_,_,rfl,JV W4 fun i j _ _=>ZhH k n c t F i j⟩
  rintro σ G ⟨v5,v6,rfl,W⟩
  exact ⟨_,rfl,fin rA G W.fA W.sm ((Zeu W).congr fun i j _ hj=>Zjm k n t F i j hj)⟩
def upE (k i:Nat):Nat:=if i<k then i else i+2
def en (k:Nat) (t:Int) (F:Nat->Nat->WS) (c d:Nat):Nat->Nat->WS:=fun i j=>
 if k<=j/\(i<c∨(i=c/\j<k+d)) then Yx (F i (j+2)) (ZL (Gv k t F i) (ZbP k t F (j+2))) else F (upE k i) (upE k j)
theorem ZjT (k:Nat) (t:Int) (F:Nat->Nat->WS) (c d i j:Nat) (hc:c<k):Uw (en k t F c d) c (k+d) (Yx (F c (k+d+2)) (ZL (Gv k t F c) (ZbP k t F (k+d+2)))) i j=en k t F c (d+1) i j:=by
 unfold Uw en
 by_cases e:i=c/\j=k+d
 ·obtain ⟨rfl,rfl⟩:=e
  rw [if_pos ⟨rfl,rfl⟩,if_pos (by lia)]
 ·rw [if_neg e]
  have h1:(k<=j/\(i<c∨i=c/\j<k+d)) ↔ (k<=j/\(i<c∨i=c/\j<k+(d+1))):=by lia
  simp only [h1]
theorem Zkg (k n:Nat) (t:Int) (F:Nat->Nat->WS) (c i j:Nat) (hj:j<n-2):en k t F c (n-2-k) i j=en k t F (c+1) 0 i j:=by
 unfold en
 have h1:(k<=j/\(i<c∨i=c/\j<k+(n-2-k))) ↔ (k<=j/\(i<c+1∨i=c+1/\j<k+0)):=by lia
 simp only [h1]
theorem Zlc (k:Nat) (t:Int) (F:Nat->Nat->WS) (i j:Nat):en k t F k 0 i j=ZaQ k t F i j:=by
 unfold en ZaQ upE
 have h1:(k<=j/\(i<k∨i=k/\j<k+0)) ↔ (i<k/\k<=j):=by lia
 simp only [h1]
theorem Zfz (xs:List V) (k:Nat):JI xs (some ((k:Int)+2)) none=xs.drop (k+2):=by
 rw [show (k:Int)+2=((k+2:Nat):Int) by lia]
 exact ZiU xs (k+2)
theorem ZiP {α:Type}{l:List α}{k i:Nat}{x:α} (hk:k<=l.length) (h:(l.take k++l.drop (k+2))[i]? = some x):l[upE k i]? = some x:=by
 have lt:(l.take k).length=k:=by rw [List.length_take];lia
 unfold upE
 by_cases a:i<k
 ·rw [if_pos a]
  rw [List.getElem?_append_left (by lia),List.getElem?_take,if_pos a] at h
  exact h
 ·rw [if_neg a]
  rw [List.getElem?_append_right (by lia),lt,List.getElem?_drop] at h
  rw [<- h]
  congr 1
  lia
theorem ZfR {α:Type}{l:List α}{k n:Nat} (hl:l.length=n) (hk:k+1<n):(l.take k++l.drop (k+2)).length=n-2:=by
 rw [List.length_append,List.length_take,List.length_drop];lia
def ZhQ (C:Addr):Sp:=fun vs H Q _=>∃(tA nA x:Addr) (n k:Nat) (t:Int) (F:Nat->Nat->WS),vs = [.ref tA,.int (k:Int),.ref nA,.ref x]/\ZaK H C x/\Tab H tA n F/\WL H nA [[t]]/\0<=t/\k+1<n/\n<=500/\TGd n 50000 F /\
 ∀(p:Addr) (H':Hp),H p=none->Zd H H'->Tab H' p (n-2) (ZaQ k t F)->Q (.ref p) H'
theorem Zd8 {G G':Hp}{zs:List V}{f:Nat->WS}{e:Addr} (h:∀(j:Nat) (y:V),zs[j]? = some y -> ∃e,y = .ref e/\WL G e (f j)) (s:Zd G G') (w:WL G' e (f zs.length)):∀(j:Nat) (y:V),(zs ++ [V.ref e])[j]? = some y -> ∃e,y = .ref e/\WL G' e (f j):=fun j y hy=>by
 by_cases z:j<zs.length
 ·rw [List.getElem?_append_left z] at hy
  obtain ⟨e,p,q⟩:=h j y hy
  exact ⟨e,p,q.same s⟩
 ·rw [List.getElem?_append_right (by lia)] at hy
  have:j-zs.length=0:=by
   have:=(List.getElem?_eq_some_iff.mp hy).1
   simp at this;lia
  rw [this] at hy
  cases hy
  have:j=zs.length:=by lia
  subst this
  exact ⟨e,rfl,w⟩
theorem Zke {n k i:Nat}{t:Int}{F:Nat->Nat->WS} (tg:TGd n 50000 F) (ht:0<=t) (hk:k+1<n) (hi:i<n):L2.Gd 400 50001 (Gv k t F i):=
 (Zft (tg i (k+1) hi (by lia)) (JZ (tg i k hi (by lia)) (JM ht (n:=1) (m:=1) (by decide) (by decide)))).mono (by decide) (by decide)
theorem ZlR {n k j:Nat}{t:Int}{F:Nat->Nat->WS} (tg:TGd n 50000 F) (ht:0<=t) (hk:k+1<n) (hj:j<n):L2.Gd 400 50001 (ZbP k t F j):=
 (Zft (tg k j (by lia) hj) (JZ (JM ht (n:=1) (m:=1) (by decide) (by decide)) (tg (k+1) j (by lia) hj))).mono (by decide) (by decide)
abbrev YO:Stmt:=top 8
theorem Yz:Zw ["table", "k", "name", "way", "onto", "off", "rows", "i", "j"] ["table", "k", "name", "way"] (Zh YO):={}
theorem Zlu {C:Addr}{f:Addr}{fd:FuncData} (F:YH K "behind_end" "behind_end" YO f fd) (c_way:Cls K C) (WJ:UM P w K mg base 3 C "plus" ["self", "one", "other"] Za4) (JJ:UM P w K mg base 3 C "times" ["self", "one", "other"] UN) (Zt:mg "range" = none) (Z3:mg "len" = none) (Zcc:mg "zip" = none):Z6 P w K mg base WW 4 f fd ["table", "k", "name", "way"] (ZhQ C):=by
 refine F.ok Yz (fun vs H Q E h=>?_) (fun cdv A outer s H vs Q E hr h=>?_)
 ·obtain ⟨tA,nA,x,n,k,t,F,rfl,_⟩:=h
  rfl
 ·obtain ⟨tA,nA,x,n,k,t,F,rfl,hw,hT,hN,ht,hk,hn,tg,fin⟩:=h
  refine ⟨_,(Ze (Zbe (i:=4) Yz.nd rfl (Or.inl rfl) (Ls:=["row"]) (Fs:=["way", "name", "k"]) (fi:=[3,2,1]) (ZJ.of (show Yi ["table", "k", "name", "way", "onto", "off", "rows", "i", "j"] (Zh YO) _ ["way", "name", "k"] [3,2,1]=true by decide +kernel)) rfl (ZM (K:=K) rfl (Yw (YU (K:=K) rfl) (pv 0) Jg (ZZ (pv 1)))) (fun cl C s3 H3 ex=>⟨(Zn (i:=0) (show ((["row"]:List Str)++(["way", "name", "k"]:List Str)).Nodup by decide +kernel) rfl (Or.inl rfl)),ZW,(Jv WJ c_way (hr.mono (by decide)) (pv 1) (Za (Zx (Zk (K:=K) rfl) (pv 0) (Zm ZA (pv 3) Zf) (fun _ _=>rfl)) (Za (Jv JJ c_way (hr.mono (by decide)) (pv 1) (Za (Zx (Zk (K:=K) rfl) (pv 0) (pv 3) (fun _ _=>rfl)) (Za (pv 2) Zc))) Zc)))⟩))
   (Ze (Zbe (i:=5) Yz.nd rfl (Or.inl rfl) (Ls:=["upper", "lower"]) (Fs:=["way", "name"]) (fi:=[3,2]) (ZJ.of (show Yi ["table", "k", "name", "way", "onto", "off", "rows", "i", "j"] (Zh YO) _ ["way", "name"] [3,2]=true by decide +kernel)) rfl (ZjF (K:=K) rfl (by rfl) Zcc (Za (Zx (Zk (K:=K) rfl) (pv 0) (pv 1) (fun _ _=>rfl)) (Za (Zx (Zk (K:=K) rfl) (pv 0) (Zm ZA (pv 1) Zf) (fun _ _=>rfl)) Zc))) (fun cl C s3 H3 ex=>⟨(WM (K:=K) (n:=2) rfl rfl (Yf (Zn (i:=0) (show ((["upper", "lower"]:List Str)++(["way", "name"]:List Str)).Nodup by decide +kernel) rfl (Or.inl rfl)) (Yf (Zn (i:=1) (show ((["upper", "lower"]:List Str)++(["way", "name"]:List Str)).Nodup by decide +kernel) rfl (Or.inl rfl)) WQ))),ZW,(Jv WJ c_way (hr.mono (by decide)) (pv 2) (Za (pv 0) (Za (Jv JJ c_way (hr.mono (by decide)) (pv 2) (Za (pv 3) (Za (pv 1) Zc))) Zc)))⟩))
   (Ze (Zbe (i:=6) Yz.nd rfl (Or.inl rfl) (Ls:=["row"]) (Fs:=["k"]) (fi:=[1]) (ZJ.of (show Yi ["table", "k", "name", "way", "onto", "off", "rows", "i", "j"] (Zh YO) _ ["k"] [1]=true by decide +kernel)) rfl (ZM (K:=K) rfl (Zm Zat (Yw (YU (K:=K) rfl) (pv 0) Jg (ZZ (pv 1))) (Yw (YU (K:=K) rfl) (pv 0) (ZZ (Zm ZA (pv 1) Zf)) Jg))) (fun cl C s3 H3 ex=>⟨(Zn (i:=0) (show ((["row"]:List Str)++(["k"]:List Str)).Nodup by decide +kernel) rfl (Or.inl rfl)),ZW,(Zm Zat (Yw (YU (K:=K) rfl) (pv 0) Jg (ZZ (pv 1))) (Yw (YU (K:=K) rfl) (pv 0) (ZZ (Zm ZA (pv 1) Zf)) Jg))⟩))
   (Ze (Yh PassesOwn.never rfl (Ya (by rfl) Zt (Za (pv 1) Zc)) (Zn (i:=7) Yz.nd rfl (Or.inl rfl)) (Zi (Yh PassesOwn.never rfl (Ub (by rfl) Zt (Za (pv 1) (Za (ZG (Yb (K:=K) rfl) (by rfl) Z3 PySem.boot_len (Za (pv 6) Zc)) Zc))) (Zn (i:=8) Yz.nd rfl (Or.inl rfl)) (Zi (YE (Jv WJ c_way (hr.mono (by decide)) (pv 3) (Za (Zx (Zk (K:=K) rfl) (Zx (Zk (K:=K) rfl) (pv 6) (pv 7) (fun _ _=>rfl)) (pv 8) (fun _ _=>rfl)) (Za (Jv JJ c_way (hr.mono (by decide)) (pv 3) (Za (Zx (Zk (K:=K) rfl) (pv 4) (pv 7) (fun _ _=>rfl)) (Za (Zx (Zk (K:=K) rfl) (pv 5) (Zm ZA (pv 8) Zf) (fun _ _=>rfl)) Zc))) Zc))) (JC (Zx (Zk (K:=K) rfl) (pv 6) (pv 7) (fun _ _=>rfl)) (pv 8) set_list))))))
   (Zi (Zz (pv 6))))))),?_⟩
  obtain ⟨dx,fs,ew,rfl⟩:=id hw
  obtain ⟨A,et,mt⟩:=id hT
  have lA:=mt.1
  have g1:=JM ht (n:=1000) (m:=100000) (by decide) (by decide)
  refine ⟨_,rfl,_,rfl,_,rfl,tA,_,rfl,Zp.of et,fun p1 f1=>?_⟩
  rw [Za8]
  have s1:Zd H (upd H p1 (.lst ((A.map V.ref).take k))):=Zd.laid f1
  refine ⟨p1,rfl,⟨_,Zp.of Zb⟩,YM (K:=K) (xs:=(A.map V.ref).take k) (by rw [List.length_take,List.length_map,sizeLine_eq];lia) (fun i zs G=>Zd (upd H p1 (.lst ((A.map V.ref).take k))) G/\zs.length=i /\ ∀(j:Nat) (y:V),zs[j]? = some y -> ∃e,y = .ref e/\WL G e (Gv k t F j)) ⟨Zd.refl _,rfl,fun j y h=>by simp at h⟩
   (fun i zs G ⟨_,e,_⟩=>by rw [e];exact Nat.le_refl _) (fun i zs G ⟨s',_⟩=>Zp.of (s' p1 _ Zb)) ?_ ?_⟩
  ·rintro i v zs G hv ⟨sG,lz,hz⟩
   have hik:i<k:=by have:=(List.getElem?_eq_some_iff.mp hv).1;rw [List.length_take] at this;lia
   rw [List.getElem?_take,if_pos hik,List.getElem?_map] at hv
   obtain ⟨r,hr',rfl⟩:=Option.map_eq_some_iff.mp hv
   have S:=s1.trans sG
   have R:=(mt.2.2 i r hr').same S
   obtain ⟨xs,e1,ex,lx,a1,a2⟩:=R.at (j:=k) (by lia)
   obtain ⟨xs',e2,ex',lx',b1,b2⟩:=R.at (j:=k+1) (by lia)
   have q1:=tg i k (by lia) (by lia)
   have q2:=tg i (k+1) (by lia) (by lia)
   have q3:=JZ q1 (JM ht (n:=1) (m:=1) (by decide) (by decide))
   have l2:=q2.1
   have l3:=q3.1
   dsimp only [Jf,Wd]
   refine Ux ⟨_,rfl,x,dx,[],rfl,S _ _ ew,rfl,_,rfl,_,rfl,_,_,rfl,rfl,r,_,_,_,rfl,rfl,Zp.of ex',Yu (by lia) b1,?_⟩
   refine ⟨_,rfl,x,dx,[],rfl,S _ _ ew,rfl,_,rfl,_,rfl,r,_,_,_,rfl,rfl,Zp.of ex,Zs a1,_,rfl,?_⟩
   refine ⟨x,e1,nA,_,_,rfl,a2,hN.same S,q1.mono (by decide) (by decide),g1,fun p G2 fp t2 wp=>?_⟩
   refine ⟨x,e2,p,_,_,rfl,b2.same t2,wp,by lia,fun q G3 fq t3 wq=>?_⟩
   exact ⟨(sG.trans t2).trans t3,by rw [List.length_append,lz];rfl,Zd8 hz (t2.trans t3) (by rw [lz];exact wq)⟩
  rintro zs G ⟨sG,lz,hz⟩ oA fo
  rw [List.length_take,List.length_map,lA,Nat.min_eq_left (by lia)] at lz
  have so:Zd G (upd G oA (.lst zs)):=Zd.laid fo
  have rO:JH (upd G oA (.lst zs)) oA k (Gv k t F):=⟨zs,Zb,lz,fun j y hy=>let ⟨e,p,q⟩:=hz j y hy;⟨e,p,q.same so⟩⟩
  have S1:=(s1.trans sG).trans so
  obtain ⟨G1,hG1⟩:∃G1,upd G oA (.lst zs)=G1:=⟨_,rfl⟩
  rw [hG1] at rO S1 ⊢
  obtain ⟨ys,r0,a1,a2,a3,a4⟩:=(hT.same S1).row (i:=k) (by lia)
  obtain ⟨ys',r1,b1,b2,b3,b4⟩:=(hT.same S1).row (i:=k+1) (by lia)
  obtain ⟨us,c1,c2,c3⟩:=id a4
  obtain ⟨vs,d1,d2,d3⟩:=id b4
  refine ⟨_,rfl,_,rfl,tA,_,_,_,rfl,rfl,Zp.of a1,Zs a3,_,rfl,_,rfl,_,_,rfl,rfl,tA,_,_,_,rfl,rfl,Zp.of b1,Yu (by lia) b3,?_⟩
  refine ⟨r0,r1,rfl,⟨_,Zp.of c1⟩,⟨_,Zp.of d1⟩,Zlv (K:=K) (xs:=us) (ys:=vs) (by rw [c2,sizeLine_eq];lia) (by lia) (fun i zs G=>Zd G1 G/\zs.length=i /\ ∀(j:Nat) (y:V),zs[j]? = some y -> ∃e,y = .ref e/\WL G e (ZbP k t F j)) ⟨Zd.refl _,rfl,fun j y h=>by simp at h⟩
   (fun i zs G ⟨_,e,_⟩=>by rw [e];exact Nat.le_refl _) (fun i zs G ⟨s',_⟩=>⟨Zp.of (s' _ _ c1),Zp.of (s' _ _ d1)⟩) ?_ ?_⟩
  ·rintro i y z p zs G2 hy hz' ⟨s2,lz2,hz2⟩ fp
   have hin:i<n:=by have:=(List.getElem?_eq_some_iff.mp hy).1;lia
   obtain ⟨e1,rfl,w1⟩:=c3 i y hy
   obtain ⟨e2,rfl,w2⟩:=d3 i z hz'
   have sp:=s2.step (o:=.tup [.ref e1,.ref e2]) fp
   have S:=S1.trans sp
   have q1:=tg (k+1) i (by lia) (by lia)
   have q2:=tg k i (by lia) (by lia)
   have q3:=JZ (JM ht (n:=1) (m:=1) (by decide) (by decide)) q1
   have l2:=q2.1
   have l3:=q3.1
   refine ⟨p,_,rfl,Gh.of Zb,rfl,_,_,rfl,_,_,rfl,rfl,?_⟩
   refine lcT ⟨_,rfl,x,dx,[],rfl,S _ _ ew,rfl,_,rfl,_,rfl,x,dx,[],rfl,S _ _ ew,rfl,_,rfl,_,rfl,?_⟩
   refine ⟨x,nA,e2,_,_,rfl,hN.same S,w2.same sp,g1,q1.mono (by decide) (by decide),fun p' G3 fp' t3 wp=>?_⟩
   refine ⟨x,e1,p',_,_,rfl,(w1.same sp).same t3,wp,by lia,fun q G4 fq t4 wq=>?_⟩
   exact ⟨(sp.trans t3).trans t4,by rw [List.length_append,lz2];rfl,Zd8 hz2 (((Zd.laid fp).trans t3).trans t4) (by rw [lz2];exact wq)⟩
  rintro zs2 G2 ⟨s2,lz2,hz2⟩ fA ff
  rw [c2] at lz2
  have sf:Zd G2 (upd G2 fA (.lst zs2)):=Zd.laid ff
  have rF:JH (upd G2 fA (.lst zs2)) fA n (ZbP k t F):=⟨zs2,Zb,lz2,fun j y hy=>let ⟨e,p,q⟩:=hz2 j y hy;⟨e,p,q.same sf⟩⟩
  have S2:=(S1.trans s2).trans sf
  have rO2:=rO.same (s2.trans sf)
  obtain ⟨G3,hG3⟩:∃G3,upd G2 fA (.lst zs2)=G3:=⟨_,rfl⟩
  rw [hG3] at rF S2 rO2 ⊢
  have et3:=S2 _ _ et
  refine ⟨_,rfl,_,rfl,_,rfl,tA,_,rfl,Zp.of et3,fun q1 fq1=>?_⟩
  rw [Za8]
  have t1:Zd G3 (upd G3 q1 (.lst ((A.map V.ref).take k))):=Zd.laid fq1
  refine ⟨_,rfl,_,rfl,_,_,rfl,rfl,_,rfl,tA,_,rfl,Zp.of (t1 _ _ et3),fun q2 fq2=>?_⟩
  rw [Zfz]
  refine ⟨q1,q2,_,_,rfl,rfl,Zd.laid fq2 _ _ Zb,Zb,(by rw [List.length_take,List.length_drop,List.length_map,sizeLine_eq];lia),fun q3 fq3=>?_⟩
  obtain ⟨G4,hG4⟩:∃G4,upd (upd (upd G3 q1 (.lst ((A.map V.ref).take k))) q2 (.lst ((A.map V.ref).drop (k+2)))) q3 (.lst ((A.map V.ref).take k++(A.map V.ref).drop (k+2)))=G4:=⟨_,rfl⟩
  have t4:Zd G3 G4:=by rw [<- hG4];exact (t1.step fq2).step fq3
  have eq3:G4 q3=some (.lst ((A.map V.ref).take k++(A.map V.ref).drop (k+2))):=by rw [<- hG4];exact Zb
  rw [hG4]
  have S4:=S2.trans t4
  have lg:((A.map V.ref).take k++(A.map V.ref).drop (k+2)).length=n-2:=ZfR (by rw [List.length_map];exact lA) hk
  refine ⟨q3,rfl,⟨_,Zp.of eq3⟩,YM (K:=K) (xs:=(A.map V.ref).take k++(A.map V.ref).drop (k+2)) (by rw [lg,sizeLine_eq];lia) (fun i zs G=>Zd G4 G /\ ∃Z:List Addr,zs=Z.map V.ref/\(UK G Z i (n-2) fun i j=>F (upE k i) (upE k j)) /\ ∀r∈Z,G3 r=none) ⟨Zd.refl _,[],rfl,GW,fun r h=>nomatch h⟩
   (fun i zs G ⟨_,Z,e,m,_⟩=>by rw [e,List.length_map,m.1];exact Nat.le_refl _) (fun i zs G ⟨s',_⟩=>Zp.of (s' q3 _ eq3)) ?_ ?_⟩
  ·rintro i v zs G hv ⟨sG,Z,rfl,mZ,nw⟩
   have hv':=ZiP (by rw [List.length_map];lia) hv
   rw [List.getElem?_map] at hv'
   obtain ⟨r,hr',rfl⟩:=Option.map_eq_some_iff.mp hv'
   have S:=S4.trans sG
   obtain ⟨xs,ex,lx,hx⟩:=(mt.2.2 _ r hr').same S
   dsimp only [Jf,Wd]
   refine Ux ⟨_,rfl,_,rfl,_,rfl,r,xs,rfl,Zp.of ex,fun u1 fu1=>?_⟩
   rw [Za8]
   refine ⟨_,rfl,_,rfl,_,_,rfl,rfl,_,rfl,r,xs,rfl,Zp.of (Zd.laid fu1 _ _ ex),fun u2 fu2=>?_⟩
   rw [Zfz]
   refine ⟨u1,u2,_,_,rfl,rfl,Zd.laid fu2 _ _ Zb,Zb,(by rw [List.length_take,List.length_drop,sizeLine_eq];lia),fun D fD=>?_⟩
   have sD:Zd G _:=((Zd.laid (o:=.lst (xs.take k)) fu1).step (o:=.lst (xs.drop (k+2))) fu2)
   have sE:=sD.step (o:=.lst (xs.take k++xs.drop (k+2))) fD
   refine ⟨sG.trans sE,Z ++ [D],by rw [List.map_append];rfl,(mZ.same sE).snoc ((mZ.same sD).fresh fD) ⟨_,Zb,ZfR lx hk,fun j y hy=>?_⟩,fun r' hr''=>?_⟩
   ·obtain ⟨e,p,q⟩:=hx _ y (ZiP (by lia) hy)
    exact ⟨e,p,q.same sE⟩
   ·rcases List.mem_append.mp hr'' with z | z
    ·exact nw r' z
    ·rw [List.mem_singleton.mp z];exact ((t4.trans sG).trans sD).free fD
  rintro zs3 G5 ⟨s5,Z,rfl,mZ,nw⟩ rA fA'
  rw [lg] at mZ
  have W0:=Ziq (t4.trans s5) mZ nw fA'
  obtain ⟨G6,hG6⟩:∃G6,upd G5 rA (.lst (Z.map V.ref))=G6:=⟨_,rfl⟩
  rw [hG6] at W0 ⊢
  refine ⟨_,rfl,_,rfl,by lia,by lia,?_⟩
  rw [Int.toNat_natCast]
  refine Yk (n:=k) (fun c σ G=>∃v7 v8:Option V,σ = [some (.ref tA),some (.int (k:Int)),some (.ref nA),some (.ref x),some (.ref oA),some (.ref fA),some (.ref rA),v7,v8]/\Wr G3 G rA Z (n-2) (en k t F c 0)) ⟨none,none,rfl,JV W0 fun i j _ _=>by unfold en;rw [if_neg (by lia)]⟩ ?_ ?_
  ·rintro c σ G hc ⟨v7,v8,rfl,W⟩
   have lZ:(Z.map V.ref).length=n-2:=by rw [List.length_map];exact W.mat.1
   have e2:(((Z.map V.ref).length:Int)-(k:Int)).toNat=n-2-k:=by rw [lZ];lia
   refine ⟨_,rfl,_,rfl,rA,_,rfl,.inl (Zp.of W.eA),_,_,rfl,⟨by lia,by lia,by lia,by rw [lZ];lia⟩,?_⟩
   rw [e2]
   refine Yk (n:=n-2-k) (fun d σ G=>∃v8:Option V,σ = [some (.ref tA),some (.int (k:Int)),some (.ref nA),some (.ref x),some (.ref oA),some (.ref fA),some (.ref rA),some (.int (0+(c:Int))),v8]/\Wr G3 G rA Z (n-2) (en k t F c d)) ⟨v8,rfl,W⟩ ?_ ?_
   ·rintro d σ G hd ⟨v8,rfl,W⟩
    obtain ⟨ys,r1,xs1,e1,a1,a2,a3,a4,a5⟩:=Us (Zeu W) (i:=c) (j:=k+d) (by lia) (by lia)
    have a5':WL G e1 (F c (k+d+2)):=by
     unfold en upE at a5
     rw [if_neg (by lia),if_pos (by lia),if_neg (by lia)] at a5
     exact a5
    obtain ⟨xo,eo,b1,b2,b3,b4⟩:=(rO2.same W.sm).at (j:=c) (by lia)
    obtain ⟨xf,ef,c1',c2',c3',c4'⟩:=(rF.same W.sm).at (j:=k+d+2) (by lia)
    have g2:=Zke tg ht hk (i:=c) (by lia)
    have g3:=ZlR tg ht hk (j:=k+d+2) (by lia)
    have g4:=JZ g2 g3
    have l4:=g4.1
    have l1:=(tg c (k+d+2) (by lia) (by lia)).1
    have ewG:=W.sm _ _ (S2 _ _ ew)
    refine ⟨_,rfl,x,dx,[],rfl,ewG,rfl,_,rfl,_,rfl,rA,_,_,_,rfl,rfl,Zp.of a1,Yu (by lia) a2,_,rfl,r1,_,_,_,rfl,rfl,Zp.of a3,Yu (by lia) a4,?_⟩
    refine ⟨_,rfl,x,dx,[],rfl,ewG,rfl,_,rfl,_,rfl,oA,_,_,_,rfl,rfl,Zp.of b1,Yu (by lia) b3,_,rfl,_,rfl,_,_,rfl,rfl,fA,_,_,_,rfl,rfl,Zp.of c1',Yu (by lia) c3',?_⟩
    refine ⟨x,eo,ef,_,_,rfl,b4,c4',g2.mono (by decide) (by decide),g3.mono (by decide) (by decide),fun p G7 fp t7 wp=>?_⟩
    refine ⟨x,e1,p,_,_,rfl,a5'.same t7,wp,by lia,fun q G8 fq t8 wq=>?_⟩
    have W3:=Za2 W (t7.trans t8)
    obtain ⟨r',xs',h1',h2',h3',W4⟩:=ZaA (i:=c) (j:=k+d) W3 (by lia) (by lia) wq
    refine ⟨_,rfl,_,rfl,rA,_,_,_,rfl,rfl,Zp.of W3.eA,Yu (by lia) h1',_,rfl,r',xs',_,k+d,rfl,rfl,h2',ZaH (by lia) (by lia),?_⟩
    exact ⟨_,rfl,JV W4 fun i j _ _=>ZjT k t F c d i j hc⟩
   ·rintro σ G ⟨v8,rfl,W⟩
    exact ⟨_,_,rfl,JV W fun i j _ hj=>Zkg k n t F c i j hj⟩
  rintro σ G ⟨v7,v8,rfl,W⟩
  exact ⟨_,rfl,fin rA G (S2.free W.fA) (S2.trans W.sm) ((Zeu W).congr fun i j _ _=>Zlc k t F i j)⟩
def nxN (x:Str) (n:Nat):Nat:=if x = "born" then n+2 else if x = "cross" then n else n-2
def nxF (x:Str) (k:Nat) (t:Int) (F:Nat->Nat->WS):Nat->Nat->WS:=if x = "born" then Y5 k F else if x = "cross" then JE k t F else ZaQ k t F
def Fit (x:Str) (k n:Nat):Prop:=(x = "born" /\ k<=n)∨(x = "cross" /\ k+1<n)∨(x = "end" /\ k+1<n)
def Zlt (C:Addr):Sp:=fun vs H Q _=>∃(tA lA nA x:Addr) (n k:Nat) (kd:Str) (t:Int) (F:Nat->Nat->WS),vs = [.ref tA,.ref lA,.ref nA,.ref x]/\ZaK H C x/\Tab H tA n F/\H lA=some (.tup [.str kd,.int (k:Int)])/\WL H nA [[t]]/\0<=t/\n<=400/\TGd n 50000 F/\Fit kd k n /\
 ∀(p:Addr) (H':Hp),H p=none->Zd H H'->Tab H' p (nxN kd n) (nxF kd k t F)->Q (.ref p) H'
abbrev JU:Stmt:=top 9
theorem JF:Zw ["table", "letter", "name", "way", "kind", "k"] ["table", "letter", "name", "way"] (Zh JU):={}
theorem ZmU {C:Addr}{f:Addr}{fd:FuncData} (F:YH K "table_behind" "table_behind" JU f fd) (J3:JB P w K mg base 2 "behind_birth" ["table", "k", "way"] (Zc2 C)) (Jh:JB P w K mg base 4 "behind_crossing" ["table", "k", "name", "way"] (ZcQ C)) (WI:JB P w K mg base 4 "behind_end" ["table", "k", "name", "way"] (ZhQ C)):Z6 P w K mg base WW 5 f fd ["table", "letter", "name", "way"] (Zlt C):=by
 refine F.ok JF (fun vs H Q E h=>?_) (fun cdv A outer s H vs Q E hr h=>?_)
 ·obtain ⟨tA,lA,nA,x,n,k,kd,t,F,rfl,_⟩:=h
  rfl
 ·obtain ⟨tA,lA,nA,x,n,k,kd,t,F,rfl,hw,hT,hl,hN,ht,hn,tg,ft,fin⟩:=h
  refine ⟨_,(Ze (YE (pv 1) (WM (K:=K) (n:=2) rfl rfl (Yf (Zn (i:=4) JF.nd rfl (Or.inl rfl)) (Yf (Zn (i:=5) JF.nd rfl (Or.inl rfl)) WQ))))
   (Ze (YY (ZH U0 (pv 4) ZV (ZP _)) (Zi (Zz (Zv J3 hr (Za (pv 0) (Za (pv 5) (Za (pv 3) Zc)))))) Yd)
   (Ze (YY (ZH U0 (pv 4) ZV (ZP _)) (Zi (Zz (Zv Jh hr (Za (pv 0) (Za (pv 5) (Za (pv 2) (Za (pv 3) Zc))))))) Yd)
   (Zi (Zz (Zv WI hr (Za (pv 0) (Za (pv 5) (Za (pv 2) (Za (pv 3) Zc)))))))))),?_⟩
  refine ⟨_,rfl,lA,_,rfl,Gh.of hl,rfl,_,_,rfl,_,_,rfl,rfl,?_⟩
  refine ⟨_,rfl,rfl,_,rfl,Gg (fun c=>?_) (fun c=>?_)⟩
  ·have e:kd = "born" := V.str.inj (of_decide_eq_true c)
   subst e
   rcases ft with ⟨_,h⟩ | ⟨h,_⟩ | ⟨h,_⟩
   ·exact ⟨_,rfl,_,rfl,_,rfl,tA,x,n,k,F,rfl,hw,hT,h,by lia,fun p H' fp s' tb=>fin p H' fp s' tb⟩
   ·exact absurd h (by decide)
   ·exact absurd h (by decide)
  ·have e:kd ≠ "born" := fun z=>c (decide_eq_true (congrArg V.str z))
   refine ⟨_,rfl,rfl,_,rfl,Gg (fun c=>?_) (fun c=>?_)⟩
   ·have e:kd = "cross" := V.str.inj (of_decide_eq_true c)
    subst e
    rcases ft with ⟨h,_⟩ | ⟨_,h⟩ | ⟨h,_⟩
    ·exact absurd h (by decide)
    ·exact ⟨_,rfl,_,rfl,_,rfl,_,rfl,tA,nA,x,n,k,t,F,rfl,hw,hT,hN,ht,h,by lia,tg,fun p H' fp s' tb=>fin p H' fp s' tb⟩
    ·exact absurd h (by decide)
   ·have e':kd ≠ "cross" := fun z=>c (decide_eq_true (congrArg V.str z))
    rcases ft with ⟨h,_⟩ | ⟨h,_⟩ | ⟨h,h2⟩
    ·exact absurd h e
    ·exact absurd h e'
    ·subst h
     exact ⟨_,rfl,_,rfl,_,rfl,_,rfl,tA,nA,x,n,k,t,F,rfl,hw,hT,hN,ht,h2,by lia,tg,fun p H' fp s' tb=>fin p H' fp s' tb⟩
def Few (n:Nat) (F:Nat->Nat->WS):Prop:=∀i j,i<n->j<n->(F i j).length<=200
def Zln (C:Addr):Sp:=fun vs H Q E=>∃(tA:Addr) (n:Nat) (F:Nat->Nat->WS),vs = [.ref tA]/\Tab H tA n F/\n<=500/\(∀i j,i<n->j<n->(F i j).length<10000000)/\(Few n F->Q .non H)/\(¬Few n F->E (.ref C) none H)
abbrev Wi:Stmt:=top 17
theorem J1:Zw ["table", "row", "one"] ["table"] (Zh Wi):={}
theorem Zmv {f ZC:Addr}{fd:FuncData}{tk:Tok} (F:YH K "check_words" "check_words" Wi f fd) (JP:mg "TooMany" = some (.ref ZC)) (Y1:PySem.W.excIn K ZC bmV "ValueError.__new__" = true) (WV:mg "MOST_WORDS" = some (.int 200 tk)) (Z3:mg "len" = none):Z6 P w K mg base (CX1 P w) 1 f fd ["table"] (Zln ZC):=by
 refine F.okX J1 (fun vs H Q E h=>?_) (fun cdv A outer s H vs Q E hr h=>?_)
 ·obtain ⟨tA,n,F,rfl,_⟩:=h
  rfl
 ·obtain ⟨tA,n,F,rfl,hT,hn,hz,k,kx⟩:=h
  refine ⟨_,(Zi (Yh PassesOwn.leaving rfl (ZM (K:=K) rfl (pv 0)) (Zn (i:=1) J1.nd rfl (Or.inl rfl)) (Zi (Yh PassesOwn.leaving rfl (ZM (K:=K) rfl (pv 1)) (Zn (i:=2) J1.nd rfl (Or.inl rfl)) (Zi (YY (ZH US (ZG (Yb (K:=K) rfl) (by rfl) Z3 PySem.boot_len (Za (pv 2) Zc)) (ZjL (v:=.int 200) (by rfl) WV ⟨_,rfl⟩) (ZP _)) (Zi (ZhM (by rfl) JP Y1 (Za (ZmW (ZG (Yb (K:=K) rfl) (by rfl) Z3 PySem.boot_len (Za (pv 2) Zc)) (by decide) (by decide)) Zc))) Yd)))))),?_⟩
  obtain ⟨A,et,mt⟩:=id hT
  have lA:=mt.1
  refine ⟨_,rfl,tA,rfl,⟨_,Zp.of et⟩,Jx (K:=K) (a:=tA) (xs:=A.map V.ref) (fun i σ G=>∃v1 v2:Option V,σ = [some (.ref tA),v1,v2]/\G=H /\ ∀i' j,i'<i->j<n->(F i' j).length<=200) ⟨none,none,rfl,rfl,fun i' j h=>by lia⟩ (fun i σ G _ ⟨_,_,_,e,_⟩=>by rw [e];exact Zp.of et) ?_ ?_⟩
  ·rintro i v σ G hv ⟨v1,v2,rfl,rfl,ok⟩
   rw [List.getElem?_map] at hv
   obtain ⟨r,hr',rfl⟩:=Option.map_eq_some_iff.mp hv
   have hi:i<n:=by have:=(List.getElem?_eq_some_iff.mp hr').1;lia
   obtain ⟨xs,ex,lx,hx⟩:=mt.2.2 i r hr'
   refine ⟨_,rfl,r,rfl,⟨_,Zp.of ex⟩,Jx (K:=K) (a:=r) (xs:=xs) (fun j σ G'=>∃v2:Option V,σ = [some (.ref tA),some (.ref r),v2]/\G'=G /\ ∀j',j'<j->(F i j').length<=200) ⟨v2,rfl,rfl,fun j' h=>by lia⟩ (fun j σ G' _ ⟨_,_,e,_⟩=>by rw [e];exact Zp.of ex) ?_ ?_⟩
   ·rintro j y σ G' hy ⟨v2,rfl,rfl,ok2⟩
    have hj:j<n:=by have:=(List.getElem?_eq_some_iff.mp hy).1;lia
    obtain ⟨e,rfl,us,eu,wu⟩:=hx j y hy
    have lu:=wu.len
    have hzz:=hz i j hi hj
    refine ⟨_,rfl,e,_,rfl,.inl (Zp.of eu),_,_,rfl,rfl,_,rfl,Gg (fun c=>?_) (fun c=>?_)⟩
    ·have c':(200:Int)<(us.length:Int):=of_decide_eq_true c
     refine ⟨_,rfl,e,_,rfl,.inl (Zp.of eu),_,rfl,by lia,fun z=>⟨(by show 1<=sizeLine;decide),kx fun fw=>?_⟩⟩
     have:=fw i j hi hj
     lia
    ·have c':¬(200:Int)<(us.length:Int):=fun z=>c (decide_eq_true z)
     refine ⟨_,rfl,rfl,fun j' h=>?_⟩
     by_cases z:j'=j
     ·subst z;lia
     ·exact ok2 j' (by lia)
   ·rintro σ G' ⟨v2,rfl,rfl,ok2⟩
    refine ⟨_,_,rfl,rfl,fun i' j h hj=>?_⟩
    by_cases z:i'=i
    ·subst z;exact ok2 j (by lia)
    ·exact ok i' j (by lia) hj
  ·rintro σ G ⟨v1,v2,rfl,rfl,ok⟩
   exact k fun i j hi hj=>ok i j (by rw [List.length_map];lia) hj
def stT (s:Nat×(Nat->Nat->WS)×Int) (p:Str×Int):Nat×(Nat->Nat->WS)×Int:=(nxN p.1 s.1,nxF p.1 p.2.toNat s.2.2 s.2.1,s.2.2+1)
def Ze6 (ls:List (Str×Int)):Nat×(Nat->Nat->WS)×Int:=ls.foldl stT (0,fun _ _=>[],0)
def tN (ls:List (Str×Int)):Nat:=(Ze6 ls).1
def tF (ls:List (Str×Int)):Nat->Nat->WS:=(Ze6 ls).2.1
theorem Zdy (ls:List (Str×Int)) (p:Str×Int):Ze6 (ls ++ [p])=stT (Ze6 ls) p:=by unfold Ze6;rw [List.foldl_append];rfl
theorem ZmE (ls:List (Str×Int)):(Ze6 ls).2.2=ls.length:=by
 have key:∀(ls:List (Str×Int)) (s:Nat×(Nat->Nat->WS)×Int),(ls.foldl stT s).2.2=s.2.2+ls.length:=by
  intro ls
  induction ls with
  | nil=>intro s;simp
  | cons p ls ih=>intro s;rw [List.foldl_cons,ih];show s.2.2+1+_=_;rw [List.length_cons];lia
 have:=key ls (0,fun _ _=>[],0)
 unfold Ze6
 rw [this]
 show (0:Int)+_=_
 lia
theorem Ua (ls:List (Str×Int)) (p:Str×Int):tN (ls ++ [p])=nxN p.1 (tN ls):=by unfold tN;rw [Zdy];rfl
theorem Zac (ls:List (Str×Int)) (p:Str×Int):tF (ls ++ [p])=nxF p.1 p.2.toNat ls.length (tF ls):=by unfold tF;rw [Zdy,<- ZmE ls];rfl
theorem Zcd {ls:List (Str×Int)}{n:Int} (h:Wk ls n):(tN ls:Int)=n:=by
 induction h with
 | nil=>rfl
 | born h h0 h1 ih=>rw [Ua];unfold nxN;rw [if_pos rfl];lia
 | cross h h0 h1 ih=>rw [Ua];unfold nxN;rw [if_neg (by dsimp only;decide),if_pos rfl];lia
 | fin h h0 h1 ih=>rw [Ua];unfold nxN;rw [if_neg (by dsimp only;decide),if_neg (by dsimp only;decide)];lia
theorem Uz {ls:List (Str×Int)}{m:Int} (h:Wk ls m):∀(i:Nat) (p:Str×Int),ls[i]? = some p->0<=p.2/\Fit p.1 p.2.toNat (tN (ls.take i)):=by
 have key:∀{ls:List (Str×Int)}{q:Str×Int}{n:Int},Wk ls n->(∀(i:Nat) (p:Str×Int),ls[i]? = some p->0<=p.2/\Fit p.1 p.2.toNat (tN (ls.take i)))->(0<=q.2/\Fit q.1 q.2.toNat (tN ls)) -> ∀(i:Nat) (p:Str×Int),(ls ++ [q])[i]? = some p->0<=p.2/\Fit p.1 p.2.toNat (tN ((ls ++ [q]).take i)):=by
  intro ls q n _ ih hq i p hp
  by_cases z:i<ls.length
  ·rw [List.getElem?_append_left z] at hp
   rw [List.take_append_of_le_length (by lia)]
   exact ih i p hp
  ·rw [List.getElem?_append_right (by lia)] at hp
   have:i-ls.length=0:=by
    have:=(List.getElem?_eq_some_iff.mp hp).1
    simp at this;lia
   rw [this] at hp
   cases hp
   have:i=ls.length:=by lia
   subst this
   rw [List.take_left']
   ·exact hq
   ·rfl
 induction h with
 | nil=>intro i p h;simp at h
 | born h h0 h1 ih=>exact key h ih ⟨h0,.inl ⟨rfl,by have:=Zcd h;dsimp only;lia⟩⟩
 | cross h h0 h1 ih=>exact key h ih ⟨h0,.inr (.inl ⟨rfl,by have:=Zcd h;dsimp only;lia⟩)⟩
 | fin h h0 h1 ih=>exact key h ih ⟨h0,.inr (.inr ⟨rfl,by have:=Zcd h;dsimp only;lia⟩)⟩
def WB (B:Nat) (L:WS):Prop:=∀w∈L,w.length+2<=B /\ ∀k∈w,0<=k
theorem ZeP {B:Nat}:WB B []:=fun w h=>nomatch h
theorem YZ {B B':Nat}{L:WS} (h:WB B L) (hB:B<=B'):WB B' L:=fun w hw=>⟨by have:=(h w hw).1;lia,(h w hw).2⟩
theorem UZ {B:Nat}{L M:WS} (h:WB B L) (h':WB B M):WB B (Yx L M):=fun w hw=>by
 rcases List.mem_append.mp ((ZE _).sub hw) with z | z
 ·exact h w z
 ·exact h' w z
theorem Gy {a b B:Nat}{L M:WS} (h:∀w∈L,w.length<=a /\ ∀k∈w,0<=k) (h':∀w∈M,w.length<=b /\ ∀k∈w,0<=k) (hB:a+b+2<=B):WB B (ZL L M):=fun w hw=>by
 obtain ⟨u,hu,z⟩:=List.mem_flatMap.mp ((ZE _).sub hw)
 obtain ⟨v,hv,rfl⟩:=List.mem_map.mp z
 refine ⟨by rw [List.length_append];have:=(h u hu).1;have:=(h' v hv).1;lia,fun k hk=>?_⟩
 rcases List.mem_append.mp hk with z | z
 ·exact (h u hu).2 k z
 ·exact (h' v hv).2 k z
theorem Zam {t:Int} (ht:0<=t):∀w ∈ [[t]],w.length<=1 /\ ∀k∈w,0<=k:=fun w hw=>by
 rw [List.mem_singleton.mp hw]
 exact ⟨by simp,fun k hk=>by rw [List.mem_singleton.mp hk];exact ht⟩
theorem Zkh {x:Str}{k:Nat}{t:Int}{F:Nat->Nat->WS}{B:Nat} (hB:2<=B) (ht:0<=t) (h:∀i j,WB B (F i j)) (i j:Nat):
  WB (if x = "cross" then B+1 else if x = "end" ∨ x ≠ "born" then 2*B else B) (nxF x k t F i j):=by
 have lo:∀i j,∀w∈F i j,w.length<=B-2 /\ ∀k∈w,0<=k:=fun i j w hw=>⟨by have:=(h i j w hw).1;lia,(h i j w hw).2⟩
 unfold nxF
 by_cases e:x = "born"
 ·subst e
  rw [if_pos rfl,if_neg (by decide),if_neg (by decide)]
  unfold Y5
  split
  ·intro w hw
   rw [List.mem_singleton.mp hw]
   exact ⟨by simpa using hB,fun k hk=>nomatch hk⟩
  ·split
   ·exact ZeP
   ·exact h _ _
 ·rw [if_neg e]
  by_cases e2:x = "cross"
  ·subst e2
   rw [if_pos rfl,if_pos rfl]
   unfold JE
   repeat' split
   ·exact ZeP
   ·exact YZ (h _ _) (by lia)
   ·exact UZ (YZ (h _ _) (by lia)) (Gy (Zam ht) (lo _ _) (by lia))
   ·exact YZ (h _ _) (by lia)
   ·exact UZ (YZ (h _ _) (by lia)) (Gy (lo _ _) (Zam ht) (by lia))
   ·exact YZ (h _ _) (by lia)
  ·rw [if_neg e2,if_neg e2,if_pos (.inr e)]
   unfold ZaQ
   split
   ·refine UZ (YZ (h _ _) (by lia)) (Gy (a:=B-1) (b:=B-1) (fun w hw=>?_) (fun w hw=>?_) (by lia))
    ·have:=UZ (B:=B+1) (YZ (h i (k+1)) (by lia)) (Gy (B:=B+1) (lo i k) (Zam ht) (by lia)) w hw
     exact ⟨by have:=this.1;lia,this.2⟩
    ·have:=UZ (B:=B+1) (YZ (h k (j+2)) (by lia)) (Gy (B:=B+1) (Zam ht) (lo (k+1) (j+2)) (by lia)) w hw
     exact ⟨by have:=this.1;lia,this.2⟩
   ·exact YZ (h _ _) (by lia)
theorem Zh1 {ls:List (Str×Int)}{n:Int} (h:Wk ls n):n+2*(cnt "end" ls:Int)=2*(cnt "born" ls:Int):=by
 induction h with
 | nil=>rfl
 | born h h0 h1 ih=>rw [Z5,Z5,if_neg (by dsimp only;decide),if_pos rfl];lia
 | cross h h0 h1 ih=>rw [Z5,Z5,if_neg (by dsimp only;decide),if_neg (by dsimp only;decide)];lia
 | fin h h0 h1 ih=>rw [Z5,Z5,if_pos rfl,if_neg (by dsimp only;decide)];lia
def bdW (ls:List (Str×Int)):Nat:=2 ^ cnt "end" ls*(2+cnt "cross" ls)
theorem Zjd (ls:List (Str×Int)):2<=bdW ls:=by
 unfold bdW
 have:1<=2 ^ cnt "end" ls:=Nat.one_le_two_pow
 calc 2=1*2:=rfl
  _<=2 ^ cnt "end" ls*(2+cnt "cross" ls):=Nat.mul_le_mul this (by lia)
theorem ZiF {ls:List (Str×Int)}{n:Int} (h:Wk ls n):∀i j,WB (bdW ls) (tF ls i j):=by
 have key:∀{ls:List (Str×Int)}{x:Str}{k:Int},Kd x->(∀i j,WB (bdW ls) (tF ls i j)) -> ∀i j,WB (bdW (ls ++ [(x,k)])) (tF (ls ++ [(x,k)]) i j):=by
  intro ls x k kd ih i j
  rw [Zac]
  refine YZ (Zkh (Zjd ls) (by lia) ih i j) ?_
  unfold bdW
  rw [Z5,Z5]
  dsimp only
  have p1:1<=2 ^ cnt "end" ls:=Nat.one_le_two_pow
  rcases kd with rfl | rfl | rfl
  ·rw [if_neg (by decide),if_neg (by decide),if_neg (by decide),if_neg (by decide)]
   exact Nat.le_refl _
  ·rw [if_pos rfl,if_neg (by decide),if_pos rfl]
   simp only [Nat.add_zero]
   rw [<- Nat.add_assoc,Nat.mul_add _ _ 1]
   lia
  ·rw [if_neg (by decide),if_pos (by decide),if_pos rfl,if_neg (by decide),Nat.pow_succ]
   rw [Nat.mul_comm (2 ^ _) 2,Nat.mul_assoc]
   exact Nat.le_refl _
 induction h with
 | nil=>intro i j;exact ZeP
 | born h h0 h1 ih=>exact key (.inl rfl) ih
 | cross h h0 h1 ih=>exact key (.inr (.inl rfl)) ih
 | fin h h0 h1 ih=>exact key (.inr (.inr rfl)) ih
theorem UT (x:Str) (ls:List (Str×Int)) (i:Nat):cnt x (ls.take i)<=cnt x ls:=by
 unfold cnt
 exact List.Sublist.length_le ((List.take_sublist i ls).filter _)
theorem Wg {ls:List (Str×Int)}{m:Int} (h:Wk ls m):∀i,∃n,Wk (ls.take i) n:=by
 have key:∀{ls:List (Str×Int)}{q:Str×Int}{m:Int},(∀i,∃n,Wk (ls.take i) n)->Wk (ls ++ [q]) m -> ∀i,∃n,Wk ((ls ++ [q]).take i) n:=by
  intro ls q m ih h i
  by_cases z:i<=ls.length
  ·rw [List.take_append_of_le_length z];exact ih i
  ·rw [List.take_of_length_le (by rw [List.length_append,List.length_singleton];lia)];exact ⟨m,h⟩
 induction h with
 | nil=>intro i;exact ⟨0,by simpa using Wk.nil⟩
 | born h h0 h1 ih=>exact key ih (Wk.born h h0 h1)
 | cross h h0 h1 ih=>exact key ih (Wk.cross h h0 h1)
 | fin h h0 h1 ih=>exact key ih (Wk.fin h h0 h1)
theorem ZeW {ls:List (Str×Int)} (hW:Wk ls 0) (hb:InB ls) (a i j:Nat):WB 300 (tF (ls.take a) i j):=by
 obtain ⟨n,h⟩:=Wg hW a
 refine YZ (ZiF h i j) ?_
 have b1:=hb.2.1
 have b2:=hb.2.2
 rw [GY] at b1 b2
 have k:=Zh1 hW
 have c1:=UT "end" ls a
 have c2:=UT "cross" ls a
 unfold bdW
 have e4:2 ^ cnt "end" (ls.take a)<=2 ^ 4:=Nat.pow_le_pow_right (by decide) (by lia)
 calc 2 ^ cnt "end" (ls.take a)*(2+cnt "cross" (ls.take a))<=2 ^ 4*14:=Nat.mul_le_mul e4 (by lia)
  _<=300:=by decide
theorem Zl1 {ls:List (Str×Int)} (hW:Wk ls 0) (hb:InB ls) {a:Nat} (fw:Few (tN (ls.take a)) (tF (ls.take a))):TGd (tN (ls.take a)) 50000 (tF (ls.take a)):=fun i j hi hj=>
 ⟨fw i j hi hj,fun w hw=>⟨by have:=(ZeW hW hb a i j w hw).1;lia,(ZeW hW hb a i j w hw).2⟩⟩
theorem tab_keep {G:Hp}{r b:Addr}{n:Nat}{F:Nat->Nat->WS}{us vs:List V} (x:Tab G r n F) (hr:r≠b) (nw:∀L,¬WL G b L) (nr:0<n -> ∀f,¬JH G b n f) (hb:G b=some (.lst us)):Tab (upd G b (.lst vs)) r n F:=by
 obtain ⟨A,e,m⟩:=x
 refine ⟨A,by rw [Zj hr];exact e,Zec m (fun r' h'=>?_) hb⟩
 obtain ⟨i,hi,rfl⟩:=List.getElem_of_mem h'
 have R:=m.2.2 i A[i] (by simp)
 have hn:0<n:=by have:=m.1;lia
 refine ⟨fun z=>nr hn (F i) (z ▸ R),fun xs e' hx he z=>?_⟩
 obtain ⟨ys,a,_,c⟩:=R
 rw [a] at hx
 have hxy:ys=xs:=by injection hx with hx;injection hx
 subst hxy
 obtain ⟨j,hj⟩:=List.mem_iff_getElem?.mp he
 obtain ⟨e'',p,q⟩:=c j _ hj
 cases p
 subst z
 exact nw _ q
structure Tbs (G:Hp) (b:Addr) (ls:List (Str×Int)) (T:List Addr):Prop where
 at_:G b=some (.lst (T.map V.ref))
 ne:0<T.length
 tab:∀(a:Nat) (r:Addr),T[a]? = some r->Tab G r (tN (ls.take a)) (tF (ls.take a))/\r≠b
theorem UQ {G G':Hp}{b:Addr}{ls:List (Str×Int)}{T:List Addr} (s:Zd G G') (x:Tbs G b ls T):Tbs G' b ls T:=⟨s _ _ x.at_,x.ne,fun a r h=>⟨(x.tab a r h).1.same s,(x.tab a r h).2⟩⟩
theorem Zh9 {G:Hp}{b:Addr}{ls:List (Str×Int)}{T:List Addr} (x:Tbs G b ls T) (L:WS):¬WL G b L:=fun ⟨xs,e,w⟩=>by
 rw [x.at_] at e
 have hxy:T.map V.ref=xs:=by injection e with e;injection e
 subst hxy
 have h0:T[0]? = some (T[0]'x.ne):=by simp
 obtain ⟨_,_,t,ht,hh⟩:=Words.get (i:=0) w (by rw [List.getElem?_map,h0];rfl)
 cases ht
 obtain ⟨A,e,_⟩:=(x.tab 0 _ h0).1
 rw [e] at hh
 cases hh
theorem Zlo {ls:List (Str×Int)} (hW:Wk ls 0) (h:0<ls.length):tN (ls.take 1)=2:=by
 obtain ⟨p,hp⟩:∃p,ls[0]? = some p:=⟨ls[0],by simp [h]⟩
 have e:ls.take 1 = [] ++ [p]:=by rw [show (1:Nat)=0+1 from rfl,List.take_add_one,hp];rfl
 rw [e,Ua]
 have ft:=(Uz hW 0 p hp).2
 rcases ft with ⟨a,_⟩ | ⟨_,b⟩ | ⟨_,b⟩
 ·unfold nxN;rw [if_pos a];rfl
 ·exact absurd b (by show ¬_+1<0;lia)
 ·exact absurd b (by show ¬_+1<0;lia)
theorem Zgr {G:Hp}{b:Addr}{ls:List (Str×Int)}{T:List Addr} (hW:Wk ls 0) (x:Tbs G b ls T) (hl:T.length<=ls.length) {n:Nat} (hn:2<=n) (f:Nat->WS):¬JH G b n f:=fun R=>by
 obtain ⟨xs,e,a,l,c,w⟩:=R.at (j:=1) (by lia)
 rw [x.at_] at a
 have hxy:T.map V.ref=xs:=by injection a with a;injection a
 subst hxy
 rw [List.length_map] at l
 rw [List.getElem?_map] at c
 obtain ⟨r,h1,h2⟩:=Option.map_eq_some_iff.mp c
 cases h2
 have tb:=(x.tab 1 _ h1).1
 rw [Zlo hW (by lia)] at tb
 obtain ⟨ys,r0,b1,_,b3,b4⟩:=tb.row (i:=0) (by lia)
 obtain ⟨us,u1,u2⟩:=w
 rw [b1] at u1
 have hxy:ys=us:=by injection u1 with u1;injection u1
 subst hxy
 obtain ⟨_,_,t,ht,hh⟩:=Words.get (i:=0) u2 b3
 cases ht
 obtain ⟨zs,q,_⟩:=b4
 rw [q] at hh
 cases hh
theorem ZjX {ls:List (Str×Int)}{n:Int} (h:Wk ls n):tN ls % 2=0:=by
 have a:=Zcd h
 have b:=Zh1 h
 omega
theorem ZhN {G:Hp}{b p:Addr}{ls:List (Str×Int)}{T:List Addr} (hW:Wk ls 0) (x:Tbs G b ls T) (hl:T.length<=ls.length) (tb:Tab G p (tN (ls.take T.length)) (tF (ls.take T.length))) (hp:p≠b):Tbs (upd G b (.lst (T.map V.ref ++ [.ref p]))) b ls (T ++ [p]):=by
 have keep:∀(a:Nat) (r:Addr),Tab G r (tN (ls.take a)) (tF (ls.take a))->r≠b->Tab (upd G b (.lst (T.map V.ref ++ [.ref p]))) r (tN (ls.take a)) (tF (ls.take a)):=fun a r t n=>by
  refine tab_keep t n (Zh9 x) (fun h0 f=>Zgr hW x hl ?_ f) x.at_
  obtain ⟨m,h⟩:=Wg hW a
  have:=ZjX h
  lia
 refine ⟨by rw [List.map_append];exact Zb,by rw [List.length_append];have:=x.ne;lia,fun a r h=>?_⟩
 by_cases z:a<T.length
 ·rw [List.getElem?_append_left z] at h
  exact ⟨keep a r (x.tab a r h).1 (x.tab a r h).2,(x.tab a r h).2⟩
 ·rw [List.getElem?_append_right (by lia)] at h
  have:a-T.length=0:=by
   have:=(List.getElem?_eq_some_iff.mp h).1
   simp at this;lia
  rw [this] at h
  cases h
  have:a=T.length:=by lia
  subst this
  exact ⟨keep _ _ tb hp,hp⟩
def YC (ls:List (Str×Int)) (m:Nat):Prop:=∀a,a<=m->Few (tN (ls.take a)) (tF (ls.take a))
theorem Zd7 {α:Type}{l:List α}{i:Nat}{x:α} (hl:l.length=i+1) (h:l[i]? = some x):atI l (-1)=some x:=by
 unfold atI ixN
 rw [if_neg (by decide),if_pos (by lia),hl,show ((-1:Int)+((i+1:Nat):Int)).toNat=i by lia]
 exact h
theorem Zeg {ls:List (Str×Int)} (hW:Wk ls 0) (hI:InB ls) (a:Nat):tN (ls.take a)<=8:=by
 obtain ⟨m,hm⟩:=Wg hW a
 have h1:=Zcd hm
 have h2:=Zdd hm
 have h3:=hI.1 a
 lia
theorem Zhn {x:Str}{k n b:Nat}{t:Int}{F:Nat->Nat->WS} (tg:TGd n b F) (ft:Fit x k n):∀i j,i<nxN x n->j<nxN x n->(nxF x k t F i j).length<10000000:=by
 have pl:∀A B:WS,(Yx A B).length<=A.length+B.length:=fun A B=>by have:=(ZE (A++B)).len;rw [List.length_append] at this;exact this
 have tl:∀A B:WS,(ZL A B).length<=A.length*B.length:=fun A B=>by have:=(ZE (ZD A B)).len;rw [Wc] at this;exact this
 have F200:∀i j,i<n->j<n->(F i j).length<=200:=fun i j hi hj=>(tg i j hi hj).1
 intro i j hi hj
 unfold nxN at hi hj
 unfold nxF
 rcases ft with ⟨rfl,hk⟩ | ⟨rfl,hk⟩ | ⟨rfl,hk⟩
 ·rw [if_pos rfl] at hi hj ⊢
  unfold Y5
  split
  ·decide
  ·split
   ·decide
   ·have:=F200 (if i<k then i else i-2) (if j<k then j else j-2) (by split<;>lia) (by split<;>lia)
    lia
 ·rw [if_neg (by decide),if_pos rfl] at hi hj ⊢
  unfold JE
  repeat' split
  ·decide
  ·have:=F200 (k+1) j (by lia) (by lia);lia
  ·have h1:=F200 k j (by lia) (by lia)
   have h2:=F200 (k+1) j (by lia) (by lia)
   have h3:=tl [[t]] (F (k+1) j)
   have h4:=pl (F k j) (ZL [[t]] (F (k+1) j))
   simp only [List.length_singleton,Nat.one_mul] at h3
   lia
  ·have:=F200 i k (by lia) (by lia);lia
  ·have h1:=F200 i (k+1) (by lia) (by lia)
   have h2:=F200 i k (by lia) (by lia)
   have h3:=tl (F i k) [[t]]
   have h4:=pl (F i (k+1)) (ZL (F i k) [[t]])
   simp only [List.length_singleton,Nat.mul_one] at h3
   lia
  ·have:=F200 i j (by lia) (by lia);lia
 ·rw [if_neg (by decide),if_neg (by decide)] at hi hj ⊢
  unfold ZaQ
  split
  ·rename_i hc
   have a1:=F200 i (k+1) (by lia) (by lia)
   have a2:=F200 i k (by lia) (by lia)
   have a3:=tl (F i k) [[t]]
   simp only [List.length_singleton,Nat.mul_one] at a3
   have a4:(Gv k t F i).length<=400:=by have:=pl (F i (k+1)) (ZL (F i k) [[t]]);unfold Gv;lia
   have b1:=F200 k (j+2) (by lia) (by lia)
   have b2:=F200 (k+1) (j+2) (by lia) (by lia)
   have b3:=tl [[t]] (F (k+1) (j+2))
   simp only [List.length_singleton,Nat.one_mul] at b3
   have b4:(ZbP k t F (j+2)).length<=400:=by have:=pl (F k (j+2)) (ZL [[t]] (F (k+1) (j+2)));unfold ZbP;lia
   have c1:=tl (Gv k t F i) (ZbP k t F (j+2))
   have c2:(Gv k t F i).length*(ZbP k t F (j+2)).length<=400*400:=Nat.mul_le_mul a4 b4
   have c3:=F200 i (j+2) (by lia) (by lia)
   have c4:=pl (F i (j+2)) (ZL (Gv k t F i) (ZbP k t F (j+2)))
   lia
  ·have:=F200 (if i<k then i else i+2) (if j<k then j else j+2) (by split<;>lia) (by split<;>lia)
   lia
def ZjZ (C W:Addr):Sp:=fun vs H Q E=>∃(l:Addr) (xs:List V) (ls:List (Str×Int)),vs = [.ref l]/\H l=some (.lst xs)/\Zu H xs ls/\Wk ls 0/\InB ls/\ls.length<=60 /\
 (YC ls ls.length -> ∀(p:Addr) (H':Hp) (T:List Addr),H p=none->Zd H H'->Tbs H' p ls T->T.length=ls.length+1->Q (.ref p) H')/\(¬YC ls ls.length -> ∀H',Zd H H'->E (.ref C) none H')
abbrev WO:Stmt:=top 18
theorem YX:Zw ["drawing", "way", "tables", "t", "letter"] ["drawing"] (Zh WO):={}
theorem ZmK {f C Zr:Addr}{fd:FuncData} (F:YH K "sum_tables" "sum_tables" WO f fd) (ZaB:mg "WordWay" = some (.ref Zr)) (k_WordWay:MkO K Zr) (JT:JB P w K mg base 5 "table_behind" ["table", "letter", "name", "way"] (Zlt Zr)) (Wl:GF P w K mg base 1 "check_words" ["table"] (Zln C)) (ZR:mg "enumerate" = none):Z6 P w K mg base (CX1 P w) 6 f fd ["drawing"] (ZjZ C Zr):=by
 refine F.okX YX (fun vs H Q E h=>?_) (fun cdv A outer s H vs Q E hr h=>?_)
 ·obtain ⟨l,xs,ls,rfl,_⟩:=h
  rfl
 ·obtain ⟨l,xs,ls,rfl,hl,hL,hW,hI,hlen,k,kx⟩:=h
  refine ⟨_,(Ze (Zq (i:=1) YX.nd rfl (Or.inl rfl) (Zhe k_WordWay (by rfl) ZaB))
   (Ze (Zq (i:=2) YX.nd rfl (Or.inl rfl) (Z4 (Za (Z4 Zc) Zc)))
   (Ze (Yh PassesOwn.leaving rfl (Zbo (K:=K) rfl (by rfl) ZR (Za (pv 0) Zc)) (WM (K:=K) (n:=2) rfl rfl (Yf (Zn (i:=3) YX.nd rfl (Or.inl rfl)) (Yf (Zn (i:=4) YX.nd rfl (Or.inl rfl)) WQ))) (Ze (Yj (Jo (K:=K) rfl (Wz PySem.F.plainAttrs_list PySem.F.slot_list_append PySem.F.type_list_append Y2 (pv 2) (Za (Zv JT hr (Za (Zx (Zk (K:=K) rfl) (pv 2) (Zh4 ZeJ Zf) (fun _ _=>rfl)) (Za (pv 4) (Za (Z4 (Za (Yo (Za (pv 3) Zc)) Zc)) (Za (pv 1) Zc))))) Zc))))
   (Zi (Yj (Ju Wl (hr.mono (by decide)) Zf7 (Za (Zx (Zk (K:=K) rfl) (pv 2) (Zh4 ZeJ Zf) (fun _ _=>rfl)) Zc))))))
   (Zi (Zz (pv 2)))))),?_⟩
  have lx:=hL.len
  intro x dx hx hdx ndx
  obtain ⟨H1,e1⟩:∃H1,upd (upd H dx (.own x)) x (.ins Zr dx [])=H1:=⟨_,rfl⟩
  have s1:Zd H H1:=by rw [<- e1];exact (Zd.laid hdx).put hx
  have ew:H1 x=some (.ins Zr dx []):=by rw [<- e1];exact Zb
  rw [e1]
  refine ⟨(by show 0<=sizeLine;decide),fun t0 ft0=>⟨(by show 1<=sizeLine;decide),fun tb ftb=>?_⟩⟩
  have s2:Zd H1 (upd H1 t0 (.lst [])):=Zd.laid ft0
  have n0:t0≠tb:=fun z=>by rw [<- z,Zb] at ftb;cases ftb
  obtain ⟨H2,e2⟩:∃H2,upd (upd H1 t0 (.lst [])) tb (.lst [.ref t0])=H2:=⟨_,rfl⟩
  have s3:Zd (upd H1 t0 (.lst [])) H2:=by rw [<- e2];exact Zd.laid ftb
  have etb:H2 tb=some (.lst ([t0].map V.ref)):=by rw [<- e2];exact Zb
  rw [e2]
  have s12:=(s1.trans s2).trans s3
  have ftH:H tb=none:=(s1.trans s2).free ftb
  have z0:Few 0 (tF (ls.take 0)):=fun i j hi=>by lia
  have T0:Tbs H2 tb ls [t0]:=⟨etb,by simp,fun a r h=>by
   match a,h with
   | 0,h=>
    cases h
    exact ⟨⟨[],s3 _ _ Zb,GW⟩,n0⟩⟩
  refine ⟨_,rfl,l,rfl,⟨_,Zp.of (s12 _ _ hl)⟩,Zkk (K:=K) (a:=l) (xs:=xs) (fun i σ G=>∃(v3 v4:Option V) (T:List Addr),σ = [some (.ref l),some (.ref x),some (.ref tb),v3,v4]/\Zd H G/\ZaK G Zr x/\Tbs G tb ls T/\T.length=i+1/\YC ls i)
   ⟨none,none,[t0],rfl,s12,⟨dx,[],s3 _ _ (s2 _ _ ew),rfl⟩,T0,rfl,fun a ha=>by rw [show a=0 by lia];exact z0⟩ (fun i σ G _ ⟨_,_,_,_,sg,_⟩=>Zp.of (sg _ _ hl)) ?_ ?_⟩
  ·rintro i y p σ G hy ⟨v3,v4,T,rfl,sg,wy,tbs,lT,few⟩ fp
   obtain ⟨⟨kd,kk⟩,q,hq,rfl,ht⟩:=hL.get hy
   have hi:i<ls.length:=(List.getElem?_eq_some_iff.mp hq).1
   obtain ⟨k0,ft⟩:=Uz hW i _ hq
   dsimp only at k0 ft
   obtain ⟨kn,rfl⟩:=Int.eq_ofNat_of_zero_le k0
   rw [Int.toNat_natCast] at ft
   obtain ⟨G0,eG0⟩:∃G0,upd G p (.tup [.int i,.ref q])=G0:=⟨_,rfl⟩
   have sp:Zd G G0:=by rw [<- eG0];exact Zd.laid fp
   have ep:G0 p=some (.tup [.int i,.ref q]):=by rw [<- eG0];exact Zb
   rw [eG0]
   refine ⟨p,_,rfl,Gh.of ep,rfl,_,_,rfl,_,_,rfl,rfl,?_⟩
   have tbs0:=UQ sp tbs
   have hTi:T[i]? = some (T[i]'(by lia)):=by simp
   have hlast:atI (T.map V.ref) (-1)=some (.ref (T[i]'(by lia))):=Zd7 (by rw [List.length_map];exact lT) (by rw [List.getElem?_map,hTi];rfl)
   refine ⟨_,rfl,.inl ⟨rfl,_,Zp.of tbs0.at_⟩,_,rfl,1,rfl,tb,_,_,_,rfl,rfl,Zp.of tbs0.at_,hlast,_,rfl,_,rfl,(by show 1<=sizeLine;decide),fun u1 fu1=>⟨(by show 1<=sizeLine;decide),fun u2 fu2=>?_⟩⟩
   obtain ⟨G2,eG2⟩:∃G2,upd (upd G0 u1 (.tup [.int i])) u2 (.lst [.ref u1])=G2:=⟨_,rfl⟩
   have su:Zd G0 G2:=by rw [<- eG2];exact (Zd.laid fu1).step fu2
   have wn:WL G2 u2 [[(i:Int)]]:=by rw [<- eG2];exact ⟨_,Zb,.cons ⟨u1,rfl,Zd.laid fu2 _ _ Zb⟩ .nil⟩
   rw [eG2]
   have tbs2:=UQ su tbs0
   have wy2:=Zek (sp.trans su) wy
   have n8:=Zeg hW hI i
   have tg:=Zl1 hW hI (few i (Nat.le_refl _))
   have eqt:ls.take (i+1)=ls.take i ++ [(kd,(kn:Int))]:=by rw [List.take_add_one,hq];rfl
   have li:(ls.take i).length=i:=by rw [List.length_take];lia
   refine ⟨_,rfl,T[i]'(by lia),q,u2,x,tN (ls.take i),kn,kd,(i:Int),tF (ls.take i),rfl,wy2,(tbs2.tab i _ hTi).1,(sg.trans (sp.trans su)) _ _ ht,wn,by lia,by lia,tg,ft,fun p' G3 fp' t3 tab'=>?_⟩
   have e1':nxN kd (tN (ls.take i))=tN (ls.take (i+1)):=by rw [eqt,Ua]
   have e2':nxF kd kn (i:Int) (tF (ls.take i))=tF (ls.take (i+1)):=by rw [eqt,Zac,li];rfl
   have lens:=Zhn (t:=(i:Int)) tg ft
   rw [e1',e2'] at tab' lens
   have tbs3:=UQ t3 tbs2
   have np':p'≠tb:=fun z=>by have:=tbs2.at_;rw [<- z,fp'] at this;cases this
   have push:=ZhN hW tbs3 (by lia) (by rw [lT];exact tab') np'
   refine ⟨tb,_,_,rfl,rfl,tbs3.at_,by rw [List.length_map,lT,sizeLine_eq];lia,?_⟩
   obtain ⟨G4,eG4⟩:∃G4,upd G3 tb (.lst (T.map V.ref ++ [.ref p']))=G4:=⟨_,rfl⟩
   have S4:Zd H G4:=by rw [<- eG4];exact ((sg.trans (sp.trans su)).trans t3).put ftH
   have wy4:ZaK G4 Zr x:=by
    obtain ⟨dx',fs',ew',rfl⟩:=Zek t3 wy2
    refine ⟨dx',[],?_,rfl⟩
    rw [<- eG4,Zj (fun z=>by rw [z,tbs3.at_] at ew';cases ew')]
    exact ew'
   rw [eG4] at push ⊢
   have h5:(T ++ [p'])[i+1]? = some p':=by rw [List.getElem?_append_right (by lia),lT];simp
   refine ⟨_,rfl,1,rfl,tb,_,_,_,rfl,rfl,Zp.of push.at_,Zd7 (by rw [List.length_map,List.length_append,lT];rfl) (by rw [List.getElem?_map,h5];rfl),?_⟩
   refine ⟨p',_,_,rfl,(push.tab (i+1) p' h5).1,(by have:=Zeg hW hI (i+1);lia),lens,fun fw=>?_,fun nf=>kx (fun all=>nf (all (i+1) (by lia))) G4 S4⟩
   refine ⟨_,_,T ++ [p'],rfl,S4,wy4,push,by rw [List.length_append,lT];rfl,fun a ha=>?_⟩
   by_cases z:a=i+1
   ·rw [z];exact fw
   ·exact few a (by lia)
  ·rintro σ G ⟨v3,v4,T,rfl,sg,wy,tbs,lT,few⟩
   rw [lx] at lT few
   exact ⟨_,rfl,k few tb G T ftH sg tbs lT⟩
theorem gK:Zdu "born" = 2/\Zdu "cross" = 0/\Zdu "end" = -2:=⟨by decide +kernel,by decide +kernel,by decide +kernel⟩
theorem wkS {ls:List (Str×Int)}{n:Int} (h:Wk ls n):Z8 ls=n:=by
 induction h with
 | nil=>rfl
 | born _ _ _ ih=>rw [JR,ih,gK.1]
 | cross _ _ _ ih=>rw [JR,ih,gK.2.1];lia
 | fin _ _ _ ih=>rw [JR,ih,gK.2.2];lia
theorem Zj0 {A A':List (Str×Int)}{n:Int} (ha:Wk A n) (ha':Wk A' n) {X:List (Str×Int)}{m:Int} (h:Wk X m):∀B,X=A++B->Wk (A'++B) m:=by
 have base:∀{X:List (Str×Int)}{m:Int},Wk X m->X=A->Wk (A' ++ []) m:=fun {X m} hx e=>by
  subst e
  have e1:=wkS hx
  have e2:=wkS ha
  rw [List.append_nil]
  rw [show m=n by lia]
  exact ha'
 have spl:∀{ls B:List (Str×Int)}{p:Str×Int},ls ++ [p]=A++B->(B = []/\ls ++ [p]=A) ∨ ∃B',B=B' ++ [p]/\ls=A++B':=fun {ls B p} e=>by
  rcases List.eq_nil_or_concat B with z | ⟨B',q,z⟩
  rotate_left
  rw [List.concat_eq_append] at z
  rotate_left
  ·subst z
   exact .inl ⟨rfl,by simpa using e⟩
  ·subst z
   rw [<- List.append_assoc] at e
   obtain ⟨e1,e2⟩:=List.append_inj' e rfl
   have e2:p=q:=by simpa using e2
   subst e2
   exact .inr ⟨B',rfl,e1⟩
 induction h with
 | nil=>
  intro B e
  obtain ⟨e1,e2⟩:=List.append_eq_nil_iff.mp e.symm
  subst e2
  exact base .nil e1.symm
 | @born ls n' k h h0 h1 ih=>
  intro B e
  rcases spl e with ⟨z,y⟩ | ⟨B',z,y⟩
  ·subst z;exact base (.born h h0 h1) y
  ·rw [z,<- List.append_assoc];exact .born (ih B' y) h0 h1
 | @cross ls n' k h h0 h1 ih=>
  intro B e
  rcases spl e with ⟨z,y⟩ | ⟨B',z,y⟩
  ·subst z;exact base (.cross h h0 h1) y
  ·rw [z,<- List.append_assoc];exact .cross (ih B' y) h0 h1
 | @fin ls n' k h h0 h1 ih=>
  intro B e
  rcases spl e with ⟨z,y⟩ | ⟨B',z,y⟩
  ·subst z;exact base (.fin h h0 h1) y
  ·rw [z,<- List.append_assoc];exact .fin (ih B' y) h0 h1
def Mid (ls:List (Str×Int)):Prop:=∀t,1<=t->t<ls.length->2<=Z8 (ls.take t)
theorem YW (A B:List (Str×Int)):Z8 (A++B)=Z8 A+Z8 B:=by unfold Z8;simp
def W8 (b c:Int):List (Str×Int):=[("born", b),("cross", c),("end", b)]
theorem Zim {ls:List (Str×Int)}{t:Nat}{b c:Int} (hW:Wk ls 0) (hb0:0<=b) (hb1:b<=Z8 (ls.take t)) (hc0:0<=c) (hc1:c<=Z8 (ls.take t)):Wk (ls.take t++W8 b c++ls.drop t) 0:=by
 obtain ⟨n,hn⟩:=Wg hW t
 have en:=wkS hn
 rw [en] at hb1 hc1
 have w1:=Wk.born (k:=b) hn hb0 hb1
 have w2:=Wk.cross (k:=c) w1 hc0 (by lia)
 have w3:=Wk.fin (k:=b) w2 hb0 (by lia)
 have e:ls.take t ++ [(("born" : Str),b)] ++ [(("cross" : Str),c)] ++ [(("end" : Str),b)]=ls.take t++W8 b c:=by simp [W8]
 rw [e,show n+2-2=n by lia] at w3
 exact Zj0 hn w3 hW (ls.drop t) (List.take_append_drop t ls).symm
theorem Zgc {ls:List (Str×Int)}{t:Nat}{b c:Int} (hM:Mid ls) (t1:1<=t) (t2:t<ls.length):Mid (ls.take t++W8 b c++ls.drop t):=by
 intro i i1 i2
 have lt:(ls.take t).length=t:=by rw [List.length_take];lia
 have l3:(W8 b c).length=3:=rfl
 have gk:=gK
 have s0:=hM t t1 t2
 by_cases h1:i<=t
 ·rw [List.append_assoc,List.take_append_of_le_length (by lia),List.take_take,Nat.min_eq_left h1]
  exact hM i i1 (by lia)
 ·by_cases h2:i=t+1
  ·subst h2
   have e:(ls.take t++W8 b c++ls.drop t).take (t+1)=ls.take t ++ [(("born" : Str),b)]:=by
    rw [List.append_assoc,List.take_append,lt]
    simp [W8,List.take_take]
   rw [e,YW]
   have:Z8 [(("born" : Str),b)]=2:=by unfold Z8;simp [gk.1]
   lia
  ·by_cases h3:i=t+2
   ·subst h3
    have e:(ls.take t++W8 b c++ls.drop t).take (t+2)=ls.take t ++ [(("born" : Str),b),(("cross" : Str),c)]:=by
     rw [List.append_assoc,List.take_append,lt]
     simp [W8,List.take_take,show t+2-t=2 by lia]
    rw [e,YW]
    have:Z8 [(("born" : Str),b),(("cross" : Str),c)]=2:=by unfold Z8;simp [gk.1,gk.2.1]
    lia
   ·obtain ⟨j,rfl⟩:∃j,i=t+3+j:=⟨i-(t+3),by lia⟩
    have e:(ls.take t++W8 b c++ls.drop t).take (t+3+j)=ls.take t++W8 b c++(ls.drop t).take j:=by
     rw [List.take_append]
     have:(ls.take t++W8 b c).length=t+3:=by rw [List.length_append,lt,l3]
     rw [this,List.take_of_length_le (by lia)]
     congr 2
     lia
    rw [e,YW,YW]
    have z:Z8 (W8 b c)=0:=by unfold Z8 W8;simp [gk.1,gk.2.1,gk.2.2]
    have y:ls.take (t+j)=ls.take t++(ls.drop t).take j:=by rw [List.take_add]
    have hj:t+j<ls.length:=by
     rw [List.length_append,List.length_append,lt,l3,List.length_drop] at i2
     lia
    have:=hM (t+j) (by lia) hj
    rw [y,YW] at this
    lia
theorem ZcK:∀ls:List (Str×Int),(∀p∈ls,Kd p.1)->2*(((ls.map fun p=>V.str p.1).countP fun z=>eqV z (.str "born"):Nat):Int)-2*(((ls.map fun p=>V.str p.1).countP fun z=>eqV z (.str "end"):Nat):Int)=Z8 ls
 | [],_=>rfl
 | p::r,h=>by
  have ih:=ZcK r fun q hq=>h q (List.mem_cons_of_mem _ hq)
  have gk:=gK
  have e:Z8 (p::r)=Zdu p.1+Z8 r:=by unfold Z8;simp
  have eqs:∀x y:Str,eqV (V.str x) (V.str y)=decide (x=y):=fun x y=>by
   unfold eqV
   by_cases z:x=y<;>simp [z]
  rw [List.map_cons,List.countP_cons,List.countP_cons,e,<- ih,eqs,eqs]
  rcases h p List.mem_cons_self with z | z | z
  ·rw [z,gk.1]
   simp [show ¬(("born" : Str) = "end") by decide +kernel]
   lia
  ·rw [z,gk.2.1]
   simp [show ¬(("cross" : Str) = "end") by decide +kernel,show ¬(("cross" : Str) = "born") by decide +kernel]
  ·rw [z,gk.2.2]
   simp [show ¬(("end" : Str) = "born") by decide +kernel]
   lia
theorem Zcz {H:Hp}{xs:List V}{ls:List (Str×Int)} (h:Zu H xs ls):∀t,Zu H (xs.take t) (ls.take t):=by
 induction h with
 | nil=>intro t;rw [List.take_nil,List.take_nil];exact .nil
 | cons a _ ih=>
  intro t
  cases t with
  | zero=>exact .nil
  | succ n=>exact .cons a (ih n)
theorem ZcI {H:Hp}{xs:List V}{ls:List (Str×Int)} (h:Zu H xs ls):∀t,Zu H (xs.drop t) (ls.drop t):=by
 induction h with
 | nil=>intro t;rw [List.drop_nil,List.drop_nil];exact .nil
 | cons a b ih=>
  intro t
  cases t with
  | zero=>exact .cons a b
  | succ n=>exact ih n
theorem Zk7 {ls:List (Str×Int)}{t:Nat}{b c:Int} (hM:∀i,Z8 (ls.take i)<=8) (t2:t<ls.length) (hm:Z8 (ls.take t)<=6):∀i,Z8 ((ls.take t++W8 b c++ls.drop t).take i)<=8:=by
 intro i
 have lt:(ls.take t).length=t:=by rw [List.length_take];lia
 have l3:(W8 b c).length=3:=rfl
 have gk:=gK
 by_cases h1:i<=t
 ·rw [List.append_assoc,List.take_append_of_le_length (by lia),List.take_take,Nat.min_eq_left h1]
  exact hM i
 ·by_cases h2:i=t+1
  ·subst h2
   have e:(ls.take t++W8 b c++ls.drop t).take (t+1)=ls.take t ++ [(("born" : Str),b)]:=by
    rw [List.append_assoc,List.take_append,lt]
    simp [W8,List.take_take]
   rw [e,YW]
   have:Z8 [(("born" : Str),b)]=2:=by unfold Z8;simp [gk.1]
   lia
  ·by_cases h3:i=t+2
   ·subst h3
    have e:(ls.take t++W8 b c++ls.drop t).take (t+2)=ls.take t ++ [(("born" : Str),b),(("cross" : Str),c)]:=by
     rw [List.append_assoc,List.take_append,lt]
     simp [W8,List.take_take,show t+2-t=2 by lia]
    rw [e,YW]
    have:Z8 [(("born" : Str),b),(("cross" : Str),c)]=2:=by unfold Z8;simp [gk.1,gk.2.1]
    lia
   ·obtain ⟨j,rfl⟩:∃j,i=t+3+j:=⟨i-(t+3),by lia⟩
    have e:(ls.take t++W8 b c++ls.drop t).take (t+3+j)=ls.take t++W8 b c++(ls.drop t).take j:=by
     rw [List.take_append]
     have:(ls.take t++W8 b c).length=t+3:=by rw [List.length_append,lt,l3]
     rw [this,List.take_of_length_le (by lia)]
     congr 2
     lia
    rw [e,YW,YW]
    have z:Z8 (W8 b c)=0:=by unfold Z8 W8;simp [gk.1,gk.2.1,gk.2.2]
    have y:ls.take (t+j)=ls.take t++(ls.drop t).take j:=by rw [List.take_add]
    have:=hM (t+j)
    rw [y,YW] at this
    lia
theorem Zdb (x:Str) (A B:List (Str×Int)):cnt x (A++B)=cnt x A+cnt x B:=by unfold cnt;simp
structure CB (ls:List (Str×Int)) (i:Nat):Prop where
 sum:∀t,Z8 (ls.take t)<=8
 born:cnt "born" ls<=1+i
 cross:cnt "cross" ls<=i
theorem CB.mono {ls:List (Str×Int)}{i:Nat} (x:CB ls i):CB ls (i+1):=⟨x.sum,by have:=x.born;lia,by have:=x.cross;lia⟩
abbrev Zkd:=@W8
theorem CB.W8 {ls:List (Str×Int)}{i t:Nat}{b c:Int} (x:CB ls i) (t2:t<ls.length) (hm:Z8 (ls.take t)<=6):CB (ls.take t++W8 b c++ls.drop t) (i+1):=by
 have e:∀y,cnt y (ls.take t++Zkd b c++ls.drop t)=cnt y ls+cnt y (Zkd b c):=fun y=>by
  have:=Zdb y (ls.take t) (ls.drop t)
  rw [List.take_append_drop] at this
  rw [Zdb,Zdb];lia
 have h1:=x.born
 have h2:=x.cross
 have q1:cnt "born" (Zkd b c)=1:=rfl
 have q2:cnt "cross" (Zkd b c)=1:=rfl
 exact ⟨Zk7 x.sum t2 hm,by rw [e,q1];lia,by rw [e,q2];lia⟩
theorem CB.inb {ls:List (Str×Int)}{i:Nat} (x:CB ls i) (h:i<=3):InB ls:=by
 have h1:=x.born
 have h2:=x.cross
 exact ⟨x.sum,by rw [GY];lia,by rw [GY];lia⟩
def ZeM:Sp:=fun vs H Q _=>∃(b:Addr),vs = [.ref b,.int 3]/\Ww H b /\ ∀(l:Addr) (H':Hp) (ls:List (Str×Int)),H l=none->Ww H' b->Yp b H H'->Drw H' l ls->InB ls->ls.length<=50->ls ≠ []->Q (.ref l) H'
abbrev YB:Stmt:=top 28
theorem Zo:Zw ["_law_bag_here", "_law_most", "_law_letters", "_law_turn", "_law_t", "_law_words", "_law_many", "_law_k", "_law_side", "_law_curl"] ["_law_bag_here", "_law_most"] (Zh YB):={}
theorem Zgm {f:Addr}{fd:FuncData} (F:YH K "_law_curled" "_law_curled" YB f fd) (Zl:JB P w K mg base 1 "_law_take" ["_law_bag_here", "_law_many"] JX) (Zt:mg "range" = none) (Z3:mg "len" = none) (Zak:mg "max" = none):
  Z6 P w K mg base WW 2 f fd ["_law_bag_here", "_law_most"] ZeM:=by
 refine F.ok Zo (fun vs H Q E h=>?_) (fun cdv A outer s H vs Q E hr h=>?_)
 ·obtain ⟨b,rfl,_⟩:=h
  rfl
 ·obtain ⟨b,rfl,hbag,k⟩:=h
  refine ⟨_,(Ze (Zq (i:=2) Zo.nd rfl (Or.inl rfl) (Z4 (Za (Yo (Za ZV (Za Zf Zc))) (Za (Yo (Za ZV (Za Zf Zc))) Zc))))
   (Ze (Yh PassesOwn.never rfl (Ya (by rfl) Zt (Za (Zv Zl hr (Za (pv 0) (Za (Zm ZA (pv 1) Zf) Zc))) Zc)) (Zn (i:=3) Zo.nd rfl (Or.inl rfl)) (Ze (Zq (i:=4) Zo.nd rfl (Or.inl rfl) (Zm ZA Zf (Zv Zl hr (Za (pv 0) (Za (Zm YI (ZG (Yb (K:=K) rfl) (by rfl) Z3 PySem.boot_len (Za (pv 2) Zc)) Zf) Zc)))))
   (Ze (Zbe (i:=5) Zo.nd rfl (Or.inl rfl) (Ls:=["_law_letter"]) (Fs:=[]) (fi:=[]) (ZJ.of (show Yi ["_law_bag_here", "_law_most", "_law_letters", "_law_turn", "_law_t", "_law_words", "_law_many", "_law_k", "_law_side", "_law_curl"] (Zh YB) _ [] []=true by decide +kernel)) rfl (ZM (K:=K) rfl (Yw (YU (K:=K) rfl) (pv 2) Jg (ZZ (pv 4)))) (fun cl C s3 H3 ex=>⟨(Zn (i:=0) (show ((["_law_letter"]:List Str)++([]:List Str)).Nodup by decide +kernel) rfl (Or.inl rfl)),ZW,(Zx (Za3 (K:=K) rfl) (pv 0) Zf (fun _ _=>rfl))⟩))
   (Ze (Zq (i:=6) Zo.nd rfl (Or.inl rfl) (Zm YI (Zm Wm Zf (Jo (K:=K) rfl (Wz PySem.F.plainAttrs_list PySem.F.slot_list_count PySem.F.type_list_count (GV (K:=K) rfl) (pv 5) (Za ZV Zc)))) (Zm Wm Zf (Jo (K:=K) rfl (Wz PySem.F.plainAttrs_list PySem.F.slot_list_count PySem.F.type_list_count (GV (K:=K) rfl) (pv 5) (Za ZV Zc))))))
   (Ze (Zq (i:=7) Zo.nd rfl (Or.inl rfl) (Zv Zl hr (Za (pv 0) (Za (ZG (ZcB rfl) (by rfl) Zak boot_max (Za Zf (Za (pv 6) Zc))) Zc))))
   (Ze (Zq (i:=8) Zo.nd rfl (Or.inl rfl) (Zv Zl hr (Za (pv 0) (Za Zf Zc))))
   (Ze (Zq (i:=9) Zo.nd rfl (Or.inl rfl) (Z4 (Za (Yo (Za ZV (Za (Zm YI (Zm ZA (pv 7) Zf) (pv 8)) Zc))) (Za (Yo (Za ZV (Za (Zm ZA (pv 7) (pv 8)) Zc))) (Za (Yo (Za ZV (Za (Zm YI (Zm ZA (pv 7) Zf) (pv 8)) Zc))) Zc)))))
   (Zi (YY (ZH Zf6 (pv 6) Zf (ZP _)) (Zi (YE (pv 9) (ZeO (pv 2) (ZZ (pv 4)) (ZZ (pv 4))))) Yd)))))))))
   (Zi (Zz (pv 2))))),?_⟩
  refine ⟨(by show 2<=sizeLine;decide),fun t1 h1=>⟨(by show 2<=sizeLine;decide),fun t2 h2=>⟨(by show 2<=sizeLine;decide),fun l hl=>?_⟩⟩⟩
  have s3:Zd H (upd (upd (upd H t1 (.tup [.str "born", .int 0])) t2 (.tup [.str "end", .int 0])) l (.lst [.ref t1,.ref t2])):=((Zd.laid h1).step h2).step hl
  have fl:H l=none:=((Zd.laid h1).step h2).free hl
  have L0:Zu (upd (upd (upd H t1 (.tup [.str "born", .int 0])) t2 (.tup [.str "end", .int 0])) l (.lst [.ref t1,.ref t2])) [.ref t1,.ref t2] [("born", 0),("end", 0)]:=
   .cons ⟨t1,rfl,(Zd.laid hl) _ _ ((Zd.laid h2) _ _ Zb)⟩ (.cons ⟨t2,rfl,(Zd.laid hl) _ _ Zb⟩ .nil)
  have el:(upd (upd (upd H t1 (.tup [.str "born", .int 0])) t2 (.tup [.str "end", .int 0])) l (.lst [.ref t1,.ref t2])) l=some (.lst [.ref t1,.ref t2]):=Zb
  generalize upd (upd (upd H t1 (.tup [.str "born", .int 0])) t2 (.tup [.str "end", .int 0])) l (.lst [.ref t1,.ref t2])=H3 at *
  have bg3:Ww H3 b:=by obtain ⟨g,r,h,e⟩:=hbag;exact ⟨g,r,h,s3 _ _ e⟩
  have nlb:l≠b:=by obtain ⟨g,r,h,e⟩:=hbag;exact (Zg e fl).symm
  have W0:Wk [("born", 0),("end", 0)] 0:=Wk.fin (k:=0) (Wk.born (k:=0) .nil (by decide) (by decide)) (by decide) (by decide)
  have M0:Mid [("born", 0),("end", 0)]:=fun t a c=>by
   have:t=1:=by simp at c;lia
   subst this
   decide +kernel
  have C0:CB [("born", 0),("end", 0)] 0:=⟨fun i=>by
   match i with
   | 0=>decide +kernel
   | 1=>decide +kernel
   | i+2=>rw [List.take_of_length_le (by simp)];decide +kernel,by decide +kernel,by decide +kernel⟩
  refine ⟨_,rfl,_,rfl,_,_,rfl,rfl,b,_,rfl,bg3,by decide,by decide,fun d H4 d0 d1 bg4 f4=>?_⟩
  refine ⟨_,rfl,by lia,by lia,Yk (n:=d.toNat) (fun i σ G=>∃(xs:List V) (ls:List (Str×Int)) (v3 v4 v5 v6 v7 v8 v9:Option V),σ = [some (.ref b),some (.int 3),some (.ref l),v3,v4,v5,v6,v7,v8,v9]/\Ww G b/\Yp b H G/\G l=some (.lst xs)/\Zu G xs ls/\Wk ls 0/\Mid ls/\2<=ls.length/\ls.length<=2+3*i/\CB ls i)
   ⟨_,_,none,none,none,none,none,none,none,rfl,bg4,s3.frm.trans f4,f4 _ _ el nlb,L0.frm f4 bg3,W0,M0,by decide,by decide,C0⟩ ?_ ?_⟩
  ·rintro i σ G hi ⟨xs,ls,v3,v4,v5,v6,v7,v8,v9,rfl,bg,fr,hG,hL,hW,hM,n2,n3,cb⟩
   have hxl:=hL.len
   refine ⟨_,rfl,_,rfl,l,_,rfl,.inl (Zp.of hG),_,_,rfl,rfl,b,_,rfl,bg,by lia,by lia,fun e G1 e0 e1 bg1 f1=>⟨_,_,rfl,rfl,?_⟩⟩
   have hG1:=f1 _ _ hG nlb
   have hL1:=hL.frm f1 bg
   obtain ⟨t,ht⟩:∃t:Nat,1+e=(t:Int):=⟨(1+e).toNat,by lia⟩
   dsimp only
   rw [ht]
   have t1':1<=t:=by lia
   have t2':t<ls.length:=by lia
   refine ⟨_,rfl,_,rfl,_,rfl,l,xs,rfl,Zp.of hG1,fun c hc=>?_⟩
   have sc:=Zd.laid (o:=.lst (JI xs none (some (t:Int)))) hc
   rw [Zi5 (xs:=xs) (t:=t) (by lia)] at sc ⊢
   refine ⟨c,rfl,⟨_,Zp.of Zb⟩,YM (K:=K) (a:=c) (xs:=xs.take t) (Nat.le_of_lt (Z9 (by rw [List.length_take];lia))) (fun j zs G'=>Zd (upd G1 c (.lst (xs.take t))) G'/\zs=((ls.take t).take j).map fun p=>V.str p.1) ⟨Zd.refl _,rfl⟩
    (fun j zs G' q=>by rw [q.2,List.length_map,List.length_take];exact Nat.min_le_left _ _) (fun j zs G' q=>Zp.of (q.1 _ _ Zb)) (fun j x zs G' hx q=>?_) (fun zs G' q wA hwA=>?_)⟩
   ·obtain ⟨sq,rfl⟩:=q
    have hx':xs[j]? = some x/\j<t:=by
     rw [List.getElem?_take] at hx
     split at hx
     ·exact ⟨hx,by assumption⟩
     ·cases hx
    obtain ⟨p,ta,hp,rfl,hta⟩:=hL1.get hx'.1
    refine lcG ?_
    refine ⟨_,rfl,ta,_,_,_,rfl,rfl,Gh.of (sq _ _ (sc _ _ hta)),Zs (j:=0) rfl,sq,?_⟩
    rw [Ul (ns:=ls.take t) _ (by rw [List.getElem?_take,if_pos hx'.2];exact hp)]
   obtain ⟨sq,rfl⟩:=q
   have lt:(xs.take t).length=(ls.take t).length:=by rw [List.length_take,List.length_take,hxl]
   rw [lt,List.take_of_length_le (Nat.le_refl _)]
   have kd:∀p∈ls.take t,Kd p.1:=fun p hp=>hW.kd p (List.mem_of_mem_take hp)
   have s2:Zd G1 (upd G' wA (.lst ((ls.take t).map fun p=>V.str p.1))):=(sc.trans sq).step hwA
   have ew:(upd G' wA (.lst ((ls.take t).map fun p=>V.str p.1))) wA=some (.lst ((ls.take t).map fun p=>V.str p.1)):=Zb
   generalize upd G' wA (.lst ((ls.take t).map fun p=>V.str p.1))=G2 at *
   have fs:((ls.take t).map fun p=>V.str p.1).all Wx=true:=by
    rw [List.all_eq_true]
    intro x hx
    obtain ⟨p,_,rfl⟩:=List.mem_map.mp hx
    rfl
   refine ⟨_,rfl,.inl ⟨rfl,_,Zp.of ew⟩,wA,_,_,rfl,rfl,Zp.of ew,rfl,fs,_,_,rfl,rfl,.inl ⟨by decide,by decide⟩,?_⟩
   refine ⟨_,rfl,.inl ⟨rfl,_,Zp.of ew⟩,wA,_,_,rfl,rfl,Zp.of ew,rfl,fs,_,_,rfl,rfl,.inl ⟨by decide,by decide⟩,_,_,rfl,rfl,?_⟩
   have cs:=ZcK (ls.take t) kd
   obtain ⟨m,hm⟩:∃m,m=Z8 (ls.take t):=⟨_,rfl⟩
   dsimp only
   rw [cs,<- hm]
   have m2:2<=m:=by rw [hm];exact hM t t1' t2'
   have m120:m<=1000:=by
    rw [hm]
    obtain ⟨n,hn⟩:=Wg hW t
    have:=Zgh hn
    rw [wkS hn]
    rw [List.length_take] at this
    lia
   have bg2:Ww G2 b:=by obtain ⟨g,r,h,e⟩:=bg1;exact ⟨g,r,h,s2 _ _ e⟩
   refine ⟨_,rfl,_,rfl,_,_,rfl,b,_,rfl,bg2,?_,?_,fun kk G3 k0 k1 bg3' f3=>?_⟩
   ·split<;>lia
   ·split<;>lia
   have k1:kk<m:=by
    rw [if_pos (show m>1 by lia)] at k1
    exact k1
   refine ⟨_,rfl,b,2,rfl,bg3',by decide,by decide,fun sd G4 sd0 sd1 bg4' f4'=>?_⟩
   refine ⟨_,rfl,_,_,rfl,rfl,_,rfl,_,_,rfl,rfl,(by show 2<=sizeLine;decide),fun u1 hu1=>?_⟩
   refine ⟨_,rfl,_,rfl,_,_,rfl,rfl,(by show 2<=sizeLine;decide),fun u2 hu2=>?_⟩
   refine ⟨_,rfl,_,_,rfl,rfl,_,rfl,_,_,rfl,rfl,(by show 2<=sizeLine;decide),fun u3 hu3=>?_⟩
   refine ⟨(by show 3<=sizeLine;decide),fun cA hcA=>?_⟩
   have s5:Zd G4 (upd (upd (upd (upd G4 u1 (.tup [.str "born", .int (kk+1-sd)])) u2 (.tup [.str "cross", .int (kk+sd)])) u3 (.tup [.str "end", .int (kk+1-sd)])) cA (.lst [.ref u1,.ref u2,.ref u3])):=(((Zd.laid hu1).step hu2).step hu3).step hcA
   have fc:G4 cA=none:=(((Zd.laid hu1).step hu2).step hu3).free hcA
   have L5:Zu (upd (upd (upd (upd G4 u1 (.tup [.str "born", .int (kk+1-sd)])) u2 (.tup [.str "cross", .int (kk+sd)])) u3 (.tup [.str "end", .int (kk+1-sd)])) cA (.lst [.ref u1,.ref u2,.ref u3])) [.ref u1,.ref u2,.ref u3] (W8 (kk+1-sd) (kk+sd)):=
    .cons ⟨u1,rfl,(Zd.laid hcA) _ _ ((Zd.laid hu3) _ _ ((Zd.laid hu2) _ _ Zb))⟩ (.cons ⟨u2,rfl,(Zd.laid hcA) _ _ ((Zd.laid hu3) _ _ Zb)⟩ (.cons ⟨u3,rfl,(Zd.laid hcA) _ _ Zb⟩ .nil))
   have e5:(upd (upd (upd (upd G4 u1 (.tup [.str "born", .int (kk+1-sd)])) u2 (.tup [.str "cross", .int (kk+sd)])) u3 (.tup [.str "end", .int (kk+1-sd)])) cA (.lst [.ref u1,.ref u2,.ref u3])) cA=some (.lst [.ref u1,.ref u2,.ref u3]):=Zb
   generalize upd (upd (upd (upd G4 u1 (.tup [.str "born", .int (kk+1-sd)])) u2 (.tup [.str "cross", .int (kk+sd)])) u3 (.tup [.str "end", .int (kk+1-sd)])) cA (.lst [.ref u1,.ref u2,.ref u3])=G5 at *
   have hG4:G4 l=some (.lst xs):=f4' _ _ (f3 _ _ (s2 _ _ hG1) nlb) nlb
   have hG5:=s5 _ _ hG4
   have nlc:l≠cA:=Zg hG4 fc
   have fr5:Yp b H G5:=((((fr.trans f1).trans s2.frm).trans f3).trans f4').trans s5.frm
   have bg5:Ww G5 b:=by obtain ⟨g,r,h,e⟩:=bg4';exact ⟨g,r,h,s5 _ _ e⟩
   have hL5:Zu G5 xs ls:=((((hL1.same s2).frm f3 bg2).frm f4' bg3').same s5)
   dsimp only
   refine ⟨_,rfl,_,_,rfl,rfl,_,rfl,?_⟩
   dsimp only
   by_cases m7:m<7
   ·rw [if_pos (decide_eq_true m7)]
    refine ⟨_,rfl,_,rfl,_,rfl,_,rfl,_,rfl,_,rfl,l,cA,xs,[.ref u1,.ref u2,.ref u3],(t:Int),(t:Int),rfl,rfl,rfl,rfl,hG5,e5,nlc,by lia,by lia,by lia,Nat.le_of_lt (Z9 (by show xs.length+3<=1000;lia)),?_⟩
    have u:∀c o,c≠l->G5 c=some o->(upd G5 l (.lst (xs.take (t:Int).toNat ++ [.ref u1,.ref u2,.ref u3]++xs.drop (t:Int).toNat))) c=some o:=fun c o n e=>by rw [Zj n];exact e
    have ut:∀c p,G5 c=some (.tup p)->(upd G5 l (.lst (xs.take (t:Int).toNat ++ [.ref u1,.ref u2,.ref u3]++xs.drop (t:Int).toNat))) c=some (.tup p):=fun c p e=>u c _ (fun z=>by rw [z,hG5] at e;cases e) e
    have Lf:Zu G5 (xs.take t ++ [.ref u1,.ref u2,.ref u3]++xs.drop t) (ls.take t++W8 (kk+1-sd) (kk+sd)++ls.drop t):=((Zcz hL5 t).append L5).append (ZcI hL5 t)
    rw [Int.toNat_natCast] at *
    have ms:m=Z8 (ls.take t):=hm
    refine ⟨_,ls.take t++W8 (kk+1-sd) (kk+sd)++ls.drop t,_,_,_,_,_,_,_,rfl,?_,fun c o e n=>u c o (Zg e fl) (fr5 c o e n),Zb,Lf.mono ut,Zim hW (by lia) (by lia) (by lia) (by lia),Zgc hM t1' t2',?_,?_,cb.W8 t2' (by lia)⟩
    ·obtain ⟨g,r,h,e⟩:=bg5
     exact ⟨g,r,h,u _ _ nlb.symm e⟩
    ·rw [List.length_append,List.length_append,List.length_take,List.length_drop];show 2<=min t ls.length+3+_;lia
    ·rw [List.length_append,List.length_append,List.length_take,List.length_drop];show min t ls.length+3+_<=_;lia
   ·rw [if_neg (fun z=>m7 (of_decide_eq_true z))]
    exact ⟨xs,ls,_,_,_,_,_,_,_,rfl,bg5,fr5,hG5,hL5,hW,hM,n2,by lia,cb.mono⟩
  ·rintro σ G ⟨xs,ls,v3,v4,v5,v6,v7,v8,v9,rfl,bg,fr,hG,hL,hW,hM,n2,n3,cb⟩
   exact ⟨_,rfl,k l G ls fl bg fr ⟨xs,hG,hL,hW,by lia⟩ (cb.inb (by lia)) (by lia) (fun z=>by rw [z] at n2;simp at n2)⟩
def UJ:Nat->List (List (Str×Int))
 | 0=>[[("born", 0),("end", 0)]]
 | i+1=>UJ i++(UJ i).flatMap fun ls=>(List.range (ls.length-1)).flatMap fun e=>(List.range (Z8 (ls.take (e+1))).toNat).flatMap fun (k:Nat)=>[ls.take (e+1)++W8 ((k:Int)+1) (k:Int)++ls.drop (e+1),ls.take (e+1)++W8 (k:Int) ((k:Int)+1)++ls.drop (e+1)]
theorem UY {i:Nat}{ls:List (Str×Int)} (h:ls∈UJ i):ls∈UJ (i+1):=List.mem_append_left _ h
theorem ZhD {i t:Nat}{ls:List (Str×Int)}{kk sd:Int} (h:ls∈UJ i) (t1:1<=t) (t2:t<ls.length) (k0:0<=kk) (k1:kk<Z8 (ls.take t)) (s0:0<=sd) (s1:sd<2):ls.take t++W8 (kk+1-sd) (kk+sd)++ls.drop t∈UJ (i+1):=by
 obtain ⟨k,rfl⟩:=Int.eq_ofNat_of_zero_le k0
 obtain ⟨e,rfl⟩:∃e,t=e+1:=⟨t-1,by lia⟩
 refine List.mem_append_right _ (List.mem_flatMap.mpr ⟨ls,h,List.mem_flatMap.mpr ⟨e,List.mem_range.mpr (by lia),List.mem_flatMap.mpr ⟨k,List.mem_range.mpr (by lia),?_⟩⟩⟩)
 have:sd=0∨sd=1:=by lia
 rcases this with rfl | rfl
 ·rw [show (k:Int)+1-0=(k:Int)+1 by lia,show (k:Int)+0=(k:Int) by lia]
  exact List.mem_cons_self
 ·rw [show (k:Int)+1-1=(k:Int) by lia]
  exact List.mem_cons_of_mem _ List.mem_cons_self
def ZkI (k:Nat) (F:Nat->Nat->Nat):Nat->Nat->Nat:=fun i j=>
 if i=k/\j=k+1 then 1 else if i=k∨i=k+1∨j=k∨j=k+1 then 0 else F (if i<k then i else i-2) (if j<k then j else j-2)
def Zhb (k:Nat) (F:Nat->Nat->Nat):Nat->Nat->Nat:=fun i j=>
 if i=k/\j=k+1 then 0 else if i=k/\k+2<=j then F (k+1) j else if i=k+1/\k+2<=j then F k j+F (k+1) j
 else if i<k/\j=k+1 then F i k else if i<k/\j=k then F i (k+1)+F i k else F i j
def Zm1 (k:Nat) (F:Nat->Nat->Nat):Nat->Nat->Nat:=fun i j=>
 if i<k/\k<=j then F i (j+2)+(F i (k+1)+F i k)*(F k (j+2)+F (k+1) (j+2)) else F (if i<k then i else i+2) (if j<k then j else j+2)
def nxL (p:Str×Int) (F:Nat->Nat->Nat):Nat->Nat->Nat:=if p.1 = "born" then ZkI p.2.toNat F else if p.1 = "cross" then Zhb p.2.toNat F else Zm1 p.2.toNat F
def Zid (ls:List (Str×Int)):Nat->Nat->Nat:=ls.foldl (fun F p=>nxL p F) fun _ _=>0
theorem ZgP (ls:List (Str×Int)) (p:Str×Int):Zid (ls ++ [p])=nxL p (Zid ls):=by unfold Zid;rw [List.foldl_append];rfl
theorem Ue (A B:WS):(Yx A B).length<=A.length+B.length:=by
 have:=(ZE (A++B)).len
 rw [List.length_append] at this
 exact this
theorem Zae (A B:WS):(ZL A B).length<=A.length*B.length:=by
 have:=(ZE (ZD A B)).len
 rw [Wc] at this
 exact this
theorem Zlm {x:Str}{k:Nat}{t:Int}{v:Int}{F:Nat->Nat->WS}{L:Nat->Nat->Nat} (hv:v.toNat=k) (h:∀i j,(F i j).length<=L i j):∀i j,(nxF x k t F i j).length<=nxL (x,v) L i j:=by
 intro i j
 unfold nxF nxL
 dsimp only
 rw [hv]
 have one:∀A:WS,(ZL A [[t]]).length<=A.length:=fun A=>Nat.le_trans (Zae A _) (by simp)
 have eno:∀A:WS,(ZL [[t]] A).length<=A.length:=fun A=>Nat.le_trans (Zae _ A) (by simp)
 split
 ·unfold Y5 ZkI
  split
  ·simp
  ·split
   ·simp
   ·exact h _ _
 ·split
  ·unfold JE Zhb
   split
   ·simp
   ·split
    ·exact h _ _
    ·split
     ·exact Nat.le_trans (Ue _ _) (Nat.add_le_add (h _ _) (Nat.le_trans (eno _) (h _ _)))
     ·split
      ·exact h _ _
      ·split
       ·exact Nat.le_trans (Ue _ _) (Nat.add_le_add (h _ _) (Nat.le_trans (one _) (h _ _)))
       ·exact h _ _
  ·unfold ZaQ Zm1
   split
   ·refine Nat.le_trans (Ue _ _) (Nat.add_le_add (h _ _) (Nat.le_trans (Zae _ _) (Nat.mul_le_mul ?_ ?_)))
    ·exact Nat.le_trans (Ue _ _) (Nat.add_le_add (h _ _) (Nat.le_trans (one _) (h _ _)))
    ·exact Nat.le_trans (Ue _ _) (Nat.add_le_add (h _ _) (Nat.le_trans (eno _) (h _ _)))
   ·exact h _ _
theorem Zfx:∀(n:Nat) (ls:List (Str×Int)),ls.length=n -> ∀i j,(tF ls i j).length<=Zid ls i j
 | 0,ls,h=>by
  have:ls = []:=List.length_eq_zero_iff.mp h
  subst this
  intro i j
  exact Nat.zero_le _
 | n+1,ls,h=>by
  rcases List.eq_nil_or_concat ls with z | ⟨l,p,z⟩
  ·rw [z] at h;cases h
  ·rw [List.concat_eq_append] at z
   subst z
   rw [Zac,ZgP]
   exact Zlm rfl (Zfx n l (by simpa using h))
def ZmH (ls:List (Str×Int)):Bool:=(List.range (ls.length+1)).all fun a=>(List.range 8).all fun i=>(List.range 8).all fun j=>decide (Zid (ls.take a) i j<=200)
theorem Zkn:∀ls∈UJ 2,ZmH ls=true:=by decide +kernel
theorem Zhk {ls:List (Str×Int)} (hW:Wk ls 0) (hI:InB ls) (h:ls∈UJ 2):YC ls ls.length:=fun a ha i j hi hj=>by
 have n8:=Zeg hW hI a
 have f:=Zkn ls h
 unfold ZmH at f
 have f1:=List.all_eq_true.mp f a (List.mem_range.mpr (by lia))
 have f2:=List.all_eq_true.mp f1 i (List.mem_range.mpr (by lia))
 have f3:=of_decide_eq_true (List.all_eq_true.mp f2 j (List.mem_range.mpr (by lia)))
 exact Nat.le_trans (Zfx _ _ rfl i j) f3
theorem Zhh {f:Addr}{fd:FuncData} (F:YH K "_law_take" "_law_take" Wb f fd):Zej P w K mg base 1 f fd ["_law_bag_here", "_law_many"] JX:=by
 refine F.okQ JK (fun vs H Q E h=>?_) (fun cdv A outer s H vs Q hr hn h=>?_)
 ·obtain ⟨b,m,rfl,_⟩:=h
  rfl
 ·obtain ⟨b,m,rfl,⟨g,r,hg,hb⟩,h1,h2,k⟩:=h
  refine ⟨_,(Ze (YY (ZH US (Zx (Zk (K:=K) rfl) (pv 0) Zf (fun _ _=>rfl)) Zf (ZP _)) (Ze (Zq (i:=2) JK.nd rfl (Or.inl rfl) (Zm JG (Zx (Zk (K:=K) rfl) (pv 0) Zf (fun _ _=>rfl)) (pv 1)))
   (Ze (YE (Zm UR (Zx (Zk (K:=K) rfl) (pv 0) Zf (fun _ _=>rfl)) (pv 1)) (JC (pv 0) Zf set_list))
   (Zi (Zz (pv 2))))) Yd)
   (Ze (YE (Zm JG (Zm ZA (Zm Wm (Zx (Zk (K:=K) rfl) (pv 0) Zf (fun _ _=>rfl)) Zf) Zf) Zf) (JC (pv 0) Zf set_list))
   (Zi (Zz (Zm JG (Zm JG (Zm ZcP (Zm UR (Zx (Zk (K:=K) rfl) (pv 0) Zf (fun _ _=>rfl)) Zf) Zf) Zf) (pv 1)))))),?_⟩
  refine ⟨_,rfl,b,_,_,_,rfl,rfl,Zp.of hb,Zs (j:=0) rfl,_,_,rfl,rfl,_,rfl,?_⟩
  refine Gg (fun hp=>?_) (fun hp=>?_)
  ·have hp':0<g:=of_decide_eq_true hp
   refine ⟨_,rfl,b,_,_,_,rfl,rfl,Zp.of hb,Zs (j:=0) rfl,_,rfl,_,_,rfl,rfl,(by omega:0<m),?_⟩
   refine ⟨_,rfl,b,_,_,_,rfl,rfl,Zp.of hb,Zs (j:=0) rfl,_,rfl,_,_,rfl,rfl,⟨by omega,by omega⟩,_,rfl,b,_,_,0,rfl,rfl,hb,rfl,?_⟩
   refine ⟨_,rfl,k _ _ (Int.emod_nonneg _ (by omega)) (Int.emod_lt_of_pos _ (by omega)) ⟨g / m,r,Int.ediv_nonneg (by omega) (by omega),Zb⟩ Yp.upd⟩
  ·refine ⟨_,rfl,b,_,_,_,rfl,rfl,Zp.of hb,Zs (j:=1) rfl,_,_,rfl,rfl,.inr ⟨by decide,by decide⟩,_,_,rfl,rfl,_,_,rfl,rfl,(show (0:Int)<2147483647 by decide),_,rfl,b,_,_,1,rfl,rfl,hb,rfl,?_⟩
   have e1:0<=(r*48271+11) % 2147483647:=Int.emod_nonneg _ (by decide)
   have e2:(r*48271+11) % 2147483647<2147483647:=Int.emod_lt_of_pos _ (by decide)
   refine ⟨_,rfl,b,_,_,_,rfl,rfl,Zp.of Zb,Zs (j:=1) rfl,_,_,rfl,rfl,⟨by decide,by decide⟩,_,_,rfl,rfl,⟨by decide,by decide,by omega⟩,_,_,rfl,rfl,(show (0:Int)<2147483629 by decide),_,rfl,_,_,rfl,rfl,(by omega:0<m),?_⟩
   exact k _ _ (Int.emod_nonneg _ (by omega)) (Int.emod_lt_of_pos _ (by omega)) ⟨g,_,hg,Zb⟩ Yp.upd
theorem Zkp {A:Around}{H H':Hp}{b:Addr} (x:Hnd A H) (f:Yp b H H') (bg:Ww H b):Hnd A H':=fun v e=>by
 obtain ⟨a,C,r,h⟩:=x v e
 exact ⟨a,C,r,f a _ h (fun z=>by
  obtain ⟨_,_,_,e'⟩:=bg
  rw [z,e'] at h
  cases h)⟩
def Zc4:Sp:=fun vs H Q _=>∃(b:Addr),vs = [.ref b,.int 2]/\Ww H b /\ ∀(l:Addr) (H':Hp) (ls:List (Str×Int)),H l=none->Ww H' b->Yp b H H'->Drw H' l ls->InB ls->ls.length<=50->ls ≠ []->YC ls ls.length->Q (.ref l) H'
theorem ZeB {f:Addr}{fd:FuncData} (F:YH K "_law_curled" "_law_curled" YB f fd) (hq__law_take:ZgG P w K mg base 1 "_law_take" ["_law_bag_here", "_law_many"] JX) (Zt:mg "range" = none) (Z3:mg "len" = none) (Zak:mg "max" = none):
  Zej P w K mg base 2 f fd ["_law_bag_here", "_law_most"] Zc4:=by
 refine F.okQ Zo (fun vs H Q E h=>?_) (fun cdv A outer s H vs Q hr hn h=>?_)
 ·obtain ⟨b,rfl,_⟩:=h
  rfl
 ·obtain ⟨b,rfl,hbag,k⟩:=h
  refine ⟨_,(Ze (Zq (i:=2) Zo.nd rfl (Or.inl rfl) (Z4 (Za (Yo (Za ZV (Za Zf Zc))) (Za (Yo (Za ZV (Za Zf Zc))) Zc))))
   (Ze (ZjG PassesOwn.never (PIQ.two (Zgw rfl (by rfl) Zt (Za (Zad hq__law_take hr rfl (Za (pv 0) (Za (Zm ZA (pv 1) Zf) Zc))) Zc))) (Zn (i:=3) Zo.nd rfl (Or.inl rfl)) (Ze (Zq (i:=4) Zo.nd rfl (Or.inl rfl) (Zm ZA Zf (Zad hq__law_take hr rfl (Za (pv 0) (Za (Zm YI (ZG (Yb (K:=K) rfl) (by rfl) Z3 PySem.boot_len (Za (pv 2) Zc)) Zf) Zc)))))
   (Ze (ZkP (i:=5) Zo.nd rfl (Or.inl rfl) (Ls:=["_law_letter"]) (Fs:=[]) (fi:=[]) (ZJ.of (show Yi ["_law_bag_here", "_law_most", "_law_letters", "_law_turn", "_law_t", "_law_words", "_law_many", "_law_k", "_law_side", "_law_curl"] (Zh YB) _ [] []=true by decide +kernel)) (Zih (K:=K) rfl rfl (Yw (YU (K:=K) rfl) (pv 2) Jg (ZZ (pv 4)))) (fun cl C s3 H3 ex=>⟨(Zn (i:=0) (show ((["_law_letter"]:List Str)++([]:List Str)).Nodup by decide +kernel) rfl (Or.inl rfl)),ZW,(Zx (Za3 (K:=K) rfl) (pv 0) Zf (fun _ _=>rfl))⟩))
   (Ze (Zq (i:=6) Zo.nd rfl (Or.inl rfl) (Zm YI (Zm Wm Zf (Jo (K:=K) rfl (Wz PySem.F.plainAttrs_list PySem.F.slot_list_count PySem.F.type_list_count (GV (K:=K) rfl) (pv 5) (Za ZV Zc)))) (Zm Wm Zf (Jo (K:=K) rfl (Wz PySem.F.plainAttrs_list PySem.F.slot_list_count PySem.F.type_list_count (GV (K:=K) rfl) (pv 5) (Za ZV Zc))))))
   (Ze (Zq (i:=7) Zo.nd rfl (Or.inl rfl) (Zad hq__law_take hr rfl (Za (pv 0) (Za (ZG (Zev rfl) (by rfl) Zak boot_max (Za Zf (Za (pv 6) Zc))) Zc))))
   (Ze (Zq (i:=8) Zo.nd rfl (Or.inl rfl) (Zad hq__law_take hr rfl (Za (pv 0) (Za Zf Zc))))
   (Ze (Zq (i:=9) Zo.nd rfl (Or.inl rfl) (Z4 (Za (Yo (Za ZV (Za (Zm YI (Zm ZA (pv 7) Zf) (pv 8)) Zc))) (Za (Yo (Za ZV (Za (Zm ZA (pv 7) (pv 8)) Zc))) (Za (Yo (Za ZV (Za (Zm YI (Zm ZA (pv 7) Zf) (pv 8)) Zc))) Zc)))))
   (Zi (YY (ZH Zf6 (pv 6) Zf (ZP _)) (Zi (YE (pv 9) (ZeO (pv 2) (ZZ (pv 4)) (ZZ (pv 4))))) Yd)))))))))
   (Zi (Zz (pv 2))))),?_⟩
  have hnG:∀{G:Hp},Yp b H G->Hnd _ G:=fun {G} f=>Zkp hn f hbag
  refine ⟨(by show 2<=sizeLine;decide),fun t1 h1=>⟨(by show 2<=sizeLine;decide),fun t2 h2=>⟨(by show 2<=sizeLine;decide),fun l hl=>?_⟩⟩⟩
  have s3:Zd H (upd (upd (upd H t1 (.tup [.str "born", .int 0])) t2 (.tup [.str "end", .int 0])) l (.lst [.ref t1,.ref t2])):=((Zd.laid h1).step h2).step hl
  have fl:H l=none:=((Zd.laid h1).step h2).free hl
  have L0:Zu (upd (upd (upd H t1 (.tup [.str "born", .int 0])) t2 (.tup [.str "end", .int 0])) l (.lst [.ref t1,.ref t2])) [.ref t1,.ref t2] [("born", 0),("end", 0)]:=
   .cons ⟨t1,rfl,(Zd.laid hl) _ _ ((Zd.laid h2) _ _ Zb)⟩ (.cons ⟨t2,rfl,(Zd.laid hl) _ _ Zb⟩ .nil)
  have el:(upd (upd (upd H t1 (.tup [.str "born", .int 0])) t2 (.tup [.str "end", .int 0])) l (.lst [.ref t1,.ref t2])) l=some (.lst [.ref t1,.ref t2]):=Zb
  generalize upd (upd (upd H t1 (.tup [.str "born", .int 0])) t2 (.tup [.str "end", .int 0])) l (.lst [.ref t1,.ref t2])=H3 at *
  have bg3:Ww H3 b:=by obtain ⟨g,r,h,e⟩:=hbag;exact ⟨g,r,h,s3 _ _ e⟩
  have nlb:l≠b:=by obtain ⟨g,r,h,e⟩:=hbag;exact (Zg e fl).symm
  have W0:Wk [("born", 0),("end", 0)] 0:=Wk.fin (k:=0) (Wk.born (k:=0) .nil (by decide) (by decide)) (by decide) (by decide)
  have M0:Mid [("born", 0),("end", 0)]:=fun t a c=>by
   have:t=1:=by simp at c;lia
   subst this
   decide +kernel
  have C0:CB [("born", 0),("end", 0)] 0:=⟨fun i=>by
   match i with
   | 0=>decide +kernel
   | 1=>decide +kernel
   | i+2=>rw [List.take_of_length_le (by simp)];decide +kernel,by decide +kernel,by decide +kernel⟩
  refine ⟨_,rfl,_,rfl,_,_,rfl,rfl,hnG s3.frm,b,_,rfl,bg3,by decide,by decide,fun d H4 d0 d1 bg4 f4=>?_⟩
  refine ⟨_,rfl,by lia,by lia,Zep (n:=d.toNat) (fun i σ G=>∃(xs:List V) (ls:List (Str×Int)) (v3 v4 v5 v6 v7 v8 v9:Option V),σ = [some (.ref b),some (.int 2),some (.ref l),v3,v4,v5,v6,v7,v8,v9]/\Ww G b/\Yp b H G/\G l=some (.lst xs)/\Zu G xs ls/\Wk ls 0/\Mid ls/\2<=ls.length/\ls.length<=2+3*i/\CB ls i/\ls∈UJ i)
   ⟨_,_,none,none,none,none,none,none,none,rfl,bg4,s3.frm.trans f4,f4 _ _ el nlb,L0.frm f4 bg3,W0,M0,by decide,by decide,C0,List.mem_cons_self⟩ (fun i σ G ⟨_,_,_,_,_,_,_,_,_,_,_,fr,_⟩=>hnG fr) ?_ ?_⟩
  ·rintro i σ G hi ⟨xs,ls,v3,v4,v5,v6,v7,v8,v9,rfl,bg,fr,hG,hL,hW,hM,n2,n3,cb,cu⟩
   have hxl:=hL.len
   refine ⟨_,rfl,_,rfl,l,_,rfl,.inl (Zp.of hG),_,_,rfl,rfl,hnG fr,b,_,rfl,bg,by lia,by lia,fun e G1 e0 e1 bg1 f1=>⟨_,_,rfl,rfl,?_⟩⟩
   have hG1:=f1 _ _ hG nlb
   have hL1:=hL.frm f1 bg
   obtain ⟨t,ht⟩:∃t:Nat,1+e=(t:Int):=⟨(1+e).toNat,by lia⟩
   dsimp only
   rw [ht]
   have t1':1<=t:=by lia
   have t2':t<ls.length:=by lia
   refine ⟨_,rfl,_,rfl,_,rfl,l,xs,rfl,Zp.of hG1,fun c hc=>?_⟩
   have sc:=Zd.laid (o:=.lst (JI xs none (some (t:Int)))) hc
   rw [Zi5 (xs:=xs) (t:=t) (by lia)] at sc ⊢
   refine ⟨c,rfl,⟨_,Zp.of Zb⟩,ZiT (K:=K) (a:=c) (xs:=xs.take t) (Nat.le_of_lt (Z9 (by rw [List.length_take];lia))) (fun j zs G'=>Zd (upd G1 c (.lst (xs.take t))) G'/\zs=((ls.take t).take j).map fun p=>V.str p.1) ⟨Zd.refl _,rfl⟩
    (fun j zs G' q=>by rw [q.2,List.length_map,List.length_take];exact Nat.min_le_left _ _) (fun j zs G' q=>⟨Zp.of (q.1 _ _ Zb),(hnG (fr.trans f1)).same (sc.trans q.1)⟩) (fun j x zs G' hx q=>?_) (fun zs G' q wA hwA=>?_)⟩
   ·obtain ⟨sq,rfl⟩:=q
    have hx':xs[j]? = some x/\j<t:=by
     rw [List.getElem?_take] at hx
     split at hx
     ·exact ⟨hx,by assumption⟩
     ·cases hx
    obtain ⟨p,ta,hp,rfl,hta⟩:=hL1.get hx'.1
    refine lcG ?_
    refine ⟨_,rfl,ta,_,_,_,rfl,rfl,Gh.of (sq _ _ (sc _ _ hta)),Zs (j:=0) rfl,sq,?_⟩
    rw [Ul (ns:=ls.take t) _ (by rw [List.getElem?_take,if_pos hx'.2];exact hp)]
   obtain ⟨sq,rfl⟩:=q
   have lt:(xs.take t).length=(ls.take t).length:=by rw [List.length_take,List.length_take,hxl]
   rw [lt,List.take_of_length_le (Nat.le_refl _)]
   have kd:∀p∈ls.take t,Kd p.1:=fun p hp=>hW.kd p (List.mem_of_mem_take hp)
   have s2:Zd G1 (upd G' wA (.lst ((ls.take t).map fun p=>V.str p.1))):=(sc.trans sq).step hwA
   have ew:(upd G' wA (.lst ((ls.take t).map fun p=>V.str p.1))) wA=some (.lst ((ls.take t).map fun p=>V.str p.1)):=Zb
   generalize upd G' wA (.lst ((ls.take t).map fun p=>V.str p.1))=G2 at *
   have fs:((ls.take t).map fun p=>V.str p.1).all Wx=true:=by
    rw [List.all_eq_true]
    intro x hx
    obtain ⟨p,_,rfl⟩:=List.mem_map.mp hx
    rfl
   refine ⟨_,rfl,.inl ⟨rfl,_,Zp.of ew⟩,wA,_,_,rfl,rfl,Zp.of ew,rfl,fs,_,_,rfl,rfl,.inl ⟨by decide,by decide⟩,?_⟩
   refine ⟨_,rfl,.inl ⟨rfl,_,Zp.of ew⟩,wA,_,_,rfl,rfl,Zp.of ew,rfl,fs,_,_,rfl,rfl,.inl ⟨by decide,by decide⟩,_,_,rfl,rfl,?_⟩
   have cs:=ZcK (ls.take t) kd
   obtain ⟨m,hm⟩:∃m,m=Z8 (ls.take t):=⟨_,rfl⟩
   dsimp only
   rw [cs,<- hm]
   have m2:2<=m:=by rw [hm];exact hM t t1' t2'
   have m120:m<=1000:=by
    rw [hm]
    obtain ⟨n,hn⟩:=Wg hW t
    have:=Zgh hn
    rw [wkS hn]
    rw [List.length_take] at this
    lia
   have bg2:Ww G2 b:=by obtain ⟨g,r,h,e⟩:=bg1;exact ⟨g,r,h,s2 _ _ e⟩
   refine ⟨_,rfl,_,rfl,_,_,rfl,(hnG (fr.trans f1)).same s2,(hnG (fr.trans f1)).same s2,b,_,rfl,bg2,?_,?_,fun kk G3 k0 k1 bg3' f3=>?_⟩
   ·split<;>lia
   ·split<;>lia
   have k1:kk<m:=by
    rw [if_pos (show m>1 by lia)] at k1
    exact k1
   refine ⟨_,rfl,hnG (((fr.trans f1).trans s2.frm).trans f3),b,2,rfl,bg3',by decide,by decide,fun sd G4 sd0 sd1 bg4' f4'=>?_⟩
   refine ⟨_,rfl,_,_,rfl,rfl,_,rfl,_,_,rfl,rfl,(by show 2<=sizeLine;decide),fun u1 hu1=>?_⟩
   refine ⟨_,rfl,_,rfl,_,_,rfl,rfl,(by show 2<=sizeLine;decide),fun u2 hu2=>?_⟩
   refine ⟨_,rfl,_,_,rfl,rfl,_,rfl,_,_,rfl,rfl,(by show 2<=sizeLine;decide),fun u3 hu3=>?_⟩
   refine ⟨(by show 3<=sizeLine;decide),fun cA hcA=>?_⟩
   have s5:Zd G4 (upd (upd (upd (upd G4 u1 (.tup [.str "born", .int (kk+1-sd)])) u2 (.tup [.str "cross", .int (kk+sd)])) u3 (.tup [.str "end", .int (kk+1-sd)])) cA (.lst [.ref u1,.ref u2,.ref u3])):=(((Zd.laid hu1).step hu2).step hu3).step hcA
   have fc:G4 cA=none:=(((Zd.laid hu1).step hu2).step hu3).free hcA
   have L5:Zu (upd (upd (upd (upd G4 u1 (.tup [.str "born", .int (kk+1-sd)])) u2 (.tup [.str "cross", .int (kk+sd)])) u3 (.tup [.str "end", .int (kk+1-sd)])) cA (.lst [.ref u1,.ref u2,.ref u3])) [.ref u1,.ref u2,.ref u3] (W8 (kk+1-sd) (kk+sd)):=
    .cons ⟨u1,rfl,(Zd.laid hcA) _ _ ((Zd.laid hu3) _ _ ((Zd.laid hu2) _ _ Zb))⟩ (.cons ⟨u2,rfl,(Zd.laid hcA) _ _ ((Zd.laid hu3) _ _ Zb)⟩ (.cons ⟨u3,rfl,(Zd.laid hcA) _ _ Zb⟩ .nil))
   have e5:(upd (upd (upd (upd G4 u1 (.tup [.str "born", .int (kk+1-sd)])) u2 (.tup [.str "cross", .int (kk+sd)])) u3 (.tup [.str "end", .int (kk+1-sd)])) cA (.lst [.ref u1,.ref u2,.ref u3])) cA=some (.lst [.ref u1,.ref u2,.ref u3]):=Zb
   generalize upd (upd (upd (upd G4 u1 (.tup [.str "born", .int (kk+1-sd)])) u2 (.tup [.str "cross", .int (kk+sd)])) u3 (.tup [.str "end", .int (kk+1-sd)])) cA (.lst [.ref u1,.ref u2,.ref u3])=G5 at *
   have hG4:G4 l=some (.lst xs):=f4' _ _ (f3 _ _ (s2 _ _ hG1) nlb) nlb
   have hG5:=s5 _ _ hG4
   have nlc:l≠cA:=Zg hG4 fc
   have fr5:Yp b H G5:=((((fr.trans f1).trans s2.frm).trans f3).trans f4').trans s5.frm
   have bg5:Ww G5 b:=by obtain ⟨g,r,h,e⟩:=bg4';exact ⟨g,r,h,s5 _ _ e⟩
   have hL5:Zu G5 xs ls:=((((hL1.same s2).frm f3 bg2).frm f4' bg3').same s5)
   dsimp only
   refine ⟨_,rfl,_,_,rfl,rfl,_,rfl,?_⟩
   dsimp only
   by_cases m7:m<7
   ·rw [if_pos (decide_eq_true m7)]
    refine ⟨_,rfl,_,rfl,_,rfl,_,rfl,_,rfl,_,rfl,l,cA,xs,[.ref u1,.ref u2,.ref u3],(t:Int),(t:Int),rfl,rfl,rfl,rfl,hG5,e5,nlc,by lia,by lia,by lia,Nat.le_of_lt (Z9 (by show xs.length+3<=1000;lia)),?_⟩
    have u:∀c o,c≠l->G5 c=some o->(upd G5 l (.lst (xs.take (t:Int).toNat ++ [.ref u1,.ref u2,.ref u3]++xs.drop (t:Int).toNat))) c=some o:=fun c o n e=>by rw [Zj n];exact e
    have ut:∀c p,G5 c=some (.tup p)->(upd G5 l (.lst (xs.take (t:Int).toNat ++ [.ref u1,.ref u2,.ref u3]++xs.drop (t:Int).toNat))) c=some (.tup p):=fun c p e=>u c _ (fun z=>by rw [z,hG5] at e;cases e) e
    have Lf:Zu G5 (xs.take t ++ [.ref u1,.ref u2,.ref u3]++xs.drop t) (ls.take t++W8 (kk+1-sd) (kk+sd)++ls.drop t):=((Zcz hL5 t).append L5).append (ZcI hL5 t)
    rw [Int.toNat_natCast] at *
    have ms:m=Z8 (ls.take t):=hm
    refine ⟨_,ls.take t++W8 (kk+1-sd) (kk+sd)++ls.drop t,_,_,_,_,_,_,_,rfl,?_,fun c o e n=>u c o (Zg e fl) (fr5 c o e n),Zb,Lf.mono ut,Zim hW (by lia) (by lia) (by lia) (by lia),Zgc hM t1' t2',?_,?_,cb.W8 t2' (by lia),ZhD cu t1' t2' k0 (by lia) sd0 sd1⟩
    ·obtain ⟨g,r,h,e⟩:=bg5
     exact ⟨g,r,h,u _ _ nlb.symm e⟩
    ·rw [List.length_append,List.length_append,List.length_take,List.length_drop];show 2<=min t ls.length+3+_;lia
    ·rw [List.length_append,List.length_append,List.length_take,List.length_drop];show min t ls.length+3+_<=_;lia
   ·rw [if_neg (fun z=>m7 (of_decide_eq_true z))]
    exact ⟨xs,ls,_,_,_,_,_,_,_,rfl,bg5,fr5,hG5,hL5,hW,hM,n2,by lia,cb.mono,UY cu⟩
  ·rintro σ G ⟨xs,ls,v3,v4,v5,v6,v7,v8,v9,rfl,bg,fr,hG,hL,hW,hM,n2,n3,cb,cu⟩
   exact ⟨_,rfl,k l G ls fl bg fr ⟨xs,hG,hL,hW,by lia⟩ (cb.inb (by lia)) (by lia) (fun z=>by rw [z] at n2;simp at n2) (Zhk hW (cb.inb (by lia)) (by
    have d2:d.toNat<=2:=by lia
    generalize d.toNat=dn at *
    match dn,d2,cu with
    | 0,_,cu=>exact UY (UY cu)
    | 1,_,cu=>exact UY cu
    | 2,_,cu=>exact cu))⟩
def ZfG:Sp:=fun vs H Q _=>∃(a:Addr) (L:WS),vs = [.ref a]/\WL H a L/\L.length<=14000000 /\ ∀(p:Addr) (H':Hp) (r:WS),H p=none->Zd H H'->WL H' p r->Z0 L r->Q (.ref p) H'
theorem ZiS {L L' r:WS} (x:Z0 L r) (p:L.Perm L'):Z0 L' r:=x.par fun w=>by rw [p.count_eq]
theorem Zcs {H:Hp}:∀{f:List V}{y:V}{r:WS},Words H (f ++ [y]) r -> ∃r0 v,r=r0 ++ [v]/\Words H f r0/\Y9 H y v
 | [],_,_,.cons h .nil=>⟨[],_,rfl,.nil,h⟩
 | _::f,_,_,.cons h t=>by
  obtain ⟨r0,v,e,a,b⟩:=Zcs (f:=f) t
  exact ⟨_::r0,v,by rw [e];rfl,.cons h a,b⟩
theorem Zli {f:List V}{y:V}:atI (f ++ [y]) (-1)=some y:=by
 unfold atI ixN
 rw [if_neg (by decide),if_pos (by rw [List.length_append];simp;lia)]
 rw [List.length_append,List.length_singleton,show ((-1:Int)+((f.length+1:Nat):Int)).toNat=f.length by lia]
 simp
abbrev Uv:Stmt:=top 30
theorem Gs:Zw ["_law_words", "_law_found", "_law_word"] ["_law_words"] (Zh Uv):={}
theorem Zls {f:Addr}{fd:FuncData} (F:YH K "_law_odd" "_law_odd" Uv f fd) (Yy:mg "sorted" = none):Z6 P w K mg base WW 1 f fd ["_law_words"] ZfG:=by
 refine F.ok Gs (fun vs H Q E h=>?_) (fun cdv A outer s H vs Q E hr h=>?_)
 ·obtain ⟨a,L,rfl,_⟩:=h
  rfl
 ·obtain ⟨a,L,rfl,hL,hz,k⟩:=h
  refine ⟨_,(Ze (Zq (i:=1) Gs.nd rfl (Or.inl rfl) (Z4 Zc))
   (Ze (Yh PassesOwn.never rfl (ZM (K:=K) rfl (ZG (Zb9 (K:=K) rfl hr.units) (by rfl) Yy boot_sorted (Za (pv 0) Zc))) (Zn (i:=2) Gs.nd rfl (Or.inl rfl)) (Zi (YY (PW.pt (ZaD (ZH (ZaE (K:=K) rfl hr.units) (pv 1) (Z4 Zc) (ZP _)) (Zaj (ZH (ZlE hr.units) (Zx (Zk (K:=K) rfl) (pv 1) (Zh4 ZeJ Zf) (fun _ _=>rfl)) (pv 2) (ZP _))))) (Zi (Yj (Zko (K:=K) rfl (ZlT PySem.F.plainAttrs_list PySem.F.slot_list_pop PySem.F.type_list_pop Zll (pv 1))))) (Zi (Yj (Jo (K:=K) rfl (Wz PySem.F.plainAttrs_list PySem.F.slot_list_append PySem.F.type_list_append Y2 (pv 1) (Za (pv 2) Zc))))))))
   (Zi (Zz (pv 1))))),?_⟩
  refine ⟨(by show 0<=sizeLine;decide),fun l hl=>?_⟩
  have s0:Zd H (upd H l (.lst [])):=Zd.laid hl
  obtain ⟨xs,ea,wa⟩:=hL.same s0
  refine ⟨_,rfl,a,xs,L,rfl,Zp.of ea,wa,fun p zs vs hp pz pm wz rs=>?_⟩
  obtain ⟨G,hG⟩:∃G,G=upd (upd H l (.lst [])) p (.lst zs):=⟨_,rfl⟩
  rw [<- hG]
  have hpl:p≠l:=fun z=>by rw [z,Zb] at hp;cases hp
  have sG:Zd (upd H l (.lst [])) G:=by rw [hG];exact Zd.laid hp
  have ep:G p=some (.lst zs):=by rw [hG];exact Zb
  have el:G l=some (.lst []):=sG l _ Zb
  have wz':=Words.same sG wz
  have lz:=Words.len wz
  have lv:=pm.length_eq
  have tl:∀t,G l≠some (.tup t):=fun t z=>by rw [el] at z;cases z
  refine ⟨p,rfl,⟨_,Zp.of ep⟩,Jx (K:=K) (a:=p) (xs:=zs) (fun j σ G'=>∃(v2:Option V) (fs:List V) (r:WS),σ = [some (.ref a),some (.ref l),v2]/\Yp l G G'/\G' l=some (.lst fs)/\Words G' fs r/\Z0 (vs.take j) r) ⟨none,[],[],rfl,Yp.refl _ _,el,.nil,ZfY⟩ (fun j σ G' _ ⟨_,_,_,_,fr,_⟩=>Zp.of (fr p _ ep hpl)) ?_ ?_⟩
  ·rintro j x σ G' hx ⟨v2,fs,r,rfl,fr,el',wf,od⟩
   obtain ⟨w,hj,wx⟩:=Words.get wz' hx
   have wx':Y9 G' x w:=wx.mono (fr.tups tl)
   have lf:=Words.len wf
   have ol:=od.len
   rw [List.length_take] at ol
   have le:∀q∈vs.take j,lexLt w q=false:=fun q hq=>by
    obtain ⟨i,hi,rfl⟩:=List.getElem_of_mem hq
    rw [List.length_take] at hi
    obtain ⟨h2,rfl⟩:=List.getElem?_eq_some_iff.mp hj
    rw [List.getElem_take]
    exact List.pairwise_iff_getElem.mp rs i j (by lia) h2 (by lia)
   have et:vs.take (j+1)=vs.take j ++ [w]:=take_snoc hj
   refine ⟨_,rfl,(by show 0<=sizeLine;decide),fun q hq=>⟨l,q,fs,rfl,rfl,Zp.of (Zd.laid hq l _ el'),Zp.of Zb,_,rfl,?_⟩⟩
   have s1:Zd G' (upd G' q (.lst [])):=Zd.laid hq
   obtain ⟨G1,hG1⟩:∃G1,G1=upd G' q (.lst []):=⟨_,rfl⟩
   rw [<- hG1] at s1 ⊢
   have el1:=s1 l _ el'
   have fr1:Yp l G G1:=fr.trans s1.frm
   have nt:∀t,G1 l≠some (.tup t):=fun t z=>by rw [el1] at z;cases z
   rcases List.eq_nil_or_concat fs with rfl | ⟨f0,y,rfl⟩
   ·cases wf
    refine ZgM (ZgM ?_)
    refine ⟨_,rfl,.inl ⟨rfl,_,Zp.of el1⟩,_,rfl,l,_,_,rfl,rfl,el1,by decide,?_⟩
    refine ⟨_,_,[w],rfl,fr1.trans Yp.upd,Zb,.cons ?_ .nil,?_⟩
    ·exact (wx'.same s1).mono (Yp.upd.tups nt)
    ·rw [et];exact ZfJ od le (by simp)
   ·rw [List.concat_eq_append] at *
    obtain ⟨r0,v,rfl,w0,wy⟩:=Zcs wf
    rw [show (!(f0 ++ [y]).isEmpty)=true by simp]
    refine Ux ⟨_,rfl,1,rfl,l,_,_,_,rfl,rfl,Zp.of el1,Zli,_,rfl,v,w,wy.same s1,wx'.same s1,_,rfl,Gg (fun hp=>?_) (fun hp=>?_)⟩
    ·have e:v=w:=of_decide_eq_true hp
     subst e
     refine ⟨_,rfl,.inl ⟨rfl,_,Zp.of el1⟩,l,_,y,rfl,rfl,el1,by simp,?_⟩
     refine ⟨_,_,r0,rfl,fr1.trans Yp.upd,Zb,?_,?_⟩
     ·rw [List.dropLast_concat];exact (w0.same s1).mono (Yp.upd.tups nt)
     ·rw [et];exact ZiD od
    ·have e:v≠w:=fun z=>hp (decide_eq_true z)
     refine ⟨_,rfl,.inl ⟨rfl,_,Zp.of el1⟩,_,rfl,l,_,_,rfl,rfl,el1,by rw [sizeLine_eq];lia,?_⟩
     refine ⟨_,_,_,rfl,fr1.trans Yp.upd,Zb,Words.snoc ((wf.same s1).mono (Yp.upd.tups nt)) ((wx'.same s1).mono (Yp.upd.tups nt)),?_⟩
     rw [et];exact ZfJ od le (by simpa using e)
  ·rintro σ G' ⟨v2,fs,r,rfl,fr,el',wf,od⟩
   rw [List.take_of_length_le (by lia)] at od
   refine ⟨_,rfl,k l G' r hl (fun c o e=>?_) ⟨fs,el',wf⟩ (ZiS od pm)⟩
   exact fr c o (sG c o (s0 c o e)) (Zg e hl)
def Zfk:Sp:=fun vs H Q _=>∃(a b:Addr) (L M:WS),vs = [.ref a,.ref b]/\WL H a L/\WL H b M/\L.length+M.length<=14000000 /\ ∀(p:Addr) (H':Hp) (r:WS),H p=none->Zd H H'->WL H' p r->Z0 (L++M) r->Q (.ref p) H'
abbrev GN:Stmt:=top 31
theorem ZcL:Zw ["_law_one", "_law_other"] ["_law_one", "_law_other"] (Zh GN):={}
theorem Zj5 {f:Addr}{fd:FuncData} (F:YH K "_law_plus" "_law_plus" GN f fd) (Jm:JB P w K mg base 1 "_law_odd" ["_law_words"] ZfG):Z6 P w K mg base WW 2 f fd ["_law_one", "_law_other"] Zfk:=by
 refine F.ok ZcL (fun vs H Q E h=>?_) (fun cdv A outer s H vs Q E hr h=>?_)
 ·obtain ⟨a,b,L,M,rfl,_⟩:=h
  rfl
 ·obtain ⟨a,b,L,M,rfl,ha,hb,hz,k⟩:=h
  refine ⟨_,(Zi (Zz (Zv Jm hr (Za (Zm Zat (pv 0) (pv 1)) Zc)))),?_⟩
  obtain ⟨xs,ea,wa⟩:=id ha
  obtain ⟨ys,eb,wb⟩:=id hb
  have lx:=Words.len wa
  have ly:=Words.len wb
  refine ⟨_,rfl,_,rfl,a,b,xs,ys,rfl,rfl,ea,eb,by rw [sizeLine_eq];lia,fun q hq=>?_⟩
  have s1:Zd H (upd H q (.lst (xs++ys))):=Zd.laid hq
  refine ⟨q,L++M,rfl,⟨_,Zb,(wa.append wb).same s1⟩,by rw [List.length_append];exact hz,fun p G' r fp s' wr od=>k p G' r (s1.free fp) (s1.trans s') wr od⟩
def Zc9:Sp:=fun vs H Q _=>∃(a b:Addr) (L M:WS),vs = [.ref a,.ref b]/\WL H a L/\WL H b M/\L2.Gd 1000 100000 L/\L2.Gd 1000 100000 M /\ ∀(p:Addr) (H':Hp) (r:WS),H p=none->Zd H H'->WL H' p r->Z0 (ZD L M) r->Q (.ref p) H'
abbrev JO:Stmt:=top 32
theorem Wu:Zw ["_law_one", "_law_other", "_law_found", "_law_word"] ["_law_one", "_law_other"] (Zh JO):={}
theorem Zi1 {f:Addr}{fd:FuncData} (F:YH K "_law_times" "_law_times" JO f fd) (Jm:JB P w K mg base 1 "_law_odd" ["_law_words"] ZfG):Z6 P w K mg base WW 2 f fd ["_law_one", "_law_other"] Zc9:=by
 refine F.ok Wu (fun vs H Q E h=>?_) (fun cdv A outer s H vs Q E hr h=>?_)
 ·obtain ⟨a,b,L,M,rfl,_⟩:=h
  rfl
 ·obtain ⟨a,b,L,M,rfl,ha,hb,gL,gM,k⟩:=h
  refine ⟨_,(Ze (Zq (i:=2) Wu.nd rfl (Or.inl rfl) (Z4 Zc))
   (Ze (Yh PassesOwn.never rfl (ZM (K:=K) rfl (pv 0)) (Zn (i:=3) Wu.nd rfl (Or.inr rfl)) (Zi (Yj (Jo (K:=K) rfl (Wz PySem.F.plainAttrs_list PySem.F.slot_list_extend PySem.F.type_list_extend ZgD (pv 2) (Za (Wh (Ls:=["_law_behind"]) (Fs:=["_law_word"]) (fi:=[3]) (ZJ.of (show Yi ["_law_one", "_law_other", "_law_found", "_law_word"] (Zh JO) _ ["_law_word"] [3]=true by decide +kernel)) rfl (ZM (K:=K) rfl (pv 1)) (fun cl C s3 H3 ex=>⟨(Zn (i:=0) (show ((["_law_behind"]:List Str)++(["_law_word"]:List Str)).Nodup by decide +kernel) rfl (Or.inl rfl)),ZW,(Zm Za1 (pv 1) (pv 0))⟩)) Zc))))))
   (Zi (Zz (Zv Jm hr (Za (pv 2) Zc)))))),?_⟩
  refine ⟨(by show 0<=sizeLine;decide),fun d hd=>?_⟩
  have s0:Zd H (upd H d (.lst [])):=Zd.laid hd
  obtain ⟨xs,ea,wa⟩:=id ha
  obtain ⟨ys,eb,wb⟩:=id hb
  have lx:=Words.len wa
  have ly:=Words.len wb
  have nL:=gL.1
  have nM:=gM.1
  refine ⟨_,rfl,a,rfl,⟨_,Zp.of (s0 a _ ea)⟩,Jx (K:=K) (a:=a) (xs:=xs) (fun j σ G=>∃v3:Option V,σ = [some (.ref a),some (.ref b),some (.ref d),v3]/\Zd H G/\WL G d (ZD (L.take j) M)) ⟨none,rfl,s0,[],Zb,by simpa [ZD] using Paired.nil⟩ (fun j σ G _ ⟨_,_,sg,_⟩=>Zp.of (sg a _ ea)) ?_ ?_⟩
  ·rintro j x σ G hx ⟨v3,rfl,sg,dg⟩
   obtain ⟨w,hj,wx⟩:=Words.get wa hx
   have gw:=gL.2 w (List.mem_of_getElem? hj)
   obtain ⟨fs,ed,wd⟩:=dg
   have ld:=Words.len wd
   have h1:(L.take j).length*M.length<=1000*1000:=Nat.mul_le_mul (by rw [List.length_take];lia) nM
   rw [Wc] at ld
   refine ⟨_,rfl,.inl ⟨rfl,_,Zp.of ed⟩,?_⟩
   refine ⟨_,rfl,b,rfl,⟨_,Zp.of (sg b _ eb)⟩,YM (K:=K) (xs:=ys) (by rw [sizeLine_eq];lia) (fun i zs G'=>Zd G G'/\Words G' zs ((M.take i).map fun v=>w++v)) ⟨Zd.refl _,.nil⟩
    (fun i zs G' ⟨_,z⟩=>by rw [Words.len z,List.length_map,List.length_take];lia) (fun i zs G' ⟨s',_⟩=>Zp.of (s' b _ (sg b _ eb))) ?_ ?_⟩
   ·rintro i y zs G' hy ⟨s',wz⟩
    obtain ⟨v,hv,wy⟩:=Words.get wb hy
    have gv:=gM.2 v (List.mem_of_getElem? hv)
    have wx':Y9 G' x w:=(wx.same sg).same s'
    have wy':Y9 G' y v:=(wy.same sg).same s'
    have em:(M.take (i+1)).map (fun v=>w++v)=(M.take i).map (fun v=>w++v) ++ [w++v]:=by rw [take_snoc hv,List.map_append];rfl
    dsimp only [Jf,Wd]
    refine Ux ⟨_,rfl,_,rfl,w,v,wx',wy',by rw [sizeLine_eq];lia,fun z=>⟨s',?_⟩,fun z=>⟨s',?_⟩,fun p hp=>⟨s'.step hp,?_⟩⟩
    ·rw [em];refine Words.snoc wz ?_;rw [z];exact wy'
    ·rw [em];refine Words.snoc wz ?_;rw [z,List.append_nil];exact wx'
    ·rw [em];exact Words.snoc (Words.same (Zd.laid hp) wz) ⟨p,rfl,Zb⟩
   ·rintro zs G' ⟨s',wz⟩ D hD
    rw [List.take_of_length_le (by lia)] at wz
    have s2:Zd G' (upd G' D (.lst zs)):=Zd.laid hD
    have s3:Zd G (upd G' D (.lst zs)):=s'.trans s2
    obtain ⟨G2,hG2⟩:∃G2,G2=upd G' D (.lst zs):=⟨_,rfl⟩
    have eD:G2 D=some (.lst zs):=by rw [hG2];exact Zb
    rw [<- hG2] at s2 s3 ⊢
    have ed2:=s3 d _ ed
    have lz:=Words.len wz
    rw [List.length_map] at lz
    have nt:∀t,G2 d≠some (.tup t):=fun t z=>by rw [ed2] at z;cases z
    refine ⟨d,D,fs,zs,rfl,rfl,ed2,eD,by rw [sizeLine_eq];lia,?_⟩
    refine ⟨_,rfl,(sg.trans s3).put hd,_,Zb,?_⟩
    rw [Zd0 hj]
    exact ((wd.same s3).append (wz.same s2)).mono (Yp.upd.tups nt)
  ·rintro σ G ⟨v3,rfl,sg,dg⟩
   rw [List.take_of_length_le (by lia)] at dg
   refine ⟨_,rfl,d,_,rfl,dg,?_,fun p G' r fp s' wr od=>k p G' r (sg.free fp) (sg.trans s') wr od⟩
   rw [Wc]
   exact Nat.le_trans (Nat.mul_le_mul nL nM) (by decide)
def Zgf (G:Hp) (A:List Addr) (R:List (List Addr)):Prop:=Paired (fun r es=>G r=some (.lst (es.map V.ref))) A R
def Zf3 (G:Hp) (T:List Addr) (RR:List (List (List Addr))):Prop:=Paired (fun t R=>∃A,G t=some (.lst (A.map V.ref))/\Zgf G A R) T RR
theorem Uy {G G':Hp}{A:List Addr}{R:List (List Addr)} (s:Zd G G') (x:Zgf G A R):Zgf G' A R:=Paired.mapP x fun _ _ h=>s _ _ h
theorem ZbT {G G':Hp}{T:List Addr}{RR:List (List (List Addr))} (s:Zd G G') (x:Zf3 G T RR):Zf3 G' T RR:=Paired.mapP x fun _ _ ⟨A,h1,h2⟩=>⟨A,s _ _ h1,Uy s h2⟩
def Zb5 (B G:Hp) (E:List Addr):Prop:=E.Nodup /\ ∀e∈E,B e=none /\ ∃us,G e=some (.lst us)/\us.length<=200
theorem ZbQ {B G:Hp}:Zb5 B G []:=⟨.nil,fun e h=>nomatch h⟩
theorem Zar {B G G':Hp}{E:List Addr} (s:Zd G G') (x:Zb5 B G E):Zb5 B G' E:=⟨x.1,fun e h=>let ⟨a,us,b,c⟩:=x.2 e h;⟨a,us,s _ _ b,c⟩⟩
theorem ZbI {B C G G':Hp}{E E':List Addr} (x:Zb5 B G E) (bc:Zd B C) (gc:Zd G C) (y:Zb5 C G' E') (s:Zd C G'):Zb5 B G' (E++E'):=by
 refine ⟨?_,fun e h=>?_⟩
 ·rw [List.nodup_append]
  refine ⟨x.1,y.1,fun a ha b hb z=>?_⟩
  subst z
  obtain ⟨_,us,h1,_⟩:=x.2 a ha
  have:=(y.2 a hb).1
  rw [gc _ _ h1] at this
  cases this
 ·rcases List.mem_append.mp h with h | h
  ·obtain ⟨a,us,b,c⟩:=x.2 e h
   exact ⟨a,us,s _ _ (gc _ _ b),c⟩
  ·obtain ⟨a,us,b,c⟩:=y.2 e h
   exact ⟨bc.free a,us,b,c⟩
def Zia (C:Addr):Sp:=fun vs H Q E=>∃(l:Addr) (xs:List V) (ls:List (Str×Int)),vs = [.ref l]/\H l=some (.lst xs)/\Zu H xs ls/\Wk ls 0/\InB ls/\ls.length<=60 /\
 (YC ls ls.length -> ∀(p:Addr) (H':Hp) (T:List Addr) (RR:List (List (List Addr))),H p=none->Zd H H'->Tbs H' p ls T->T.length=ls.length+1->Zf3 H' T RR->Zb5 H H' RR.flatten.flatten->p∉RR.flatten.flatten->RR.flatten.flatten.length<=5000->(∀r∈T,H r=none)->Q (.ref p) H')/\(¬YC ls ls.length -> ∀H',Zd H H'->E (.ref C) none H')
abbrev Ug:Stmt:=top 19
theorem ZeF:Zw ["drawing"] ["drawing"] (Zh Ug):={}
theorem Zk8 {f C W:Addr}{fd:FuncData} (F:YH K "between" "between" Ug f fd) (YR:GF P w K mg base 6 "sum_tables" ["drawing"] (ZjZ C W)) (Zaz:mg "list" = none):Z6 P w K mg base (CX1 P w) 7 f fd ["drawing"] (Zia C):=by
 refine F.okX ZeF (fun vs H Q E h=>?_) (fun cdv A outer s H vs Q E hr h=>?_)
 ·obtain ⟨l,xs,ls,rfl,_⟩:=h
  rfl
 ·obtain ⟨l,xs,ls,rfl,hl,hL,hW,hI,hlen,k,kx⟩:=h
  refine ⟨_,(Zi (Zz (Wh (Ls:=["table"]) (Fs:=[]) (fi:=[]) (ZJ.of (show Yi ["drawing"] (Zh Ug) _ [] []=true by decide +kernel)) rfl (ZM (K:=K) rfl (Ju YR (hr.mono (by decide)) Zf7 (Za (pv 0) Zc))) (fun cl C s3 H3 ex=>⟨(Zn (i:=0) (show ((["table"]:List Str)++([]:List Str)).Nodup by decide +kernel) rfl (Or.inl rfl)),ZW,(Wh (Ls:=["row"]) (Fs:=[]) (fi:=[]) (ZJ.of (by rfl)) rfl (ZM (K:=K) rfl (pv 0)) (fun cl C s3 H3 ex=>⟨(Zn (i:=0) (show ((["row"]:List Str)++([]:List Str)).Nodup by decide +kernel) rfl (Or.inl rfl)),ZW,(Wh (Ls:=["one"]) (Fs:=[]) (fi:=[]) (ZJ.of (by rfl)) rfl (ZM (K:=K) rfl (pv 0)) (fun cl C s3 H3 ex=>⟨(Zn (i:=0) (show ((["one"]:List Str)++([]:List Str)).Nodup by decide +kernel) rfl (Or.inl rfl)),ZW,(Zav (ZbK (K:=K) rfl) (by rfl) Zaz boot_list (Za (pv 0) Zc))⟩))⟩))⟩)))),?_⟩
  refine ⟨_,rfl,l,xs,ls,rfl,hl,hL,hW,hI,hlen,fun few tA G0 T0 ftA s0 tbs0 lT0=>?_,fun nf H' s'=>kx nf H' s'⟩
  have lm:(T0.map V.ref).length<=61:=by rw [List.length_map,lT0];lia
  refine ⟨tA,rfl,⟨_,Zp.of tbs0.at_⟩,YM (K:=K) (xs:=T0.map V.ref) (by rw [sizeLine_eq];lia) (fun i zs G=>∃(T:List Addr) (RR:List (List (List Addr))),Zd G0 G/\zs=T.map V.ref/\T.length=i/\(∀(a:Nat) (r:Addr),T[a]? = some r->Tab G r (tN (ls.take a)) (tF (ls.take a)))/\Zf3 G T RR/\Zb5 G0 G RR.flatten.flatten/\RR.flatten.flatten.length<=64*i /\ ∀r∈T,G0 r=none)
   ⟨[],[],Zd.refl _,rfl,rfl,fun a r h=>by simp at h,.nil,ZbQ,Nat.zero_le _,fun r h=>nomatch h⟩ (fun i zs G ⟨T,RR,_,e,l',_⟩=>by rw [e,List.length_map,l'];exact Nat.le_refl _) (fun i zs G ⟨_,_,s',_⟩=>Zp.of (s' _ _ tbs0.at_)) ?_ ?_⟩
  ·rintro i v zs G hv ⟨T,RR,sG,rfl,lT,tabs,te,ne,lE,fT⟩
   rw [List.getElem?_map] at hv
   obtain ⟨t0,ht0,rfl⟩:=Option.map_eq_some_iff.mp hv
   have hi:i<=ls.length:=by have:=(List.getElem?_eq_some_iff.mp ht0).1;lia
   obtain ⟨A,et,mt⟩:=(tbs0.tab i t0 ht0).1.same sG
   have lA:=mt.1
   have n8:=Zeg hW hI i
   have fw:=few i hi
   obtain ⟨n,hn⟩:∃n,n=tN (ls.take i):=⟨_,rfl⟩
   obtain ⟨Fx,hF⟩:∃Fx,Fx=tF (ls.take i):=⟨_,rfl⟩
   rw [<- hn] at mt lA n8 fw
   rw [<- hF] at mt fw
   dsimp only [Jf,Wd]
   refine Ux ⟨_,rfl,t0,rfl,⟨_,Zp.of et⟩,YM (K:=K) (xs:=A.map V.ref) (by rw [List.length_map,sizeLine_eq];lia) (fun j ws G'=>∃(As:List Addr) (R:List (List Addr)),Zd G G'/\ws=As.map V.ref/\UK G' As j n Fx/\Zgf G' As R/\Zb5 G G' R.flatten/\R.flatten.length<=8*j)
    ⟨[],[],Zd.refl _,rfl,GW,.nil,ZbQ,Nat.zero_le _⟩ (fun j ws G' ⟨As,R,_,e,m,_⟩=>by rw [e,List.length_map,m.1];exact Nat.le_refl _) (fun j ws G' ⟨_,_,s',_⟩=>Zp.of (s' _ _ et)) ?_ ?_⟩
   ·rintro j y ws G1 hy ⟨As,R,s1,rfl,mA,rE,nE,lR⟩
    rw [List.getElem?_map] at hy
    obtain ⟨r,hr',rfl⟩:=Option.map_eq_some_iff.mp hy
    have hj:j<n:=by have:=(List.getElem?_eq_some_iff.mp hr').1;lia
    obtain ⟨us,eu,lu,hu⟩:=(mt.2.2 j r hr').same s1
    dsimp only [Jf,Wd]
    refine Ux ⟨_,rfl,r,rfl,⟨_,Zp.of eu⟩,YM (K:=K) (xs:=us) (by rw [lu,sizeLine_eq];lia) (fun m ys G'=>∃es:List Addr,Zd G1 G'/\ys=es.map V.ref/\es.length=m/\(∀(a:Nat) (e:Addr),es[a]? = some e->WL G' e (Fx j a))/\Zb5 G1 G' es)
     ⟨[],Zd.refl _,rfl,rfl,fun a e h=>by simp at h,ZbQ⟩ (fun m ys G' ⟨es,_,e,l',_⟩=>by rw [e,List.length_map,l'];exact Nat.le_refl _) (fun m ys G' ⟨_,s',_⟩=>Zp.of (s' _ _ eu)) ?_ ?_⟩
    ·rintro m y ys G2 hm ⟨es,s2,rfl,le',wl,nE2⟩
     have hm':m<n:=by have:=(List.getElem?_eq_some_iff.mp hm).1;lia
     obtain ⟨e0,rfl,w0⟩:=hu m y hm
     obtain ⟨vs,ev,wv⟩:=w0.same s2
     have lv:=wv.len
     have f200:=fw j m hj hm'
     dsimp only [Jf,Wd]
     refine Ux ⟨_,rfl,e0,vs,rfl,.inl (Zp.of ev),fun D fD=>⟨es ++ [D],s2.step fD,by rw [List.map_append];rfl,by rw [List.length_append,le'];rfl,fun a e h=>?_,?_⟩⟩
     ·by_cases z:a<es.length
      ·rw [List.getElem?_append_left z] at h
       exact (wl a e h).same (Zd.laid fD)
      ·rw [List.getElem?_append_right (by lia)] at h
       have:a-es.length=0:=by
        have:=(List.getElem?_eq_some_iff.mp h).1
        simp at this;lia
       rw [this] at h
       cases h
       have:a=m:=by lia
       subst this
       exact ⟨vs,Zb,wv.same (Zd.laid fD)⟩
     ·refine ZbI nE2 s2 (Zd.refl _) ⟨by simp,fun e h=>?_⟩ (Zd.laid fD)
      rw [List.mem_singleton.mp h]
      exact ⟨fD,vs,Zb,by lia⟩
    ·rintro ys G2 ⟨es,s2,rfl,le',wl,nE2⟩ D fD
     rw [lu] at le'
     have sD:Zd G2 (upd G2 D (.lst (es.map V.ref))):=Zd.laid fD
     refine ⟨As ++ [D],R ++ [es],(s1.trans s2).trans sD,by rw [List.map_append];rfl,(mA.same (s2.trans sD)).snoc ((mA.same s2).fresh fD) ⟨_,Zb,by rw [List.length_map];exact le',fun a x hx=>?_⟩,Paired.snoc (Uy (s2.trans sD) rE) Zb,?_,?_⟩
     ·rw [List.getElem?_map] at hx
      obtain ⟨e,he,rfl⟩:=Option.map_eq_some_iff.mp hx
      exact ⟨e,rfl,(wl a e he).same sD⟩
     ·rw [List.flatten_append,List.flatten_singleton]
      exact Zar sD (ZbI nE s1 (Zd.refl _) nE2 s2)
     ·rw [List.flatten_append,List.flatten_singleton,List.length_append]
      lia
   ·rintro ws G1 ⟨As,R,s1,rfl,mA,rE,nE,lR⟩ D fD
    rw [List.length_map,lA] at mA lR
    have sD:Zd G1 (upd G1 D (.lst (As.map V.ref))):=Zd.laid fD
    refine ⟨T ++ [D],RR ++ [R],(sG.trans s1).trans sD,by rw [List.map_append];rfl,by rw [List.length_append,lT];rfl,fun a r h=>?_,Paired.snoc (ZbT (s1.trans sD) te) ⟨As,Zb,Uy sD rE⟩,?_,?_,fun r hr=>?_⟩
    ·by_cases z:a<T.length
     ·rw [List.getElem?_append_left z] at h
      exact (tabs a r h).same (s1.trans sD)
     ·rw [List.getElem?_append_right (by lia)] at h
      have:a-T.length=0:=by
       have:=(List.getElem?_eq_some_iff.mp h).1
       simp at this;lia
      rw [this] at h
      cases h
      have:a=i:=by lia
      subst this
      rw [<- hn,<- hF]
      exact ⟨As,Zb,mA.same sD⟩
    ·rw [List.flatten_append,List.flatten_singleton,List.flatten_append]
     exact Zar sD (ZbI ne sG (Zd.refl _) nE s1)
    ·rw [List.flatten_append,List.flatten_singleton,List.flatten_append,List.length_append]
     lia
    ·rcases List.mem_append.mp hr with z | z
     ·exact fT r z
     ·rw [List.mem_singleton.mp z];exact (sG.trans s1).free fD
  ·rintro zs G ⟨T,RR,sG,rfl,lT,tabs,te,ne,lE,fT⟩ p fp
   have sp:Zd G (upd G p (.lst (T.map V.ref))):=Zd.laid fp
   rw [List.length_map,lT0] at lT lE
   refine k few p _ T RR ((s0.trans sG).free fp) ((s0.trans sG).trans sp) ⟨Zb,by lia,fun a r h=>⟨(tabs a r h).same sp,fun z=>?_⟩⟩ lT (ZbT sp te) ?_ (fun z=>?_) (by lia) (fun r hr=>s0.free (fT r hr))
   ·obtain ⟨_,e,_⟩:=tabs a r h
    rw [z,fp] at e;cases e
   ·refine Zar sp ⟨ne.1,fun e h=>?_⟩
    obtain ⟨a,b⟩:=ne.2 e h
    exact ⟨s0.free a,b⟩
   ·obtain ⟨_,us,e,_⟩:=ne.2 p z
    rw [fp] at e;cases e
def Zgb (pr:Str->Bool):Sp:=fun vs H Q _=>∃(l:Addr) (xs:List V) (ls:List (Str×Int)),vs = [.ref l]/\H l=some (.lst xs)/\Zu H xs ls/\ls.length<=60/\(∀p∈ls,Kd p.1) /\ ∀(p:Addr) (H':Hp),H p=none->Zd H H'->H' p=some (.lst ((Jd ls pr ls.length).map V.int))->Q (.ref p) H'
abbrev WX:Stmt:=top 1
theorem ZdU:Zw ["drawing"] ["drawing"] (Zh WX):={}
theorem Zhf {f:Addr}{fd:FuncData} (F:YH K "names_of" "names_of" WX f fd) (ZR:mg "enumerate" = none):Z6 P w K mg base WW 1 f fd ["drawing"] (Zgb fun x=>!decide (x = "born")):=by
 refine F.ok ZdU (fun vs H Q E h=>?_) (fun cdv A outer s H vs Q E hr h=>?_)
 ·obtain ⟨l,xs,ls,rfl,_⟩:=h
  rfl
 ·obtain ⟨l,xs,ls,rfl,hl,hL,hlen,_,k⟩:=h
  refine ⟨_,(Zi (Zz (Wh (Ls:=["t", "letter"]) (Fs:=[]) (fi:=[]) (ZJ.of (show Yi ["drawing"] (Zh WX) _ [] []=true by decide +kernel)) rfl (Zbo (K:=K) rfl (by rfl) ZR (Za (pv 0) Zc)) (fun cl C s3 H3 ex=>⟨(WM (K:=K) (n:=2) rfl rfl (Yf (Zn (i:=0) (show ((["t", "letter"]:List Str)++([]:List Str)).Nodup by decide +kernel) rfl (Or.inl rfl)) (Yf (Zn (i:=1) (show ((["t", "letter"]:List Str)++([]:List Str)).Nodup by decide +kernel) rfl (Or.inl rfl)) WQ))),(ZfF (ZH ZkC (Zx (Za3 (K:=K) rfl) (pv 1) Zf (fun _ _=>rfl)) ZV (ZP _))),(pv 0)⟩)))),?_⟩
  have hxl:=hL.len
  refine ⟨_,rfl,l,rfl,⟨_,Zp.of hl⟩,Zg8 (xs:=xs) (Nat.le_of_lt (Z9 (by lia))) (fun i ys H'=>Zd H H'/\ys=(Jd ls (fun x=>!decide (x = "born")) i).map V.int) ⟨Zd.refl _,rfl⟩
   (fun i ys H' p=>by rw [p.2,List.length_map];exact Gz _ _ _) (fun i ys H' p=>Zp.of (p.1 l _ hl)) (fun i x p ys H' hx pv hp=>?_) (fun ys H' pv D hD=>?_)⟩
  ·obtain ⟨sm,rfl⟩:=pv
   obtain ⟨q,t,hq,rfl,ht⟩:=hL.get hx
   have ht':(upd H' p (.tup [.int i,.ref t])) t=some (.tup [.str q.1,.int q.2]):=by rw [Zj (Zg (sm t _ ht) hp)];exact sm t _ ht
   refine ⟨p,_,rfl,Gh.of Zb,rfl,_,_,rfl,_,_,rfl,rfl,?_⟩
   refine ⟨_,rfl,t,_,_,_,rfl,rfl,Gh.of ht',Zs (j:=0) rfl,rfl,_,rfl,?_⟩
   refine Gg (fun hc=>?_) (fun hc=>?_)
   ·have e:¬q.1 = "born" := fun z=>by
     have:(!decide (V.str q.1=V.str "born"))=true:=hc
     rw [decide_eq_true (congrArg V.str z)] at this
     cases this
    exact ⟨_,rfl,sm.step hp,ZbV hq (by simpa using e)⟩
   ·have e:q.1 = "born" := by
     by_cases z:q.1 = "born"
     ·exact z
     ·exact absurd (show (!decide (V.str q.1=V.str "born"))=true by rw [decide_eq_false (fun y=>z (V.str.inj y))];rfl) hc
    exact ⟨sm.step hp,Zgg hq (by simpa using e)⟩
  ·obtain ⟨sm,rfl⟩:=pv
   rw [hxl]
   exact k D _ (sm.free hD) (sm.step hD) Zb
def WH (ls:List (Str×Int)):List Int:=Jd ls (fun x=>!decide (x = "born")) ls.length
theorem Wa {ls:List (Str×Int)}{pr:Str->Bool}{n j:Nat}{t:Int} (h:(Jd ls pr n)[j]? = some t):∃(a:Nat) (p:Str×Int),t=(a:Int)/\a<n/\ls[a]? = some p/\pr p.1=true:=by
 have m:=List.mem_of_getElem? h
 unfold Jd at m
 obtain ⟨a,ha,e⟩:=List.mem_filterMap.mp m
 rw [List.mem_range] at ha
 by_cases z:isK ls pr a=true
 ·rw [if_pos z] at e
  cases e
  unfold isK at z
  cases q:ls[a]? with
  | none=>rw [q] at z;simp at z
  | some p=>rw [q] at z;exact ⟨a,p,rfl,ha,q,by simpa using z⟩
 ·rw [if_neg z] at e;cases e
theorem canon_id {L:WS} (h:SR L):canon L=L:=by
 refine (Z0.canon ⟨h,fun y=>?_⟩).symm
 have nd:L.Nodup:=h.imp fun {a b} lt e=>by rw [e,GX] at lt;cases lt
 by_cases m:y∈L
 ·exact ⟨fun _=>by have h1:=List.nodup_iff_count.mp nd y;have h2:=List.count_pos_iff.mpr m;lia,fun _=>m⟩
 ·refine ⟨fun z=>absurd z m,fun z=>?_⟩
  rw [List.count_eq_zero.mpr m] at z;cases z
theorem Zl2 (ls:List (Str×Int)):∀i j,SR (tF ls i j):=by
 have key:∀(ls:List (Str×Int)) (s:Nat×(Nat->Nat->WS)×Int),(∀i j,SR (s.2.1 i j)) -> ∀i j,SR ((ls.foldl stT s).2.1 i j):=by
  intro ls
  induction ls with
  | nil=>intro s h;exact h
  | cons p ls ih=>
   intro s h
   rw [List.foldl_cons]
   refine ih _ fun i j=>?_
   show SR (nxF p.1 p.2.toNat s.2.2 s.2.1 i j)
   have pl:∀A B,SR (Yx A B):=fun A B=>(ZE _).rise
   unfold nxF
   split
   ·unfold Y5
    repeat' split
    all_goals first | exact h _ _ | exact List.pairwise_singleton _ _ | exact List.Pairwise.nil
   ·split
    ·unfold JE
     repeat' split
     all_goals first | exact h _ _ | exact pl _ _ | exact List.Pairwise.nil
    ·unfold ZaQ
     split
     ·exact pl _ _
     ·exact h _ _
 exact key ls _ fun i j=>List.Pairwise.nil
def dW (ls:List (Str×Int)) (t:Nat):WS:=
 match ls[t]? with
 | some p=>if p.1 = "end" then Yx (tF (ls.take t) p.2.toNat (p.2.toNat+1)) [[]] else tF (ls.take t) p.2.toNat (p.2.toNat+1)
 | none=>[]
theorem Zbv {ls:List (Str×Int)}{t k:Nat} (h:ls[t]? = some ((("end" : Str),(k:Int)):Str×Int)):dW ls t=Yx (tF (ls.take t) k (k+1)) [[]]:=by
 unfold dW
 rw [h]
 exact if_pos rfl
theorem ZdQ {ls:List (Str×Int)}{t k:Nat}{x:Str} (h:ls[t]? = some (x,(k:Int))) (e:x ≠ "end"):dW ls t=tF (ls.take t) k (k+1):=by
 unfold dW
 rw [h]
 exact if_neg e
def DsE (H:Hp) (ls:List (Str×Int)) (es:List Addr):Prop:=∀(j:Nat) (e:Addr),es[j]? = some e -> ∃t:Nat,(WH ls)[j]? = some (t:Int)/\WL H e (dW ls t)
theorem DsE.same {H H':Hp}{ls:List (Str×Int)}{es:List Addr} (s:Zd H H') (x:DsE H ls es):DsE H' ls es:=fun j e h=>let ⟨t,a,b⟩:=x j e h;⟨t,a,b.same s⟩
theorem DsE.snoc {H:Hp}{ls:List (Str×Int)}{es:List Addr}{e:Addr}{t:Nat} (x:DsE H ls es) (h:(WH ls)[es.length]? = some (t:Int)) (w:WL H e (dW ls t)):DsE H ls (es ++ [e]):=fun j e' h'=>by
 by_cases z:j<es.length
 ·rw [List.getElem?_append_left z] at h'
  exact x j e' h'
 ·rw [List.getElem?_append_right (by lia)] at h'
  have:j-es.length=0:=by
   have:=(List.getElem?_eq_some_iff.mp h').1
   simp at this;lia
  rw [this] at h'
  cases h'
  rw [show j=es.length by lia]
  exact ⟨t,h,w⟩
theorem DsE.upd {H:Hp}{r:Addr}{ls:List (Str×Int)}{es:List Addr}{xs ys:List V} (hr:H r=some (.lst xs)) (n:r∉es) (x:DsE H ls es):DsE (L2.upd H r (.lst ys)) ls es:=fun j e h=>let ⟨t,a,b⟩:=x j e h;⟨t,a,b.upd hr fun z=>n (z ▸ List.mem_of_getElem? h)⟩
theorem DsE.there {H:Hp}{ls:List (Str×Int)}{es:List Addr}{e:Addr} (x:DsE H ls es) (h:e∈es):H e≠none:=fun z=>by
 obtain ⟨j,hj⟩:=List.mem_iff_getElem?.mp h
 obtain ⟨t,_,us,b,_⟩:=x j e hj
 rw [z] at b;cases b
def U2 (C:Addr):Sp:=fun vs H Q E=>∃(l:Addr) (xs:List V) (ls:List (Str×Int)),vs = [.ref l]/\H l=some (.lst xs)/\Zu H xs ls/\Wk ls 0/\InB ls/\ls.length<=60 /\
 (YC ls ls.length -> ∀(p:Addr) (H':Hp) (es:List Addr),H p=none->Zd H H'->H' p=some (.lst (es.map V.ref))->es.length=(WH ls).length->DsE H' ls es->es.Nodup->(∀e∈es,H e=none)->p∉es->Q (.ref p) H')/\(¬YC ls ls.length -> ∀H',Zd H H'->E (.ref C) none H')
abbrev Zdk:Stmt:=top 20
theorem WG:Zw ["drawing", "tables", "found", "t", "kind", "k"] ["drawing"] (Zh Zdk):={}
theorem ZhU {f C W:Addr}{fd:FuncData} (F:YH K "deeds" "deeds" Zdk f fd) (YR:GF P w K mg base 6 "sum_tables" ["drawing"] (ZjZ C W)) (Js:JB P w K mg base 1 "names_of" ["drawing"] (Zgb fun x=>!decide (x = "born"))) (GR:JB P w K mg base 2 "added" ["one", "other"] Za9):Z6 P w K mg base (CX1 P w) 7 f fd ["drawing"] (U2 C):=by
 refine F.okX WG (fun vs H Q E h=>?_) (fun cdv A outer s H vs Q E hr h=>?_)
 ·obtain ⟨l,xs,ls,rfl,_⟩:=h
  rfl
 ·obtain ⟨l,xs,ls,rfl,hl,hL,hW,hI,hlen,k,kx⟩:=h
  refine ⟨_,(Ze (Zq (i:=1) WG.nd rfl (Or.inl rfl) (Ju YR (hr.mono (by decide)) Zf7 (Za (pv 0) Zc)))
   (Ze (Zq (i:=2) WG.nd rfl (Or.inl rfl) (Z4 Zc))
   (Ze (Yh PassesOwn.leaving rfl (ZM (K:=K) rfl (Zv Js hr (Za (pv 0) Zc))) (Zn (i:=3) WG.nd rfl (Or.inl rfl)) (Ze (YE (Zx (Zk (K:=K) rfl) (pv 0) (pv 3) (fun _ _=>rfl)) (WM (K:=K) (n:=2) rfl rfl (Yf (Zn (i:=4) WG.nd rfl (Or.inl rfl)) (Yf (Zn (i:=5) WG.nd rfl (Or.inl rfl)) WQ))))
   (Zi (Yj (Jo (K:=K) rfl (Wz PySem.F.plainAttrs_list PySem.F.slot_list_append PySem.F.type_list_append Y2 (pv 2) (Za (Zv GR hr (Za (Zx (Zk (K:=K) rfl) (Zx (Zk (K:=K) rfl) (Zx (Zk (K:=K) rfl) (pv 1) (pv 3) (fun _ _=>rfl)) (pv 5) (fun _ _=>rfl)) (Zm ZA (pv 5) Zf) (fun _ _=>rfl)) (Za (Zha (ZH U0 (pv 4) ZV (ZP _)) (Z4 (Za (Yo Zc) Zc)) (Z4 Zc)) Zc))) Zc)))))))
   (Zi (Zz (pv 2)))))),?_⟩
  refine ⟨_,rfl,l,xs,ls,rfl,hl,hL,hW,hI,hlen,fun few tA G0 T0 ftA s0 tbs0 lT0=>?_,fun nf H' s'=>kx nf H' s'⟩
  refine ⟨(by show 0<=sizeLine;decide),fun fA ffA=>?_⟩
  obtain ⟨G1,eG1⟩:∃G1,upd G0 fA (.lst [])=G1:=⟨_,rfl⟩
  have s1:Zd G0 G1:=by rw [<- eG1];exact Zd.laid ffA
  have ef1:G1 fA=some (.lst ([].map V.ref)):=by rw [<- eG1];exact Zb
  rw [eG1]
  have S1:=s0.trans s1
  refine ⟨_,rfl,l,xs,ls,rfl,S1 _ _ hl,hL.same S1,hlen,fun p hp=>hW.kd p hp,fun nA G2 fnA s2 enA=>?_⟩
  have nn:nA≠fA:=fun z=>by rw [z,ef1] at fnA;cases fnA
  have ffH:H fA=none:=s0.free ffA
  refine ⟨nA,rfl,⟨_,Zp.of enA⟩,Jx (K:=K) (a:=nA) (xs:=(WH ls).map V.int) (fun j σ G=>∃(v3 v4 v5:Option V) (es:List Addr),σ = [some (.ref l),some (.ref tA),some (.ref fA),v3,v4,v5]/\Zd G0 G/\G nA=some (.lst ((WH ls).map V.int))/\G fA=some (.lst (es.map V.ref))/\es.length=j/\DsE G ls es/\es.Nodup/\(∀e∈es,G0 e=none)/\fA∉es)
   ⟨none,none,none,[],rfl,s1.trans s2,enA,s2 _ _ ef1,rfl,(fun j e h=>by simp at h),.nil,(fun e h=>nomatch h),(fun h=>nomatch h)⟩ (fun j σ G _ ⟨_,_,_,_,_,_,e,_⟩=>Zp.of e) ?_ ?_⟩
  ·rintro j x σ G hx ⟨v3,v4,v5,es,rfl,sg,en,ef,le,ds,nd,fr,nf⟩
   rw [List.getElem?_map] at hx
   obtain ⟨t,ht,rfl⟩:=Option.map_eq_some_iff.mp hx
   obtain ⟨a,⟨kd,kk⟩,rfl,ha,hp,hkd⟩:=Wa ht
   obtain ⟨k0,ft⟩:=Uz hW a _ hp
   dsimp only at k0 ft hkd
   obtain ⟨kn,rfl⟩:=Int.eq_ofNat_of_zero_le k0
   rw [Int.toNat_natCast] at ft
   have nb:kd ≠ "born" := by simpa using hkd
   have hk:kn+1<tN (ls.take a):=by
    rcases ft with ⟨z,_⟩ | ⟨_,z⟩ | ⟨_,z⟩
    ·exact absurd z nb
    ·exact z
    ·exact z
   obtain ⟨x,hx'⟩:∃x,xs[a]? = some x:=⟨xs[a]'(by have:=hL.len;lia),by simp⟩
   obtain ⟨q0,q,hq,rfl,etq⟩:=hL.get hx'
   rw [hp] at hq
   cases hq
   have SG:=s0.trans sg
   have tbs:=UQ sg tbs0
   have hTa:T0[a]? = some (T0[a]'(by lia)):=by simp
   obtain ⟨ys,r,b1,_,b3,b4⟩:=(tbs.tab a _ hTa).1.row (i:=kn) (by lia)
   obtain ⟨us,e,c1,_,c3,c4⟩:=b4.at (j:=kn+1) hk
   have f200:=few a (by lia) kn (kn+1) (by lia) hk
   have app:∀(p':Addr) (G3:Hp),G p'=none->Zd G G3->WL G3 p' (dW ls a)->Zf1 (.ref fA) [.ref p'] G3 (fun _ G4=>∃(v3 v4 v5:Option V) (es:List Addr),[some (.ref l),some (.ref tA),some (.ref fA),some (.int (a:Int)),some (.str kd),some (.int (kn:Int))] = [some (.ref l),some (.ref tA),some (.ref fA),v3,v4,v5]/\Zd G0 G4/\G4 nA=some (.lst ((WH ls).map V.int))/\G4 fA=some (.lst (es.map V.ref))/\es.length=j+1/\DsE G4 ls es/\es.Nodup/\(∀e∈es,G0 e=none)/\fA∉es):=fun p' G3 fp t3 wp=>by
    have np:p'≠fA:=fun z=>by rw [z,ef] at fp;cases fp
    have e3:=t3 _ _ ef
    have nin:p'∉es:=fun z=>ds.there z fp
    have hj:=(List.getElem?_eq_some_iff.mp ht).1
    have hnl:=Gz ls (fun x=>!decide (x = "born")) ls.length
    refine ⟨fA,_,_,rfl,rfl,e3,by rw [List.length_map,le,sizeLine_eq];unfold WH at hj;lia,_,_,_,es ++ [p'],rfl,(sg.trans t3).put ffA,by rw [Zj nn];exact t3 _ _ en,by rw [List.map_append];exact Zb,by rw [List.length_append,le];rfl,DsE.snoc ((ds.same t3).upd e3 nf) (by rw [le];exact ht) (wp.upd e3 np),?_,?_,?_⟩
    ·rw [List.nodup_append]
     exact ⟨nd,by simp,fun x hx y hy z=>nin (by rw [List.mem_singleton.mp hy] at z;rw [<- z];exact hx)⟩
    ·intro e he
     rcases List.mem_append.mp he with z | z
     ·exact fr e z
     ·rw [List.mem_singleton.mp z];exact sg.free fp
    ·intro z
     rcases List.mem_append.mp z with z | z
     ·exact nf z
     ·exact np (List.mem_singleton.mp z).symm
   by_cases ek:kd = "end"
   ·subst ek
    refine ⟨_,rfl,_,rfl,l,_,_,_,rfl,rfl,Zp.of (SG _ _ hl),Zs hx',q,_,rfl,Gh.of (SG _ _ etq),rfl,_,_,rfl,_,_,rfl,rfl,?_⟩
    refine ⟨_,rfl,.inl ⟨rfl,_,Zp.of ef⟩,_,rfl,_,rfl,tA,_,_,_,rfl,rfl,Zp.of tbs.at_,Zs (by rw [List.getElem?_map,hTa];rfl),_,rfl,_,_,_,_,rfl,rfl,Zp.of b1,Zs b3,_,rfl,_,_,rfl,rfl,r,_,_,_,rfl,rfl,Zp.of c1,Zs (j:=kn+1) c3,_,rfl,rfl,_,rfl,Ux ?_⟩
    refine ⟨(by show 0<=sizeLine;decide),fun u1 fu1=>⟨(by show 1<=sizeLine;decide),fun u2 fu2=>?_⟩⟩
    have su:Zd G (upd (upd G u1 (.tup [])) u2 (.lst [.ref u1])):=(Zd.laid fu1).step fu2
    refine ⟨e,u2,_,[[]],rfl,c4.same su,⟨_,Zb,.cons ⟨u1,rfl,Zd.laid fu2 _ _ Zb⟩ .nil⟩,by simp;lia,fun p' G3 rr fp t3 wr od=>app p' G3 (su.free fp) (su.trans t3) ?_⟩
    rw [Zbv hp]
    have:=od.canon
    subst this
    exact wr
   ·refine ⟨_,rfl,_,rfl,l,_,_,_,rfl,rfl,Zp.of (SG _ _ hl),Zs hx',q,_,rfl,Gh.of (SG _ _ etq),rfl,_,_,rfl,_,_,rfl,rfl,?_⟩
    refine ⟨_,rfl,.inl ⟨rfl,_,Zp.of ef⟩,_,rfl,_,rfl,tA,_,_,_,rfl,rfl,Zp.of tbs.at_,Zs (by rw [List.getElem?_map,hTa];rfl),_,rfl,_,_,_,_,rfl,rfl,Zp.of b1,Zs b3,_,rfl,_,_,rfl,rfl,r,_,_,_,rfl,rfl,Zp.of c1,Zs (j:=kn+1) c3,_,rfl,rfl,_,rfl,Gg (fun c=>absurd (V.str.inj (of_decide_eq_true c)) ek) fun _=>?_⟩
    refine ⟨(by show 0<=sizeLine;decide),fun u2 fu2=>?_⟩
    have su:Zd G (upd G u2 (.lst [])):=Zd.laid fu2
    refine ⟨e,u2,_,[],rfl,c4.same su,⟨_,Zb,.nil⟩,by simp;lia,fun p' G3 rr fp t3 wr od=>app p' G3 (su.free fp) (su.trans t3) ?_⟩
    rw [ZdQ hp ek]
    have:=od.canon
    rw [List.append_nil,canon_id (Zl2 _ _ _)] at this
    subst this
    exact wr
  ·rintro σ G ⟨v3,v4,v5,es,rfl,sg,en,ef,le,ds,nd,fr,nf⟩
   rw [List.length_map] at le
   exact ⟨_,rfl,k few fA G es ffH (s0.trans sg) ef le ds nd (fun e h=>s0.free (fr e h)) nf⟩
theorem Zgs {kvs:List (Key×V)}{k:Key} (h:k∉kvs.map (·.1)):J9 kvs k=none:=by
 unfold J9
 rw [List.find?_eq_none.mpr (fun p hp z=>h (List.mem_map.mpr ⟨p,hp,of_decide_eq_true z⟩))]
 rfl
theorem Zf5:∀{kvs:List (Key×V)}{j:Nat}{k:Key}{v:V},(kvs.map (·.1)).Nodup->kvs[j]? = some (k,v)->J9 kvs k=some v
 | [],_,_,_,_,h=>by simp at h
 | p::r,0,k,v,_,h=>by cases h;exact GA rfl
 | p::r,j+1,k,v,nd,h=>by
  rw [List.map_cons,List.nodup_cons] at nd
  have h':r[j]? = some (k,v):=by simpa using h
  rw [Gu (fun z=>nd.1 (List.mem_map.mpr ⟨(k,v),List.mem_of_getElem? h',z.symm⟩))]
  exact Zf5 nd.2 h'
theorem ZaF (ls:List (Str×Int)):∀n,(Jd ls (fun x=>!decide (x = "born")) n).Nodup
 | 0=>by simp [Jd]
 | n+1=>by
  rw [Uc]
  split
  ·rw [List.nodup_append]
   exact ⟨ZaF ls n,by simp,fun a ha b hb e=>by have:=Zjk _ _ _ a ha;rw [List.mem_singleton.mp hb] at e;lia⟩
  ·rw [List.append_nil];exact ZaF ls n
theorem Zfj {ls:List (Str×Int)}{j t:Nat} (hW:Wk ls 0) (few:YC ls ls.length) (h:(WH ls)[j]? = some (t:Int)):(dW ls t).length<=201:=by
 obtain ⟨a,⟨kd,kk⟩,e,ha,hp,hkd⟩:=Wa h
 have:t=a:=by lia
 subst this
 obtain ⟨k0,ft⟩:=Uz hW t _ hp
 dsimp only at k0 ft hkd
 obtain ⟨kn,rfl⟩:=Int.eq_ofNat_of_zero_le k0
 rw [Int.toNat_natCast] at ft
 have hk:kn+1<tN (ls.take t):=by
  rcases ft with ⟨z,_⟩ | ⟨_,z⟩ | ⟨_,z⟩
  ·exact absurd z (by simpa using hkd)
  ·exact z
  ·exact z
 have f200:=few t (by lia) kn (kn+1) (by lia) hk
 by_cases e:kd = "end"
 ·subst e
  rw [Zbv hp]
  have:=(ZE (tF (ls.take t) kn (kn+1) ++ [[]])).len
  rw [List.length_append,List.length_singleton] at this
  unfold Yx
  lia
 ·rw [ZdQ hp e];lia
theorem Zge {G:Hp}{x y:V}{a b:List Int}{Q:VK} (hx:Y9 G x a) (hy:Y9 G y b) (hz:a.length+b.length<=sizeLine) (k:∀v G',Zd G G'->Y9 G' v (a++b)->Q v G'):Zkz x y G Q:=
 ⟨a,b,hx,hy,hz,fun e=>k y G (Zd.refl _) (by rw [e];exact hy),fun e=>k x G (Zd.refl _) (by rw [e,List.append_nil];exact hx),fun p fp=>k _ _ (Zd.laid fp) ⟨p,rfl,Zb⟩⟩
def putN (ls:List (Str×Int)) (w:List Int) (j:Nat):WS:=(dW ls (w.getD j 0).toNat).map fun m=>w.take j++m++w.drop (j+1)
def Gf (ls:List (Str×Int)) (w:List Int):WS:=(List.range w.length).flatMap (putN ls w)
def ZX (ls:List (Str×Int)) (L:WS):WS:=L.flatMap (Gf ls)
theorem Zct (ls:List (Str×Int)) (L:WS) (w:List Int):ZX ls (L ++ [w])=ZX ls L++Gf ls w:=by unfold ZX;rw [List.flatMap_append];simp
structure NmS (ls:List (Str×Int)) (L:WS):Prop where
 nm:∀w∈L,∀t∈w,t∈WH ls
 few:L.length<=603
 len:∀w∈L,w.length<=112
theorem Zii {ls:List (Str×Int)}{t:Nat} (hW:Wk ls 0) (hI:InB ls):∀w∈dW ls t,w.length<=300:=by
 intro w hw
 unfold dW at hw
 cases h:ls[t]? with
 | none=>rw [h] at hw;cases hw
 | some p=>
  rw [h] at hw
  dsimp only at hw
  have wb:=ZeW hW hI t p.2.toNat (p.2.toNat+1)
  split at hw
  ·rcases List.mem_append.mp ((ZE _).sub hw) with z | z
   ·have:=(wb w z).1;lia
   ·rw [List.mem_singleton.mp z];simp
  ·have:=(wb w hw).1;lia
theorem ZdO:∀{ns:List Int}{ys:List V}{acc:List (Key×V)},ns.length=ys.length->ns.Nodup->(∀n∈ns,(Sum.inl n:Key)∉acc.map (·.1))->WK acc (ns.zip ys)=acc++(ns.map fun n=>(Sum.inl n:Key)).zip ys
 | [],[],acc,_,_,_=>by simp [WK]
 | n::ns,y::ys,acc,hl,nd,hf=>by
  rw [List.nodup_cons] at nd
  have h0:putK acc (Sum.inl n) y=acc ++ [((Sum.inl n:Key),y)]:=ZiW _ (Zgs (hf n List.mem_cons_self))
  show WK (putK acc (Sum.inl n) y) (ns.zip ys)=_
  rw [h0,ZdO (by simpa using hl) nd.2 fun m hm=>?_]
  ·simp
  ·rw [List.map_append,List.mem_append]
   rintro (z | z)
   ·exact hf m (List.mem_cons_of_mem _ hm) z
   ·have:(Sum.inl m:Key)=Sum.inl n:=by simpa using z
    cases this
    exact nd.1 hm
def Zan (C:Addr):Sp:=fun vs H Q E=>∃(l a:Addr) (xs:List V) (ls:List (Str×Int)) (L:WS),vs = [.ref l,.ref a]/\H l=some (.lst xs)/\Zu H xs ls/\Wk ls 0/\InB ls/\ls.length<=60/\WL H a L/\NmS ls L /\
 (YC ls ls.length -> ∀(p:Addr) (H':Hp),H p=none->Zd H H'->WL H' p (canon (ZX ls L))->Q (.ref p) H')/\(¬YC ls ls.length -> ∀H',Zd H H'->E (.ref C) none H')
abbrev Ud:Stmt:=top 21
theorem Jr:Zw ["drawing", "one", "deed", "odd", "word", "at", "name"] ["drawing", "one"] (Zh Ud):={}
theorem Zgz {f C:Addr}{fd:FuncData} (F:YH K "deed_of" "deed_of" Ud f fd) (Js:JB P w K mg base 1 "names_of" ["drawing"] (Zgb fun x=>!decide (x = "born"))) (JL:GF P w K mg base 7 "deeds" ["drawing"] (U2 C)) (Uo:JB P w K mg base 1 "put" ["odd", "words"] Zd3)
  (ZeE:mg "dict" = none) (Zcc:mg "zip" = none) (ZR:mg "enumerate" = none) (Yy:mg "sorted" = none):Z6 P w K mg base (CX1 P w) 8 f fd ["drawing", "one"] (Zan C):=by
 refine F.okX Jr (fun vs H Q E h=>?_) (fun cdv A outer s H vs Q E hr h=>?_)
 ·obtain ⟨l,a,xs,ls,L,rfl,_⟩:=h
  rfl
 ·obtain ⟨l,a,xs,ls,L,rfl,hl,hL,hW,hI,hlen,hw,hN,k,kx⟩:=h
  refine ⟨_,(Ze (Zq (i:=2) Jr.nd rfl (Or.inl rfl) (Zez (K:=K) rfl rfl (by rfl) ZeE (by rfl) Zcc (Za (Zv Js hr (Za (pv 0) Zc)) (Za (Ju JL (hr.mono (by decide)) Zf7 (Za (pv 0) Zc)) Zc))))
   (Ze (Zq (i:=3) Jr.nd rfl (Or.inl rfl) Zbg)
   (Ze (Yh PassesOwn.leaving rfl (ZM (K:=K) rfl (pv 1)) (Zn (i:=4) Jr.nd rfl (Or.inr rfl)) (Zi (Yh PassesOwn.leaving rfl (Zho (K:=K) rfl (by rfl) ZR (Za (pv 4) Zc)) (WM (K:=K) (n:=2) rfl rfl (Yf (Zn (i:=5) Jr.nd rfl (Or.inr rfl)) (Yf (Zn (i:=6) Jr.nd rfl (Or.inl rfl)) WQ))) (Zi (Yj (Zv Uo hr (Za (pv 3) (Za (Wh (Ls:=["middle"]) (Fs:=["word", "at"]) (fi:=[4,5]) (ZJ.of (show Yi ["drawing", "one", "deed", "odd", "word", "at", "name"] (Zh Ud) _ ["word", "at"] [4,5]=true by decide +kernel)) rfl (ZM (K:=K) rfl (Zx (Zkm (ZfS hr)) (pv 2) (pv 6) (fun _ _=>rfl))) (fun cl C s3 H3 ex=>⟨(Zn (i:=0) (show ((["middle"]:List Str)++(["word", "at"]:List Str)).Nodup by decide +kernel) rfl (Or.inl rfl)),ZW,(Zm Za1 (Zm Za1 (Yw (Zfo (K:=K) rfl) (pv 1) Jg (ZZ (pv 2))) (pv 0)) (Yw (Zfo (K:=K) rfl) (pv 1) (ZZ (Zm ZA (pv 2) Zf)) Jg))⟩)) Zc))))))))
   (Zi (Zz (ZG (Wt rfl hr.units) (by rfl) Yy boot_sorted (Za (pv 3) Zc))))))),?_⟩
  refine ⟨_,rfl,l,xs,ls,rfl,hl,hL,hlen,fun p hp=>hW.kd p hp,fun nA G1 fnA s1 enA=>?_⟩
  refine ⟨_,rfl,l,xs,ls,rfl,s1 _ _ hl,hL.same s1,hW,hI,hlen,fun few dA G2 es fdA s2 eds le ds nd fr np=>?_,fun nf H' s'=>kx nf H' (s1.trans s')⟩
  have nl:(WH ls).length<=ls.length:=Gz _ _ _
  refine ⟨nA,dA,WH ls,es.map V.ref,rfl,Zp.of (s2 _ _ enA),Zp.of eds,by rw [List.length_map,le],by lia,fun D fD=>?_⟩
  have ndN:(WH ls).Nodup:=ZaF ls ls.length
  have ez:WK [] ((WH ls).zip (es.map V.ref))=((WH ls).map fun n=>(Sum.inl n:Key)).zip (es.map V.ref):=by
   rw [ZdO (ns:=WH ls) (by rw [List.length_map,le]) ndN (fun n _ h=>by simp at h),List.nil_append]
  rw [ez]
  obtain ⟨kvs,ekv⟩:∃kvs,kvs=((WH ls).map fun n=>(Sum.inl n:Key)).zip (es.map V.ref):=⟨_,rfl⟩
  rw [<- ekv]
  have s3:Zd G2 (upd G2 D (.dK kvs)):=Zd.laid fD
  have eD:(upd G2 D (.dK kvs)) D=some (.dK kvs):=Zb
  obtain ⟨G3,eG3⟩:∃G3,upd G2 D (.dK kvs)=G3:=⟨_,rfl⟩
  rw [eG3] at s3 eD ⊢
  intro oA foA
  have s4:Zd G3 (upd G3 oA (.dT [])):=Zd.laid foA
  have d0:DOd (upd G3 oA (.dT [])) oA []:=⟨[],[],Zb,rfl,Zbs⟩
  obtain ⟨G4,eG4⟩:∃G4,upd G3 oA (.dT [])=G4:=⟨_,rfl⟩
  dsimp only
  rw [eG4] at s4 d0 ⊢
  have S3:=(s1.trans s2).trans s3
  have S4:=S3.trans s4
  have eD4:=s4 _ _ eD
  have ds4:=ds.same (s3.trans s4)
  have foH:H oA=none:=S3.free foA
  obtain ⟨zs,ea,wa⟩:=hw.same S4
  have lz:=wa.len
  have nDo:D≠oA:=fun z=>by obtain ⟨_,_,e,_⟩:=d0;rw [<- z,eD4] at e;cases e
  have nao:a≠oA:=fun z=>by obtain ⟨_,_,e,_⟩:=d0;rw [<- z,ea] at e;cases e
  have look:∀t∈WH ls,∃(e:Addr) (b:Nat),t=(b:Int)/\J9 kvs (Sum.inl t)=some (.ref e)/\WL G4 e (dW ls b)/\(dW ls b).length<=201:=fun t ht=>by
   obtain ⟨j,hj⟩:=List.mem_iff_getElem?.mp ht
   have hjl:=(List.getElem?_eq_some_iff.mp hj).1
   have he:es[j]? = some (es[j]'(by lia)):=by simp
   obtain ⟨b,hb,wl⟩:=ds4 j _ he
   rw [hj] at hb
   cases hb
   refine ⟨_,b,rfl,Zf5 (j:=j) ?_ ?_,wl,Zfj hW few hj⟩
   ·rw [ekv,List.map_fst_zip (by simp;lia)]
    exact List.pairwise_map.mpr (ndN.imp fun h e=>h (Sum.inl.inj e))
   ·rw [ekv]
    exact List.getElem?_zip_eq_some.mpr ⟨by rw [List.getElem?_map,hj];rfl,by rw [List.getElem?_map,he];rfl⟩
  have dlen:∀w∈L,(Gf ls w).length<=22512:=fun w hw'=>by
   have h12:=hN.len w hw'
   have:∀n,n<=w.length->((List.range n).flatMap (putN ls w)).length<=201*n:=by
    intro n
    induction n with
    | zero=>intro _;simp
    | succ n ih=>
     intro hn
     rw [List.range_succ,List.flatMap_append,List.length_append]
     have hg:w.getD n 0∈w:=by rw [List.getD_eq_getElem?_getD,List.getElem?_eq_getElem (by lia)];exact List.getElem_mem _
     obtain ⟨_,b,hb,_,_,h3⟩:=look _ (hN.nm w hw' _ hg)
     have:=ih (by lia)
     have e1:([n].flatMap (putN ls w)).length<=201:=by
      rw [List.flatMap_cons,List.flatMap_nil,List.append_nil]
      unfold putN
      rw [List.length_map,hb,Int.toNat_natCast]
      exact h3
     lia
   have:=this w.length (Nat.le_refl _)
   unfold Gf
   lia
  have rlen:∀j,(ZX ls (L.take j)).length<=22512*603:=fun j=>by
   have key:∀M:WS,(∀w∈M,w∈L)->(ZX ls M).length<=22512*M.length:=by
    intro M
    induction M with
    | nil=>intro _;simp [ZX]
    | cons w M ih=>
     intro hM
     have h1:=dlen w (hM w List.mem_cons_self)
     have h2:=ih fun v hv=>hM v (List.mem_cons_of_mem _ hv)
     have:ZX ls (w::M)=Gf ls w++ZX ls M:=by unfold ZX;rw [List.flatMap_cons]
     rw [this,List.length_append,List.length_cons]
     lia
   have h1:=key (L.take j) fun w hw'=>List.mem_of_mem_take hw'
   have h2:=hN.few
   rw [List.length_take] at h1
   have:min j L.length<=603:=by lia
   lia
  refine ⟨_,rfl,a,rfl,⟨_,Zp.of ea⟩,Jx (K:=K) (a:=a) (xs:=zs) (fun j σ G=>∃(v4 v5 v6:Option V),σ = [some (.ref l),some (.ref a),some (.ref D),some (.ref oA),v4,v5,v6]/\Yp oA G4 G/\DOd G oA (ZX ls (L.take j)))
   ⟨none,none,none,rfl,Yp.refl _ _,by simpa [ZX] using d0⟩ (fun j σ G _ ⟨_,_,_,_,fr',_⟩=>Zp.of (fr' _ _ ea nao)) ?_ ?_⟩
  ·rintro j x σ G hx ⟨v4,v5,v6,rfl,frG,dG⟩
   obtain ⟨wd,hj,pw,rfl,hpw⟩:=Words.get wa hx
   have hmem:=List.mem_of_getElem? hj
   have tp:=d0.tups frG
   have r1:=rlen (j+1)
   rw [take_snoc hj,Zct,List.length_append] at r1
   refine ⟨_,rfl,pw,rfl,⟨_,Gh.of (tp _ _ hpw)⟩,ZiE (K:=K) (a:=pw) (xs:=wd.map V.int) (fun i σ G'=>∃(v5 v6:Option V),σ = [some (.ref l),some (.ref a),some (.ref D),some (.ref oA),some (.ref pw),v5,v6]/\Yp oA G4 G'/\DOd G' oA (ZX ls (L.take j)++(List.range i).flatMap (putN ls wd)))
    ⟨_,_,rfl,frG,by simpa using dG⟩ (fun i σ G' _ ⟨_,_,_,fr',_⟩=>Gh.of (d0.tups fr' _ _ hpw)) ?_ ?_⟩
   ·rintro i y q σ G' hy ⟨v5,v6,rfl,frG',dG'⟩ fq
    rw [List.getElem?_map] at hy
    obtain ⟨t,ht,rfl⟩:=Option.map_eq_some_iff.mp hy
    have hil:i<wd.length:=(List.getElem?_eq_some_iff.mp ht).1
    have htn:t∈WH ls:=hN.nm wd hmem t (List.mem_of_getElem? ht)
    obtain ⟨e,b,rfl,hv,wl,h300⟩:=look _ htn
    obtain ⟨G5,eG5⟩:∃G5,upd G' q (.tup [.int (i:Int),.int (b:Int)])=G5:=⟨_,rfl⟩
    have s5:Zd G' G5:=by rw [<- eG5];exact Zd.laid fq
    have eq:G5 q=some (.tup [.int (i:Int),.int (b:Int)]):=by rw [<- eG5];exact Zb
    rw [eG5]
    refine ⟨q,_,rfl,Gh.of eq,rfl,_,_,rfl,_,_,rfl,rfl,?_⟩
    have fr5:Yp oA G4 G5:=frG'.trans s5.frm
    have tp5:=d0.tups fr5
    obtain ⟨ms,em,wm⟩:=wl
    have neo:e≠oA:=fun z=>by obtain ⟨_,_,e',_⟩:=d0;rw [<- z,em] at e';cases e'
    have em5:G5 e=some (.lst ms):=fr5 _ _ em neo
    have wm5:=wm.mono tp5
    have lm:=wm.len
    have dg:ZaS G5 D (.int (b:Int)) (some (.ref e)):=by
     have:=ZaS.k (k:=Sum.inl (b:Int)) (fr5 _ _ eD4 nDo)
     rw [hv] at this
     exact this
    have wp5:Y9 G5 (.ref pw) wd:=⟨pw,rfl,tp5 _ _ hpw⟩
    refine ⟨_,rfl,_,rfl,_,rfl,D,_,rfl,dg,e,rfl,⟨_,Zp.of em5⟩,YM (K:=K) (xs:=ms) (by rw [sizeLine_eq];lia) (fun m ys G6=>Zd G5 G6/\Words G6 ys (((dW ls b).take m).map fun mm=>wd.take i++mm++wd.drop (i+1))) ⟨Zd.refl _,.nil⟩
     (fun m ys G6 ⟨_,z⟩=>by rw [z.len,List.length_map,List.length_take];exact Nat.min_le_left _ _) (fun m ys G6 ⟨s',_⟩=>Zp.of (s' _ _ em5)) ?_ ?_⟩
    ·rintro m x' ys G6 hx' ⟨s6,wy⟩
     obtain ⟨mm,hmm,wmm⟩:=Words.get wm5 hx'
     have hm300:=Zii hW hI mm (List.mem_of_getElem? hmm)
     have h12:=hN.len wd hmem
     refine lcG ?_
     refine ⟨_,rfl,_,rfl,_,rfl,ZlJ (wp5.same s6) hil fun u1 G7 s7 w7=>?_⟩
     have sm6:=s6.trans s7
     refine ⟨_,rfl,Zge w7 (wmm.same sm6) (by rw [List.length_take,sizeLine_eq];lia) fun u2 G8 s8 w8=>?_⟩
     have sm8:=sm6.trans s8
     refine ⟨_,rfl,_,rfl,_,_,rfl,rfl,_,rfl,?_⟩
     dsimp only [ZfH]
     refine Zlp (k:=i) (by lia) (wp5.same sm8) hil fun u3 G9 s9 w9=>?_
     refine Zge (w8.same s9) w9 (by rw [List.length_append,List.length_take,List.length_drop,sizeLine_eq];lia) fun u4 G10 s10 w10=>?_
     refine ⟨(sm8.trans s9).trans s10,?_⟩
     rw [List.take_add_one,hmm,List.map_append]
     exact Words.snoc (wy.same (((s7.trans s8).trans s9).trans s10)) w10
    ·rintro ys G6 ⟨s6,wy⟩ wsA fwsA
     rw [lm,List.take_of_length_le (Nat.le_refl _)] at wy
     have s7:Zd G6 (upd G6 wsA (.lst ys)):=Zd.laid fwsA
     have S7:Zd G' (upd G6 wsA (.lst ys)):=(s5.trans s6).trans s7
     have dG7:DOd (upd G6 wsA (.lst ys)) oA (ZX ls (L.take j)++(List.range i).flatMap (putN ls wd)):=by
      obtain ⟨kv,ks,e1,e2,e3⟩:=dG'
      exact ⟨kv,ks,S7 _ _ e1,e2,e3⟩
     have eput:((dW ls b).map fun mm=>wd.take i++mm++wd.drop (i+1))=putN ls wd i:=by
      unfold putN
      rw [List.getD_eq_getElem?_getD,ht]
      simp
     rw [eput] at wy
     have split:Gf ls wd=(List.range (i+1)).flatMap (putN ls wd)++((List.range wd.length).drop (i+1)).flatMap (putN ls wd):=by
      unfold Gf
      rw [<- List.flatMap_append]
      congr 1
      rw [<- List.take_append_drop (i+1) (List.range wd.length),List.take_range,Nat.min_eq_left (by lia)]
      simp
     have r2:(Gf ls wd).length=((List.range (i+1)).flatMap (putN ls wd)).length+(((List.range wd.length).drop (i+1)).flatMap (putN ls wd)).length:=by rw [split,List.length_append]
     have r3:((List.range (i+1)).flatMap (putN ls wd)).length=((List.range i).flatMap (putN ls wd)).length+(putN ls wd i).length:=by
      rw [List.range_succ,List.flatMap_append,List.length_append];simp
     refine ⟨oA,wsA,_,putN ls wd i,rfl,dG7,⟨ys,Zb,wy.same s7⟩,by rw [List.length_append];lia,fun H' f1 dH=>?_⟩
     refine ⟨_,_,rfl,(frG'.trans S7.frm).trans f1,?_⟩
     rw [List.range_succ,List.flatMap_append,<- List.append_assoc]
     simpa using dH
   ·rintro σ G' ⟨v5,v6,rfl,frG',dG'⟩
    refine ⟨_,_,_,rfl,frG',?_⟩
    rw [take_snoc hj,Zct]
    rw [List.length_map] at dG'
    exact dG'
  ·rintro σ G ⟨v4,v5,v6,rfl,frG,dG⟩
   rw [List.take_of_length_le (by lia)] at dG
   obtain ⟨kv,ks,e1,e2,e3⟩:=dG
   have SG:Zd H G:=fun c o e=>frG c o (S4 c o e) (Zg e foH)
   refine ⟨_,rfl,oA,kv,ks,rfl,e1,e2,fun p zs' vs hp pm hw' rs=>?_⟩
   have s9:Zd G (upd G p (.lst zs')):=Zd.laid hp
   have:=(e3.odd pm rs).canon
   subst this
   exact k few p _ (SG.free hp) (SG.trans s9) ⟨zs',Zb,Words.same s9 hw'⟩
def ZK:Nat->(Nat->Nat)->Nat
 | 0,_=>0
 | n+1,f=>ZK n f+f n
theorem Yl (f g:Nat->Nat):∀n,ZK n (fun m=>f m+g m)=ZK n f+ZK n g
 | 0=>rfl
 | n+1=>by
  show ZK n (fun m=>f m+g m)+(f n+g n)=ZK n f+f n+(ZK n g+g n)
  rw [Yl f g n];lia
theorem JY {f g:Nat->Nat}:∀n,(∀m,m<n->f m % 2=g m % 2)->ZK n f % 2=ZK n g % 2
 | 0,_=>rfl
 | n+1,h=>by
  have a:=JY n fun m hm=>h m (by omega)
  have b:=h n (by omega)
  show (ZK n f+f n) % 2=(ZK n g+g n) % 2
  omega
theorem JS:∀n,ZK n (fun _=>0)=0
 | 0=>rfl
 | n+1=>by show ZK n (fun _=>0)+0=0;rw [JS n]
theorem ZU {f g:Nat->Nat}:∀n,(∀m,m<n->f m=g m)->ZK n f=ZK n g
 | 0,_=>rfl
 | n+1,h=>by
  show ZK n f+f n=ZK n g+g n
  rw [ZU n fun m hm=>h m (by lia),h n (by lia)]
theorem J4 (k a:Nat):∀n,k<n->ZK n (fun m=>if m=k then a else 0)=a
 | 0,h=>absurd h (by lia)
 | n+1,h=>by
  show ZK n (fun m=>if m=k then a else 0)+(if n=k then a else 0)=a
  by_cases e:n=k
  ·rw [if_pos e,ZU (g:=fun _=>0) n fun m hm=>if_neg (by lia),JS];lia
  ·rw [if_neg e,J4 k a n (by lia),Nat.add_zero]
theorem GS (k:Nat) (f:Nat->Nat):∀n,k<=n->ZK (n+2) (fun m=>if m=k∨m=k+1 then 0 else f m)=ZK n (fun m=>f (if m<k then m else m+2))
 | n,h=>by
  have low:∀n,n<=k->ZK n (fun m=>if m=k∨m=k+1 then 0 else f m)=ZK n (fun m=>f (if m<k then m else m+2)):=fun n hn=>ZU n fun m hm=>by
   rw [if_neg (by lia),if_pos (by lia)]
  induction n with
  | zero=>
   have:k=0:=by lia
   subst this
   rfl
  | succ n ih=>
   by_cases e:k=n+1
   ·subst e
    show ZK (n+1) _+_+_=_
    rw [low (n+1) (Nat.le_refl _)]
    dsimp only
    rw [if_pos (Or.inl rfl),if_pos (Or.inr rfl)]
    rfl
   ·show ZK (n+2) _+_=ZK n _+_
    rw [ih (by lia)]
    dsimp only
    rw [if_neg (show ¬(n+2=k∨n+2=k+1) by lia),if_neg (show ¬n<k by lia)]
theorem ZbU {k n:Nat} (f:Nat->Nat) (h:k+1<n):ZK n f=ZK n (fun m=>if m=k∨m=k+1 then 0 else f m)+f k+f (k+1):=by
 have key:ZK n f=ZK n (fun m=>(if m=k∨m=k+1 then 0 else f m)+(if m=k then f k else 0)+(if m=k+1 then f (k+1) else 0)):=by
  refine ZU n fun m _=>?_
  by_cases e1:m=k
  ·subst e1
   rw [if_pos (Or.inl rfl),if_pos rfl,if_neg (by lia)];lia
  ·by_cases e2:m=k+1
   ·subst e2
    rw [if_pos (Or.inr rfl),if_neg (by lia),if_pos rfl];lia
   ·rw [if_neg (by lia),if_neg e1,if_neg e2];lia
 rw [key,Yl,Yl,J4 k _ n (by lia),J4 (k+1) _ n h]
def LS (n:Nat) (g:Nat->WS):WS:=(List.range n).flatMap g
theorem Zdp (n:Nat) (g:Nat->WS):LS (n+1) g=LS n g++g n:=by unfold LS;rw [List.range_succ,List.flatMap_append];simp
theorem ZcR (g:Nat->WS) (w:List Int):∀n,(LS n g).count w=ZK n (fun m=>(g m).count w)
 | 0=>rfl
 | n+1=>by rw [Zdp,List.count_append,ZcR g w n];rfl
theorem Za6 (g:Nat->WS) (B:WS) (w:List Int):∀n,(ZD (LS n g) B).count w=ZK n (fun m=>(ZD (g m) B).count w)
 | 0=>rfl
 | n+1=>by rw [Zdp,Y0,List.count_append,Za6 g B w n];rfl
theorem Zaa (A:WS) (g:Nat->WS) (w:List Int):∀n,(ZD A (LS n g)).count w=ZK n (fun m=>(ZD A (g m)).count w)
 | 0=>by show (ZD A []).count w=0;rw [Ye];rfl
 | n+1=>by rw [Zdp,YK,Zaa A g w n];rfl
theorem Zci (f:List Int->WS):∀(n:Nat) (X:WS),X.length<=n->(∀w,X.count w % 2=0) -> ∀w,(X.flatMap f).count w % 2=0
 | _,[],_,_=>fun w=>by simp
 | 0,_::_,h,_=>absurd h (by simp)
 | n+1,x::Y,h,e=>fun w=>by
  have ex:=e x
  rw [List.count_cons_self] at ex
  have mx:x∈Y:=List.count_pos_iff.mp (by omega)
  obtain ⟨P,R,rfl⟩:=List.append_of_mem mx
  have ih:=Zci f n (P++R) (by simp at h ⊢;omega) (fun v=>by
   have:=e v
   simp only [List.count_cons,List.count_append] at this ⊢
   split at this<;>omega) w
  simp only [List.flatMap_cons,List.flatMap_append,List.count_append] at ih ⊢
  omega
theorem Zhc (f:List Int->WS) {A B:WS} (h:Y8 A B):Y8 (A.flatMap f) (B.flatMap f):=fun w=>by
 have:=Zci f _ (A++B) (Nat.le_refl _) (fun v=>by rw [List.count_append];have:=h v;lia) w
 rw [List.flatMap_append,List.count_append] at this
 lia
structure Der (D:WS->WS):Prop where
 app:∀A B,D (A++B)=D A++D B
 leib:∀A B,Y8 (D (ZD A B)) (ZD (D A) B++ZD A (D B))
 par:∀{A B},Y8 A B->Y8 (D A) (D B)
 nil:D [] = []
 one:D [[]] = []
def Sg (n:Nat) (F:Nat->Nat->WS) (i j:Nat):WS:=LS n fun m=>if i<m/\m<j then ZD (F i m) (F m j) else []
theorem Yt (n:Nat) (F:Nat->Nat->WS) (i j:Nat) (w:List Int):(Sg n F i j).count w=ZK n fun m=>if i<m/\m<j then (ZD (F i m) (F m j)).count w else 0:=by
 unfold Sg
 rw [ZcR]
 refine ZU n fun m _=>?_
 split<;>rfl
def Hng (D:WS->WS) (n:Nat) (F:Nat->Nat->WS):Prop:=∀i j,i<j->j<n->Y8 (D (F i j)) (Sg n F i j)
theorem ZfV {A A' B B':WS} (a:Y8 A A') (b:Y8 B B'):Y8 (ZD A B) (ZD A' B'):=(JA a B).trans (Y3 b A')
theorem ZcG {D:WS->WS} (dr:Der D) {n:Nat}{F G:Nat->Nat->WS} (h:∀i j,i<j->j<n->Y8 (F i j) (G i j)) (x:Hng D n F):Hng D n G:=fun i j hi hj=>by
 refine ((dr.par (h i j hi hj)).symm.trans (x i j hi hj)).trans fun w=>?_
 rw [Yt,Yt]
 refine JY n fun m hm=>?_
 by_cases c:i<m/\m<j
 ·rw [if_pos c,if_pos c];exact ZfV (h i m c.1 (by lia)) (h m j c.2 hj) w
 ·rw [if_neg c,if_neg c]
theorem ZhY {D:WS->WS}{n:Nat}{F:Nat->Nat->WS} (x:Hng D n F) {k:Nat} (h:k+1<n):Y8 (D (F k (k+1))) []:=(x k (k+1) (by lia) h).trans fun w=>by
 rw [Yt,ZU (g:=fun _=>0) n fun m _=>if_neg (by lia),JS];rfl
theorem ZhX {D:WS->WS} (dr:Der D) {n k:Nat}{F:Nat->Nat->WS} (x:Hng D n F) (hk:k<=n):Hng D (n+2) (Y5 k F):=fun i j hij hj w=>by
 have z1:∀a b,a≠k∨b≠k+1->(a=k∨a=k+1∨b=k∨b=k+1)->Y5 k F a b = []:=fun a b h1 h2=>by
  unfold Y5
  rw [if_neg (by lia),if_pos h2]
 have z2:∀a b,a≠k->a≠k+1->b≠k->b≠k+1->Y5 k F a b=F (if a<k then a else a-2) (if b<k then b else b-2):=fun a b h1 h2 h3 h4=>by
  unfold Y5
  rw [if_neg (by lia),if_neg (by lia)]
 rw [Yt]
 by_cases c:i=k∨i=k+1∨j=k∨j=k+1
 ·have e0:D (Y5 k F i j) = []:=by
   by_cases c2:i=k/\j=k+1
   ·unfold Y5;rw [if_pos c2];exact dr.one
   ·rw [z1 i j (by lia) c];exact dr.nil
  rw [e0,ZU (g:=fun _=>0) (n+2) fun m hm=>?_,JS]
  ·rfl
  by_cases cm:i<m/\m<j
  ·rw [if_pos cm]
   by_cases ci:i=k/\m=k+1
   ·rw [z1 m j (by lia) (by lia),Ye];rfl
   ·by_cases cj:i=k∨i=k+1∨m=k∨m=k+1
    ·rw [z1 i m (by lia) cj];rfl
    ·rw [z1 m j (by lia) (by lia),Ye];rfl
  ·rw [if_neg cm]
 ·have d1:∀a,a≠k->a≠k+1->a<n+2->(if a<k then a else a-2)<n:=fun a h1 h2 h3=>by split<;>lia
  rw [z2 i j (by lia) (by lia) (by lia) (by lia)]
  have hx:=x (if i<k then i else i-2) (if j<k then j else j-2) (by split<;>split<;>lia) (d1 j (by lia) (by lia) hj) w
  rw [hx,Yt]
  have e:ZK (n+2) (fun m=>if i<m/\m<j then (ZD (Y5 k F i m) (Y5 k F m j)).count w else 0)=ZK (n+2) (fun m=>if m=k∨m=k+1 then 0 else (fun m=>if i<m/\m<j then (ZD (Y5 k F i m) (Y5 k F m j)).count w else 0) m):=by
   refine ZU _ fun m hm=>?_
   by_cases cm:m=k∨m=k+1
   ·rw [if_pos cm]
    by_cases c3:i<m/\m<j
    ·rw [if_pos c3,z1 i m (by lia) (by lia)];rfl
    ·rw [if_neg c3]
   ·rw [if_neg cm]
  rw [e,GS k _ n hk]
  congr 1
  refine ZU n fun m hm=>?_
  have u:(if m<k then m else m+2)≠k/\(if m<k then m else m+2)≠k+1:=by split<;>lia
  have v:(if (if m<k then m else m+2)<k then (if m<k then m else m+2) else (if m<k then m else m+2)-2)=m:=by
   by_cases c:m<k
   ·rw [if_pos c,if_pos c]
   ·rw [if_neg c,if_neg (by lia)];lia
  rw [z2 i _ (by lia) (by lia) u.1 u.2,z2 _ j u.1 u.2 (by lia) (by lia),v]
  by_cases c4:i<(if m<k then m else m+2)/\(if m<k then m else m+2)<j
  ·rw [if_pos c4,if_pos]
   revert c4
   split<;>split<;>split<;>lia
  ·rw [if_neg c4,if_neg]
   revert c4
   split<;>split<;>split<;>lia
theorem Zbl {D:WS->WS} (dr:Der D) (A B:WS) (w:List Int):(D (ZD A B)).count w % 2=((ZD (D A) B).count w+(ZD A (D B)).count w) % 2:=by rw [dr.leib A B w,List.count_append]
def YT (k:Nat) (t:Int) (F:Nat->Nat->WS):Nat->Nat->WS:=fun i j=>
 if i=k/\j=k+1 then [] else if i=k/\k+2<=j then F (k+1) j else if i=k+1/\k+2<=j then F k j++ZD [[t]] (F (k+1) j)
 else if i<k/\j=k+1 then F i k else if i<k/\j=k then F i (k+1)++ZD (F i k) [[t]] else F i j
theorem Ym (L:WS):Y8 (canon L) L:=(ZE L).self
theorem ZgX (k:Nat) (t:Int) (F:Nat->Nat->WS) (i j:Nat):Y8 (YT k t F i j) (JE k t F i j):=by
 unfold YT JE Yx ZL
 split
 ·exact Y8.refl _
 ·split
  ·exact Y8.refl _
  ·split
   ·exact ((Ym _).trans (Y8.app (Y8.refl _) (Ym _))).symm
   ·split
    ·exact Y8.refl _
    ·split
     ·exact ((Ym _).trans (Y8.app (Y8.refl _) (Ym _))).symm
     ·exact Y8.refl _
theorem Zg2 {D:WS->WS} (dr:Der D) {n k:Nat}{t:Int}{F:Nat->Nat->WS} (x:Hng D n F) (hk:k+1<n) (ht:Y8 (D [[t]]) (F k (k+1))):Hng D n (YT k t F):=fun i j hij hj w=>by
 have g1:YT k t F k (k+1) = []:=by unfold YT;rw [if_pos ⟨rfl,rfl⟩]
 have g2:∀j,k+2<=j->YT k t F k j=F (k+1) j:=fun j h=>by unfold YT;rw [if_neg (by omega),if_pos ⟨rfl,h⟩]
 have g3:∀j,k+2<=j->YT k t F (k+1) j=F k j++ZD [[t]] (F (k+1) j):=fun j h=>by unfold YT;rw [if_neg (by omega),if_neg (by omega),if_pos ⟨rfl,h⟩]
 have g4:∀i,i<k->YT k t F i (k+1)=F i k:=fun i h=>by unfold YT;rw [if_neg (by omega),if_neg (by omega),if_neg (by omega),if_pos ⟨h,rfl⟩]
 have g5:∀i,i<k->YT k t F i k=F i (k+1)++ZD (F i k) [[t]]:=fun i h=>by unfold YT;rw [if_neg (by omega),if_neg (by omega),if_neg (by omega),if_neg (by omega),if_pos ⟨h,rfl⟩]
 have g6:∀i j,i≠k->i≠k+1->j≠k->j≠k+1->YT k t F i j=F i j:=fun i j h1 h2 h3 h4=>by unfold YT;rw [if_neg (by omega),if_neg (by omega),if_neg (by omega),if_neg (by omega),if_neg (by omega)]
 generalize YT k t F=G at *
 have same:∀i j,i≠k->i≠k+1->j≠k->j≠k+1->(j<k∨k+1<i)->i<j->j<n->(D (G i j)).count w % 2=ZK n (fun m=>if i<m/\m<j then (ZD (G i m) (G m j)).count w else 0) % 2:=fun i j h1 h2 h3 h4 h5 hij hj=>by
  rw [g6 i j h1 h2 h3 h4,x i j hij hj w,Yt]
  congr 1
  refine ZU n fun m hm=>?_
  by_cases c:i<m/\m<j
  ·rw [if_pos c,if_pos c,g6 i m h1 h2 (by omega) (by omega),g6 m j (by omega) (by omega) h3 h4]
  ·rw [if_neg c,if_neg c]
 rw [Yt]
 rcases Nat.lt_trichotomy i k with hi | hi | hi
 ·by_cases h1:j<k
  ·exact same i j (by omega) (by omega) (by omega) (by omega) (.inl h1) hij hj
  by_cases h2:j=k
  ·subst h2
   rw [g5 i hi,dr.app,List.count_append]
   have e1:=x i (j+1) (by omega) hk w
   rw [Yt] at e1
   have e2:=Zbl dr (F i j) [[t]] w
   have e3:=Y3 ht (F i j) w
   have e4:=JA (x i j hij hj) [[t]] w
   unfold Sg at e4
   rw [Za6] at e4
   have key:(ZK n (fun m=>if i<m/\m<j+1 then (ZD (F i m) (F m (j+1))).count w else 0)+ZK n (fun m=>if m=j then (ZD (F i j) (F j (j+1))).count w else 0)+ZK n (fun m=>(ZD (if i<m/\m<j then ZD (F i m) (F m j) else []) [[t]]).count w)) % 2=ZK n (fun m=>if i<m/\m<j then (ZD (G i m) (G m j)).count w else 0) % 2:=by
    rw [<- Yl,<- Yl]
    refine JY n fun m hm=>?_
    by_cases c1:m=j
    ·subst c1
     rw [if_pos (by omega),if_pos rfl,if_neg (by omega),if_neg (by omega)]
     show (_+_+0) % 2=0
     omega
    ·rw [if_neg c1]
     by_cases c2:i<m/\m<j
     ·rw [if_pos (by omega),if_pos c2,if_pos c2,g6 i m (by omega) (by omega) (by omega) (by omega),g5 m c2.2,YK,YL];omega
     ·rw [if_neg (by omega),if_neg c2,if_neg c2];rfl
   rw [J4 j _ n hj] at key
   omega
  by_cases h3:j=k+1
  ·subst h3
   rw [g4 i hi,x i k hi (by omega) w,Yt]
   congr 1
   refine ZU n fun m hm=>?_
   by_cases c1:m=k
   ·subst c1
    rw [if_neg (by omega),if_pos (by omega),g1,Ye];rfl
   ·by_cases c2:i<m/\m<k
    ·rw [if_pos c2,if_pos (by omega),g6 i m (by omega) (by omega) (by omega) (by omega),g4 m c2.2]
    ·rw [if_neg c2,if_neg (by omega)]
  ·rw [g6 i j (by omega) (by omega) (by omega) (by omega),x i j hij hj w,Yt,ZbU _ hk,ZbU (f:=fun m=>if i<m/\m<j then (ZD (G i m) (G m j)).count w else 0) hk]
   rw [if_pos (show i<k/\k<j by omega),if_pos (show i<k+1/\k+1<j by omega),if_pos (show i<k/\k<j by omega),if_pos (show i<k+1/\k+1<j by omega),g5 i hi,g2 j (by omega),g4 i hi,g3 j (by omega),Y0,List.count_append,YK,YL]
   have e:ZK n (fun m=>if m=k∨m=k+1 then 0 else if i<m/\m<j then (ZD (F i m) (F m j)).count w else 0)=ZK n (fun m=>if m=k∨m=k+1 then 0 else if i<m/\m<j then (ZD (G i m) (G m j)).count w else 0):=by
    refine ZU n fun m hm=>?_
    by_cases c:m=k∨m=k+1
    ·rw [if_pos c,if_pos c]
    ·rw [if_neg c,if_neg c,g6 i m (by omega) (by omega) (by omega) (by omega),g6 m j (by omega) (by omega) (by omega) (by omega)]
   rw [e]
   omega
 ·subst hi
  by_cases h1:j=i+1
  ·subst h1
   rw [g1,dr.nil,ZU (g:=fun _=>0) n fun m _=>if_neg (by omega),JS];rfl
  ·rw [g2 j (by omega),x (i+1) j (by omega) hj w,Yt]
   congr 1
   refine ZU n fun m hm=>?_
   by_cases c1:m=i+1
   ·subst c1
    rw [if_neg (by omega),if_pos (by omega),g1];rfl
   ·by_cases c2:i+1<m/\m<j
    ·rw [if_pos c2,if_pos (by omega),g2 m (by omega),g6 m j (by omega) (by omega) (by omega) (by omega)]
    ·rw [if_neg c2,if_neg (by omega)]
 ·by_cases h1:i=k+1
  ·subst h1
   rw [g3 j (by omega),dr.app,List.count_append]
   have e1:=x k j (by omega) hj w
   rw [Yt] at e1
   have e2:=Zbl dr [[t]] (F (k+1) j) w
   have e3:=JA ht (F (k+1) j) w
   have e4:=Y3 (x (k+1) j hij hj) [[t]] w
   unfold Sg at e4
   rw [Zaa] at e4
   have key:(ZK n (fun m=>if k<m/\m<j then (ZD (F k m) (F m j)).count w else 0)+ZK n (fun m=>if m=k+1 then (ZD (F k (k+1)) (F (k+1) j)).count w else 0)+ZK n (fun m=>(ZD [[t]] (if k+1<m/\m<j then ZD (F (k+1) m) (F m j) else [])).count w)) % 2=ZK n (fun m=>if k+1<m/\m<j then (ZD (G (k+1) m) (G m j)).count w else 0) % 2:=by
    rw [<- Yl,<- Yl]
    refine JY n fun m hm=>?_
    by_cases c1:m=k+1
    ·subst c1
     rw [if_pos (by omega),if_pos rfl,if_neg (by omega),if_neg (by omega),Ye]
     show (_+_+0) % 2=0
     omega
    ·rw [if_neg c1]
     by_cases c2:k+1<m/\m<j
     ·rw [if_pos (by omega),if_pos c2,if_pos c2,g3 m (by omega),g6 m j (by omega) (by omega) (by omega) (by omega),Y0,List.count_append,YL];omega
     ·rw [if_neg (by omega),if_neg c2,if_neg c2,Ye];rfl
   rw [J4 (k+1) _ n hk] at key
   omega
  ·exact same i j (by omega) (by omega) (by omega) (by omega) (.inr (by omega)) hij hj
def Zbj (k:Nat) (t:Int) (F:Nat->Nat->WS):Nat->WS:=fun i=>F i (k+1)++ZD (F i k) [[t]]
def Ze0 (k:Nat) (t:Int) (F:Nat->Nat->WS):Nat->WS:=fun j=>F k j++ZD [[t]] (F (k+1) j)
def Zb2 (k:Nat) (t:Int) (F:Nat->Nat->WS):Nat->Nat->WS:=fun i j=>
 if i<k/\k<=j then F i (j+2)++ZD (Zbj k t F i) (Ze0 k t F (j+2)) else F (if i<k then i else i+2) (if j<k then j else j+2)
theorem Zkj (k:Nat) (t:Int) (F:Nat->Nat->WS) (i j:Nat):Y8 (Zb2 k t F i j) (ZaQ k t F i j):=by
 unfold Zb2 ZaQ
 split
 ·have pl:∀A B:WS,Y8 (A++B) (Yx A B):=fun A B=>(Ym _).symm
  have tm:∀A B:WS,Y8 (ZD A B) (ZL A B):=fun A B=>(Ym _).symm
  refine (Y8.app (Y8.refl _) ?_).trans (pl _ _)
  refine (ZfV ?_ ?_).trans (tm _ _)
  ·exact (Y8.app (Y8.refl _) (tm _ _)).trans (pl _ _)
  ·exact (Y8.app (Y8.refl _) (tm _ _)).trans (pl _ _)
 ·exact Y8.refl _
theorem ZfT:∀A:WS,ZD A [[]]=A
 | []=>rfl
 | a::A=>by rw [ZY,ZfT A];simp
theorem ZjY (A:WS):ZD [[]] A=A:=by unfold ZD;simp
theorem Zks {D:WS->WS} (dr:Der D) {n k:Nat}{t:Int}{F:Nat->Nat->WS} (x:Hng D (n+2) F) (hk:k<=n) (ht:Y8 (D [[t]]) (F k (k+1) ++ [[]])):Hng D n (Zb2 k t F):=fun i j hij hj w=>by
 have du:∀i,i<k->Y8 (D (Zbj k t F i)) (LS (n+2) (fun m=>if i<m/\m<k then ZD (F i m) (Zbj k t F m) else [])++F i k):=fun i hi w=>by
  unfold Zbj
  rw [dr.app,List.count_append,List.count_append,ZcR]
  have e1:=x i (k+1) (by omega) (by omega) w
  rw [Yt] at e1
  have e2:=Zbl dr (F i k) [[t]] w
  have e3:=Y3 ht (F i k) w
  rw [YK,ZfT] at e3
  have e4:=JA (x i k hi (by omega)) [[t]] w
  unfold Sg at e4
  rw [Za6] at e4
  have key:(ZK (n+2) (fun m=>if i<m/\m<k+1 then (ZD (F i m) (F m (k+1))).count w else 0)+ZK (n+2) (fun m=>if m=k then (ZD (F i k) (F k (k+1))).count w else 0)+ZK (n+2) (fun m=>(ZD (if i<m/\m<k then ZD (F i m) (F m k) else []) [[t]]).count w)) % 2=ZK (n+2) (fun m=>(if i<m/\m<k then ZD (F i m) (F m (k+1)++ZD (F m k) [[t]]) else []).count w) % 2:=by
   rw [<- Yl,<- Yl]
   refine JY _ fun m hm=>?_
   by_cases c1:m=k
   ·subst c1
    rw [if_pos (by omega),if_pos rfl,if_neg (by omega),if_neg (by omega)]
    show (_+_+0) % 2=0
    omega
   ·rw [if_neg c1]
    by_cases c2:i<m/\m<k
    ·rw [if_pos (by omega),if_pos c2,if_pos c2,YK,YL];omega
    ·rw [if_neg (by omega),if_neg c2,if_neg c2];rfl
  rw [J4 k _ (n+2) (by omega)] at key
  omega
 have dv:∀j,k+1<j->j<n+2->Y8 (D (Ze0 k t F j)) (LS (n+2) (fun m=>if k+1<m/\m<j then ZD (Ze0 k t F m) (F m j) else [])++F (k+1) j):=fun j hj hj2 w=>by
  unfold Ze0
  rw [dr.app,List.count_append,List.count_append,ZcR]
  have e1:=x k j (by omega) hj2 w
  rw [Yt] at e1
  have e2:=Zbl dr [[t]] (F (k+1) j) w
  have e3:=JA ht (F (k+1) j) w
  rw [Y0,List.count_append,ZjY] at e3
  have e4:=Y3 (x (k+1) j hj hj2) [[t]] w
  unfold Sg at e4
  rw [Zaa] at e4
  have key:(ZK (n+2) (fun m=>if k<m/\m<j then (ZD (F k m) (F m j)).count w else 0)+ZK (n+2) (fun m=>if m=k+1 then (ZD (F k (k+1)) (F (k+1) j)).count w else 0)+ZK (n+2) (fun m=>(ZD [[t]] (if k+1<m/\m<j then ZD (F (k+1) m) (F m j) else [])).count w)) % 2=ZK (n+2) (fun m=>(if k+1<m/\m<j then ZD (F k m++ZD [[t]] (F (k+1) m)) (F m j) else []).count w) % 2:=by
   rw [<- Yl,<- Yl]
   refine JY _ fun m hm=>?_
   by_cases c1:m=k+1
   ·subst c1
    rw [if_pos (by omega),if_pos rfl,if_neg (by omega),if_neg (by omega),Ye]
    show (_+_+0) % 2=0
    omega
   ·rw [if_neg c1]
    by_cases c2:k+1<m/\m<j
    ·rw [if_pos (by omega),if_pos c2,if_pos c2,Y0,List.count_append,YL];omega
    ·rw [if_neg (by omega),if_neg c2,if_neg c2,Ye];rfl
  rw [J4 (k+1) _ (n+2) (by omega)] at key
  omega
 have eu:∀i,Zbj k t F i=F i (k+1)++ZD (F i k) [[t]]:=fun _=>rfl
 have ev:∀j,Ze0 k t F j=F k j++ZD [[t]] (F (k+1) j):=fun _=>rfl
 have gA:∀i j,i<k->k<=j->Zb2 k t F i j=F i (j+2)++ZD (Zbj k t F i) (Ze0 k t F (j+2)):=fun i j h1 h2=>by unfold Zb2;rw [if_pos ⟨h1,h2⟩]
 have gB:∀i j,i<k->j<k->Zb2 k t F i j=F i j:=fun i j h1 h2=>by unfold Zb2;rw [if_neg (by omega),if_pos h1,if_pos h2]
 have gC:∀i j,k<=i->k<=j->Zb2 k t F i j=F (i+2) (j+2):=fun i j h1 h2=>by unfold Zb2;rw [if_neg (by omega),if_neg (by omega),if_neg (by omega)]
 generalize Zbj k t F=u at *
 generalize Ze0 k t F=v at *
 generalize Zb2 k t F=G at *
 rw [Yt]
 by_cases hi:i<k
 ·by_cases hj1:j<k
  ·rw [gB i j hi hj1,x i j hij (by omega) w,Yt]
   have e:ZK (n+2) (fun m=>if i<m/\m<j then (ZD (F i m) (F m j)).count w else 0)=ZK (n+2) (fun m=>if m=k∨m=k+1 then 0 else (fun m=>if i<m/\m<j then (ZD (F i m) (F m j)).count w else 0) m):=by
    refine ZU _ fun m hm=>?_
    by_cases c:m=k∨m=k+1
    ·rw [if_pos c,if_neg (by omega)]
    ·rw [if_neg c]
   rw [e,GS k _ n hk]
   congr 1
   refine ZU n fun m hm=>?_
   by_cases c:m<k
   ·rw [if_pos c]
    by_cases c2:i<m/\m<j
    ·rw [if_pos c2,if_pos c2,gB i m hi c,gB m j c hj1]
    ·rw [if_neg c2,if_neg c2]
   ·rw [if_neg c,if_neg (by omega),if_neg (by omega)]
  ·rw [gA i j hi (by omega),dr.app,List.count_append]
   have e1:=x i (j+2) (by omega) (by omega) w
   rw [Yt,ZbU (k:=k) _ (by omega)] at e1
   rw [if_pos (show i<k/\k<j+2 by omega),if_pos (show i<k+1/\k+1<j+2 by omega)] at e1
   have e2:=Zbl dr (u i) (v (j+2)) w
   have e3:=JA (du i hi) (v (j+2)) w
   rw [Y0,List.count_append,Za6] at e3
   have e4:=Y3 (dv (j+2) (by omega) (by omega)) (u i) w
   rw [YK,Zaa] at e4
   have e5:(ZD (F i k) (v (j+2))).count w=(ZD (F i k) (F k (j+2))).count w+(ZD (F i k) (ZD [[t]] (F (k+1) (j+2)))).count w:=by rw [ev,YK]
   have e6:(ZD (u i) (F (k+1) (j+2))).count w=(ZD (F i (k+1)) (F (k+1) (j+2))).count w+(ZD (F i k) (ZD [[t]] (F (k+1) (j+2)))).count w:=by rw [eu,Y0,List.count_append,YL]
   have eh:ZK n (fun m=>if i<m/\m<j then (ZD (G i m) (G m j)).count w else 0)=ZK (n+2) (fun m=>if m=k∨m=k+1 then 0 else (fun m=>if m<k then (if i<m then (ZD (F i m) (F m (j+2)++ZD (u m) (v (j+2)))).count w else 0) else (if m<j+2 then (ZD (F i m++ZD (u i) (v m)) (F m (j+2))).count w else 0)) m):=by
    rw [GS k _ n hk]
    refine ZU n fun m hm=>?_
    by_cases c:m<k
    ·rw [if_pos c,if_pos c]
     by_cases c2:i<m
     ·rw [if_pos (by omega),if_pos c2,gB i m hi c,gA m j c (by omega)]
     ·rw [if_neg (by omega),if_neg c2]
    ·rw [if_neg c,if_neg (show ¬m+2<k by omega)]
     by_cases c2:m<j
     ·rw [if_pos (show i<m/\m<j by omega),if_pos (show m+2<j+2 by omega),gA i m hi (by omega),gC m j (by omega) (by omega)]
     ·rw [if_neg (show ¬(i<m/\m<j) by omega),if_neg (show ¬m+2<j+2 by omega)]
   rw [eh]
   have key:(ZK (n+2) (fun m=>if m=k∨m=k+1 then 0 else if i<m/\m<j+2 then (ZD (F i m) (F m (j+2))).count w else 0)+ZK (n+2) (fun m=>(ZD (if i<m/\m<k then ZD (F i m) (u m) else []) (v (j+2))).count w)+ZK (n+2) (fun m=>(ZD (u i) (if k+1<m/\m<j+2 then ZD (v m) (F m (j+2)) else [])).count w)) % 2=ZK (n+2) (fun m=>if m=k∨m=k+1 then 0 else (fun m=>if m<k then (if i<m then (ZD (F i m) (F m (j+2)++ZD (u m) (v (j+2)))).count w else 0) else (if m<j+2 then (ZD (F i m++ZD (u i) (v m)) (F m (j+2))).count w else 0)) m) % 2:=by
    rw [<- Yl,<- Yl]
    refine JY _ fun m hm=>?_
    by_cases c1:m=k∨m=k+1
    ·rw [if_pos c1,if_pos c1,if_neg (by omega),if_neg (by omega),Ye];rfl
    ·rw [if_neg c1,if_neg c1]
     dsimp only
     by_cases c2:m<k
     ·rw [if_pos c2,if_neg (show ¬(k+1<m/\m<j+2) by omega),Ye]
      by_cases c3:i<m
      ·rw [if_pos (by omega),if_pos (by omega),if_pos c3,YK,YL];rfl
      ·rw [if_neg (by omega),if_neg (by omega),if_neg c3];rfl
     ·rw [if_neg c2,if_neg (show ¬(i<m/\m<k) by omega)]
      by_cases c3:m<j+2
      ·rw [if_pos (by omega),if_pos (by omega),if_pos c3,Y0,List.count_append,YL]
       show (_+0+_) % 2=_
       omega
      ·rw [if_neg (by omega),if_neg (by omega),if_neg c3,Ye];rfl
   omega
 ·rw [gC i j (by omega) (by omega),x (i+2) (j+2) (by omega) (by omega) w,Yt]
  have e:ZK (n+2) (fun m=>if i+2<m/\m<j+2 then (ZD (F (i+2) m) (F m (j+2))).count w else 0)=ZK (n+2) (fun m=>if m=k∨m=k+1 then 0 else (fun m=>if i+2<m/\m<j+2 then (ZD (F (i+2) m) (F m (j+2))).count w else 0) m):=by
   refine ZU _ fun m hm=>?_
   by_cases c:m=k∨m=k+1
   ·rw [if_pos c,if_neg (by omega)]
   ·rw [if_neg c]
  rw [e,GS k _ n hk]
  congr 1
  refine ZU n fun m hm=>?_
  by_cases c:m<k
  ·rw [if_pos c,if_neg (by omega),if_neg (by omega)]
  ·rw [if_neg c]
   by_cases c2:i<m/\m<j
   ·rw [if_pos (by omega),if_pos c2,gC i m (by omega) (by omega),gC m j (by omega) (by omega)]
   ·rw [if_neg (by omega),if_neg c2]
theorem ZjQ {ls:List (Str×Int)}{i:Nat}{q:Str×Int} (hq:ls[i]? = some q) {pr:Str->Bool}:isK ls pr i=pr q.1:=by
 unfold isK
 rw [hq]
 cases h:pr q.1<;>simp [h]
theorem Zil {A B:WS}{w:List Int} (h:w∈Yx A B):w∈A∨w∈B:=List.mem_append.mp ((ZE _).sub h)
theorem ZgU {A B:WS}{w:List Int} (h:w∈ZL A B):∃u∈A,∃v∈B,w=u++v:=by
 obtain ⟨u,hu,h⟩:=List.mem_flatMap.mp ((ZE _).sub h)
 obtain ⟨v,hv,rfl⟩:=List.mem_map.mp h
 exact ⟨u,hu,v,hv,rfl⟩
theorem Zcj {X:L2.Cx}:Passes (CX1 P w) X (fun _ _ _=>False):=fun _ _ _ _ _ _ _ c=>by
 obtain ⟨_,_,_,_,_,_,_,_,_,_,_,_,_,_,h⟩:=c
 exact h.elim
theorem ZfI (ls:List (Str×Int)) (u v:List Int):Gf ls (u++v)=ZD (Gf ls u) [v]++ZD [u] (Gf ls v):=by
 have e1:∀A:WS,ZD A [v]=A.map fun a=>a++v:=fun A=>by
  unfold ZD
  induction A with
  | nil=>rfl
  | cons a A ih=>rw [List.flatMap_cons,ih];rfl
 have e2:ZD [u] (Gf ls v)=(Gf ls v).map fun m=>u++m:=by unfold ZD;simp
 rw [e1,e2]
 unfold Gf
 rw [List.length_append,List.range_add,List.flatMap_append,List.map_flatMap,List.map_flatMap,List.flatMap_map]
 congr 1
 ·rw [List.flatMap_def,List.flatMap_def]
  congr 1
  refine List.map_congr_left fun j hj=>?_
  have hj:=List.mem_range.mp hj
  unfold putN
  rw [List.getD_eq_getElem?_getD,List.getD_eq_getElem?_getD,List.getElem?_append_left hj,List.map_map]
  refine List.map_congr_left fun m _=>?_
  show _=u.take j++m++u.drop (j+1)++v
  rw [List.take_append_of_le_length (by lia),List.drop_append_of_le_length (by lia)]
  simp [List.append_assoc]
 ·rw [List.flatMap_def,List.flatMap_def]
  congr 1
  refine List.map_congr_left fun j hj=>?_
  unfold putN
  rw [List.getD_eq_getElem?_getD,List.getD_eq_getElem?_getD,List.getElem?_append_right (by lia),Nat.add_sub_cancel_left,List.map_map]
  refine List.map_congr_left fun m _=>?_
  show _=u++(v.take j++m++v.drop (j+1))
  rw [List.take_append,List.drop_append,List.take_of_length_le (by lia),List.drop_eq_nil_of_le (by lia),Nat.add_sub_cancel_left,Nat.add_assoc,Nat.add_sub_cancel_left]
  simp [List.append_assoc]
theorem JW (ls:List (Str×Int)) (w:List Int):ZX ls [w]=Gf ls w:=by unfold ZX;simp
theorem Zjj {ls:List (Str×Int)}{a:Nat}{q:Str×Int} (hq:ls[a]? = some q) (hb:q.1 ≠ "born"):(a:Int)∈WH ls:=by
 unfold WH Jd
 refine List.mem_filterMap.mpr ⟨a,List.mem_range.mpr (List.getElem?_eq_some_iff.mp hq).1,?_⟩
 rw [ZjQ hq,if_pos]
 simpa using hb
def InS (S:List Int) (F:Nat->Nat->WS):Prop:=∀i j,∀w∈F i j,∀n∈w,n∈S
theorem GZ {S:List Int}{A B:WS} (a:∀w∈A,∀n∈w,n∈S) (b:∀w∈B,∀n∈w,n∈S):∀w∈Yx A B,∀n∈w,n∈S:=fun w hw=>(Zil hw).elim (a w) (b w)
theorem Gq {S:List Int}{A B:WS} (a:∀w∈A,∀n∈w,n∈S) (b:∀w∈B,∀n∈w,n∈S):∀w∈ZL A B,∀n∈w,n∈S:=fun w hw n hn=>by
 obtain ⟨u,hu,v,hv,rfl⟩:=ZgU hw
 exact (List.mem_append.mp hn).elim (a u hu n) (b v hv n)
theorem Zmh {S:List Int}{F:Nat->Nat->WS}{x:Str}{k:Nat}{t:Int} (h:InS S F) (ht:x ≠ "born" -> t∈S):InS S (nxF x k t F):=by
 unfold nxF
 split
 ·intro i j w hw
  unfold Y5 at hw
  split at hw
  ·rw [List.mem_singleton.mp hw];exact fun n hn=>nomatch hn
  ·split at hw
   ·cases hw
   ·exact h _ _ w hw
 ·rename_i c
  have t1:∀w ∈ [[t]],∀n∈w,n∈S:=fun w hw n hn=>by rw [List.mem_singleton.mp hw] at hn;rw [List.mem_singleton.mp hn];exact ht c
  split
  ·intro i j w hw
   unfold JE at hw
   split at hw
   ·cases hw
   ·split at hw
    ·exact h _ _ w hw
    ·split at hw
     ·exact GZ (h _ _) (Gq t1 (h _ _)) w hw
     ·split at hw
      ·exact h _ _ w hw
      ·split at hw
       ·exact GZ (h _ _) (Gq (h _ _) t1) w hw
       ·exact h _ _ w hw
  ·intro i j w hw
   unfold ZaQ at hw
   split at hw
   ·exact GZ (h _ _) (Gq (GZ (h _ _) (Gq (h _ _) t1)) (GZ (h _ _) (Gq t1 (h _ _)))) w hw
   ·exact h _ _ w hw
theorem Zdh (ls:List (Str×Int)):∀a,a<=ls.length->InS (WH ls) (tF (ls.take a))
 | 0,_=>fun i j w hw=>by rw [List.take_zero] at hw;cases hw
 | a+1,ha=>by
  have hq:ls[a]? = some (ls[a]'(by lia)):=by simp
  have et:ls.take (a+1)=ls.take a ++ [ls[a]'(by lia)]:=by rw [List.take_add_one,hq];rfl
  rw [et,Zac,show (ls.take a).length=a by rw [List.length_take];lia]
  exact Zmh (Zdh ls a (by lia)) fun hb=>Zjj hq hb
theorem ZkM {ls:List (Str×Int)}{t:Nat} (ht:t<=ls.length):∀w∈dW ls t,∀n∈w,n∈WH ls:=by
 intro w hw
 unfold dW at hw
 cases h:ls[t]? with
 | none=>rw [h] at hw;cases hw
 | some p=>
  rw [h] at hw
  dsimp only at hw
  split at hw
  ·exact GZ (Zdh ls t ht _ _) (fun w hw n hn=>by rw [List.mem_singleton.mp hw] at hn;cases hn) w hw
  ·exact Zdh ls t ht _ _ w hw
theorem ZkA (ls:List (Str×Int)) (u:List Int) (w:List Int):∀B:WS,(B.flatMap fun v=>Gf ls (u++v)).count w=(ZD (Gf ls u) B).count w+(ZD [u] (ZX ls B)).count w
 | []=>by
  show 0=(ZD (Gf ls u) []).count w+(ZD [u] []).count w
  rw [Ye,Ye];rfl
 | v::B=>by
  have e1:=YK w [v] B (Gf ls u)
  have e2:=YK w (Gf ls v) (ZX ls B) [u]
  have e3:ZX ls (v::B)=Gf ls v++ZX ls B:=by unfold ZX;rw [List.flatMap_cons]
  rw [List.flatMap_cons,List.count_append,ZkA ls u w B,ZfI,List.count_append,e3,e2]
  have e1:(ZD (Gf ls u) (v::B)).count w=(ZD (Gf ls u) [v]).count w+(ZD (Gf ls u) B).count w:=e1
  rw [e1]
  lia
theorem ZkN (ls:List (Str×Int)) (B:WS) (w:List Int):∀A:WS,(ZX ls (ZD A B)).count w=(ZD (ZX ls A) B).count w+(ZD A (ZX ls B)).count w
 | []=>rfl
 | u::A=>by
  have e3:ZX ls (u::A)=Gf ls u++ZX ls A:=by unfold ZX;rw [List.flatMap_cons]
  have e4:ZX ls (ZD (u::A) B)=(B.flatMap fun v=>Gf ls (u++v))++ZX ls (ZD A B):=by
   rw [ZY]
   unfold ZX
   rw [List.flatMap_append,List.flatMap_map]
  have e5:ZD (u::A) (ZX ls B)=ZD [u] (ZX ls B)++ZD A (ZX ls B):=by
   rw [show u::A = [u]++A from rfl,Y0]
  rw [e4,List.count_append,ZkA,ZkN ls B w A,e3,Y0,List.count_append,e5,List.count_append]
  lia
theorem der (ls:List (Str×Int)):Der (ZX ls):=
 ⟨fun A B=>by unfold ZX;rw [List.flatMap_append],fun A B w=>by rw [ZkN,List.count_append],fun h=>Zhc _ h,rfl,by unfold ZX Gf;simp⟩
theorem Zax (ls:List (Str×Int)) (t:Nat):ZX ls [[(t:Int)]]=dW ls t:=by
 unfold ZX Gf putN
 simp
theorem ZcX {ls:List (Str×Int)} (hW:Wk ls 0):∀a,a<=ls.length->Hng (ZX ls) (tN (ls.take a)) (tF (ls.take a))
 | 0,_=>fun i j _ hj=>absurd hj (by rw [List.take_zero];exact Nat.not_lt_zero _)
 | a+1,ha=>by
  have hq:ls[a]? = some (ls[a]'(by lia)):=by simp
  have et:ls.take (a+1)=ls.take a ++ [ls[a]'(by lia)]:=by rw [List.take_add_one,hq];rfl
  have la:(ls.take a).length=a:=by rw [List.length_take];lia
  have ih:=ZcX hW a (by lia)
  obtain ⟨k0,ft⟩:=Uz hW a _ hq
  rw [et,Zac,Ua,la]
  generalize ls[a]'(by lia)=p at *
  obtain ⟨x,kk⟩:=p
  dsimp only at k0 ft ⊢
  obtain ⟨k,rfl⟩:=Int.eq_ofNat_of_zero_le k0
  rw [Int.toNat_natCast] at ft ⊢
  rcases ft with ⟨rfl,hk⟩ | ⟨rfl,hk⟩ | ⟨rfl,hk⟩
  ·have e1:nxN "born" (tN (ls.take a))=tN (ls.take a)+2:=by unfold nxN;rw [if_pos rfl]
   have e2:nxF "born" k a (tF (ls.take a))=Y5 k (tF (ls.take a)):=by unfold nxF;rw [if_pos rfl]
   rw [e1,e2]
   exact ZhX (der ls) ih hk
  ·have e1:nxN "cross" (tN (ls.take a))=tN (ls.take a):=by unfold nxN;rw [if_neg (by decide),if_pos rfl]
   have e2:nxF "cross" k a (tF (ls.take a))=JE k a (tF (ls.take a)):=by unfold nxF;rw [if_neg (by decide),if_pos rfl]
   rw [e1,e2]
   refine ZcG (der ls) (fun i j _ _=>ZgX k a _ i j) (Zg2 (der ls) ih hk ?_)
   rw [Zax,ZdQ hq (by decide)]
   exact Y8.refl _
  ·have e1:nxN "end" (tN (ls.take a))=tN (ls.take a)-2:=by unfold nxN;rw [if_neg (by decide),if_neg (by decide)]
   have e2:nxF "end" k a (tF (ls.take a))=ZaQ k a (tF (ls.take a)):=by unfold nxF;rw [if_neg (by decide),if_neg (by decide)]
   rw [e1,e2]
   obtain ⟨n,hn⟩:∃n,tN (ls.take a)=n+2:=⟨tN (ls.take a)-2,by lia⟩
   rw [hn] at ih hk ⊢
   refine ZcG (der ls) (fun i j _ _=>Zkj k a _ i j) (Zks (der ls) ih (by lia) ?_)
   rw [Zax,Zbv hq]
   exact Ym _
theorem Zdw {L M:WS} (h:Y8 L M):canon L=canon M:=((ZE L).par h).canon
theorem canon_zero {L:WS} (h:Y8 L []):canon L = []:=(Zdw h).trans rfl
theorem ZbG {ls:List (Str×Int)} (hW:Wk ls 0) {t:Int} (h:t∈WH ls):Y8 (ZX ls (dW ls t.toNat)) []:=by
 obtain ⟨j,hj⟩:=List.mem_iff_getElem?.mp h
 obtain ⟨a,⟨x,kk⟩,rfl,ha,hp,hkd⟩:=Wa hj
 rw [Int.toNat_natCast]
 obtain ⟨k0,ft⟩:=Uz hW a _ hp
 dsimp only at k0 ft hkd
 obtain ⟨k,rfl⟩:=Int.eq_ofNat_of_zero_le k0
 rw [Int.toNat_natCast] at ft
 have hk:k+1<tN (ls.take a):=by
  rcases ft with ⟨z,_⟩ | ⟨_,z⟩ | ⟨_,z⟩
  ·exact absurd z (by simpa using hkd)
  ·exact z
  ·exact z
 have z:=ZhY (ZcX hW a (by lia)) hk
 by_cases e:x = "end"
 ·subst e
  rw [Zbv hp]
  refine ((der ls).par (Ym _)).trans ?_
  rw [(der ls).app,(der ls).one,List.append_nil]
  exact z
 ·rw [ZdQ hp e];exact z
theorem Zjv {ls:List (Str×Int)}{t:Int} (h:t∈WH ls):((t.toNat:Nat):Int)=t:=by
 obtain ⟨j,hj⟩:=List.mem_iff_getElem?.mp h
 obtain ⟨a,_,rfl,_⟩:=Wa hj
 rfl
theorem ZbR {ls:List (Str×Int)} (hW:Wk ls 0):∀v:List Int,(∀t∈v,t∈WH ls)->Y8 (ZX ls (Gf ls v)) []
 | [],_=>fun w=>by show (ZX ls (Gf ls [])).count w % 2=0;unfold ZX Gf;simp
 | t::v,h=>fun w=>by
  have ht:=h t List.mem_cons_self
  have ih:=ZbR hW v (fun s hs=>h s (List.mem_cons_of_mem _ hs))
  have e0:Gf ls (t::v)=ZD (Gf ls [t]) [v]++ZD [[t]] (Gf ls v):=ZfI ls [t] v
  have e1:Gf ls [t]=dW ls t.toNat:=by
   have:=Zax ls t.toNat
   rw [Zjv ht,JW] at this
   exact this
  have e2:ZX ls [[t]]=dW ls t.toNat:=by rw [JW,e1]
  have dr:=der ls
  rw [e0,dr.app,List.count_append,e1]
  have a1:=Zbl dr (dW ls t.toNat) [v] w
  have a2:=Zbl dr [[t]] (Gf ls v) w
  rw [JW] at a1
  rw [e2] at a2
  have a3:=JA (ZbG hW ht) [v] w
  have a4:=Y3 ih [[t]] w
  rw [Ye] at a4
  have a5:(ZD [] [v]).count w=0:=rfl
  have a6:([]:WS).count w=0:=rfl
  show _=([]:WS).count w % 2
  omega
theorem ZdA {ls:List (Str×Int)} (hW:Wk ls 0) {v:List Int} (h:∀t∈v,t∈WH ls):canon (ZX ls (canon (ZX ls [v]))) = []:=by
 refine canon_zero (((der ls).par (Ym _)).trans ?_)
 rw [JW]
 exact ZbR hW v h
theorem Zey {ls:List (Str×Int)} (hW:Wk ls 0) {t:Int} (h:t∈WH ls):canon (ZX ls (dW ls t.toNat)) = []:=canon_zero (ZbG hW h)
def ZaC (F:Nat->Nat->WS) (i j:Nat):Nat->WS
 | 0=>[]
 | c+1=>Yx (ZaC F i j c) (ZL (F i (i+1+c)) (F (i+1+c) j))
theorem ZfA (F:Nat->Nat->WS) (i j:Nat) (w:List Int):∀c,(ZaC F i j c).count w % 2=ZK c (fun x=>(ZD (F i (i+1+x)) (F (i+1+x) j)).count w) % 2
 | 0=>rfl
 | c+1=>by
  have h:=ZfA F i j w c
  have e1:=Ym (ZaC F i j c++ZL (F i (i+1+c)) (F (i+1+c) j)) w
  have e2:=Ym (ZD (F i (i+1+c)) (F (i+1+c) j)) w
  rw [List.count_append] at e1
  show (canon (ZaC F i j c++ZL (F i (i+1+c)) (F (i+1+c) j))).count w % 2=(ZK c _+(ZD (F i (i+1+c)) (F (i+1+c) j)).count w) % 2
  unfold ZL at *
  omega
theorem ZkU (F:Nat->Nat->WS) (i j:Nat):∀c,canon (ZaC F i j c)=ZaC F i j c
 | 0=>rfl
 | c+1=>canon_id (ZE _).rise
theorem UG (f:Nat->Nat) (i:Nat):∀(n c:Nat),i+1+c<=n->ZK n (fun m=>if i<m/\m<i+1+c then f m else 0)=ZK c (fun x=>f (i+1+x))
 | 0,c,h=>absurd h (by lia)
 | n+1,c,h=>by
  show ZK n _+(if i<n/\n<i+1+c then f n else 0)=_
  by_cases e:n+1=i+1+c
  ·cases c with
   | zero=>
    rw [if_neg (by lia),ZU (g:=fun _=>0) n fun m hm=>if_neg (by lia),JS];rfl
   | succ c=>
    have en:n=i+1+c:=by lia
    have ih:=UG f i n c (by lia)
    rw [if_pos (by lia)]
    show _=ZK c _+f (i+1+c)
    rw [<- ih,en]
    congr 1
    refine ZU _ fun m hm=>?_
    by_cases z:i<m
    ·rw [if_pos (by lia),if_pos (by lia)]
    ·rw [if_neg (by lia),if_neg (by lia)]
  ·rw [if_neg (by lia),UG f i n c (by lia)];rfl
theorem Zju {ls:List (Str×Int)} (hW:Wk ls 0) {a i j:Nat} (ha:a<=ls.length) (hij:i<j) (hj:j<tN (ls.take a)):canon (ZX ls (tF (ls.take a) i j))=ZaC (tF (ls.take a)) i j (j-(i+1)):=by
 rw [<- ZkU]
 refine Zdw fun w=>?_
 have sh:=UG (fun m=>(ZD (tF (ls.take a) i m) (tF (ls.take a) m j)).count w) i (tN (ls.take a)) (j-(i+1)) (by omega)
 rw [show i+1+(j-(i+1))=j by omega] at sh
 rw [ZcX hW a ha i j hij hj w,Yt,ZfA]
 exact congrArg (· % 2) sh
theorem ZfD {ls:List (Str×Int)} (hW:Wk ls 0) (hb:InB ls) {a:Nat} (h0:0<tN (ls.take a)) (i j:Nat):WB 112 (tF (ls.take a) i j):=by
 obtain ⟨n,h⟩:=Wg hW a
 refine YZ (ZiF h i j) ?_
 have b1:=hb.2.1
 have b2:=hb.2.2
 rw [GY] at b1 b2
 have k:=Zh1 h
 have tn:=Zcd h
 have c1:=UT "born" ls a
 have c2:=UT "cross" ls a
 unfold bdW
 have e4:2 ^ cnt "end" (ls.take a)<=2 ^ 3:=Nat.pow_le_pow_right (by decide) (by lia)
 calc 2 ^ cnt "end" (ls.take a)*(2+cnt "cross" (ls.take a))<=2 ^ 3*14:=Nat.mul_le_mul e4 (by lia)
  _<=112:=by decide
theorem ZdT {ls:List (Str×Int)} (hW:Wk ls 0) (hI:InB ls) {t:Int} (ht:t∈WH ls):∀w∈dW ls t.toNat,w.length<=110:=by
 obtain ⟨j,hj⟩:=List.mem_iff_getElem?.mp ht
 obtain ⟨a,⟨x,kk⟩,rfl,ha,hp,hkd⟩:=Wa hj
 rw [Int.toNat_natCast]
 obtain ⟨k0,ft⟩:=Uz hW a _ hp
 dsimp only at k0 ft hkd
 obtain ⟨k,rfl⟩:=Int.eq_ofNat_of_zero_le k0
 rw [Int.toNat_natCast] at ft
 have hk:k+1<tN (ls.take a):=by
  rcases ft with ⟨z,_⟩ | ⟨_,z⟩ | ⟨_,z⟩
  ·exact absurd z (by simpa using hkd)
  ·exact z
  ·exact z
 have wb:=ZfD (a:=a) hW hI (by lia) k (k+1)
 intro w hw
 by_cases e:x = "end"
 ·subst e
  rw [Zbv hp] at hw
  rcases List.mem_append.mp ((ZE _).sub hw) with z | z
  ·have:=(wb w z).1;lia
  ·rw [List.mem_singleton.mp z];simp
 ·rw [ZdQ hp e] at hw
  have:=(wb w hw).1;lia
def Ze4:Sp:=fun vs H Q _=>∃(l tA:Addr) (xs:List V) (ls:List (Str×Int)) (a:Nat),vs = [.ref l,.ref tA]/\H l=some (.lst xs)/\Zu H xs ls/\Wk ls 0/\InB ls/\ls.length<=60/\YC ls ls.length/\a<=ls.length/\Tab H tA (tN (ls.take a)) (tF (ls.take a)) /\ ∀H',Zd H H'->Q (.bl true) H'
abbrev GP:Stmt:=top 33
theorem Yv:Zw ["_law_drawing_here", "_law_table", "_law_many", "_law_i", "_law_j", "_law_due", "_law_m"] ["_law_drawing_here", "_law_table"] (Zh GP):={}
theorem Zjt {f C:Addr}{fd:FuncData} (F:YH K "_law_hang" "_law_hang" GP f fd) (Y7:GF P w K mg base 8 "deed_of" ["drawing", "one"] (Zan C)) (WY:JB P w K mg base 2 "_law_times" ["_law_one", "_law_other"] Zc9) (Gx:JB P w K mg base 2 "_law_plus" ["_law_one", "_law_other"] Zfk) (Z3:mg "len" = none) (Zt:mg "range" = none):Z6 P w K mg base WW 9 f fd ["_law_drawing_here", "_law_table"] Ze4:=by
 refine F.ok Yv (fun vs H Q E h=>?_) (fun cdv A outer s H vs Q E hr h=>?_)
 ·obtain ⟨l,tA,xs,ls,a,rfl,_⟩:=h
  rfl
 ·obtain ⟨l,tA,xs,ls,a,rfl,hl,hL,hW,hI,h60,few,ha,tb,k⟩:=h
  refine ⟨_,(Ze (Zq (i:=2) Yv.nd rfl (Or.inl rfl) (ZG (Yb (K:=K) rfl) (by rfl) Z3 PySem.boot_len (Za (pv 1) Zc)))
   (Ze (Yh PassesOwn.never rfl (Ya (by rfl) Zt (Za (pv 2) Zc)) (Zn (i:=3) Yv.nd rfl (Or.inl rfl)) (Zi (Yh PassesOwn.never rfl (Ub (by rfl) Zt (Za (Zm ZA (pv 3) Zf) (Za (pv 2) Zc))) (Zn (i:=4) Yv.nd rfl (Or.inl rfl)) (Ze (Zq (i:=5) Yv.nd rfl (Or.inl rfl) (Z4 Zc))
   (Ze (Yh PassesOwn.never rfl (Ub (by rfl) Zt (Za (Zm ZA (pv 3) Zf) (Za (pv 4) Zc))) (Zn (i:=6) Yv.nd rfl (Or.inl rfl)) (Zi (Zq (i:=5) Yv.nd rfl (Or.inl rfl) (Zv Gx hr (Za (pv 5) (Za (Zv WY hr (Za (Zx (Zk (K:=K) rfl) (Zx (Zk (K:=K) rfl) (pv 1) (pv 3) (fun _ _=>rfl)) (pv 6) (fun _ _=>rfl)) (Za (Zx (Zk (K:=K) rfl) (Zx (Zk (K:=K) rfl) (pv 1) (pv 6) (fun _ _=>rfl)) (pv 4) (fun _ _=>rfl)) Zc))) Zc))))))
   (Zi (YY (ZH (Zjf (K:=K) rfl hr.units) (Ju Y7 (hr.mono (by decide)) Zcj (Za (pv 0) (Za (Zx (Zk (K:=K) rfl) (Zx (Zk (K:=K) rfl) (pv 1) (pv 3) (fun _ _=>rfl)) (pv 4) (fun _ _=>rfl)) Zc))) (pv 5) (ZP _)) (Zi (Zz ZbJ)) Yd)))))))
   (Zi (Zz ZbJ)))),?_⟩
  have n8:=Zeg hW hI a
  have nl:(tN (ls.take a):Int)<=8:=by lia
  obtain ⟨ys0,eA,ly0⟩:∃ys,H tA=some (.lst ys)/\ys.length=tN (ls.take a):=by
   obtain ⟨A,e,m⟩:=tb
   exact ⟨_,e,by rw [List.length_map];exact m.1⟩
  refine ⟨_,rfl,tA,_,rfl,.inl (Zp.of eA),?_⟩
  rw [ly0]
  have item:∀{G:Hp}{i j:Nat} {σ:L2.St}{x y:Nat}{Q':VK},Zd H G->i<tN (ls.take a)->j<tN (ls.take a) -> σ[1]? = some (some (.ref tA)) -> σ[x]? = some (some (.int (i:Int))) -> σ[y]? = some (some (.int (j:Int)))->(∀e,WL G e (tF (ls.take a) i j)->Q' (.ref e) G) ->
    tOp (Zj9 K) (tOp (Zj9 K) (Zht 1) (Zht x)) (Zht y) σ G Q':=fun {G i j σ x y Q'} sG hi hj h1 hx hy q=>by
   obtain ⟨ys,r,eA,ly,hr,ro⟩:=(tb.same sG).row hi
   obtain ⟨us,e,er,lu,hu,we⟩:=ro.at hj
   exact ⟨_,h1,_,hx,tA,_,_,_,rfl,rfl,Zp.of eA,Zs hr,_,hy,r,_,_,_,rfl,rfl,Zp.of er,Zs hu,q e we⟩
  have gdI:∀i j,i<tN (ls.take a)->j<tN (ls.take a)->L2.Gd 1000 100000 (tF (ls.take a) i j):=fun i j hi hj=>⟨Nat.le_trans (few a ha i j hi hj) (by decide),fun v hv=>⟨by have:=(ZfD (a:=a) hW hI (by lia) i j v hv).1;lia,(ZfD (a:=a) hW hI (by lia) i j v hv).2⟩⟩
  have nmI:∀i j,i<tN (ls.take a)->j<tN (ls.take a)->NmS ls (tF (ls.take a) i j):=fun i j hi hj=>⟨Zdh ls a ha i j,Nat.le_trans (few a ha i j hi hj) (by decide),fun v hv=>by have:=(ZfD (a:=a) hW hI (by lia) i j v hv).1;lia⟩
  have dueL:∀i j c,i+1+c<=tN (ls.take a)->j<tN (ls.take a)->(ZaC (tF (ls.take a)) i j c).length<=40000*c:=fun i j c=>by
   induction c with
   | zero=>intro _ _;exact Nat.le_refl _
   | succ c ih=>
    intro hc hj
    have h1:=ih (by lia) hj
    have h2:(ZaC (tF (ls.take a)) i j (c+1)).length<=(ZaC (tF (ls.take a)) i j c).length+(ZL (tF (ls.take a) i (i+1+c)) (tF (ls.take a) (i+1+c) j)).length:=Ue _ _
    have h3:=Zae (tF (ls.take a) i (i+1+c)) (tF (ls.take a) (i+1+c) j)
    have h4:=Nat.mul_le_mul (few a ha i (i+1+c) (by lia) (by lia)) (few a ha (i+1+c) j (by lia) hj)
    lia
  refine ⟨_,rfl,_,rfl,by lia,by lia,Yk (fun i σ G=>∃v3 v4 v5 v6:Option V,σ = [some (.ref l),some (.ref tA),some (.int (tN (ls.take a):Int)),v3,v4,v5,v6]/\Zd H G) ⟨none,none,none,none,rfl,Zd.refl _⟩ ?_ ?_⟩
  rotate_left
  ·rintro σ G ⟨v3,v4,v5,v6,rfl,sG⟩
   exact k G sG
  rintro i σ G hi ⟨v3,v4,v5,v6,rfl,sG⟩
  have hi:i<tN (ls.take a):=by simpa using hi
  refine ⟨_,rfl,_,_,rfl,rfl,_,rfl,_,_,rfl,⟨by lia,by lia,by lia,by lia⟩,?_⟩
  refine Yk (fun c σ G=>∃v4 v5 v6:Option V,σ = [some (.ref l),some (.ref tA),some (.int (tN (ls.take a):Int)),some (.int (0+(i:Int))),v4,v5,v6]/\Zd H G) ⟨_,_,_,rfl,sG⟩ ?_ ?_
  rotate_left
  ·rintro σ G ⟨v4,v5,v6,rfl,sG⟩
   exact ⟨_,_,_,_,rfl,sG⟩
  rintro c σ G hc ⟨v4,v5,v6,rfl,sG⟩
  obtain ⟨j,hj⟩:∃j,j=i+1+c:=⟨_,rfl⟩
  have ej:(0+(i:Int)+1+(c:Int))=(j:Int):=by lia
  have hjn:j<tN (ls.take a):=by lia
  dsimp only
  rw [ej]
  refine ⟨by show 0<=sizeLine;decide,fun du hdu=>?_⟩
  have s1:Zd G (upd G du (.lst [])):=Zd.laid hdu
  have w1:WL (upd G du (.lst [])) du (ZaC (tF (ls.take a)) i j 0):=⟨[],Zb,.nil⟩
  generalize upd G du (.lst [])=G1 at *
  refine ⟨_,rfl,_,_,rfl,rfl,_,rfl,_,_,rfl,⟨by lia,by lia,by lia,by lia⟩,?_⟩
  refine Yk (fun m σ G'=>∃(d:Addr) (v6:Option V),σ = [some (.ref l),some (.ref tA),some (.int (tN (ls.take a):Int)),some (.int (0+(i:Int))),some (.int (j:Int)),some (.ref d),v6]/\Zd H G'/\WL G' d (ZaC (tF (ls.take a)) i j m)) ⟨du,_,rfl,sG.trans s1,w1⟩ ?_ ?_
  ·rintro m σ G' hm ⟨d,v6,rfl,s',wd⟩
   have hm':i+1+m<j:=by lia
   have em:(0+(i:Int)+1+(m:Int))=((i+1+m:Nat):Int):=by lia
   have ei:(0+(i:Int))=(i:Int):=by lia
   dsimp only
   rw [em]
   refine ⟨_,rfl,?_⟩
   refine item (i:=i) (j:=i+1+m) s' hi (by lia) rfl (by show some (some (V.int (0+(i:Int))))=_;rw [ei]) rfl fun e1 we1=>?_
   refine item (i:=i+1+m) (j:=j) s' (by lia) hjn rfl rfl rfl fun e2 we2=>?_
   refine ⟨e1,e2,_,_,rfl,we1,we2,gdI _ _ hi (by lia),gdI _ _ (by lia) hjn,fun p G2 r hp s2 wr od=>?_⟩
   have lt:r.length<=40000:=by
    have h4:=Nat.mul_le_mul (few a ha i (i+1+m) (by lia) (by lia)) (few a ha (i+1+m) j (by lia) hjn)
    have h5:=od.len
    rw [Wc] at h5
    lia
   have hL:=dueL i j m (by lia) hjn
   refine ⟨d,p,_,r,rfl,wd.same s2,wr,by lia,fun p' G3 r' hp' s3 wr' od'=>?_⟩
   refine ⟨p',_,rfl,(s'.trans s2).trans s3,?_⟩
   have e:r'=ZaC (tF (ls.take a)) i j (m+1):=by
    have e1:=od.canon
    have e2:=od'.canon
    rw [e2,e1]
    rfl
   rw [<- e]
   exact wr'
  ·rintro σ G' ⟨d,v6,rfl,s',wd⟩
   have ec:((j:Int)-(0+(i:Int)+1)).toNat=j-(i+1):=by lia
   rw [ec] at wd
   have ei:(0+(i:Int))=(i:Int):=by lia
   refine ⟨_,rfl,?_⟩
   refine item (i:=i) (j:=j) s' hi hjn rfl (by show some (some (V.int (0+(i:Int))))=_;rw [ei]) rfl fun e1 we1=>?_
   refine ⟨l,e1,xs,ls,_,rfl,s' _ _ hl,hL.same s',hW,hI,h60,we1,nmI i j hi hjn,fun _ p G2 hp s2 wp=>?_,fun nf=>absurd few nf⟩
   rw [Zju hW ha (by lia) hjn] at wp
   obtain ⟨us,eu,wu⟩:=wp
   obtain ⟨ds,ed,wd'⟩:=wd.same s2
   refine ⟨_,rfl,p,d,us,ds,rfl,rfl,Zp.of eu,Zp.of ed,wu.len.trans wd'.len.symm,L2.Zgx wu wd' (by decide),_,rfl,ZgM ?_⟩
   exact ⟨_,_,_,rfl,s'.trans s2⟩
theorem Zh7 {ls:List (Str×Int)}{w:List Int}{i:Nat} (hW:Wk ls 0) (few:YC ls ls.length) (hn:∀t∈w,t∈WH ls) (hi:i<w.length):(putN ls w i).length<=201:=by
 have hg:w.getD i 0∈w:=by rw [List.getD_eq_getElem?_getD,List.getElem?_eq_getElem hi];exact List.getElem_mem _
 obtain ⟨j,hj⟩:=List.mem_iff_getElem?.mp (hn _ hg)
 obtain ⟨a,p,e,_⟩:=Wa (show (Jd ls (fun x=>!decide (x = "born")) ls.length)[j]? = _ from hj)
 rw [e] at hj
 unfold putN
 rw [List.length_map,e,Int.toNat_natCast]
 exact Zfj hW few hj
theorem Zkb {ls:List (Str×Int)}{w:List Int} (hW:Wk ls 0) (few:YC ls ls.length) (hn:∀t∈w,t∈WH ls):(Gf ls w).length<=201*w.length:=by
 have:∀n,n<=w.length->((List.range n).flatMap (putN ls w)).length<=201*n:=by
  intro n
  induction n with
  | zero=>intro _;simp
  | succ n ih=>
   intro h
   have h1:=ih (by lia)
   have h2:=Zh7 hW few hn (show n<w.length by lia)
   rw [List.range_succ,List.flatMap_append,List.length_append,List.flatMap_cons,List.flatMap_nil,List.append_nil]
   lia
 exact this w.length (Nat.le_refl _)
theorem ZiJ {xs:List V}{lo hi:Option Int}{x:V} (h:x∈JI xs lo hi):x∈xs:=List.mem_of_mem_drop (List.mem_of_mem_take h)
theorem Ziy {H:Hp}{p:Addr} (h:WL H p []):H p=some (.lst []):=by
 obtain ⟨xs,e,w⟩:=h
 have:xs = []:=List.length_eq_zero_iff.mp w.len
 rw [this] at e
 exact e
theorem ZlG {ls:List (Str×Int)} (hW:Wk ls 0) (hI:InB ls) (few:YC ls ls.length) {wd:List Int} (hn:∀t∈wd,t∈WH ls) (h3:wd.length<=3):NmS ls (canon (ZX ls [wd])):=by
 have mem:∀v∈canon (ZX ls [wd]),∃j,j<wd.length /\ ∃m∈dW ls (wd.getD j 0).toNat,v=wd.take j++m++wd.drop (j+1):=fun v hv=>by
  have h1:=(ZE _).sub hv
  rw [JW] at h1
  obtain ⟨j,hj,h2⟩:=List.mem_flatMap.mp h1
  obtain ⟨m,hm,rfl⟩:=List.mem_map.mp h2
  exact ⟨j,List.mem_range.mp hj,m,hm,rfl⟩
 have get:∀j,j<wd.length->wd.getD j 0∈wd:=fun j hj=>by rw [List.getD_eq_getElem?_getD,List.getElem?_eq_getElem hj];exact List.getElem_mem _
 refine ⟨fun v hv t ht=>?_,?_,fun v hv=>?_⟩
 ·obtain ⟨j,hj,m,hm,rfl⟩:=mem v hv
  have hg:=hn _ (get j hj)
  rcases List.mem_append.mp ht with z | z
  ·rcases List.mem_append.mp z with z | z
   ·exact hn t (List.mem_of_mem_take z)
   ·refine ZkM ?_ m hm t z
    obtain ⟨q,hq⟩:=List.mem_iff_getElem?.mp hg
    obtain ⟨a,_,e,ha,_⟩:=Wa hq
    lia
  ·exact hn t (List.mem_of_mem_drop z)
 ·have h1:=(ZE (ZX ls [wd])).len
  rw [JW] at h1
  have h2:=Zkb hW few hn
  rw [JW]
  lia
 ·obtain ⟨j,hj,m,hm,rfl⟩:=mem v hv
  have:=ZdT hW hI (hn _ (get j hj)) m hm
  rw [List.length_append,List.length_append,List.length_take,List.length_drop]
  lia
theorem YJ {H H':Hp}{b:Addr} (s:Zd H H') (x:Ww H b):Ww H' b:=let ⟨g,r,h,e⟩:=x;⟨g,r,h,s _ _ e⟩
theorem Zhz (xs:List V) (lo hi:Option Int):(JI xs lo hi).length<=xs.length:=by
 unfold JI
 rw [List.length_take,List.length_drop]
 lia
theorem Zk5 {b a:Addr}{H H':Hp}{L:WS} (f:Yp b H H') (x:Ww H b) (y:WL H a L):WL H' a L:=by
 obtain ⟨xs,e,w⟩:=y
 obtain ⟨g,r,h0,eb⟩:=x
 have na:a≠b:=fun z=>by
  rw [z,eb] at e
  cases e
  match L,w with
  | _,.cons ⟨t,z,_⟩ _=>cases z
 exact ⟨xs,f _ _ e na,w.mono (f.tups fun p z=>by rw [eb] at z;cases z)⟩
theorem Zki {b a:Addr}{H H':Hp}{n:Nat}{F:Nat->Nat->WS} (f:Yp b H H') (x:Ww H b) (y:Tab H a n F):Tab H' a n F:=by
 obtain ⟨g,r,h0,eb⟩:=id x
 have ne:∀{c:Addr}{us:List V} (_:H c=some (.lst us)) (_:∀v∈us,∃t,v=V.ref t),c≠b:=fun {c us} e q z=>by
  rw [z,eb] at e
  cases e
  obtain ⟨t,z⟩:=q _ List.mem_cons_self
  cases z
 obtain ⟨A,e,m⟩:=y
 refine ⟨A,f _ _ e (ne e fun v hv=>by obtain ⟨t,_,rfl⟩:=List.mem_map.mp hv;exact ⟨t,rfl⟩),m.1,m.2.1,fun i r' hr=>?_⟩
 obtain ⟨us,eu,lu,q⟩:=m.2.2 i r' hr
 refine ⟨us,f _ _ eu (ne eu fun v hv=>?_),lu,fun j v hv=>?_⟩
 ·obtain ⟨j,hj⟩:=List.mem_iff_getElem?.mp hv
  obtain ⟨e',rfl,_⟩:=q j v hj
  exact ⟨e',rfl⟩
 ·obtain ⟨e',rfl,we⟩:=q j v hv
  exact ⟨e',rfl,Zk5 f x we⟩
theorem Zk3 {ls:List (Str×Int)} (hW:Wk ls 0) (h:ls ≠ []):1<=(WH ls).length:=by
 have last:∀{ls:List (Str×Int)}{n:Int},Wk ls n->n=0->ls ≠ [] -> ∃(m:List (Str×Int)) (x:Str×Int),ls=m ++ [x]/\x.1≠("born" : Str):=fun w e ne=>by
  cases w with
  | nil=>exact absurd rfl ne
  | born h _ _=>have:=h.nonneg;lia
  | cross _ _ _=>exact ⟨_,_,rfl,show ("cross" : Str) ≠ "born" by decide⟩
  | fin _ _ _=>exact ⟨_,_,rfl,show ("end" : Str) ≠ "born" by decide⟩
 obtain ⟨m,x,rfl,hx⟩:=last hW rfl h
 have:=congrArg List.length (ZbV (ls:=m ++ [x]) (pr:=fun x=>!decide (x = "born")) (n:=m.length) (q:=x) (by simp) (by simpa using hx))
 simp only [List.length_map,List.length_append,List.length_singleton] at this
 unfold WH
 rw [List.length_append,List.length_singleton]
 lia
def Zc1:Sp:=fun vs H Q _=>∃(l b:Addr) (xs:List V) (ls:List (Str×Int)),vs = [.ref l,.ref b]/\Ww H b/\H l=some (.lst xs)/\Zu H xs ls/\Wk ls 0/\InB ls/\ls.length<=60/\YC ls ls.length/\ls ≠ [] /\ ∀H',Ww H' b->Yp b H H'->Q (.bl true) H'
abbrev Ys:Stmt:=top 34
theorem YA:Zw ["_law_drawing_here", "_law_bag_here", "_law_names", "_law_told", "_law_word", "_law_tables", "_law_at"] ["_law_drawing_here", "_law_bag_here"] (Zh Ys):={}
theorem ZiV {f C:Addr}{fd:FuncData} (F:YH K "_law_right" "_law_right" Ys f fd) (Y7:GF P w K mg base 8 "deed_of" ["drawing", "one"] (Zan C)) (JL:GF P w K mg base 7 "deeds" ["drawing"] (U2 C)) (Zao:GF P w K mg base 7 "between" ["drawing"] (Zia C)) (Zl:JB P w K mg base 1 "_law_take" ["_law_bag_here", "_law_many"] JX) (GB:JB P w K mg base 9 "_law_hang" ["_law_drawing_here", "_law_table"] Ze4)
  (Z3:mg "len" = none) (Zt:mg "range" = none) (Zij:mg "any" = none) (Zhg:mg "all" = none) (Zde:mg "tuple" = none) (ZR:mg "enumerate" = none):Z6 P w K mg base WW 10 f fd ["_law_drawing_here", "_law_bag_here"] Zc1:=by
 refine F.ok YA (fun vs H Q E h=>?_) (fun cdv A outer s H vs Q E hr h=>?_)
 ·obtain ⟨l,b,xs,ls,rfl,_⟩:=h
  rfl
 ·obtain ⟨l,b,xs,ls,rfl,bg,hl,hL,hW,hI,h60,few,hne,k⟩:=h
  refine ⟨_,(Ze (Zq (i:=2) YA.nd rfl (Or.inr rfl) (Wh (Ls:=["_law_t", "_law_letter"]) (Fs:=[]) (fi:=[]) (ZJ.of (show Yi ["_law_drawing_here", "_law_bag_here", "_law_names", "_law_told", "_law_word", "_law_tables", "_law_at"] (Zh Ys) _ [] []=true by decide +kernel)) rfl (Zbo (K:=K) rfl (by rfl) ZR (Za (pv 0) Zc)) (fun cl C s3 H3 ex=>⟨(WM (K:=K) (n:=2) rfl rfl (Yf (Zn (i:=0) (show ((["_law_t", "_law_letter"]:List Str)++([]:List Str)).Nodup by decide +kernel) rfl (Or.inl rfl)) (Yf (Zn (i:=1) (show ((["_law_t", "_law_letter"]:List Str)++([]:List Str)).Nodup by decide +kernel) rfl (Or.inl rfl)) WQ))),(ZfF (ZH ZkC (Zx (Za3 (K:=K) rfl) (pv 1) Zf (fun _ _=>rfl)) ZV (ZP _))),(pv 0)⟩)))
   (Ze (Zq (i:=3) YA.nd rfl (Or.inl rfl) (Ju JL (hr.mono (by decide)) Zcj (Za (pv 0) Zc)))
   (Ze (YY (ZhA (ZG (ZgY (K:=K) rfl rfl) (by rfl) Zij boot_any (Za (Wh (Ls:=["_law_one"]) (Fs:=["_law_drawing_here"]) (fi:=[0]) (ZJ.of (show Yi ["_law_drawing_here", "_law_bag_here", "_law_names", "_law_told", "_law_word", "_law_tables", "_law_at"] (Zh Ys) _ ["_law_drawing_here"] [0]=true by decide +kernel)) rfl (ZM (K:=K) rfl (pv 3)) (fun cl C s3 H3 ex=>⟨(Zn (i:=0) (show ((["_law_one"]:List Str)++(["_law_drawing_here"]:List Str)).Nodup by decide +kernel) rfl (Or.inl rfl)),ZW,(Zj3 (ZaE (K:=K) rfl hr.units) (Ju Y7 (hr.mono (by decide)) Zcj (Za (pv 1) (Za (pv 0) Zc))) (Z4 Zc) (ZP _))⟩)) Zc))) (Zi (Zz ZbJ)) Yd)
   (Ze (Zq (i:=4) YA.nd rfl (Or.inl rfl) (Zav ZdC (by rfl) Zde boot_tuple (Za (Wh (Ls:=["_law_k"]) (Fs:=["_law_names", "_law_bag_here"]) (fi:=[2,1]) (ZJ.of (show Yi ["_law_drawing_here", "_law_bag_here", "_law_names", "_law_told", "_law_word", "_law_tables", "_law_at"] (Zh Ys) _ ["_law_names", "_law_bag_here"] [2,1]=true by decide +kernel)) rfl (Ya (by rfl) Zt (Za (Zv Zl hr (Za (pv 1) (Za Zf Zc))) Zc)) (fun cl C s3 H3 ex=>⟨(Zn (i:=0) (show ((["_law_k"]:List Str)++(["_law_names", "_law_bag_here"]:List Str)).Nodup by decide +kernel) rfl (Or.inl rfl)),ZW,(Zx (Zk (K:=K) rfl) (pv 1) (Zv Zl hr (Za (pv 2) (Za (ZG (Yb (K:=K) rfl) (by rfl) Z3 PySem.boot_len (Za (pv 1) Zc)) Zc))) (fun _ _=>rfl))⟩)) Zc)))
   (Ze (YY (ZH (ZaE (K:=K) rfl hr.units) (Ju Y7 (hr.mono (by decide)) Zcj (Za (pv 0) (Za (Ju Y7 (hr.mono (by decide)) Zcj (Za (pv 0) (Za (Z4 (Za (pv 4) Zc)) Zc))) Zc))) (Z4 Zc) (ZP _)) (Zi (Zz ZbJ)) Yd)
   (Ze (Zq (i:=5) YA.nd rfl (Or.inl rfl) (Ju Zao (hr.mono (by decide)) Zcj (Za (pv 0) Zc)))
   (Ze (Zq (i:=6) YA.nd rfl (Or.inl rfl) (Zv Zl hr (Za (pv 1) (Za (ZG (Yb (K:=K) rfl) (by rfl) Z3 PySem.boot_len (Za (pv 5) Zc)) Zc))))
   (Zi (Zz (ZG (Zg4 (K:=K) rfl rfl) (by rfl) Zhg boot_all (Za (Wh (Ls:=["_law_table"]) (Fs:=["_law_drawing_here"]) (fi:=[0]) (ZJ.of (show Yi ["_law_drawing_here", "_law_bag_here", "_law_names", "_law_told", "_law_word", "_law_tables", "_law_at"] (Zh Ys) _ ["_law_drawing_here"] [0]=true by decide +kernel)) rfl (ZM (K:=K) rfl (Yw (YU (K:=K) rfl) (pv 5) (ZZ (pv 6)) (ZZ (Zm ZA (pv 6) Zf)))) (fun cl C s3 H3 ex=>⟨(Zn (i:=0) (show ((["_law_table"]:List Str)++(["_law_drawing_here"]:List Str)).Nodup by decide +kernel) rfl (Or.inl rfl)),ZW,(Zv GB hr (Za (pv 1) (Za (pv 0) Zc)))⟩)) Zc))))))))))),?_⟩
  have hxl:=hL.len
  refine ⟨_,rfl,l,rfl,⟨_,Zp.of hl⟩,Zg8 (xs:=xs) (Nat.le_of_lt (Z9 (by lia))) (fun i ys H'=>Zd H H'/\ys=(Jd ls (fun x=>!decide (x = "born")) i).map V.int) ⟨Zd.refl _,rfl⟩
   (fun i ys H' p=>by rw [p.2,List.length_map];exact Gz _ _ _) (fun i ys H' p=>Zp.of (p.1 l _ hl)) (fun i x p ys H' hx pv hp=>?_) (fun ys H' pv nA hnA=>?_)⟩
  ·obtain ⟨sm,rfl⟩:=pv
   obtain ⟨q,t,hq,rfl,ht⟩:=hL.get hx
   have ht':(upd H' p (.tup [.int i,.ref t])) t=some (.tup [.str q.1,.int q.2]):=by rw [Zj (Zg (sm t _ ht) hp)];exact sm t _ ht
   refine ⟨p,_,rfl,Gh.of Zb,rfl,_,_,rfl,_,_,rfl,rfl,?_⟩
   refine ⟨_,rfl,t,_,_,_,rfl,rfl,Gh.of ht',Zs (j:=0) rfl,rfl,_,rfl,?_⟩
   refine Gg (fun hc=>?_) (fun hc=>?_)
   ·have e:¬q.1 = "born" := fun z=>by
     have:(!decide (V.str q.1=V.str "born"))=true:=hc
     rw [decide_eq_true (congrArg V.str z)] at this
     cases this
    exact ⟨_,rfl,sm.step hp,ZbV hq (by simpa using e)⟩
   ·have e:q.1 = "born" := by
     by_cases z:q.1 = "born"
     ·exact z
     ·exact absurd (show (!decide (V.str q.1=V.str "born"))=true by rw [decide_eq_false (fun y=>z (V.str.inj y))];rfl) hc
    exact ⟨sm.step hp,Zgg hq (by simpa using e)⟩
  obtain ⟨sm,rfl⟩:=pv
  rw [hxl]
  have s1:Zd H (upd H' nA (.lst ((Jd ls (fun x=>!decide (x = "born")) ls.length).map V.int))):=sm.step hnA
  have e1:(upd H' nA (.lst ((Jd ls (fun x=>!decide (x = "born")) ls.length).map V.int))) nA=some (.lst ((WH ls).map V.int)):=Zb
  have bg1:Ww (upd H' nA (.lst ((Jd ls (fun x=>!decide (x = "born")) ls.length).map V.int))) b:=YJ s1 bg
  have nnb:nA≠b:=by
   obtain ⟨_,_,_,e⟩:=YJ sm bg
   exact (Zg e hnA).symm
  generalize upd H' nA (.lst ((Jd ls (fun x=>!decide (x = "born")) ls.length).map V.int))=H1 at *
  have nn1:=Zk3 hW hne
  have nn2:(WH ls).length<=ls.length:=Gz _ _ _
  refine ⟨_,rfl,l,xs,ls,rfl,s1 _ _ hl,hL.same s1,hW,hI,h60,fun _ tA H2 es htA s2 etA les ds nd fr np=>?_,fun nf=>absurd few nf⟩
  have S2:=s1.trans s2
  refine ⟨_,rfl,tA,rfl,⟨_,Zp.of etA⟩,YM (K:=K) (a:=tA) (xs:=es.map V.ref) (by rw [List.length_map,sizeLine_eq];lia) (fun i zs G=>Zd H2 G/\zs=(List.replicate i false).map V.bl) ⟨Zd.refl _,rfl⟩
   (fun i zs G p=>by rw [p.2,List.length_map,List.length_replicate];exact Nat.le_refl _) (fun i zs G p=>Zp.of (p.1 tA _ etA)) (fun i x zs G hx p=>?_) (fun zs G p D hD=>?_)⟩
  ·obtain ⟨sG,rfl⟩:=p
   rw [List.getElem?_map] at hx
   cases he:es[i]? with
   | none=>rw [he] at hx;cases hx
   | some e=>
   rw [he] at hx
   cases hx
   obtain ⟨t,ht,we⟩:=ds i e he
   have htm:(t:Int)∈WH ls:=List.mem_of_getElem? ht
   have nm:NmS ls (dW ls t):=⟨ZkM (by obtain ⟨a,_,e,ha,_⟩:=Wa ht;lia),Nat.le_trans (Zfj hW few ht) (by decide),fun v hv=>by
    have:=ZdT hW hI htm v (by rw [Int.toNat_natCast];exact hv)
    lia⟩
   have z:=Zey hW htm
   rw [Int.toNat_natCast] at z
   have SG:=S2.trans sG
   refine lcG ?_
   refine ⟨_,rfl,_,rfl,l,e,xs,ls,_,rfl,SG _ _ hl,hL.same SG,hW,hI,h60,we.same sG,nm,fun _ p G2 hp sp wp=>?_,fun nf=>absurd few nf⟩
   rw [z] at wp
   refine ⟨by show 0<=sizeLine;decide,fun q hq=>?_⟩
   refine ⟨p,q,[],rfl,rfl,Zp.of ((Zd.laid hq) _ _ (Ziy wp)),Zp.of Zb,sG.trans (sp.step hq),?_⟩
   rw [List.replicate_succ',List.map_append]
   rfl
  obtain ⟨sG,rfl⟩:=p
  have s3:Zd H2 (upd G D (.lst ((List.replicate (es.map V.ref).length false).map V.bl))):=sG.step hD
  refine ⟨D,_,rfl,Zp.of Zb,_,rfl,?_⟩
  have anyF:∀n,(List.replicate n false).any id=false:=fun n=>by induction n with
   | zero=>rfl
   | succ n ih=>rw [List.replicate_succ,List.any_cons,ih];rfl
  rw [anyF]
  refine ZgM ?_
  generalize upd G D (.lst ((List.replicate (es.map V.ref).length false).map V.bl))=H3 at *
  have S3:=S2.trans s3
  have bg3:=YJ S3 bg
  have en3:=(s2.trans s3) _ _ e1
  refine ⟨_,rfl,b,4,rfl,bg3,by decide,by decide,fun c H4 c0 c1 bg4 f4=>⟨c,rfl,by lia,by lia,ZbL (n:=c.toNat) (by rw [sizeLine_eq];lia) (fun i zs G=>Yp b H4 G/\Ww G b /\ ∃wd:List Int,zs=wd.map V.int/\wd.length=i /\ ∀t∈wd,t∈WH ls) ⟨Yp.refl _ _,bg4,[],rfl,rfl,fun k hk=>nomatch hk⟩ ?_ ?_ ?_⟩⟩
  ·rintro i zs G ⟨_,_,wd,rfl,e,_⟩
   rw [List.length_map,e];exact Nat.le_refl _
  ·rintro i zs G hi ⟨fr',bg',wd,rfl,e,wn⟩
   refine lcG ?_
   have en:=fr' _ _ (f4 _ _ en3 nnb) nnb
   refine ⟨_,rfl,_,rfl,_,rfl,nA,_,rfl,.inl (Zp.of en),b,_,rfl,bg',by rw [List.length_map];lia,by rw [List.length_map];lia,fun u G2 u0 u1 bg2 f2=>?_⟩
   rw [List.length_map] at u1
   obtain ⟨m,rfl⟩:=Int.eq_ofNat_of_zero_le u0
   have hm:m<(WH ls).length:=by lia
   refine ⟨nA,_,_,.int (WH ls)[m],rfl,rfl,Zp.of (f2 _ _ en nnb),Zs (by simp [hm]),fr'.trans f2,bg2,wd ++ [(WH ls)[m]],by simp,by simp [e],fun t ht=>?_⟩
   rcases List.mem_append.mp ht with z | z
   ·exact wn t z
   ·rw [List.mem_singleton.mp z];exact List.getElem_mem hm
  rintro zs G4 ⟨fr4,bgG,wd,rfl,lwd,wn⟩ D4 hD4
  refine ⟨D4,_,rfl,Zb,fun wA hwA=>?_⟩
  have s5:Zd G4 (upd (upd G4 D4 (.lst (wd.map V.int))) wA (.tup (wd.map V.int))):=(Zd.laid hD4).step hwA
  have ewA:(upd (upd G4 D4 (.lst (wd.map V.int))) wA (.tup (wd.map V.int))) wA=some (.tup (wd.map V.int)):=Zb
  generalize upd (upd G4 D4 (.lst (wd.map V.int))) wA (.tup (wd.map V.int))=H5 at *
  have F5:Yp b H H5:=((S3.frm.trans f4).trans fr4).trans s5.frm
  have bg5:=YJ s5 bgG
  have lb:l≠b:=by
   obtain ⟨_,_,_,e⟩:=bg
   intro z
   rw [z,e] at hl
   have:=hL.len
   cases hl
   match ls,hL with
   | _,.cons ⟨t,z,_⟩ _=>cases z
  have hl5:=F5 _ _ hl lb
  have hL5:Zu H5 xs ls:=hL.frm F5 bg
  refine ⟨_,rfl,_,rfl,_,rfl,by show 1<=sizeLine;decide,fun q hq=>?_⟩
  have s6:Zd H5 (upd H5 q (.lst [.ref wA])):=Zd.laid hq
  have w6:WL (upd H5 q (.lst [.ref wA])) q [wd]:=⟨_,Zb,.cons ⟨wA,rfl,s6 _ _ ewA⟩ .nil⟩
  generalize upd H5 q (.lst [.ref wA])=H6 at *
  have nm1:NmS ls [wd]:=⟨fun v hv=>by rw [List.mem_singleton.mp hv];exact wn,by simp,fun v hv=>by rw [List.mem_singleton.mp hv];lia⟩
  refine ⟨l,q,xs,ls,[wd],rfl,s6 _ _ hl5,hL5.same s6,hW,hI,h60,w6,nm1,fun _ p7 H7 hp7 s7 w7=>?_,fun nf=>absurd few nf⟩
  have S7:=s6.trans s7
  refine ⟨l,p7,xs,ls,_,rfl,S7 _ _ hl5,hL5.same S7,hW,hI,h60,w7,ZlG hW hI few wn (by lia),fun _ p8 H8 hp8 s8 w8=>?_,fun nf=>absurd few nf⟩
  rw [ZdA hW wn] at w8
  refine ⟨by show 0<=sizeLine;decide,fun q9 hq9=>?_⟩
  refine ⟨p8,q9,[],rfl,rfl,Zp.of ((Zd.laid hq9) _ _ (Ziy w8)),Zp.of Zb,_,rfl,ZgM ?_⟩
  have S9:Zd H5 (upd H8 q9 (.lst [])):=(S7.trans s8).step hq9
  generalize upd H8 q9 (.lst [])=H9 at *
  refine ⟨_,rfl,l,xs,ls,rfl,S9 _ _ hl5,hL5.same S9,hW,hI,h60,fun _ pT HT T RR hpT sT tbs lT te ne npT lr frT=>?_,fun nf=>absurd few nf⟩
  have S10:=S9.trans sT
  have bg10:=YJ S10 bg5
  have npb:pT≠b:=by
   obtain ⟨_,_,_,e⟩:=YJ S9 bg5
   exact (Zg e hpT).symm
  refine ⟨_,rfl,_,rfl,pT,_,rfl,.inl (Zp.of tbs.at_),b,_,rfl,bg10,by rw [List.length_map,lT];lia,by rw [List.length_map,lT];lia,fun u H11 u0 u1 bg11 f11=>?_⟩
  have eT:=f11 _ _ tbs.at_ npb
  refine ⟨_,rfl,_,rfl,_,rfl,_,rfl,_,_,rfl,rfl,_,rfl,pT,_,rfl,Zp.of eT,fun q12 hq12=>?_⟩
  obtain ⟨cs,hcs⟩:∃cs,cs=JI (T.map V.ref) (some u) (some (u+1)):=⟨_,rfl⟩
  have csm:∀x∈cs,x∈T.map V.ref:=fun x hx=>by rw [hcs] at hx;exact ZiJ hx
  have csl:cs.length<=100:=by
   have:=Zhz (T.map V.ref) (some u) (some (u+1))
   rw [<- hcs,List.length_map,lT] at this
   lia
  show (fun x H1=>_) (V.ref q12) (upd H11 q12 (.lst (JI (T.map V.ref) (some u) (some (u+1)))))
  rw [<- hcs]
  have s12:Zd H11 (upd H11 q12 (.lst cs)):=Zd.laid hq12
  have e12:(upd H11 q12 (.lst cs)) q12=some (.lst cs):=Zb
  generalize upd H11 q12 (.lst cs)=H12 at *
  have F12:Yp b HT H12:=f11.trans s12.frm
  have FA:Yp b H H12:=(F5.trans S10.frm).trans F12
  have hl12:=FA _ _ hl lb
  have hL12:Zu H12 xs ls:=hL.frm FA bg
  refine ⟨q12,rfl,⟨_,Zp.of e12⟩,YM (K:=K) (a:=q12) (xs:=cs) (by rw [sizeLine_eq];lia) (fun i zs G=>Zd H12 G/\zs=(List.replicate i true).map V.bl) ⟨Zd.refl _,rfl⟩
   (fun i zs G p=>by rw [p.2,List.length_map,List.length_replicate];exact Nat.le_refl _) (fun i zs G p=>Zp.of (p.1 q12 _ e12)) (fun i x zs G hx p=>?_) (fun zs G p D hD=>?_)⟩
  ·obtain ⟨sG,rfl⟩:=p
   obtain ⟨r,hr',rfl⟩:=List.mem_map.mp (csm x (List.mem_of_getElem? hx))
   obtain ⟨a,ha⟩:=List.mem_iff_getElem?.mp hr'
   have hal:=(List.getElem?_eq_some_iff.mp ha).1
   have tb:=Zki F12 (YJ S10 bg5) (tbs.tab a r ha).1
   refine lcG ?_
   refine ⟨_,rfl,_,rfl,l,r,xs,ls,a,rfl,sG _ _ hl12,hL12.same sG,hW,hI,h60,few,by lia,tb.same sG,fun G2 s2=>⟨sG.trans s2,?_⟩⟩
   rw [List.replicate_succ',List.map_append]
   rfl
  ·obtain ⟨sG,rfl⟩:=p
   have allT:∀n,(List.replicate n true).all id=true:=fun n=>by induction n with
    | zero=>rfl
    | succ n ih=>rw [List.replicate_succ,List.all_cons,ih];rfl
   refine ⟨D,_,rfl,Zp.of Zb,?_⟩
   rw [allT]
   have sD:=sG.step (o:=.lst ((List.replicate cs.length true).map V.bl)) hD
   exact k _ (YJ (s12.trans sD) bg11) (FA.trans sD.frm)
def Ze5:Sp:=fun vs H Q _=>∃(b:Addr) (n:Int),vs = [.ref b,.int n]/\Ww H b/\0<=n/\n<=12 /\ ∀(l:Addr) (H':Hp) (ls:List (Str×Int)),H l=none->Ww H' b->Yp b H H'->Drw H' l ls->InB ls->ls.length<=50->ls ≠ []->Q (.ref l) H'
abbrev GQ:Stmt:=top 29
theorem Zdi:Zw ["_law_bag_here", "_law_most"] ["_law_bag_here", "_law_most"] (Zh GQ):={}
theorem ZjO {f:Addr}{fd:FuncData} (F:YH K "_law_some" "_law_some" GQ f fd) (Zl:JB P w K mg base 1 "_law_take" ["_law_bag_here", "_law_many"] JX) (Ut:JB P w K mg base 3 "_law_any" ["_law_bag_here", "_law_most"] Zcy) (YV:JB P w K mg base 2 "_law_curled" ["_law_bag_here", "_law_most"] ZeM):Z6 P w K mg base WW 4 f fd ["_law_bag_here", "_law_most"] Ze5:=by
 refine F.ok Zdi (fun vs H Q E h=>?_) (fun cdv A outer s H vs Q E hr h=>?_)
 ·obtain ⟨b,n,rfl,_⟩:=h
  rfl
 ·obtain ⟨b,n,rfl,hbag,n1,n2,k⟩:=h
  refine ⟨_,(Ze (YY (ZH U0 (Zv Zl hr (Za (pv 0) (Za Zf Zc))) Zf (ZP _)) (Zi (Zz (Zv Ut hr (Za (pv 0) (Za (pv 1) Zc))))) Yd)
   (Zi (Zz (Zv YV hr (Za (pv 0) (Za Zf Zc)))))),?_⟩
  refine ⟨_,rfl,b,2,rfl,hbag,by decide,by decide,fun d H1 _ _ bg1 f1=>⟨rfl,_,rfl,?_⟩⟩
  refine Gg (fun _=>?_) (fun _=>?_)
  ·exact ⟨_,rfl,_,rfl,b,n,rfl,bg1,n1,n2,fun l H2 ls hl bg2 f2 dr ib ll ne=>k l H2 ls (f1.free bg1 hl) bg2 (f1.trans f2) dr ib ll ne⟩
  ·exact ⟨_,rfl,b,rfl,bg1,fun l H2 ls hl bg2 f2 dr ib ll ne=>k l H2 ls (f1.free bg1 hl) bg2 (f1.trans f2) dr ib ll ne⟩
def Zf2 (K:PySem.W.Frag):Sp:=fun vs H Q _=>∃(a:Addr) (ns:List Int),vs = [.ref a]/\Zp K H a (ns.map V.int)/\ns.length<=63 /\ ∀H',Q (.bl true) H'
abbrev Zch:Stmt:=top 35
theorem Zbn:Zw ["_law_script", "_law_at", "_law_bag_here", "_law_drawing_here"] ["_law_script"] (Zh Zch):={}
theorem ZkT {f ZC:Addr}{fd:FuncData} (F:YH K "law" "law" Zch f fd) (JP:mg "TooMany" = some (.ref ZC)) (Y1:PySem.W.excIn K ZC bmV "ValueError.__new__" = true) (WD:PySem.W.mroIn K ZC (.ref ZC)=some true) (UC:JB P w K mg base 1 "_law_bag" ["_law_script", "_law_at"] (Zhw K)) (GJ:JB P w K mg base 4 "_law_some" ["_law_bag_here", "_law_most"] Ze5) (JL:GF P w K mg base 7 "deeds" ["drawing"] (U2 ZC)) (YV:ZgG P w K mg base 2 "_law_curled" ["_law_bag_here", "_law_most"] Zc4)
  (W7:JB P w K mg base 10 "_law_right" ["_law_drawing_here", "_law_bag_here"] Zc1) (Zt:mg "range" = none) (Zak:mg "max" = none) (ZiN:mg "min" = none) (Z3:mg "len" = none):Z6 P w K mg base WW 11 f fd ["_law_script"] (Zf2 K):=by
 refine F.ok Zbn (fun vs H Q E h=>?_) (fun cdv A outer s H vs Q E hr h=>?_)
 ·obtain ⟨a,ns,rfl,_⟩:=h
  rfl
 ·obtain ⟨a,ns,rfl,hS,hl,k⟩:=h
  refine ⟨_,(Ze (Yh PassesOwn.never rfl (Ya (by rfl) Zt (Za (ZG (ZcB rfl) (by rfl) Zak boot_max (Za Zf (Za (ZG (Zg0 rfl) (by rfl) ZiN boot_min (Za (ZG (Yb (K:=K) rfl) (by rfl) Z3 PySem.boot_len (Za (pv 0) Zc)) (Za Zf Zc))) Zc))) Zc)) (Zn (i:=1) Zbn.nd rfl (Or.inl rfl)) (Ze (Zq (i:=2) Zbn.nd rfl (Or.inl rfl) (Zv UC hr (Za (pv 0) (Za (pv 1) Zc))))
   (Ze (Zq (i:=3) Zbn.nd rfl (Or.inl rfl) (Zv GJ hr (Za (pv 2) (Za Zf Zc))))
   (Zkl (ZjC (K:=K) rfl (fun pins R_try=>(Zi (Yj (ZhP JL (hr.mono (by decide)) (ZmN rfl) (Za (pv 3) Zc))))) (fun pins a_x=>(Zi (Zq (i:=3) Zbn.nd rfl (Or.inl rfl) (Zad YV ((hr.mono (by decide)).suite _) rfl (Za (pv 2) (Za Zf Zc)))))) (by rfl) JP Y1)
   (Zi (YY (ZlV (ZhA (Zv W7 hr (Za (pv 3) (Za (pv 2) Zc))))) (Zi (Zz ZbJ)) Yd))))))
   (Zi (Zz ZbJ))),?_⟩
  refine ⟨_,rfl,a,_,rfl,.inl hS,_,_,rfl,_,_,rfl,_,rfl,?_,?_,Yk (fun i σ H'=>∃v1 v2 v3:Option V,σ = [some (.ref a),v1,v2,v3]/\Zd H H') ⟨none,none,none,rfl,Zd.refl _⟩ ?_ ?_⟩
  ·split<;>(try split)<;>lia
  ·rw [List.length_map]
   split<;>(try split)<;>lia
  ·rintro i σ H0 hi ⟨v1,v2,v3,rfl,sm⟩
   have hi':i<900:=by
    rw [List.length_map] at hi
    revert hi
    split<;>(try split)<;>lia
   refine ⟨_,rfl,_,rfl,a,_,ns,rfl,sm.seq hS,by lia,by lia,fun b H1 hb s1 bg1=>?_⟩
   have fB:∀{G:Hp},Yp b H1 G->Zd H G:=fun {G} f c o e=>f c o (s1 c o (sm c o e)) (Zg (sm c o e) hb)
   refine ⟨_,rfl,b,7,rfl,bg1,by decide,by decide,fun l H2 ls hl2 bg2 f2 dr inb l50 ne=>?_⟩
   obtain ⟨xs,el,hL,hW,h60⟩:=id dr
   refine ⟨fun σ G=>∃(l':Addr) (ls':List (Str×Int)),σ = [some (.ref a),some (.int (0+(i:Int))),some (.ref b),some (.ref l')]/\Ww G b/\Yp b H1 G/\Drw G l' ls'/\InB ls'/\ls'.length<=50/\ls' ≠ []/\YC ls' ls'.length,?_,?_⟩
   ·refine ⟨fun σ' C H'=>C=ZC /\ σ' = [some (.ref a),some (.int (0+(i:Int))),some (.ref b),some (.ref l)]/\Ww H' b/\Yp b H1 H',?_,?_⟩
    ·refine ⟨_,rfl,l,xs,ls,rfl,el,hL,hW,inb,h60,fun few p G es _ s3 _ _ _ _ _ _=>?_,fun nf G s3=>⟨ZC,rfl,rfl,rfl,YJ s3 bg2,f2.trans s3.frm⟩⟩
     exact ⟨l,ls,rfl,YJ s3 bg2,f2.trans s3.frm,⟨xs,s3 _ _ el,hL.same s3,hW,h60⟩,inb,l50,ne,few⟩
    ·rintro x C σ' H' ⟨rfl,rfl,bg',f'⟩ hx
     refine ⟨WD,?_⟩
     have s4:Zd H' (upd H' x (.ext (isX x C))):=Zd.laid hx
     refine ⟨_,rfl,(fun v e=>by cases e;exact ⟨x,C,rfl,Zb⟩),b,rfl,YJ s4 bg',fun l3 H5 ls3 hl3 bg5 f5 dr3 inb3 l3' ne3 few3=>?_⟩
     exact ⟨l3,ls3,rfl,bg5,(f'.trans s4.frm).trans f5,dr3,inb3,l3',ne3,few3⟩
   ·rintro σ G ⟨l',ls',rfl,bg',f',⟨xs',el',hL',hW',h60'⟩,inb',l50',ne',few'⟩
    refine ⟨_,rfl,_,rfl,l',b,xs',ls',rfl,bg',el',hL',hW',inb',h60',few',ne',fun H' bg3 f3=>⟨_,rfl,ZgM ?_⟩⟩
    exact ⟨_,_,_,rfl,fB (f'.trans f3)⟩
  ·rintro σ G ⟨v1,v2,v3,rfl,sm⟩
   exact k G
end
theorem Yn {P:Program}{w:World}{K:PySem.W.Frag}{mg:Str->Option Value}{base:Heap}{k:Nat}{x:Str}{ps:List Str}{sp:Sp}{f:Addr}{fd:FuncData} (G:Z6 P w K mg base WW k f fd ps sp) (m:mg x=some (.ref f)) (kp:PySem.W.keepIn K (.ref f)=true) (b:Binds K fd ps []):JB P w K mg base k x ps sp:=⟨f,fd,G,m,kp,b⟩
theorem ZaZ {P:Program}{w:World}{K:PySem.W.Frag}{mg:Str->Option Value}{base:Heap}{k:Nat}{C:Addr}{m:Str}{ps:List Str}{sp:Sp}{f:Addr}{fd:FuncData} (G:Z6 P w K mg base WW k f fd ps sp) (a:PySem.W.findIn K (.ref C) m=some (some (.ref f))) (fn:PySem.W.isFn K (.ref f)=true) (kp:PySem.W.keepIn K (.ref f)=true) (b:Binds K fd ps []):UM P w K mg base k C m ps sp:=⟨f,fd,G,⟨a,fn,kp⟩,b⟩
theorem UO {P:Program}{w:World}{K:PySem.W.Frag}{mg:Str->Option Value}{base:Heap}{k:Nat}{x:Str}{ps:List Str}{sp:Sp}{f:Addr}{fd:FuncData} (G:Z6 P w K mg base (CX1 P w) k f fd ps sp) (m:mg x=some (.ref f)) (kp:PySem.W.keepIn K (.ref f)=true) (b:Binds K fd ps []):GF P w K mg base k x ps sp:=⟨f,fd,G,m,kp,b⟩
theorem Zfu {P:Program}{w:World}{K:PySem.W.Frag}{mg:Str->Option Value}{base:Heap}{k:Nat}{x:Str}{ps:List Str}{sp:Sp}{f:Addr}{fd:FuncData} (G:Zej P w K mg base k f fd ps sp) (m:mg x=some (.ref f)) (kp:PySem.W.keepIn K (.ref f)=true) (b:Binds K fd ps []):ZgG P w K mg base k x ps sp:=⟨f,fd,G,m,kp,b⟩
section
theorem us1 {α:Type}{P:List α -> Prop} (h:∀a,P [a]):∀us:List α,us.length=1->P us
 | [_],_=>h _
theorem us2 {α:Type}{P:List α -> Prop} (h:∀a b,P [a,b]):∀us:List α,us.length=2->P us
 | [_,_],_=>h _ _
theorem us3 {α:Type}{P:List α -> Prop} (h:∀a b c,P [a,b,c]):∀us:List α,us.length=3->P us
 | [_,_,_],_=>h _ _ _
theorem us4 {α:Type}{P:List α -> Prop} (h:∀a b c d,P [a,b,c,d]):∀us:List α,us.length=4->P us
 | [_,_,_,_],_=>h _ _ _ _
theorem all_mk {l:PySem.W.OpenLaw}{w:World}{K:PySem.W.Frag}{h:Heap}{mg:Str->Option Value}{fa:Addr} (X:K.In h) (G:h.Ns mainGlobals mg) (hfa:mg "law" = some (.ref fa))
  {f0 f1 f2 f3 f4 f5 f6 f7 f8 f9 f10 f11 f12 f13 f14 f15 f16 f17 f18 f19 f20 f21 f22 f23 f24 f25 f26 f27 f28 f29:Addr}{d0 d1 d2 d3 d4 d5 d6 d7 d8 d9 d10 d11 d12 d13 d14 d15 d16 d17 d18 d19 d20 d21 d22 d23 d24 d25 d26 d27 d28 d29:FuncData}
  {t_MOST_WORDS:Tok} (Wv:PySem.W.nsIn K mainGlobals "MOST_WORDS" = some (some (.int 200 t_MOST_WORDS)))
  {ZC:Addr} (UA:PySem.W.nsIn K mainGlobals "TooMany" = some (some (.ref ZC)))
  {Zr:Addr} (UE:PySem.W.nsIn K mainGlobals "WordWay" = some (some (.ref Zr)))
  (Y1:PySem.W.excIn K ZC [.type "ValueError", .type "Exception", .type "BaseException", .type "object"] "ValueError.__new__" = true)
  (WD:PySem.W.mroIn K ZC (.ref ZC)=some true)
  (c_way:L2.Cls K Zr)
  (k_WordWay:L2.MkO K Zr)
  (a0:PySem.W.nsIn K mainGlobals "put" = some (some (.ref f0))) (l0:YH K "put" "put" ZhJ f0 d0)
  (a1:PySem.W.nsIn K mainGlobals "added" = some (some (.ref f1))) (l1:YH K "added" "added" Zdl f1 d1)
  (a2:PySem.W.nsIn K mainGlobals "multiplied" = some (some (.ref f2))) (l2:YH K "multiplied" "multiplied" JN f2 d2)
  (a3:PySem.W.findIn K (.ref Zr) "nought" = some (some (.ref f3))) (l3:YH K "nought" "WordWay.nought" Jn f3 d3) (n3:PySem.W.isFn K (.ref f3)=true)
  (a4:PySem.W.findIn K (.ref Zr) "unit" = some (some (.ref f4))) (l4:YH K "unit" "WordWay.unit" J5 f4 d4) (n4:PySem.W.isFn K (.ref f4)=true)
  (a5:PySem.W.findIn K (.ref Zr) "plus" = some (some (.ref f5))) (l5:YH K "plus" "WordWay.plus" J6 f5 d5) (n5:PySem.W.isFn K (.ref f5)=true)
  (a6:PySem.W.findIn K (.ref Zr) "times" = some (some (.ref f6))) (l6:YH K "times" "WordWay.times" JD f6 d6) (n6:PySem.W.isFn K (.ref f6)=true)
  (a7:PySem.W.nsIn K mainGlobals "behind_birth" = some (some (.ref f7))) (l7:YH K "behind_birth" "behind_birth" YG f7 d7)
  (a8:PySem.W.nsIn K mainGlobals "behind_crossing" = some (some (.ref f8))) (l8:YH K "behind_crossing" "behind_crossing" YD f8 d8)
  (a9:PySem.W.nsIn K mainGlobals "behind_end" = some (some (.ref f9))) (l9:YH K "behind_end" "behind_end" YO f9 d9)
  (a10:PySem.W.nsIn K mainGlobals "table_behind" = some (some (.ref f10))) (l10:YH K "table_behind" "table_behind" JU f10 d10)
  (a11:PySem.W.nsIn K mainGlobals "check_words" = some (some (.ref f11))) (l11:YH K "check_words" "check_words" Wi f11 d11)
  (a12:PySem.W.nsIn K mainGlobals "sum_tables" = some (some (.ref f12))) (l12:YH K "sum_tables" "sum_tables" WO f12 d12)
  (a13:PySem.W.nsIn K mainGlobals "names_of" = some (some (.ref f13))) (l13:YH K "names_of" "names_of" WX f13 d13)
  (a14:PySem.W.nsIn K mainGlobals "deeds" = some (some (.ref f14))) (l14:YH K "deeds" "deeds" Zdk f14 d14)
  (a15:PySem.W.nsIn K mainGlobals "deed_of" = some (some (.ref f15))) (l15:YH K "deed_of" "deed_of" Ud f15 d15)
  (a16:PySem.W.nsIn K mainGlobals "_law_bag" = some (some (.ref f16))) (l16:YH K "_law_bag" "_law_bag" UH f16 d16)
  (a17:PySem.W.nsIn K mainGlobals "_law_take" = some (some (.ref f17))) (l17:YH K "_law_take" "_law_take" Wb f17 d17)
  (a18:PySem.W.nsIn K mainGlobals "_law_drawing" = some (some (.ref f18))) (l18:YH K "_law_drawing" "_law_drawing" J2 f18 d18)
  (a19:PySem.W.nsIn K mainGlobals "_law_plat" = some (some (.ref f19))) (l19:YH K "_law_plat" "_law_plat" Jy f19 d19)
  (a20:PySem.W.nsIn K mainGlobals "_law_any" = some (some (.ref f20))) (l20:YH K "_law_any" "_law_any" UI f20 d20)
  (a21:PySem.W.nsIn K mainGlobals "_law_curled" = some (some (.ref f21))) (l21:YH K "_law_curled" "_law_curled" YB f21 d21)
  (a22:PySem.W.nsIn K mainGlobals "_law_odd" = some (some (.ref f22))) (l22:YH K "_law_odd" "_law_odd" Uv f22 d22)
  (a23:PySem.W.nsIn K mainGlobals "_law_plus" = some (some (.ref f23))) (l23:YH K "_law_plus" "_law_plus" GN f23 d23)
  (a24:PySem.W.nsIn K mainGlobals "_law_times" = some (some (.ref f24))) (l24:YH K "_law_times" "_law_times" JO f24 d24)
  (a25:PySem.W.nsIn K mainGlobals "_law_some" = some (some (.ref f25))) (l25:YH K "_law_some" "_law_some" GQ f25 d25)
  (a26:PySem.W.nsIn K mainGlobals "between" = some (some (.ref f26))) (l26:YH K "between" "between" Ug f26 d26)
  (a27:PySem.W.nsIn K mainGlobals "_law_hang" = some (some (.ref f27))) (l27:YH K "_law_hang" "_law_hang" GP f27 d27)
  (a28:PySem.W.nsIn K mainGlobals "_law_right" = some (some (.ref f28))) (l28:YH K "_law_right" "_law_right" Ys f28 d28)
  (a29:PySem.W.nsIn K mainGlobals "law" = some (some (.ref f29))) (l29:YH K "law" "law" Zch f29 d29)
  (Zik:PySem.W.nsIn K mainGlobals "len" = some none)
  (Zdm:PySem.W.nsIn K mainGlobals "range" = some none)
  (Ziu:PySem.W.nsIn K mainGlobals "abs" = some none)
  (W6:PySem.W.nsIn K mainGlobals "isinstance" = some none)
  (Ziz:PySem.W.nsIn K mainGlobals "int" = some none)
  (Ze9:PySem.W.nsIn K mainGlobals "bool" = some none)
  (Zhq:PySem.W.nsIn K mainGlobals "all" = some none)
  (ZhT:PySem.W.nsIn K mainGlobals "any" = some none)
  (Zbw:PySem.W.nsIn K mainGlobals "sorted" = some none)
  (ZhR:PySem.W.nsIn K mainGlobals "max" = some none)
  (Zie:PySem.W.nsIn K mainGlobals "min" = some none)
  (Zfc:PySem.W.nsIn K mainGlobals "list" = some none)
  (ZiL:PySem.W.nsIn K mainGlobals "zip" = some none)
  (GC:PySem.W.nsIn K mainGlobals "enumerate" = some none)
  (W5:PySem.W.nsIn K mainGlobals "ValueError" = some none)
  (ZeR:PySem.W.nsIn K mainGlobals "dict" = some none)
  (ZcV:PySem.W.nsIn K mainGlobals "tuple" = some none):
  ∃fd:FuncData,(∀(s:Shared) (v:Value),BindsTo s fd ⟨[v],[]⟩ [("_law_script", v)]) /\ ∀base:Heap,K.In base->base.Ns mainGlobals mg->Z6 l.prog w K mg base WW 11 fa fd ["_law_script"] (Zf2 K):=by
 have e:=hfa.symm.trans (PySem.W.mg_of X G a29)
 cases e
 have Z3:mg "len" = none:=PySem.W.mg_none_of X G Zik
 have Zt:mg "range" = none:=PySem.W.mg_none_of X G Zdm
 have ZfE:mg "abs" = none:=PySem.W.mg_none_of X G Ziu
 have Zjo:mg "isinstance" = none:=PySem.W.mg_none_of X G W6
 have ZnM:mg "int" = none:=PySem.W.mg_none_of X G Ziz
 have ZnB:mg "bool" = none:=PySem.W.mg_none_of X G Ze9
 have Zhg:mg "all" = none:=PySem.W.mg_none_of X G Zhq
 have Zij:mg "any" = none:=PySem.W.mg_none_of X G ZhT
 have Yy:mg "sorted" = none:=PySem.W.mg_none_of X G Zbw
 have Zak:mg "max" = none:=PySem.W.mg_none_of X G ZhR
 have ZiN:mg "min" = none:=PySem.W.mg_none_of X G Zie
 have Zaz:mg "list" = none:=PySem.W.mg_none_of X G Zfc
 have Zcc:mg "zip" = none:=PySem.W.mg_none_of X G ZiL
 have ZR:mg "enumerate" = none:=PySem.W.mg_none_of X G GC
 have ZjP:mg "ValueError" = none:=PySem.W.mg_none_of X G W5
 have ZeE:mg "dict" = none:=PySem.W.mg_none_of X G ZeR
 have Zde:mg "tuple" = none:=PySem.W.mg_none_of X G ZcV
 have WV:=PySem.W.mg_of X G Wv
 have JP:mg "TooMany" = some (.ref ZC):=PySem.W.mg_of X G UA
 have ZaB:mg "WordWay" = some (.ref Zr):=PySem.W.mg_of X G UE
 have ZkK:=l0
 have Zmm:=ZkK.binds (ps:=["odd", "words"]) fun _ _ _ _ _ _=>us2 fun _ _=>rfl
 have ZfQ:=l1
 have ZjV:=ZfQ.binds (ps:=["one", "other"]) fun _ _ _ _ _ _=>us2 fun _ _=>rfl
 have U8:=l2
 have ZcU:=U8.binds (ps:=["one", "other"]) fun _ _ _ _ _ _=>us2 fun _ _=>rfl
 have WC:=l3
 have ZaG:=WC.binds (ps:=["self"]) fun _ _ _ _ _ _=>us1 fun _=>rfl
 have GD:=l4
 have Zbu:=GD.binds (ps:=["self"]) fun _ _ _ _ _ _=>us1 fun _=>rfl
 have GO:=l5
 have Zbb:=GO.binds (ps:=["self", "one", "other"]) fun _ _ _ _ _ _=>us3 fun _ _ _=>rfl
 have Ga:=l6
 have ZaR:=Ga.binds (ps:=["self", "one", "other"]) fun _ _ _ _ _ _=>us3 fun _ _ _=>rfl
 have Gi:=l7
 have Zbk:=Gi.binds (ps:=["table", "k", "way"]) fun _ _ _ _ _ _=>us3 fun _ _ _=>rfl
 have Wf:=l8
 have Zai:=Wf.binds (ps:=["table", "k", "name", "way"]) fun _ _ _ _ _ _=>us4 fun _ _ _ _=>rfl
 have U9:=l9
 have ZcT:=U9.binds (ps:=["table", "k", "name", "way"]) fun _ _ _ _ _ _=>us4 fun _ _ _ _=>rfl
 have GI:=l10
 have Zbi:=GI.binds (ps:=["table", "letter", "name", "way"]) fun _ _ _ _ _ _=>us4 fun _ _ _ _=>rfl
 have Uq:=l11
 have Zb8:=Uq.binds (ps:=["table"]) fun _ _ _ _ _ _=>us1 fun _=>rfl
 have UU:=l12
 have Zdt:=UU.binds (ps:=["drawing"]) fun _ _ _ _ _ _=>us1 fun _=>rfl
 have Zbq:=l13
 have Zet:=Zbq.binds (ps:=["drawing"]) fun _ _ _ _ _ _=>us1 fun _=>rfl
 have ZfU:=l14
 have ZjA:=ZfU.binds (ps:=["drawing"]) fun _ _ _ _ _ _=>us1 fun _=>rfl
 have Zcf:=l15
 have ZgF:=Zcf.binds (ps:=["drawing", "one"]) fun _ _ _ _ _ _=>us2 fun _ _=>rfl
 have ZbD:=l16
 have Zeq:=ZbD.binds (ps:=["_law_script", "_law_at"]) fun _ _ _ _ _ _=>us2 fun _ _=>rfl
 have GL:=l17
 have ZaJ:=GL.binds (ps:=["_law_bag_here", "_law_many"]) fun _ _ _ _ _ _=>us2 fun _ _=>rfl
 have GH:=l18
 have Zbf:=GH.binds (ps:=["_law_bag_here", "_law_births", "_law_most"]) fun _ _ _ _ _ _=>us3 fun _ _ _=>rfl
 have ZaM:=l19
 have Zdz:=ZaM.binds (ps:=["_law_bag_here", "_law_most"]) fun _ _ _ _ _ _=>us2 fun _ _=>rfl
 have Zba:=l20
 have Zfl:=Zba.binds (ps:=["_law_bag_here", "_law_most"]) fun _ _ _ _ _ _=>us2 fun _ _=>rfl
 have Ws:=l21
 have Um:=Ws.binds (ps:=["_law_bag_here", "_law_most"]) fun _ _ _ _ _ _=>us2 fun _ _=>rfl
 have Zbx:=l22
 have ZeH:=Zbx.binds (ps:=["_law_words"]) fun _ _ _ _ _ _=>us1 fun _=>rfl
 have ZaP:=l23
 have Zdx:=ZaP.binds (ps:=["_law_one", "_law_other"]) fun _ _ _ _ _ _=>us2 fun _ _=>rfl
 have Zaf:=l24
 have ZcW:=Zaf.binds (ps:=["_law_one", "_law_other"]) fun _ _ _ _ _ _=>us2 fun _ _=>rfl
 have ZaO:=l25
 have Zeb:=ZaO.binds (ps:=["_law_bag_here", "_law_most"]) fun _ _ _ _ _ _=>us2 fun _ _=>rfl
 have ZcE:=l26
 have ZgW:=ZcE.binds (ps:=["drawing"]) fun _ _ _ _ _ _=>us1 fun _=>rfl
 have ZaI:=l27
 have ZdM:=ZaI.binds (ps:=["_law_drawing_here", "_law_table"]) fun _ _ _ _ _ _=>us2 fun _ _=>rfl
 have Zah:=l28
 have Zc0:=Zah.binds (ps:=["_law_drawing_here", "_law_bag_here"]) fun _ _ _ _ _ _=>us2 fun _ _=>rfl
 have ZkJ:=l29
 have ZnO:=ZkJ.binds (ps:=["_law_script"]) fun _ _ _ _ _ _=>us1 fun _=>rfl
 obtain ⟨oc,od,kV,dc,pm,an,cd,ct,sl,rfl,_,_⟩:=l29.ex
 refine ⟨PySem.W.fnOf "law" "law" (U5 Zch) (We Zch) (Zh Zch) .none kV dc pm an cd ct,fun s v=>.of_eq rfl,fun base _ _=>?_⟩
 have Uo:JB l.prog w K mg base 1 "put" ["odd", "words"] Zd3:=Yn (Zk9 ZkK) (PySem.W.mg_of X G a0) l0.kp Zmm
 have GR:JB l.prog w K mg base 2 "added" ["one", "other"] Za9:=Yn (Zhl ZfQ Uo Yy) (PySem.W.mg_of X G a1) l1.kp ZjV
 have WU:JB l.prog w K mg base 2 "multiplied" ["one", "other"] Zfh:=Yn (Zj2 U8 Uo Yy) (PySem.W.mg_of X G a2) l2.kp ZcU
 have Jz:UM l.prog w K mg base 1 Zr "nought" ["self"] (U6 Zr):=ZaZ (ZgQ WC) a3 n3 l3.kp ZaG
 have Zex:UM l.prog w K mg base 1 Zr "unit" ["self"] (Zfe Zr):=ZaZ (Zjg GD) a4 n4 l4.kp Zbu
 have WJ:UM l.prog w K mg base 3 Zr "plus" ["self", "one", "other"] Za4:=ZaZ (Zg9 GO GR) a5 n5 l5.kp Zbb
 have JJ:UM l.prog w K mg base 3 Zr "times" ["self", "one", "other"] UN:=ZaZ (ZgO Ga WU) a6 n6 l6.kp ZaR
 have J3:JB l.prog w K mg base 2 "behind_birth" ["table", "k", "way"] (Zc2 Zr):=Yn (ZiK Gi c_way Jz Zex Zt Z3) (PySem.W.mg_of X G a7) l7.kp Zbk
 have Jh:JB l.prog w K mg base 4 "behind_crossing" ["table", "k", "name", "way"] (ZcQ Zr):=Yn (ZhG Wf c_way Jz WJ JJ Zt Z3 Zaz) (PySem.W.mg_of X G a8) l8.kp Zai
 have WI:JB l.prog w K mg base 4 "behind_end" ["table", "k", "name", "way"] (ZhQ Zr):=Yn (Zlu U9 c_way WJ JJ Zt Z3 Zcc) (PySem.W.mg_of X G a9) l9.kp ZcT
 have JT:JB l.prog w K mg base 5 "table_behind" ["table", "letter", "name", "way"] (Zlt Zr):=Yn (ZmU GI J3 Jh WI) (PySem.W.mg_of X G a10) l10.kp Zbi
 have Wl:GF l.prog w K mg base 1 "check_words" ["table"] (Zln ZC):=UO (Zmv Uq JP Y1 WV Z3) (PySem.W.mg_of X G a11) l11.kp Zb8
 have YR:GF l.prog w K mg base 6 "sum_tables" ["drawing"] (ZjZ ZC Zr):=UO (ZmK UU ZaB k_WordWay JT Wl ZR) (PySem.W.mg_of X G a12) l12.kp Zdt
 have Js:JB l.prog w K mg base 1 "names_of" ["drawing"] (Zgb fun x=>!decide (x = "born")):=Yn (Zhf Zbq ZR) (PySem.W.mg_of X G a13) l13.kp Zet
 have JL:GF l.prog w K mg base 7 "deeds" ["drawing"] (U2 ZC):=UO (ZhU ZfU YR Js GR) (PySem.W.mg_of X G a14) l14.kp ZjA
 have Y7:GF l.prog w K mg base 8 "deed_of" ["drawing", "one"] (Zan ZC):=UO (Zgz Zcf Js JL Uo ZeE Zcc ZR Yy) (PySem.W.mg_of X G a15) l15.kp ZgF
 have UC:JB l.prog w K mg base 1 "_law_bag" ["_law_script", "_law_at"] (Zhw K):=Yn (ZlP ZbD Z3 ZfE) (PySem.W.mg_of X G a16) l16.kp Zeq
 have Zl:JB l.prog w K mg base 1 "_law_take" ["_law_bag_here", "_law_many"] JX:=Yn (Zj4 GL) (PySem.W.mg_of X G a17) l17.kp ZaJ
 have J7:JB l.prog w K mg base 2 "_law_drawing" ["_law_bag_here", "_law_births", "_law_most"] (Zfm 0):=Yn (ZjR GH Zl Zt) (PySem.W.mg_of X G a18) l18.kp Zbf
 have Gr:JB l.prog w K mg base 2 "_law_plat" ["_law_bag_here", "_law_most"] Zcy:=Yn (ZjS ZaM Zl Zt) (PySem.W.mg_of X G a19) l19.kp Zdz
 have Ut:JB l.prog w K mg base 3 "_law_any" ["_law_bag_here", "_law_most"] Zcy:=Yn (Zlg Zba Zl Gr J7) (PySem.W.mg_of X G a20) l20.kp Zfl
 have YV:JB l.prog w K mg base 2 "_law_curled" ["_law_bag_here", "_law_most"] ZeM:=Yn (Zgm Ws Zl Zt Z3 Zak) (PySem.W.mg_of X G a21) l21.kp Um
 have Jm:JB l.prog w K mg base 1 "_law_odd" ["_law_words"] ZfG:=Yn (Zls Zbx Yy) (PySem.W.mg_of X G a22) l22.kp ZeH
 have Gx:JB l.prog w K mg base 2 "_law_plus" ["_law_one", "_law_other"] Zfk:=Yn (Zj5 ZaP Jm) (PySem.W.mg_of X G a23) l23.kp Zdx
 have WY:JB l.prog w K mg base 2 "_law_times" ["_law_one", "_law_other"] Zc9:=Yn (Zi1 Zaf Jm) (PySem.W.mg_of X G a24) l24.kp ZcW
 have GJ:JB l.prog w K mg base 4 "_law_some" ["_law_bag_here", "_law_most"] Ze5:=Yn (ZjO ZaO Zl Ut YV) (PySem.W.mg_of X G a25) l25.kp Zeb
 have Zao:GF l.prog w K mg base 7 "between" ["drawing"] (Zia ZC):=UO (Zk8 ZcE YR Zaz) (PySem.W.mg_of X G a26) l26.kp ZgW
 have hq__law_take:ZgG l.prog w K mg base 1 "_law_take" ["_law_bag_here", "_law_many"] JX:=Zfu (Zhh GL) (PySem.W.mg_of X G a17) l17.kp ZaJ
 have hq__law_curled:ZgG l.prog w K mg base 2 "_law_curled" ["_law_bag_here", "_law_most"] Zc4:=Zfu (ZeB Ws hq__law_take Zt Z3 Zak) (PySem.W.mg_of X G a21) l21.kp Um
 have GB:JB l.prog w K mg base 9 "_law_hang" ["_law_drawing_here", "_law_table"] Ze4:=Yn (Zjt ZaI Y7 WY Gx Z3 Zt) (PySem.W.mg_of X G a27) l27.kp ZdM
 have W7:JB l.prog w K mg base 10 "_law_right" ["_law_drawing_here", "_law_bag_here"] Zc1:=Yn (ZiV Zah Y7 JL Zao Zl GB Z3 Zt Zij Zhg Zde ZR) (PySem.W.mg_of X G a28) l28.kp Zc0
 exact ZkT ZkJ JP Y1 WD UC GJ JL hq__law_curled W7 Zt Zak ZiN Z3
theorem walk {l:PySem.W.OpenLaw}{q:Program}{loose:List Str}{XP:(Str->Option Value)->Heap->Prop}{YP:World->Heap->Prop}{d:DefRec}{K:Params->PySem.W.Frag} (hn:l.most=some 63) (hdf:d.params.defaults = [])
  (hY:∀(w:World) (h:Heap),YP w h->(K w.params).In h)
  (F:∀(w:World) (mg:Str->Option Value) (fa:Addr) (h:Heap),(K w.params).In h->h.Ns mainGlobals mg->mg d.name=some (.ref fa) ->
   ∃fd:FuncData,(∀(s:Shared) (u:Value),BindsTo s fd ⟨[u],[]⟩ [("_law_script", u)]) /\ ∀base:Heap,(K w.params).In base->base.Ns mainGlobals mg->Z6 l.prog w (K w.params) mg base WW 11 fa fd ["_law_script"] (Zf2 (K w.params))):
  PySem.W.WalkO q loose XP YP l.row.toRowW d [] (fun f vs=>PySem.call f vs):=
 L2.Zjs (n:=63) (k:=11) (x := "_law_script") (CX:=fun _=>WW) (sp:=fun w=>Zf2 (K w.params)) hn (by decide) hdf ⟨rfl,by decide,by decide⟩ hY F (fun _ _ a ns hl _ hS=>⟨a,ns,rfl,hS,hl,fun _=>rfl⟩) fun _ _ _ _ _ z=>z
end
end Qk15
namespace PySem.W.Fast
def tw299133426264927552:=0
def tw17475179847215919488:=0
def tw11691476856451328736:=0
def tw13839785607719641920:=0
def tw8582640844899464000:=0
def tw2995605729159513920:=0
def tw1220510189922406240:=0
def tw2033428020052092033:=0
def tw2306561044896297185:=0
def tw1949420368846958401:=0
def tw8561022847931331521:=0
def tw5539077852627819554:=0
def tw10022506087171890498:=0
def tw3972367678365289890:=0
def tw3488812035492908450:=0
def tw1365029273827612322:=0
def tw10035977483901038402:=0
def tw1466969024154335267:=0
def tw4602304400755931427:=0
def tw14093389700611710243:=0
def tw15287937288523403587:=0
def tw8450866997912558147:=0
def tw6673813449915812579:=0
def tw8579590199960950691:=0
def tw1323799850775689348:=0
def tw3682717722251398372:=0
def tw16429837683370917380:=0
def tw3989714229185597988:=0
def tw11225692888528948804:=0
def tw889913052792639140:=0
def tw9631685035065587428:=0
def tw5320948460322186020:=0
def tw4301189724137023525:=0
def tw14945985679663536197:=0
def tw16897046424924115141:=0
def tw17160094265429081285:=0
def tw14606328362783484133:=0
def tw11759160545246250245:=0
def tw6990930377420156229:=0
def tw14186869799303262565:=0
def tw2153188243271006757:=0
def tw4288565558779427429:=0
def tw10276538829636686501:=0
def tw9598454417421234853:=0
def tw17438917412811009893:=0
def tw7492466809302568869:=0
def tw2207650468681683366:=0
def tw1778139917511714374:=0
def tw17859783651109440134:=0
def tw1950191986086491303:=0
def tw10649783611484813479:=0
def tw13891352900708193479:=0
def tw4922900801060281607:=0
def tw16409480314611463495:=0
def tw4322211996010445191:=0
def tw4331217802679396743:=0
def tw6482059493368200679:=0
def tw7630066890334693895:=0
def tw1237883399165619175:=0
def tw4946116205176358984:=0
def tw16813487176203096296:=0
def tw12567893270053250504:=0
def tw805426591394169320:=0
def tw776500476942627720:=0
def tw3821239453959604745:=0
def tw14601404666139989577:=0
def tw14268714682101775273:=0
def tw8223627643637001514:=0
def tw7451398664117027178:=0
def tw9286810062721931658:=0
def tw14105981119417076170:=0
def tw2760898506902138602:=0
def tw714125609702345482:=0
def tw2845808427985893547:=0
def tw8132022563507502603:=0
def tw1284526835591174699:=0
def tw3760184515604839211:=0
def tw10717435469117667340:=0
def tw15477253285285364876:=0
def tw15598030457146375404:=0
def tw2532631848732093740:=0
def tw4530317693263411692:=0
def tw10147649616383161932:=0
def tw7971095353346279148:=0
def tw9702105135484434252:=0
def tw773437977758186380:=0
def tw16241157973852713964:=0
def tw4656031176025556109:=0
def tw8213848496280107597:=0
def tw9343956263524172397:=0
def tw15895656956685227629:=0
def tw9644820467380507437:=0
def tw3762212337589977901:=0
def tw16342492217392060301:=0
def tw16509889936464189357:=0
def tw7154461048602734606:=0
def tw8828686908110068814:=0
def tw149498750851658094:=0
def tw14306374441920227694:=0
def tw17665159502998708654:=0
def tw2120282424131126766:=0
def tw2495925646702728782:=0
def tw10090319324021479182:=0
def tw11934218418786994030:=0
def tw7708176371524282318:=0
def tw3919853555968450542:=0
def tw2412165311443802735:=0
def tw4517387613014794127:=0
def tw5640167095348013967:=0
def tw17691132967224495087:=0
def tw4574212059123422256:=0
def tw7180236344583131280:=0
def tw16909361997723820336:=0
def tw8503213355068032432:=0
def tw7754917807907628560:=0
def tw17271258979975778032:=0
def tw7309152155544860432:=0
def tw16014661288333981616:=0
def tw6851410813620211664:=0
def tw13516830445737751793:=0
def tw8524941621385094449:=0
def tw9295870193418612177:=0
def tw6179885579633162865:=0
def tw15211794572721622705:=0
def tw17624564660445108370:=0
def tw6399562701708399794:=0
def tw12593459467123658994:=0
def tw9806285925219508690:=0
def tw14151989759421895186:=0
def tw4300577590908872338:=0
def tw15916184216017898450:=0
def tw3208609826560778259:=0
def tw267317508373489715:=0
def tw17978744692515619955:=0
def tw15619390210957372595:=0
def tw14210539017748687091:=0
def tw8965755380260461971:=0
def tw15768759558310852147:=0
def tw8616414287907596915:=0
def tw9648715936558522003:=0
def tw2939738974007058099:=0
def tw10082202020188012307:=0
def tw14810670320177488691:=0
def tw445083868565994483:=0
def tw14941073175675191604:=0
def tw1042737807378050612:=0
def tw8355448248621158004:=0
def tw5202311116809124660:=0
def tw2910322330233091221:=0
def tw13520409415001318901:=0
def tw16771086885941199445:=0
def tw13764421550677147221:=0
def tw8368746377539373973:=0
def tw1109312394203767862:=0
def tw9270607076679863446:=0
def tw13551364235734568278:=0
def tw784559421025511030:=0
def tw7647840123575943894:=0
def tw76709104076542710:=0
def tw417701396359461654:=0
def tw744526867747402646:=0
def tw14850506184690508694:=0
def tw26094835825922071:=0
def tw9987644360810051991:=0
def tw17840356738990802615:=0
def tw16012336740775831319:=0
def tw5243673550180946807:=0
def tw6264322183613777944:=0
def tw4161699476810219896:=0
def tw566900453532124600:=0
def tw11193385440875275704:=0
def tw888856427856038424:=0
def tw15518073001598127928:=0
def tw10692349447475101592:=0
def tw14245717534754110392:=0
def tw10908994559422242873:=0
def tw5876795297336200409:=0
def tw6947260230595172633:=0
def tw2555817709478415673:=0
def tw9414177767152871065:=0
def tw12371712578747138905:=0
def tw12962839558250362713:=0
def tw14920796232747713690:=0
def tw3927929546625933466:=0
def tw10947347853008771258:=0
def tw10373790651099492698:=0
def tw7984912047211887226:=0
def tw8745746787963321114:=0
def tw2090298733095475130:=0
def tw12041508375933884443:=0
def tw16776438591117037819:=0
def tw10932506547692765723:=0
def tw17915359721847946875:=0
def tw15718169082986113308:=0
def tw2028084619851210012:=0
def tw5157638263416608092:=0
def tw850132435277590076:=0
def tw15999974765882591932:=0
def tw6713568913221572733:=0
def tw14108980443266941245:=0
def tw11307351008821035325:=0
def tw5433103074709952925:=0
def tw17621401850153234077:=0
def tw5199190705683213021:=0
def tw15039868687553233757:=0
def tw4030755526283306941:=0
def tw10835458617498159390:=0
def tw1055368300057831806:=0
def tw3967225955692136030:=0
def tw14595749838866447998:=0
def tw9399149440343472766:=0
def tw11377444502669670046:=0
def tw13376006631940519967:=0
def tw15159267300652940383:=0
def tw3966962938745987327:=0
def tw11177016299303162303:=0
def tw3410694994941708895:=0
def tw10957785887172401759:=0
def tw11933338775160245951:=0
end PySem.W.Fast
open PySem PySem.W PyProof.Rows
set_option maxRecDepth 100000 in
set_option maxHeartbeats 0 in
theorem PySem.Challenge.cw_bendfronts_k15_whole_deed_twice_holds : PySem.Challenge.rw_bendfronts_k15_whole_deed_twice.Holds := by
 w_on; o_law; k_head; (case hw => w_witness2)
 k_fill
 refine Qk15.walk (l := PySem.Challenge.rw_bendfronts_k15_whole_deed_twice) rfl rfl (fun w h Y => PySem.W.kIn_of Y) ?F
 case F =>
  intro w mg fa h KX G hmg
  refine' Qk15.all_mk KX G hmg ?Wv ?UA ?UE ?Y1 ?WD ?c_way ?k_WordWay ?a0 ?l0 ?a1 ?l1 ?a2 ?l2 ?a3 ?l3 ?n3 ?a4 ?l4 ?n4 ?a5 ?l5 ?n5 ?a6 ?l6 ?n6 ?a7 ?l7 ?a8 ?l8 ?a9 ?l9 ?a10 ?l10 ?a11 ?l11 ?a12 ?l12 ?a13 ?l13 ?a14 ?l14 ?a15 ?l15 ?a16 ?l16 ?a17 ?l17 ?a18 ?l18 ?a19 ?l19 ?a20 ?l20 ?a21 ?l21 ?a22 ?l22 ?a23 ?l23 ?a24 ?l24 ?a25 ?l25 ?a26 ?l26 ?a27 ?l27 ?a28 ?l28 ?a29 ?l29 ?Zik ?Zdm ?Ziu ?W6 ?Ziz ?Ze9 ?Zhq ?ZhT ?Zbw ?ZhR ?Zie ?Zfc ?ZiL ?GC ?W5 ?ZeR ?ZcV
  (case Wv => first | k_is | rfl)
  (case UA => k_is)
  (case UE => k_is)
  (case Y1 => k_exc)
  (case WD => first | k_is | rfl | decide +kernel)
  (case c_way => exact ⟨by first | k_is | rfl | decide +kernel, by first | k_is | rfl | decide +kernel, by first | k_is | rfl | decide +kernel, by first | k_is | rfl | decide +kernel⟩)
  (case k_WordWay => exact ⟨by first | k_is | rfl | decide +kernel, by first | k_is | rfl | decide +kernel, by first | k_is | rfl | decide +kernel⟩)
  (case a0 => k_is)
  (case l0 => exact L2.ZN (by k_is) (by k_is) (by k_is))
  (case a1 => k_is)
  (case l1 => exact L2.ZN (by k_is) (by k_is) (by k_is))
  (case a2 => k_is)
  (case l2 => exact L2.ZN (by k_is) (by k_is) (by k_is))
  (case a3 => first | k_is | rfl | decide +kernel)
  (case l3 => exact L2.ZN (by k_is) (by k_is) (by k_is))
  (case n3 => first | k_is | rfl | decide +kernel)
  (case a4 => first | k_is | rfl | decide +kernel)
  (case l4 => exact L2.ZN (by k_is) (by k_is) (by k_is))
  (case n4 => first | k_is | rfl | decide +kernel)
  (case a5 => first | k_is | rfl | decide +kernel)
  (case l5 => exact L2.ZN (by k_is) (by k_is) (by k_is))
  (case n5 => first | k_is | rfl | decide +kernel)
  (case a6 => first | k_is | rfl | decide +kernel)
  (case l6 => exact L2.ZN (by k_is) (by k_is) (by k_is))
  (case n6 => first | k_is | rfl | decide +kernel)
  (case a7 => k_is)
  (case l7 => exact L2.ZN (by k_is) (by k_is) (by k_is))
  (case a8 => k_is)
  (case l8 => exact L2.ZN (by k_is) (by k_is) (by k_is))
  (case a9 => k_is)
  (case l9 => exact L2.ZN (by k_is) (by k_is) (by k_is))
  (case a10 => k_is)
  (case l10 => exact L2.ZN (by k_is) (by k_is) (by k_is))
  (case a11 => k_is)
  (case l11 => exact L2.ZN (by k_is) (by k_is) (by k_is))
  (case a12 => k_is)
  (case l12 => exact L2.ZN (by k_is) (by k_is) (by k_is))
  (case a13 => k_is)
  (case l13 => exact L2.ZN (by k_is) (by k_is) (by k_is))
  (case a14 => k_is)
  (case l14 => exact L2.ZN (by k_is) (by k_is) (by k_is))
  (case a15 => k_is)
  (case l15 => exact L2.ZN (by k_is) (by k_is) (by k_is))
  (case a16 => k_is)
  (case l16 => exact L2.ZN (by k_is) (by k_is) (by k_is))
  (case a17 => k_is)
  (case l17 => exact L2.ZN (by k_is) (by k_is) (by k_is))
  (case a18 => k_is)
  (case l18 => exact L2.ZN (by k_is) (by k_is) (by k_is))
  (case a19 => k_is)
  (case l19 => exact L2.ZN (by k_is) (by k_is) (by k_is))
  (case a20 => k_is)
  (case l20 => exact L2.ZN (by k_is) (by k_is) (by k_is))
  (case a21 => k_is)
  (case l21 => exact L2.ZN (by k_is) (by k_is) (by k_is))
  (case a22 => k_is)
  (case l22 => exact L2.ZN (by k_is) (by k_is) (by k_is))
  (case a23 => k_is)
  (case l23 => exact L2.ZN (by k_is) (by k_is) (by k_is))
  (case a24 => k_is)
  (case l24 => exact L2.ZN (by k_is) (by k_is) (by k_is))
  (case a25 => k_is)
  (case l25 => exact L2.ZN (by k_is) (by k_is) (by k_is))
  (case a26 => k_is)
  (case l26 => exact L2.ZN (by k_is) (by k_is) (by k_is))
  (case a27 => k_is)
  (case l27 => exact L2.ZN (by k_is) (by k_is) (by k_is))
  (case a28 => k_is)
  (case l28 => exact L2.ZN (by k_is) (by k_is) (by k_is))
  (case a29 => k_is)
  (case l29 => exact L2.ZN (by k_is) (by k_is) (by k_is))
  (case Zik => k_is)
  (case Zdm => k_is)
  (case Ziu => k_is)
  (case W6 => k_is)
  (case Ziz => k_is)
  (case Ze9 => k_is)
  (case Zhq => k_is)
  (case ZhT => k_is)
  (case Zbw => k_is)
  (case ZhR => k_is)
  (case Zie => k_is)
  (case Zfc => k_is)
  (case ZiL => k_is)
  (case GC => k_is)
  (case W5 => k_is)
  (case ZeR => k_is)
  (case ZcV => k_is)

import PyProof.Rows.All
import Wide.All
import OpenK.AllK
import Wide.FinOn
import Lean
import PyProof.EqAt
import PyProof.EqKinds
import PyProof.TupleCall
import PyProof.AttrMissHeap
import PyProof.FactsAll.zip_1
import KE.KDictOf
import PyProof.Draws
import PySem.Challenge.RW_bendfronts_k16_deeds_lower
set_option Elab.async false
set_option linter.all false
set_option maxRecDepth 100000
namespace L2
open PySem PySem.Spec PyProof.Rows
abbrev Key:=Sum Int Str
def ZcI:Key->Value->Bool
 | .inl k,v=>Value.isInt k v
 | .inr x,v=>Value.isStrOf x v
def Zm2 (w:World):Key->Int
 | .inl k=>hashInt k
 | .inr x=>hashStr w x
theorem Z8:∀{k:Key}{v:Value},ZcI k v=true->(∃i t,k=Sum.inl i/\v=Value.int i t)∨(∃x t,k=Sum.inr x/\v=Value.str x t)
 | .inl i,v,h=>by
  obtain ⟨t,e⟩:=Value.isInt_shape (k:=i) (v:=v) h
  exact .inl ⟨i,t,rfl,e⟩
 | .inr x,v,h=>by
  obtain ⟨t,e⟩:=Value.isStrOf_shape (x:=x) (v:=v) h
  exact .inr ⟨x,t,rfl,e⟩
theorem Zgs (i:Int) (t:Tok):ZcI (.inl i) (.int i t)=true:=by simp [ZcI,Value.isInt]
theorem ZgA (x:Str) (t:Tok):ZcI (.inr x) (.str x t)=true:=by simp [ZcI,Value.isStrOf]
theorem ZlB (a b:Int):decide ((Sum.inl a:Key)=Sum.inl b)=(a==b):=by
 by_cases e:a=b
 ·subst e;simp
 ·have h:¬(Sum.inl a:Key)=Sum.inl b:=fun q=>e (Sum.inl.inj q)
  rw [decide_eq_false h]
  exact (beq_eq_false_iff_ne.mpr e).symm
theorem ZlQ (a b:Str):decide ((Sum.inr a:Key)=Sum.inr b)=decide (a=b):=by
 by_cases e:a=b
 ·subst e;simp
 ·have h:¬(Sum.inr a:Key)=Sum.inr b:=fun q=>e (Sum.inr.inj q)
  rw [decide_eq_false h,decide_eq_false e]
theorem ZkG (a:Int) (b:Str):decide ((Sum.inl a:Key)=Sum.inr b)=false:=decide_eq_false (fun q=>nomatch q)
theorem ZlN (a:Str) (b:Int):decide ((Sum.inr a:Key)=Sum.inl b)=false:=decide_eq_false (fun q=>nomatch q)
def ZQ (prog:Program) (w:World):PySem.KeyKind prog w Key where
 is:=ZcI
 hash:=Zm2 w
 inj:=fun v a b ha hb=>by
  rcases Z8 ha with ⟨i,t,rfl,rfl⟩ | ⟨x,t,rfl,rfl⟩
  ·rcases Z8 hb with ⟨j,u,rfl,e⟩ | ⟨y,u,rfl,e⟩
   ·injection e with e1 _;rw [e1]
   ·exact nomatch e
  ·rcases Z8 hb with ⟨j,u,rfl,e⟩ | ⟨y,u,rfl,e⟩
   ·exact nomatch e
   ·injection e with e1 _;rw [e1]
 byValue:=fun k v h=>by
  rcases Z8 h with ⟨i,t,rfl,rfl⟩ | ⟨x,t,rfl,rfl⟩<;>rfl
 pyHash:=fun hv h=>by
  rcases Z8 hv with ⟨i,t,rfl,rfl⟩ | ⟨x,t,rfl,rfl⟩
  ·exact wpAny_pyHash_int h
  ·exact wpAny_pyHash_str h
 eqBool:=fun hu hv h=>by
  rcases Z8 hu with ⟨i,t,rfl,rfl⟩ | ⟨x,t,rfl,rfl⟩
  ·rcases Z8 hv with ⟨j,u,rfl,rfl⟩ | ⟨y,u,rfl,rfl⟩
   ·rw [ZlB] at h;exact wpAny_eqBool_int h
   ·rw [ZkG] at h;exact SeqAt.EqAt.int_str i t y u _ _ _ _ h
  ·rcases Z8 hv with ⟨j,u,rfl,rfl⟩ | ⟨y,u,rfl,rfl⟩
   ·rw [ZlN] at h;exact SeqAt.EqAt.str_int x t j u _ _ _ _ h
   ·rw [ZlQ] at h;exact wpAny_eqBool_str h
 «strs»:=fun k x t v h=>by
  rcases Z8 h with ⟨i,u,rfl,e⟩ | ⟨y,u,rfl,e⟩
  ·exact nomatch e
  ·injection e with e1 _
   subst e1
   cases v<;>rfl
theorem ZdI (prog:Program) (w:World) (i:Int) (t:Tok):(ZQ prog w).is (.inl i) (.int i t)=true:=Zgs i t
theorem ZdR (prog:Program) (w:World) (x:Str) (t:Tok):(ZQ prog w).is (.inr x) (.str x t)=true:=ZgA x t
inductive V where
 | non | bl (b:Bool) | int (i:Int) | str (x:Str) | byt (b:Array UInt8) | flt (b:UInt64) | ref (a:Addr) | ty (n:String)
 deriving DecidableEq
def RelV:V->Value->Prop
 | .non,u=>u=Value.none
 | .bl b,u=>u=Value.bool b
 | .int i,u=>∃t,u=Value.int i t
 | .str x,u=>∃t,u=Value.str x t
 | .byt b,u=>∃t,u=Value.bytes b t
 | .flt b,u=>∃t,u=Value.float b t
 | .ref a,u=>u=Value.ref a
 | .ty n,u=>u=Value.type n
abbrev Vals:List V->List Value->Prop:=Paired RelV
theorem Vals.length {xs:List V}{us:List Value} (r:Vals xs us):xs.length=us.length:=Paired.length r
theorem Vals.get:∀{xs:List V}{us:List Value}{i:Nat}{x:V},Vals xs us->xs[i]? = some x -> ∃u,us[i]? = some u/\RelV x u
 | _,_,_,_,.nil,e=>by simp at e
 | _,_,0,_,.cons r _,e=>by simp at e;subst e;exact ⟨_,rfl,r⟩
 | _,_,i+1,x,.cons _ t,e=>by
  obtain ⟨u,h1,h2⟩:=Vals.get (i:=i) (x:=x) t (by simpa using e)
  exact ⟨u,by simpa using h1,h2⟩
theorem Vals.set {x:V}{u:Value} (r:RelV x u):∀{xs:List V}{us:List Value} (i:Nat),Vals xs us->Vals (xs.set i x) (us.set i u)
 | _,_,_,.nil=>.nil
 | _,_,0,.cons _ t=>.cons r t
 | _,_,i+1,.cons q t=>.cons q (Vals.set r i t)
theorem Vals.append:∀{xs ys:List V}{us ws:List Value},Vals xs us->Vals ys ws->Vals (xs++ys) (us++ws)
 | _,_,_,_,.nil,s=>s
 | _,_,_,_,.cons r t,s=>.cons r (Vals.append t s)
theorem Vals.take:∀{xs:List V}{us:List Value} (n:Nat),Vals xs us->Vals (xs.take n) (us.take n)
 | _,_,0,_=>.nil
 | _,_,_+1,.nil=>.nil
 | _,_,n+1,.cons r t=>.cons r (Vals.take n t)
theorem Vals.drop:∀{xs:List V}{us:List Value} (n:Nat),Vals xs us->Vals (xs.drop n) (us.drop n)
 | _,_,0,r=>r
 | _,_,_+1,.nil=>.nil
 | _,_,n+1,.cons _ t=>Vals.drop n t
def UW:Option V->Option Value->Prop
 | some v,some u=>RelV v u
 | none,none=>True
 | _,_=>False
def KV {κ:Type}:List (κ × V)->List (κ × Value)->Prop:=Paired fun (p:κ × V) (q:κ × Value)=>p.1=q.1/\RelV p.2 q.2
def kV:Key->V
 | .inl i=>.int i
 | .inr x=>.str x
inductive HO where
 | lst (xs:List V)
 | tup (xs:List V)
 | dK (kvs:List (Key×V)) | dT (kvs:List (List Key×V))
 | set (S:Int->Bool) (n:Nat)
 | ins (C dx:Addr) (fs:List (Str×V))
 | own (x:Addr)
 | xd (fs:List (Str×V))
 | met (f x:Addr)
 | rng (lo hi:Int)
 | frz (o:Obj) (u:HO)
 | tbl (ps:Array Value)
 | ext (φ:Heap->Prop)
abbrev Hp:=Addr->Option HO
def upd (H:Hp) (a:Addr) (o:HO):Hp:=fun b=>if b=a then some o else H b
theorem Zb {H:Hp}{a:Addr}{o:HO}:upd H a o a=some o:=by unfold upd;rw [if_pos rfl]
theorem Zi {H:Hp}{a b:Addr}{o:HO} (h:b≠a):upd H a o b=H b:=by unfold upd;rw [if_neg h]
theorem W9 {H:Hp}{a:Addr}{o u:HO}:upd (upd H a o) a u=upd H a u:=by
 funext b;unfold upd;split<;>rfl
theorem Zgm {H:Hp}{a b:Addr}{o u:HO} (h:H a=some o) (h':H b=some u) (d:o≠u):a≠b:=by
 intro e;subst e;rw [h] at h';exact d (Option.some.inj h')
theorem Zg {H:Hp}{a b:Addr}{o:HO} (h:H a=some o) (h':H b=none):a≠b:=by
 intro e;subst e;rw [h] at h';cases h'
section
variable (P:Program) (w:World)
def Yo (H:Hp) (h:Heap) (a:Addr):HO->Prop
 | .lst xs=>xs.length<=sizeLine /\ ∃(its:List Value) (n:Nat),Vals xs its/\h.get? a=some { cls:=.type "list", data:=.seq its.toArray n }
 | .tup xs=>xs.length<=sizeLine /\ ∃its:List Value,Vals xs its/\IsTup h a its.toArray
 | .dK kvs=>kvs.length<=sizeLine/\(a==sysModules)=false /\ ∃vs,KV kvs vs/\h.DictOf (ZQ P w) a vs
 | .dT kvs=>kvs.length<=sizeLine/\(a==sysModules)=false /\ ∃xs:List (List Key×Addr×Value),
   Paired (fun (p:List Key×V) (q:List Key×Addr×Value)=>p.1=q.1/\H q.2.1=some (.tup (p.1.map kV))/\RelV p.2 q.2.2) kvs xs /\
   ∃o es ep,h.get? a=some o/\o.ExactDict/\o.data = .dict es ep/\es.toList=xs.map (entryOfKey (tupleKind (ZQ P w)))/\(xs.map (·.1)).Nodup
 | .set S n=>h.SetOf (intKind P w) a S n
 | .ins C dx fs=>H dx=some (.own a)/\fs.length<=1000/\dx≠a/\h.get? a=some (PySem.W.instObj C dx) /\
   ∃mA,h.Ns1 dx mA/\(∀f,UW (fs.lookup f) (mA f))/\PySem.Within mA (fs.map (·.1))
 | .own _=>∃o,h.get? a=some o
 | .xd fs=>∃mA,h.Ns1 a mA /\ ∀f,UW (fs.lookup f) (mA f)
 | .rng lo hi=>∃t u v,h.get? a=some { cls:=.type "range", data:=.fields #[.int lo t,.int hi u,.int 1 v] }
 | .frz o u=>h.get? a=some o/\Yo H h a u
 | .tbl ps=>h.get? a=some { cls:=.none,data:=.fields ps }
 | .met f x=>h.get? a=some (PySem.W.methodObj (.ref f) (.ref x))
 | .ext φ=>φ h/\(∃o,h.get? a=some o) /\ ∀h1 h2:Heap,φ h1->(∀o,h1.get? a=some o->h2.get? a=some o) -> φ h2
def Gj (H:Hp) (h:Heap):Prop:=∀a o,H a=some o->Yo P w H h a o
end
section
variable {P:Program}{w:World}{H H':Hp}{h h':Heap}{a:Addr}{o:HO}
theorem Yo.lt (x:Yo P w H h a o):a<h.objs.size:=by
 cases o with
 | lst xs=>obtain ⟨_,_,_,_,e⟩:=x;exact Heap.lt_size e
 | tup xs=>obtain ⟨_,_,_,p⟩:=x;exact p.lt
 | dK kvs=>obtain ⟨_,_,_,_,o,_,_,e,_⟩:=x;exact Heap.lt_size e
 | dT kvs=>obtain ⟨_,_,_,_,o,_,_,e,_⟩:=x;exact Heap.lt_size e
 | set S n=>obtain ⟨o,_,_,_,e,_⟩:=x;exact Heap.lt_size e
 | ins C dx fs=>obtain ⟨_,_,_,e,_⟩:=x;exact Heap.lt_size e
 | own y=>obtain ⟨_,e⟩:=x;exact Heap.lt_size e
 | xd fs=>obtain ⟨_,⟨_,_,_,e,_⟩,_⟩:=x;exact Heap.lt_size e
 | rng lo hi=>obtain ⟨_,_,_,e⟩:=x;exact Heap.lt_size e
 | frz ob u=>obtain ⟨e,_⟩:=x;exact Heap.lt_size e
 | tbl ps=>exact Heap.lt_size (show h.get? a=some _ from x)
 | met f y=>exact Heap.lt_size (show h.get? a=some _ from x)
 | ext φ=>obtain ⟨_,⟨_,e⟩,_⟩:=x;exact Heap.lt_size e
theorem Paired.mapP {α β:Type}{F G:α -> β -> Prop}:∀{l₁:List α}{l₂:List β},Paired F l₁ l₂->(∀a b,F a b->G a b)->Paired G l₁ l₂
 | _,_,.nil,_=>.nil
 | _,_,.cons r t,f=>.cons (f _ _ r) (Paired.mapP t f)
theorem Yo.stay (x:Yo P w H h a o) (k:∀b u,(b=a∨H b=some (.own a))->h.get? b=some u->h'.get? b=some u)
  (ho:∀b,H b=some (.own a)->H' b=some (.own a)) (ht:∀b xs,H b=some (.tup xs)->H' b=some (.tup xs)):Yo P w H' h' a o:=by
 induction o with
 | lst xs=>obtain ⟨z,its,n,r,e⟩:=x;exact ⟨z,its,n,r,k _ _ (.inl rfl) e⟩
 | tup xs=>obtain ⟨z,its,r,ob,e,c⟩:=x;exact ⟨z,its,r,ob,k _ _ (.inl rfl) e,c⟩
 | dK kvs=>obtain ⟨z,y,vs,r,ob,es,ep,e,c⟩:=x;exact ⟨z,y,vs,r,ob,es,ep,k _ _ (.inl rfl) e,c⟩
 | dT kvs=>
  obtain ⟨z,y,xs,r,ob,es,ep,e,c⟩:=x
  exact ⟨z,y,xs,Paired.mapP r fun p q z=>⟨z.1,ht _ _ z.2.1,z.2.2⟩,ob,es,ep,k _ _ (.inl rfl) e,c⟩
 | set S n=>obtain ⟨ob,es,ep,t,e,c⟩:=x;exact ⟨ob,es,ep,t,k _ _ (.inl rfl) e,c⟩
 | ins C dx fs=>
  obtain ⟨d,z,ne,e,mA,⟨od,es,ep,e2,c⟩,r⟩:=x
  exact ⟨ho _ d,z,ne,k _ _ (.inl rfl) e,mA,⟨od,es,ep,k _ _ (.inr d) e2,c⟩,r⟩
 | own y=>obtain ⟨ob,e⟩:=x;exact ⟨ob,k _ _ (.inl rfl) e⟩
 | xd fs=>obtain ⟨mA,⟨od,es,ep,e,c⟩,r⟩:=x;exact ⟨mA,⟨od,es,ep,k _ _ (.inl rfl) e,c⟩,r⟩
 | rng lo hi=>obtain ⟨t,u,v,e⟩:=x;exact ⟨t,u,v,k _ _ (.inl rfl) e⟩
 | frz ob u ih=>obtain ⟨e,q⟩:=x;exact ⟨k _ _ (.inl rfl) e,ih q⟩
 | tbl ps=>
  have e:h.get? a=some { cls:=.none,data:=.fields ps }:=x
  show h'.get? a=some { cls:=.none,data:=.fields ps }
  exact k a _ (.inl rfl) e
 | met f y=>
  have e:h.get? a=some (PySem.W.methodObj (.ref f) (.ref y)):=x
  show h'.get? a=some (PySem.W.methodObj (.ref f) (.ref y))
  exact k a _ (.inl rfl) e
 | ext φ=>obtain ⟨p,⟨o,e⟩,st⟩:=x;exact ⟨st _ _ p fun o q=>k _ _ (.inl rfl) q,⟨o,k _ _ (.inl rfl) e⟩,st⟩
theorem Gj.lt (x:Gj P w H h) (e:H a=some o):a<h.objs.size:=(x a o e).lt
theorem Gj.fresh (x:Gj P w H h) (e:h.objs.size<=a):H a=none:=by
 cases q:H a with
 | none=>rfl
 | some u=>exact absurd (Nat.lt_of_lt_of_le (x.lt q) e) (Nat.lt_irrefl _)
theorem Gj.kept (x:Gj P w H h) (k:∀b u,h.get? b=some u->h'.get? b=some u):Gj P w H h':=fun a o e=>
 (x a o e).stay (fun b u _ q=>k b u q) (fun _ q=>q) fun _ _ q=>q
theorem Gj.laid (x:Gj P w H h) (k:∀b u,h.get? b=some u->h'.get? b=some u) (hp:h.objs.size<=a) (new:Yo P w (upd H a o) h' a o):Gj P w (upd H a o) h':=fun b u e=>by
 have hn:=x.fresh hp
 by_cases hb:b=a
 ·subst hb;rw [Zb] at e;cases e;exact new
 ·rw [Zi hb] at e
  exact (x b u e).stay (fun c v _ q=>k c v q) (fun c q=>by rw [Zi (Zg q hn)];exact q) fun c xs q=>by rw [Zi (Zg q hn)];exact q
end
def Rd (H:Hp) (a:Addr) (u:HO):Prop:=H a=some u ∨ ∃o,H a=some (.frz o u)
theorem Rd.ok {P:Program}{w:World}{H:Hp}{h:Heap}{a:Addr}{u:HO} (r:Rd H a u) (x:Gj P w H h):Yo P w H h a u:=by
 rcases r with r | ⟨o,r⟩
 ·exact x a u r
 ·obtain ⟨_,q⟩:=x a _ r
  exact q
def Mut:Option HO->Prop
 | some (.lst _)=>True
 | some (.dK _)=>True
 | some (.dT _)=>True
 | some (.set _ _)=>True
 | some (.ins _ _ _)=>True
 | some (.ext _)=>True
 | _=>False
section
variable {P:Program}{w:World}{H:Hp}{h h':Heap}{x e:Addr}{o':HO}
theorem Gj.write (ok:Gj P w H h) (mu:Mut (H x)) (he:e=x∨H e=some (.own x)) (k:∀b u,b≠e->h.get? b=some u->h'.get? b=some u) (heo:∃u,h'.get? e=some u)
  (new:Yo P w (upd H x o') h' x o'):Gj P w (upd H x o') h':=fun b u q=>by
 have nown:∀c y,H c=some (.own y)->c≠x:=fun c y r z=>by subst z;rw [r] at mu;exact mu
 have ntup:∀c xs,H c=some (.tup xs)->c≠x:=fun c xs r z=>by subst z;rw [r] at mu;exact mu
 by_cases hb:b=x
 ·subst hb;rw [Zb] at q;cases q;exact new
 ·rw [Zi hb] at q
  by_cases hbe:b=e
  ·have q':H b=some (.own x):=by
    rcases he with z | z
    ·exact absurd (hbe.trans z) hb
    ·rw [hbe];exact z
   rw [q] at q';cases q'
   obtain ⟨v,hv⟩:=heo
   exact ⟨v,by rw [hbe];exact hv⟩
  ·refine (ok b u q).stay (fun c v hc r=>k c v ?_ r) (fun c r=>by rw [Zi (nown c b r)];exact r) fun c xs r=>by rw [Zi (ntup c xs r)];exact r
   rcases hc with rfl | hc
   ·exact hbe
   ·rintro rfl
    rcases he with z | z
    ·exact nown c b hc z
    ·rw [hc] at z;cases z;exact hb rfl
end
structure Un (fs ex:List Addr) (H H':Hp) (h h':Heap):Prop where
 keep:∀b o,h.get? b=some o->H b=none->b∉fs->b∉ex->h'.get? b=some o
 slot:∀b o,h.get? b=some o->H b=none->b∈fs->b∉ex -> ∃sl,h'.get? b=some { o with slots:=sl }
 free:∀b o,h.get? b=some o->H b=none->b∉ex->H' b=none
 there:∀b o,h.get? b=some o->b∉ex -> ∃o',h'.get? b=some o'
 tups:∀b xs,H b=some (.tup xs)->H' b=some (.tup xs)
 frzs:∀b o u,H b=some (.frz o u)->H' b=some (.frz o u)
 tbls:∀b ps,H b=some (.tbl ps) -> ∃more,H' b=some (.tbl (ps++more))
section
variable {fs fs' ex ex':List Addr}{H H1 H2:Hp}{h h1 h2 h':Heap}{a x e:Addr}{o:HO}
theorem Un.any (u:Un fs ex H H1 h h1) {b:Addr}{ob:Obj} (q:h.get? b=some ob) (n:H b=none) (hx:b∉ex):∃sl,h1.get? b=some { ob with slots:=sl }:=by
 by_cases hb:b∈fs
 ·exact u.slot b ob q n hb hx
 ·exact ⟨ob.slots,u.keep b ob q n hb hx⟩
theorem Un.kept (k:∀b u,h.get? b=some u->h'.get? b=some u):Un fs ex H H h h':=
 ⟨fun b ob q _ _ _=>k b ob q,fun b ob q _ _ _=>⟨ob.slots,k b ob q⟩,fun _ _ _ n _=>n,fun b ob q _=>⟨ob,k b ob q⟩,fun _ _ q=>q,fun _ _ _ q=>q,fun _ ps q=>⟨#[],by rw [q];simp⟩⟩
theorem Un.refl:Un fs ex H H h h:=Un.kept fun _ _ q=>q
theorem Un.laid (k:∀b u,h.get? b=some u->h'.get? b=some u) (hp:h.objs.size<=a) (hn:H a=none):Un fs ex H (upd H a o) h h' where
 keep:=fun b u q _ _ _=>k b u q
 slot:=fun b u q _ _ _=>⟨u.slots,k b u q⟩
 free:=fun b u q n _=>by rw [Zi (Nat.ne_of_lt (Nat.lt_of_lt_of_le (Heap.lt_size q) hp))];exact n
 there:=fun b u q _=>⟨u,k b u q⟩
 tups:=fun b xs q=>by rw [Zi (Zg q hn)];exact q
 frzs:=fun b u xs q=>by rw [Zi (Zg q hn)];exact q
 tbls:=fun b ps q=>⟨#[],by rw [Zi (Zg q hn),q];simp⟩
theorem Un.write (mu:Mut (H x)) (he:e=x∨H e=some (.own x)) (k:∀b u,b≠e->h.get? b=some u->h'.get? b=some u) (heo:∃u,h'.get? e=some u):Un fs ex H (upd H x o) h h':=by
 have hx:∀b,H b=none->b≠x:=fun b n z=>by subst z;rw [n] at mu;exact mu
 have hb:∀b,H b=none->b≠e:=fun b n z=>by
  subst z
  rcases he with r | r
  ·exact hx b n r
  ·rw [n] at r;cases r
 have hm:∀b u,H b=some u -> ¬Mut (some u)->b≠x:=fun b u q nm z=>by subst z;rw [q] at mu;exact nm mu
 refine ⟨fun b u q n _ _=>k b u (hb b n) q,fun b u q n _ _=>⟨u.slots,k b u (hb b n) q⟩,fun b u q n _=>by rw [Zi (hx b n)];exact n,fun b u q _=>?_,
  fun b xs q=>by rw [Zi (hm b _ q fun z=>z)];exact q,fun b u xs q=>by rw [Zi (hm b _ q fun z=>z)];exact q,fun b ps q=>⟨#[],by rw [Zi (hm b _ q fun z=>z),q];simp⟩⟩
 by_cases hbe:b=e
 ·subst hbe;exact heo
 ·exact ⟨u,k b u hbe q⟩
end
def trk (h:Heap) (H:Hp):List Addr:=(List.range h.objs.size).filter fun a=>(H a).isSome
def Zdk (h:Heap) (H:Hp):Heap:=PySem.W.hideAll h (trk h H)
theorem Zgx (h:Heap) (H:Hp):(Zdk h H).objs.size=h.objs.size:=PySem.W.hideAll_size _ _
theorem ZiB {h:Heap}{H:Hp}{b:Addr}{o:Obj} (e:h.get? b=some o) (n:H b=none):(Zdk h H).get? b=some o:=
 PySem.W.hideAll_get _ e fun hm=>by
  have q:(H b).isSome=true:=(List.mem_filter.mp hm).2
  rw [n] at q;simp at q
theorem ZjI {h:Heap}{H:Hp}{b:Addr}{o:Obj} (e:(Zdk h H).get? b=some o):h.get? b=some o/\H b=none:=by
 have e':h.get? b=some o:=PySem.W.of_hideAll (trk h H) e
 refine ⟨e',?_⟩
 cases q:H b with
 | none=>rfl
 | some x=>
  have hm:b∈trk h H:=List.mem_filter.mpr ⟨List.mem_range.mpr (Heap.lt_size e'),by simp [q]⟩
  have z:(Zdk h H).get? b=none:=PySem.W.hideAll_none (trk h H) hm
  rw [z] at e;cases e
def Jy (g h:Heap) (L:Addr):List (Addr×Obj):=(List.range h.objs.size).filterMap fun a=>if a=L∨(g.get? a).isSome=true then none else (h.get? a).map fun o=>(a,o)
theorem JF {g h:Heap}{L a:Addr}{o:Obj} (h1:a≠L) (h2:g.get? a=none) (h3:h.get? a=some o):(a,o)∈Jy g h L:=
 List.mem_filterMap.mpr ⟨a,List.mem_range.mpr (Heap.lt_size h3),by simp [h1,h2,h3]⟩
theorem ZbA {g h:Heap}{L:Addr}{p:Addr×Obj} (hp:p∈Jy g h L):p.1≠L/\g.get? p.1=none/\h.get? p.1=some p.2:=by
 obtain ⟨b,_,e⟩:=List.mem_filterMap.mp hp
 split at e
 ·cases e
 ·rename_i hn
  cases q:h.get? b with
  | none=>rw [q] at e;simp at e
  | some u=>
   rw [q] at e
   simp only [Option.map_some,Option.some.injEq] at e
   subst e
   refine ⟨fun z=>hn (.inl z),?_,q⟩
   show g.get? b=none
   cases r:g.get? b with
   | none=>rfl
   | some v=>exact (hn (.inr (by simp [r]))).elim
def rest (g h:Heap) (L d:Addr):List (Addr×Obj):=(Jy g h L).filter fun p=>decide (p.1≠d)
theorem Zby {g h:Heap}{L:Addr}:News g L h (Jy g h L):=fun p hp=>let ⟨a,b,c⟩:=ZbA hp;⟨c,a,b⟩
structure Mod (K:PySem.W.Frag) (mg:Str->Option Value) (base:Heap):Prop where
 kin:K.In base
 glob:base.Ns mainGlobals mg
 blt:∃mb,base.Ns builtinsNs mb /\ ∀x:Str,x ≠ "__name__" -> mb x=bootBuiltins x
 nolimit:base.NoLimit
structure Cx where
 prog:Program
 w:World
 K:PySem.W.Frag
 mg:Str->Option Value
 base:Heap
 A:Around
 N:List Str
 s₀:Shared
 H₀:Hp
 env:Env
 outer:List Env
 stack:List Env
 ex:List Addr
 fn:Str->Bool
 calm:Bool
 pn:List (Addr×Obj)
 xe:Value->Shared->Prop
def JI (l:List Env):List Addr:=l.filterMap (·.frame)
abbrev Cx.fs (X:Cx):List Addr:=JI X.outer
def Vis (sc:Scope) (x:Str):Prop:=sc.names.lookup x=some .local∨sc.names.lookup x=some .cell∨sc.names.lookup x=some .free
def Loc (sc:Scope) (x:Str):Prop:=sc.names.lookup x=some .local∨sc.names.lookup x=some .cell
def Look (env:Env) (h:Heap) (m:Str->Option Value) (x:Str) (u:Value):Prop:=
 (env.kindOf x=some .local/\m x=some u)∨((env.kindOf x=some .cell∨env.kindOf x=some .free) /\ ∃c,env.cells.lookup x=some c/\h.IsCell c (some u))
structure Cx.Ok (X:Cx):Prop where
 mod:Mod X.K X.mg X.base
 kind:X.env.scope.kind = .function
 glob:X.env.globals=mainGlobals
 blt:X.env.builtins=builtinsNs
 above:X.s₀.heap.objs.size<=X.env.locals
 inj:∀x y c,X.env.cells.lookup x=some c->X.env.cells.lookup y=some c->x=y
 has:∀x,(X.env.kindOf x=some .cell∨X.env.kindOf x=some .free) -> ∃c,X.env.cells.lookup x=some c
 cab:∀x c,X.fn x=true->X.env.cells.lookup x=some c->X.s₀.heap.objs.size<=c
 hd:X.calm=true->X.A.handled=none
 frames:X.A.frames=some X.stack
 stk:X.stack=X.outer∨(X.stack=X.env::X.outer/\X.env.frame=some X.env.locals)
 exf:∀b∈X.ex,b≠X.env.locals /\ ∀x c,X.env.cells.lookup x=some c->c≠b
 bs:∀b o,X.base.get? b=some o->X.s₀.heap.get? b=some o/\X.H₀ b=none
 bsz:X.base.objs.size<=X.s₀.heap.objs.size
 noex:∀b o,X.base.get? b=some o->b∉X.ex
 exfs:∀b∈X.ex,b∉X.fs
 funs:X.s₀.heap.FunFrames X.base X.outer
 frf:∀b∈X.fs,X.H₀ b=none
structure Inv (X:Cx) (pins:List (Addr×Obj)) (σ:List (Option V)) (H:Hp) (s:Shared):Prop where
 ok:X.Ok
 os:s.os=X.s₀.os
 bare:AllBare s.gens
 base:Un X.fs X.ex X.H₀ H X.s₀.heap s.heap
 loc:∃m,s.heap.Ns X.env.locals m /\ ∀(i:Nat) (x:Str) (v:V),X.N[i]? = some x -> σ[i]? = some (some v)->Vis X.env.scope x -> ∃u,RelV v u/\Look X.env s.heap m x u
 cell:∀x c,X.env.cells.lookup x=some c -> ∃v,s.heap.IsCell c v
 free:H X.env.locals=none
 freeC:∀x c,X.env.cells.lookup x=some c->H c=none
 pin:∀p∈X.pn++pins,s.heap.get? p.1=some p.2/\H p.1=none/\p.1≠X.env.locals/\p.1∉X.fs /\ ∀v,p.2.data ≠ .cell v
 hok:Gj X.prog X.w H s.heap
 len:σ.length=X.N.length
section
variable {X:Cx}{pins:List (Addr×Obj)} {σ:List (Option V)}{H H':Hp}{s:Shared}{h':Heap}
theorem Cx.Ok.nofr (ok:X.Ok) {b:Addr}{o:Obj} (e:X.base.get? b=some o):b∉X.fs:=fun hb=>by
 have:=(ok.funs.mem hb).1
 rw [e] at this;cases this
theorem Inv.bs (I:Inv X pins σ H s):∀b o,X.base.get? b=some o->s.heap.get? b=some o/\H b=none:=fun b o e=>
 ⟨I.base.keep b o (I.ok.bs b o e).1 (I.ok.bs b o e).2 (I.ok.nofr e) (I.ok.noex b o e),I.base.free b o (I.ok.bs b o e).1 (I.ok.bs b o e).2 (I.ok.noex b o e)⟩
theorem Inv.bk (I:Inv X pins σ H s):∀b o,X.base.get? b=some o->s.heap.get? b=some o:=fun b o e=>(I.bs b o e).1
theorem Inv.mod (I:Inv X pins σ H s):Mod X.K X.mg X.base:=I.ok.mod
theorem Inv.kIn (I:Inv X pins σ H s):X.K.In s.heap:=I.ok.mod.kin.keeps I.bk
theorem Inv.fr (I:Inv X pins σ H s):∃m,Fr X.base X.env.locals s.heap m:=
 let ⟨m,hn,_⟩:=I.loc
 ⟨m,hn,I.bk,Nat.le_trans I.ok.bsz I.ok.above⟩
theorem Inv.lt (I:Inv X pins σ H s):X.env.locals<s.heap.objs.size:=let ⟨_,hn,_⟩:=I.loc;hn.lt
theorem Inv.sz (I:Inv X pins σ H s):X.s₀.heap.objs.size<=s.heap.objs.size:=Nat.le_trans I.ok.above (Nat.le_of_lt I.lt)
theorem Inv.nofs (I:Inv X pins σ H s) {a:Addr} (h:s.heap.objs.size<=a):a∉X.fs:=fun hb=>by
 obtain ⟨_,o,ho,_⟩:=I.ok.funs.mem hb
 exact absurd (Nat.lt_of_lt_of_le (Heap.lt_size ho) (Nat.le_trans I.sz h)) (Nat.lt_irrefl _)
theorem Inv.cne (I:Inv X pins σ H s):∀x c,X.env.cells.lookup x=some c->c≠X.env.locals:=fun x c e z=>by
 obtain ⟨v,o,ho,hd⟩:=I.cell x c e
 obtain ⟨m,⟨o',es,ep,ho',hd',_⟩,_⟩:=I.loc
 rw [z,ho'] at ho;cases ho;rw [hd'] at hd;cases hd
theorem Inv.funs (I:Inv X pins σ H s):s.heap.FunFrames X.base X.outer:=by
 have all:∀(l:List Env),(∀b∈JI l,b∈X.fs)->X.s₀.heap.FunFrames X.base l->s.heap.FunFrames X.base l:=by
  intro l
  induction l with
  | nil=>intro _ _;trivial
  | cons env r ih=>
   intro hs hl
   obtain ⟨hk,⟨L,o,hf,hn,ho,hd⟩,hr⟩:=hl
   have hL:L∈X.fs:=hs L (by unfold JI;rw [List.filterMap_cons,hf];exact List.mem_cons_self)
   obtain ⟨sl,e⟩:=I.base.slot L o ho (I.ok.frf L hL) hL fun z=>I.ok.exfs L z hL
   exact ⟨hk,⟨L,_,hf,hn,e,hd⟩,ih (fun b hb=>hs b (by unfold JI;rw [List.filterMap_cons,hf];exact List.mem_cons_of_mem _ hb)) hr⟩
 exact all X.outer (fun _ hb=>hb) I.ok.funs
theorem Inv.stack (I:Inv X pins σ H s):s.heap.FunFrames X.base X.stack:=by
 rcases I.ok.stk with e | ⟨e,hf⟩
 ·rw [e];exact I.funs
 ·rw [e]
  obtain ⟨m,hn,_⟩:=I.loc
  refine .cons (by rw [I.ok.kind];decide) hf hn ?_ I.funs
  exact Heap.get?_none_of_le (Nat.le_trans I.ok.bsz I.ok.above)
theorem Inv.stkSub (I:Inv X pins σ H s):∀b∈JI X.stack,b∈X.env.locals::X.fs:=fun b hb=>by
 rcases I.ok.stk with e | ⟨e,hf⟩
 ·rw [e] at hb;exact List.mem_cons_of_mem _ hb
 ·rw [e] at hb
  unfold JI at hb
  rw [List.filterMap_cons,hf] at hb
  exact hb
theorem Inv.stkFree (I:Inv X pins σ H s):∀b∈JI X.stack,H b=none:=fun b hb=>by
 rcases List.mem_cons.mp (I.stkSub b hb) with e | hb
 ·rw [e];exact I.free
 ·obtain ⟨_,o,ho,_⟩:=I.ok.funs.mem hb
  exact I.base.free b o ho (I.ok.frf b hb) fun z=>I.ok.exfs b z hb
theorem Inv.step {g':Array GenState}{t':Nat}{d':Drawn}{ch:List Addr} (I:Inv X pins σ H s)
  (hch:∀b∈ch,(b∈X.ex∨X.s₀.heap.objs.size<=b)/\b≠X.env.locals/\(∀x c,X.env.cells.lookup x=some c->c≠b) /\ ∀p∈X.pn++pins,p.1≠b)
  (keep:∀b o,b≠X.env.locals->b∉X.fs->b∉ch->s.heap.get? b=some o->H b=none->h'.get? b=some o)
  (slot:∀b o,b≠X.env.locals->b∈X.fs->b∉ch->s.heap.get? b=some o->H b=none -> ∃sl,h'.get? b=some { o with slots:=sl }) (free:∀b o,b∉ch->s.heap.get? b=some o->H b=none->H' b=none)
  (there:∀b o,b∉ch->s.heap.get? b=some o -> ∃o',h'.get? b=some o')
  (tups:∀b xs,H b=some (.tup xs)->H' b=some (.tup xs)) (frzs:∀b o u,H b=some (.frz o u)->H' b=some (.frz o u)) (tbls:∀b ps,H b=some (.tbl ps) -> ∃more,H' b=some (.tbl (ps++more)))
  (ns:∀m,s.heap.Ns X.env.locals m->h'.Ns X.env.locals m) (hok:Gj X.prog X.w H' h') (hg:AllBare g'):
  Inv X pins σ H' { s with heap:=h',gens:=g',drawn:=d',toks:=t' }:=by
 have neL:∀b o,X.s₀.heap.get? b=some o->b≠X.env.locals:=fun b o e=>Nat.ne_of_lt (Nat.lt_of_lt_of_le (Heap.lt_size e) I.ok.above)
 have neC:∀b o,X.s₀.heap.get? b=some o->b∉X.ex->b∉ch:=fun b o e hx hb=>by
  rcases (hch b hb).1 with z | z
  ·exact hx z
  ·exact absurd (Nat.lt_of_lt_of_le (Heap.lt_size e) z) (Nat.lt_irrefl _)
 have cellK:∀x c,X.env.cells.lookup x=some c -> ∀v,s.heap.IsCell c v->h'.IsCell c v:=fun x c e v ⟨o,ho,hd⟩=>by
  have nch:c∉ch:=fun z=>(hch c z).2.2.1 x c e rfl
  by_cases hc:c∈X.fs
  ·obtain ⟨sl,q⟩:=slot c o (I.cne x c e) hc nch ho (I.freeC x c e)
   exact ⟨_,q,hd⟩
  ·exact ⟨o,keep c o (I.cne x c e) hc nch ho (I.freeC x c e),hd⟩
 refine ⟨I.ok,I.os,hg,⟨fun b o e n hb hx=>?_,fun b o e n hb hx=>?_,fun b o e n hx=>?_,fun b o e hx=>?_,fun b xs e=>tups b xs (I.base.tups b xs e),fun b o xs e=>frzs b o xs (I.base.frzs b o xs e),fun b ps e=>?_⟩,?_,fun x c e=>?_,?_,fun x c e=>?_,fun p hp=>?_,hok,I.len⟩
 ·exact keep b o (neL b o e) hb (neC b o e hx) (I.base.keep b o e n hb hx) (I.base.free b o e n hx)
 ·obtain ⟨sl,e1⟩:=I.base.slot b o e n hb hx
  obtain ⟨sl',e2⟩:=slot b _ (neL b o e) hb (neC b o e hx) e1 (I.base.free b o e n hx)
  exact ⟨sl',e2⟩
 ·obtain ⟨o',e1⟩:=I.base.there b o e hx
  exact free b o' (neC b o e hx) e1 (I.base.free b o e n hx)
 ·obtain ⟨o',e1⟩:=I.base.there b o e hx
  exact there b o' (neC b o e hx) e1
 ·obtain ⟨m1,e1⟩:=I.base.tbls b ps e
  obtain ⟨m2,e2⟩:=tbls b _ e1
  exact ⟨m1++m2,by rw [e2,Array.append_assoc]⟩
 ·obtain ⟨m,hn,hl⟩:=I.loc
  refine ⟨m,ns m hn,fun i x v e1 e2 e3=>?_⟩
  obtain ⟨u,r,l⟩:=hl i x v e1 e2 e3
  refine ⟨u,r,?_⟩
  rcases l with l | ⟨k,c,e,z⟩
  ·exact .inl l
  ·exact .inr ⟨k,c,e,cellK x c e _ z⟩
 ·obtain ⟨v,z⟩:=I.cell x c e
  exact ⟨v,cellK x c e v z⟩
 ·obtain ⟨m,⟨o,_,_,ho,_⟩,_⟩:=I.loc
  exact free _ o (fun z=>(hch _ z).2.1 rfl) ho I.free
 ·obtain ⟨v,o,ho,hd⟩:=I.cell x c e
  exact free c o (fun z=>(hch c z).2.2.1 x c e rfl) ho (I.freeC x c e)
 ·obtain ⟨e,n,ne,nf,d⟩:=I.pin p hp
  have nch:p.1∉ch:=fun z=>(hch p.1 z).2.2.2 p hp rfl
  exact ⟨keep p.1 p.2 ne nf nch e n,free p.1 p.2 nch e n,ne,nf,d⟩
theorem Inv.un {t':Nat} (I:Inv X pins σ H s) (u:Un X.fs [] H H' s.heap h') (hok:Gj X.prog X.w H' h'):Inv X pins σ H' { s with heap:=h',toks:=t' }:=by
 obtain ⟨m,⟨o,es,ep,ho,r⟩,_⟩:=id I.loc
 obtain ⟨sl,hL⟩:=u.any ho I.free (by simp)
 exact I.step (g':=s.gens) (d':=s.drawn) (ch:=[]) (fun _ z=>nomatch z) (fun b o _ hb _ e n=>u.keep b o e n hb (by simp)) (fun b o _ hb _ e n=>u.slot b o e n hb (by simp)) (fun b o _ e n=>u.free b o e n (by simp)) (fun b o _ e=>u.there b o e (by simp)) u.tups u.frzs u.tbls (fun m' hm=>by
  obtain ⟨o',es',ep',ho',r'⟩:=hm
  rw [ho] at ho';cases ho'
  exact ⟨_,es',ep',hL,r'⟩) hok I.bare
theorem Inv.call {g':Array GenState}{t':Nat}{d':Drawn}{ch:List Addr} (I:Inv X pins σ H s) (u:Un (JI X.stack) ch H H' s.heap h') (hok:Gj X.prog X.w H' h') (hg:AllBare g')
  (hch:∀b∈ch,(b∈X.ex∨X.s₀.heap.objs.size<=b)/\b≠X.env.locals/\(∀x c,X.env.cells.lookup x=some c->c≠b) /\ ∀p∈X.pn++pins,p.1≠b):
  Inv X pins σ H' { s with heap:=h',gens:=g',drawn:=d',toks:=t' }:=by
 obtain ⟨m,⟨o,es,ep,ho,r⟩,_⟩:=id I.loc
 obtain ⟨sl,hL⟩:=u.any ho I.free fun z=>(hch _ z).2.1 rfl
 exact I.step (ch:=ch) hch (fun b o hL hb hc e n=>u.keep b o e n (fun z=>(List.mem_cons.mp (I.stkSub b z)).elim hL hb) hc) (fun b o _ _ hc e n=>u.any e n hc) (fun b o hc e n=>u.free b o e n hc) (fun b o hc e=>u.there b o e hc) u.tups u.frzs u.tbls (fun m' hm=>by
  obtain ⟨o',es',ep',ho',r'⟩:=hm
  rw [ho] at ho';cases ho'
  exact ⟨_,es',ep',hL,r'⟩) hok hg
theorem Inv.turned {t':Nat}{it:Addr} (I:Inv X pins σ H s) (k:∀b o,b≠it->s.heap.get? b=some o->h'.get? b=some o) (hn:H it=none) (hL:it≠X.env.locals)
  (h1:it∈X.ex∨X.s₀.heap.objs.size<=it) (h2:∀x c,X.env.cells.lookup x=some c->c≠it) (h3:∀p∈X.pn++pins,p.1≠it):Inv X pins σ H { s with heap:=h',toks:=t' }:=by
 have nit:∀b u,H b=some u->b≠it:=fun b u e z=>by rw [z,hn] at e;cases e
 refine I.step (g':=s.gens) (d':=s.drawn) (ch:=[it]) (fun b hb=>?_) (fun b o _ _ hc e _=>k b o (fun z=>hc (by simp [z])) e) (fun b o _ _ hc e _=>⟨o.slots,k b o (fun z=>hc (by simp [z])) e⟩) (fun _ _ _ _ n=>n)
  (fun b o hc e=>⟨o,k b o (fun z=>hc (by simp [z])) e⟩) (fun _ _ e=>e) (fun _ _ _ e=>e) (fun b ps e=>⟨#[],by rw [e];simp⟩) (fun m hm=>?_) (fun b u e=>?_) I.bare
 ·have e:b=it:=by simpa using hb
  subst e
  exact ⟨h1,hL,h2,h3⟩
 ·obtain ⟨o,es,ep,ho,r⟩:=hm
  exact ⟨o,es,ep,k _ o (Ne.symm hL) ho,r⟩
 ·refine (I.hok b u e).stay (fun c v hc q=>k c v ?_ q) (fun _ q=>q) fun _ _ q=>q
  rcases hc with z | z
  ·rw [z];exact nit b u e
  ·exact nit c _ z
theorem Inv.tok (I:Inv X pins σ H s) (t:Nat):Inv X pins σ H { s with toks:=t }:=I.un (h':=s.heap) (t':=t) Un.refl I.hok
theorem Inv.kept {t':Nat} (I:Inv X pins σ H s) (k:∀b u,s.heap.get? b=some u->h'.get? b=some u):Inv X pins σ H { s with heap:=h',toks:=t' }:=I.un (Un.kept k) (I.hok.kept k)
theorem Inv.laid {a:Addr}{o:HO}{t':Nat} (I:Inv X pins σ H s) (k:∀b u,s.heap.get? b=some u->h'.get? b=some u) (hp:s.heap.objs.size<=a) (new:Yo X.prog X.w (upd H a o) h' a o):
  Inv X pins σ (upd H a o) { s with heap:=h',toks:=t' }:=I.un (Un.laid k hp (I.hok.fresh hp)) (I.hok.laid k hp new)
theorem Inv.write {x e:Addr}{o:HO}{t':Nat} (I:Inv X pins σ H s) (mu:Mut (H x)) (he:e=x∨H e=some (.own x)) (k:∀b u,b≠e->s.heap.get? b=some u->h'.get? b=some u) (heo:∃u,h'.get? e=some u)
  (new:Yo X.prog X.w (upd H x o) h' x o):Inv X pins σ (upd H x o) { s with heap:=h',toks:=t' }:=I.un (Un.write mu he k heo) (I.hok.write mu he k heo new)
theorem Inv.pins_of {pins':List (Addr×Obj)} (I:Inv X pins σ H s) (h:∀p∈pins',s.heap.get? p.1=some p.2/\H p.1=none/\p.1≠X.env.locals/\p.1∉X.fs /\ ∀v,p.2.data ≠ .cell v):Inv X pins' σ H s:=
 ⟨I.ok,I.os,I.bare,I.base,I.loc,I.cell,I.free,I.freeC,fun p hp=>(List.mem_append.mp hp).elim (fun z=>I.pin p (List.mem_append_left _ z)) (h p),I.hok,I.len⟩
theorem ZeA {N:List Str} (hN:N.Nodup) {i j:Nat}{x:Str} (a:N[i]? = some x) (b:N[j]? = some x):i=j:=by
 obtain ⟨h1,e1⟩:=List.getElem?_eq_some_iff.mp a
 obtain ⟨h2,e2⟩:=List.getElem?_eq_some_iff.mp b
 exact (List.getElem_inj hN).mp (e1.trans e2.symm)
theorem ZcF {M:Model}{A:Around}{E:Value->Shared->Prop}{i:Nat}{x:Str}{v:V}{u:Value}{Q:Unit->Shared->Prop} (I:Inv X pins σ H s) (hN:X.N.Nodup) (hi:X.N[i]? = some x) (hx:Loc X.env.scope x) (r:RelV v u)
  (h:∀s',Inv X pins (σ.set i (some v)) H s'->(∃a,Heap.SameBut a s.heap s'.heap/\(a=X.env.locals∨X.env.cells.lookup x=some a))->Q () s') (hf:X.fn x=true∨X.env.scope.names.lookup x=some .local:=by first | exact .inl rfl | exact .inr rfl | assumption):wpAny M A (storeName X.env x u) Q E s:=by
 obtain ⟨m,hn,hl⟩:=id I.loc
 have hcls:(X.env.scope.kind == .class||(X.env.scope.kind == .module&&X.env.locals != X.env.globals))=false:=by rw [I.ok.kind];rfl
 have hiσ:i < σ.length:=by rw [I.len];exact (List.getElem?_eq_some_iff.mp hi).1
 have cne:=I.cne
 have tracked:∀{a:Addr}{h':Heap},(∃o,s.heap.get? a=some o/\H a=none)->Heap.SameBut a s.heap h'->Gj X.prog X.w H h':=fun {a h'} ha hs b ob e=>by
  obtain ⟨_,_,hfree⟩:=ha
  refine (I.hok b ob e).stay (fun c w' hc q=>(hs.2 c ?_).trans q) (fun _ q=>q) fun _ _ q=>q
  rintro rfl
  rcases hc with rfl | hc
  ·rw [hfree] at e;cases e
  ·rw [hfree] at hc;cases hc
 rcases hx with hk | hk
 ·refine wpAny_storeName_local hk hn (fun h' hn' hs=>?_) hcls
  obtain ⟨oL,_,_,hoL,_⟩:=id hn
  refine h _ ⟨I.ok,I.os,I.bare,⟨fun b o e n hb hx=>?_,fun b o e n hb hx=>?_,I.base.free,fun b o e hx=>?_,I.base.tups,I.base.frzs,I.base.tbls⟩,⟨_,hn',fun j y v' e1 e2 e3=>?_⟩,fun y c e=>?_,I.free,I.freeC,fun p hp=>?_,tracked ⟨oL,hoL,I.free⟩ hs,by simpa using I.len⟩ ⟨_,hs,.inl rfl⟩
  ·exact (hs.2 b (Nat.ne_of_lt (Nat.lt_of_lt_of_le (Heap.lt_size e) I.ok.above))).trans (I.base.keep b o e n hb hx)
  ·obtain ⟨sl,e1⟩:=I.base.slot b o e n hb hx
   exact ⟨sl,(hs.2 b (Nat.ne_of_lt (Nat.lt_of_lt_of_le (Heap.lt_size e) I.ok.above))).trans e1⟩
  ·obtain ⟨o',e1⟩:=I.base.there b o e hx
   exact ⟨o',(hs.2 b (Nat.ne_of_lt (Nat.lt_of_lt_of_le (Heap.lt_size e) I.ok.above))).trans e1⟩
  ·by_cases hj:j=i
   ·subst hj
    rw [hi] at e1;cases e1
    rw [List.getElem?_set_self hiσ] at e2
    cases e2
    exact ⟨u,r,.inl ⟨hk,by simp⟩⟩
   ·rw [List.getElem?_set_ne (Ne.symm hj)] at e2
    obtain ⟨u',r',q⟩:=hl j y v' e1 e2 e3
    refine ⟨u',r',?_⟩
    rcases q with ⟨k,e⟩ | ⟨k,c,e,z⟩
    ·refine .inl ⟨k,?_⟩
     have:y≠x:=fun e=>hj (ZeA hN e1 (e ▸ hi))
     simp [this,e]
    ·exact .inr ⟨k,c,e,z.sameBut hs (cne y c e)⟩
  ·obtain ⟨w',z⟩:=I.cell y c e
   exact ⟨w',z.sameBut hs (cne y c e)⟩
  ·obtain ⟨e,n,ne,nf,d⟩:=I.pin p hp
   exact ⟨(hs.2 p.1 ne).trans e,n,ne,nf,d⟩
 ·have hfn:X.fn x=true:=by
   rcases hf with z | z
   ·exact z
   ·rw [z] at hk;cases hk
  obtain ⟨c,hc⟩:=I.ok.has x (.inl hk)
  obtain ⟨w',z⟩:=I.cell x c hc
  refine wpAny_storeName_cell I.ok.kind hk hc z (fun h' hc' hs=>?_)
  obtain ⟨oc,hoc,hocd⟩:=id z
  refine h { s with heap:=h' } ⟨I.ok,I.os,I.bare,⟨fun b o e n hb hx=>?_,fun b o e n hb hx=>?_,I.base.free,fun b o e hx=>?_,I.base.tups,I.base.frzs,I.base.tbls⟩,⟨m,hn.sameBut hs (Ne.symm (cne x c hc)),fun j y v' e1 e2 e3=>?_⟩,fun y c' e=>?_,I.free,I.freeC,fun p hp=>?_,tracked ⟨oc,hoc,I.freeC x c hc⟩ hs,by simpa using I.len⟩ ⟨c,hs,.inr hc⟩
  ·exact (hs.2 b (Nat.ne_of_lt (Nat.lt_of_lt_of_le (Heap.lt_size e) (I.ok.cab x c hfn hc)))).trans (I.base.keep b o e n hb hx)
  ·obtain ⟨sl,e1⟩:=I.base.slot b o e n hb hx
   exact ⟨sl,(hs.2 b (Nat.ne_of_lt (Nat.lt_of_lt_of_le (Heap.lt_size e) (I.ok.cab x c hfn hc)))).trans e1⟩
  ·obtain ⟨o',e1⟩:=I.base.there b o e hx
   exact ⟨o',(hs.2 b (Nat.ne_of_lt (Nat.lt_of_lt_of_le (Heap.lt_size e) (I.ok.cab x c hfn hc)))).trans e1⟩
  ·by_cases hj:j=i
   ·subst hj
    rw [hi] at e1;cases e1
    rw [List.getElem?_set_self hiσ] at e2
    cases e2
    exact ⟨u,r,.inr ⟨.inl hk,c,hc,hc'⟩⟩
   ·rw [List.getElem?_set_ne (Ne.symm hj)] at e2
    obtain ⟨u',r',q⟩:=hl j y v' e1 e2 e3
    refine ⟨u',r',?_⟩
    rcases q with q | ⟨k,c',e,z'⟩
    ·exact .inl q
    ·refine .inr ⟨k,c',e,z'.sameBut hs ?_⟩
     rintro rfl
     exact hj (ZeA hN e1 (I.ok.inj _ _ _ e hc ▸ hi))
  ·by_cases hcc:c'=c
   ·subst hcc;exact ⟨_,hc'⟩
   ·obtain ⟨w2,z2⟩:=I.cell y c' e
    exact ⟨w2,z2.sameBut hs hcc⟩
  ·obtain ⟨e,n,ne,nf,d⟩:=I.pin p hp
   refine ⟨(hs.2 p.1 ?_).trans e,n,ne,nf,d⟩
   intro q
   rw [q,hoc] at e
   have q':oc=p.2:=Option.some.inj e
   exact d w' (by rw [<- q'];exact hocd)
theorem Zef {M:Model}{A:Around}{E:Value->Shared->Prop}{i:Nat}{x:Str}{v:V}{u:Value}{Q:Unit->Shared->Prop} (I:Inv X pins σ H s) (hN:X.N.Nodup) (hi:X.N[i]? = some x) (hx:Loc X.env.scope x) (r:RelV v u)
  (h:∀s',Inv X pins (σ.set i (some v)) H s'->Q () s') (hf:X.fn x=true∨X.env.scope.names.lookup x=some .local:=by first | exact .inl rfl | exact .inr rfl | assumption):wpAny M A (storeName X.env x u) Q E s:=
 ZcF I hN hi hx r (fun s' I' _=>h s' I') hf
theorem Inv.call' {s':Shared}{ch:List Addr} (I:Inv X pins σ H s) (ho:s'.os=s.os) (u:Un (JI X.stack) ch H H' s.heap s'.heap) (hok:Gj X.prog X.w H' s'.heap) (hg:AllBare s'.gens)
  (hch:∀b∈ch,(b∈X.ex∨X.s₀.heap.objs.size<=b)/\b≠X.env.locals/\(∀x c,X.env.cells.lookup x=some c->c≠b) /\ ∀p∈X.pn++pins,p.1≠b):Inv X pins σ H' s':=by
 obtain ⟨h',g',d',t',o'⟩:=s'
 have e:o'=s.os:=ho
 subst e
 exact I.call (g':=g') (t':=t') (d':=d') u hok hg hch
end
abbrev XK:=Value->Option Addr->Hp->Prop
abbrev St:=List (Option V)
abbrev VK:=V->Hp->Prop
abbrev TE:=St->Hp->VK->Prop
abbrev TT:=St->Hp->(Bool->Hp->Prop)->Prop
abbrev TA:=St->Hp->(List V->Hp->Prop)->Prop
structure Ends where
 nx:St->Hp->Prop
 rt:VK
 bk:St->Hp->Prop:=fun _ _=>False
 ct:St->Hp->Prop:=fun _ _=>False
abbrev TS:=Ends->St->Hp->Prop
def EP (X:Cx) (pins:List (Addr×Obj)) (σ:St) (Q:VK) (u:Value) (s':Shared):Prop:=∃v H',Inv X pins σ H' s'/\RelV v u/\Q v H'
def TP (X:Cx) (pins:List (Addr×Obj)) (σ:St) (Q:Bool->Hp->Prop) (b:Bool) (s':Shared):Prop:=∃H',Inv X pins σ H' s'/\Q b H'
def AP (X:Cx) (pins:List (Addr×Obj)) (σ:St) (Q:List V->Hp->Prop) (us:List Value) (s':Shared):Prop:=∃vs H',Inv X pins σ H' s'/\Vals vs us/\Q vs H'
def SP (X:Cx) (pins:List (Addr×Obj)) (D:Ends) (f:Flow) (s':Shared):Prop:=
 match f with
 | .next=>∃ σ' H',Inv X pins σ' H' s'/\D.nx σ' H'
 | .brk=>∃ σ' H',Inv X pins σ' H' s'/\D.bk σ' H'
 | .cont=>∃ σ' H',Inv X pins σ' H' s'/\D.ct σ' H'
 | .ret u=>∃v σ' H',Inv X pins σ' H' s'/\RelV v u/\D.rt v H'
def PE (X:Cx) (e:Expr) (t:TE):Prop:=
 ∀(pins:List (Addr×Obj)) (s:Shared) (σ:St) (H:Hp) (Q:VK),Inv X pins σ H s->t σ H Q->wpAny (model X.prog X.w) X.A (eval e X.env) (EP X pins σ Q) X.xe s
def PT (X:Cx) (e:Expr) (t:TT):Prop:=
 ∀(pins:List (Addr×Obj)) (s:Shared) (σ:St) (H:Hp) (Q:Bool->Hp->Prop),Inv X pins σ H s->t σ H Q->wpAny (model X.prog X.w) X.A (isTrue e X.env (eval e X.env)) (TP X pins σ Q) X.xe s
def PW (X:Cx) (e:Expr) (t:TT):Prop:=
 ∀(whole:Sem Value) (pins:List (Addr×Obj)) (s:Shared) (σ:St) (H:Hp) (Q:Bool->Hp->Prop),Inv X pins σ H s->t σ H Q->wpAny (model X.prog X.w) X.A (isTrue e X.env whole) (TP X pins σ Q) X.xe s
theorem PW.pt {X:Cx}{e:Expr}{t:TT} (h:PW X e t):PT X e t:=h _
def PA (X:Cx) (es:List Expr) (t:TA):Prop:=
 ∀(pos:Pos) (pins:List (Addr×Obj)) (s:Shared) (σ:St) (H:Hp) (Q:List V->Hp->Prop),Inv X pins σ H s->t σ H Q->wpAny (model X.prog X.w) X.A (spliced (backTo pos (starEach es X.env))) (AP X pins σ Q) X.xe s
def PS (X:Cx) (st:Stmt) (t:TS):Prop:=
 ∀(pins:List (Addr×Obj)) (s:Shared) (σ:St) (H:Hp) (D:Ends),Inv X pins σ H s->t D σ H->wpAny (model X.prog X.w) X.A (exec st X.env) (SP X pins D) X.xe s
def PSs (X:Cx) (st:List Stmt) (t:TS):Prop:=
 ∀(pins:List (Addr×Obj)) (s:Shared) (σ:St) (H:Hp) (D:Ends),Inv X pins σ H s->t D σ H->wpAny (model X.prog X.w) X.A (execs st X.env) (SP X pins D) X.xe s
theorem YJ {α:Type}{t:Sem α}{Q Q':α -> Shared->Prop}{M:Model}{A:Around}{E:Value->Shared->Prop}{s:Shared} (h:wpAny M A t Q E s) (hQ:∀a s,Q a s->Q' a s):wpAny M A t Q' E s:=wpAny_mono h hQ fun _ _ x=>x
section
variable {X:Cx}
def Zdy (i:Nat):TE:=fun σ H Q=>∃v,σ[i]? = some (some v)/\Q v H
def tC (v:V):TE:=fun _ H Q=>Q v H
theorem Zlu {i:Nat}{x:Str}{pos:Pos} (hN:X.N[i]? = some x) (hv:Vis X.env.scope x) (hd:(x==("__debug__" : Str))=false:=by decide) (hcd:(x==("__classdict__" : Str))=false:=by decide):PE X (.Name x pos) (Zdy i):=by
 intro pins s σ H Q I h
 obtain ⟨v,e,h⟩:=h
 obtain ⟨m,hn,hl⟩:=I.loc
 obtain ⟨u,r,l⟩:=hl i x v hN e hv
 have fin:EP X pins σ Q u s:=⟨v,H,I,r,h⟩
 rcases l with ⟨hk,hm⟩ | ⟨hk,c,hc,hcell⟩
 ·exact wpAny_Name (wpAny_loadName_local I.ok.kind hk hn hm fin) hd
 ·rcases hk with hk | hk
  ·exact wpAny_Name (wpAny_loadName_cell I.ok.kind hk hc hcell fin) hd
  ·exact wpAny_Name (wpAny_loadName_free I.ok.kind hk hc hcell fin hcd) hd
theorem Ze {i j pos}:PE X (.Constant (.int i) j pos) (tC (.int i)):=fun _ _ _ H _ I h=>wpAny_Constant_int ⟨.int i,H,I.tok _,⟨_,rfl⟩,h⟩
theorem ZaR {b j pos}:PE X (.Constant (.bool b) j pos) (tC (.bl b)):=fun _ _ _ H _ I h=>Constant_bool ⟨.bl b,H,I,rfl,h⟩
theorem Zdo {j pos}:PE X (.Constant .none j pos) (tC .non):=fun _ _ _ H _ I h=>Constant_none ⟨.non,H,I,rfl,h⟩
theorem Z4 {x j pos}:PE X (.Constant (.str x) j pos) (tC (.str x)):=fun _ _ _ H _ I h=>Calls.Constant_str ⟨.str x,H,I.tok _,⟨_,rfl⟩,h⟩
def Gl (X:Cx) (x:Str):Prop:=X.env.kindOf x=some .globalImplicit
theorem Ud {E:Value->Shared->Prop}{pins:List (Addr×Obj)}{s:Shared} {σ:St}{H:Hp}{x:Str}{u:Value}{pos:Pos}{Q:Value->Shared->Prop} (I:Inv X pins σ H s) (hg:Gl X x) (hm:X.mg x=some u) (h:Q u s)
  (hd:(x==("__debug__" : Str))=false:=by decide):wpAny (model X.prog X.w) X.A (eval (.Name x pos) X.env) Q E s:=
 Calls.Name_function_global I.ok.kind hg (Calls.loadGlobal_global (by rw [I.ok.glob];exact I.mod.glob.keeps I.bk) hm h) hd
theorem Gq {E:Value->Shared->Prop}{pins:List (Addr×Obj)}{s:Shared} {σ:St}{H:Hp}{x:Str}{u:Value}{pos:Pos}{Q:Value->Shared->Prop} (I:Inv X pins σ H s) (hg:Gl X x) (hm:X.mg x=none) (hv:bootBuiltins x=some u) (h:Q u s)
  (hn:x ≠ "__name__" := by decide) (hd:(x==("__debug__" : Str))=false:=by decide):wpAny (model X.prog X.w) X.A (eval (.Name x pos) X.env) Q E s:=by
 obtain ⟨mb,h1,h2⟩:=I.mod.blt
 exact Calls.Name_function_global I.ok.kind hg (Calls.loadGlobal_builtin (by rw [I.ok.glob];exact I.mod.glob.keeps I.bk) hm (by rw [I.ok.blt];exact h1.keeps I.bk) ((h2 x hn).trans hv) h) hd
theorem Zjk {x:Str}{v:V}{u:Value}{pos:Pos} (hg:Gl X x) (hm:X.mg x=some u) (r:RelV v u) (hd:(x==("__debug__" : Str))=false:=by decide):PE X (.Name x pos) (tC v):=
 fun _ _ _ H _ I h=>Ud I hg hm ⟨v,H,I,r,h⟩ hd
variable {a b:Expr}{ta tb:TE}{pos:Pos}
def PC (X:Cx) (op:CmpOp) (a b:Expr) (t:TE):Prop:=
 ∀(pins:List (Addr×Obj)) (s:Shared) (σ:St) (H:Hp) (Q:VK),Inv X pins σ H s->t σ H Q ->
  wpAny (model X.prog X.w) X.A (eval a X.env) (fun v s₁=>wpAny (model X.prog X.w) X.A (eval b X.env) (fun u s₂=>wpAny (model X.prog X.w) X.A (compareOp op v u) (EP X pins σ Q) X.xe s₂) X.xe s₁) X.xe s
def tB (t:TE):TT:=fun σ H Q=>t σ H fun x H1=>∃c,x = .bl c/\Q c H1
theorem Zbt {op:CmpOp}{t:TE} (h:PC X op a b t) (h1:behindInMarks op b=false:=by first | exact nobehind _ (by decide) (by decide) | rfl):PT X (.Compare a [op] [b] pos) (tB t):=by
 intro pins s σ H Q I hw
 refine wpAny_isTrue_Compare1 (YJ (h pins s σ H _ I hw) fun v s1 h1=>YJ h1 fun u s2 h2=>YJ h2 fun c s3 ⟨x,H1,I1,r1,q1⟩=>?_) h1
 obtain ⟨d,rfl,q⟩:=q1
 cases r1
 exact wpAny_truthy_bool ⟨H1,I1,q⟩
theorem Zfs {e:Expr}{t:TE} (h:PE X e t) (he:∀whole,isTrue e X.env whole=(do let v <- whole;standAt e.pos;holding [v] (truthy v)):=by intro _;rfl):PT X e (tB t):=by
 intro pins s σ H Q I hw
 refine isTrue_plain (YJ (h pins s σ H _ I hw) fun v s1 ⟨x,H1,I1,r1,q1⟩=>?_) (he _)
 obtain ⟨d,rfl,q⟩:=q1
 cases r1
 exact wpAny_truthy_bool ⟨H1,I1,q⟩
variable {tA tB':TT}{rest:List Expr}
def Zmu (t u:TT):TT:=fun σ H Q=>t σ H fun c H1=>if c=true then u σ H1 Q else Q false H1
def tOr (t u:TT):TT:=fun σ H Q=>t σ H fun c H1=>if c=true then Q true H1 else u σ H1 Q
def Zno (t:TT):TT:=fun σ H Q=>t σ H fun c H1=>Q (!c) H1
theorem Za5 (ha:PT X a tA):PW X (.BoolOp .And [a] pos) tA:=by
 intro wh pins s σ H Q I h
 refine isTrue_and (YJ (ha pins s σ H Q I h) fun c s1 e=>?_)
 cases c with
 | true=>exact isTrue_and_nil e
 | false=>exact e
theorem Zhl (ha:PT X a tA):PW X (.BoolOp .Or [a] pos) tA:=by
 intro wh pins s σ H Q I h
 refine isTrue_or (YJ (ha pins s σ H Q I h) fun c s1 e=>?_)
 cases c with
 | false=>exact isTrue_or_nil e
 | true=>exact e
theorem Zbq (ha:PT X a tA) (hb:PW X (.BoolOp .And (b::rest) pos) tB'):PW X (.BoolOp .And (a::b::rest) pos) (Zmu tA tB'):=by
 intro wh pins s σ H Q I h
 refine isTrue_and (YJ (ha pins s σ H _ I h) fun c s1 ⟨H1,I1,q1⟩=>?_)
 cases c with
 | true=>exact hb wh pins s1 σ H1 Q I1 q1
 | false=>exact ⟨H1,I1,q1⟩
theorem ZkC (ha:PT X a tA) (hb:PW X (.BoolOp .Or (b::rest) pos) tB'):PW X (.BoolOp .Or (a::b::rest) pos) (tOr tA tB'):=by
 intro wh pins s σ H Q I h
 refine isTrue_or (YJ (ha pins s σ H _ I h) fun c s1 ⟨H1,I1,q1⟩=>?_)
 cases c with
 | true=>exact ⟨H1,I1,q1⟩
 | false=>exact hb wh pins s1 σ H1 Q I1 q1
theorem ZlF (ha:PT X a tA):PT X (.UnaryOp .Not a pos) (Zno tA):=by
 intro pins s σ H Q I h
 exact isTrue_not (ha pins s σ H (fun c H1=>Q (!c) H1) I h)
def tIf (t:TT) (ta tb:TE):TE:=fun σ H Q=>t σ H fun c H1=>if c=true then ta σ H1 Q else tb σ H1 Q
theorem ZhL {c:Expr} (hc:PT X c tA) (ha:PE X a ta) (hb:PE X b tb):PE X (.IfExp c a b pos) (tIf tA ta tb):=by
 intro pins s σ H Q I h
 refine wpAny_IfExp (YJ (hc pins s σ H _ I h) fun d s1 ⟨H1,I1,q1⟩=>?_)
 cases d with
 | true=>exact ha pins s1 σ H1 Q I1 q1
 | false=>exact hb pins s1 σ H1 Q I1 q1
end
def Zo (K:PySem.W.Frag) (H:Hp) (a:Addr) (xs:List V):Prop:=
 Rd H a (.lst xs) ∨
  ∃(o:Obj) (its:Array Value) (n:Nat),K.lookup a=some o/\o.cls = .type "list" /\ o.dict=none/\o.data = .seq its n/\its.size<=sizeLine/\Vals xs its.toList
def JH (K:PySem.W.Frag) (H:Hp) (a:Addr) (xs:List V):Prop:=
 Rd H a (.tup xs) ∨
  ∃(o:Obj) (its:Array Value) (n:Nat),K.lookup a=some o/\o.cls = .type "tuple" /\ o.data = .seq its n/\its.size<=sizeLine/\Vals xs its.toList
def Znu:Value->Option V
 | .none=>some .non
 | .bool b=>some (.bl b)
 | .int i _=>some (.int i)
 | .str x _=>some (.str x)
 | .bytes b _=>some (.byt b)
 | .float b _=>some (.flt b)
 | .ref a=>some (.ref a)
 | .type n=>some (.ty n)
 | _=>none
theorem RelV.abs {x:V}{u:Value} (r:RelV x u):Znu u=some x:=by
 cases x with
 | non=>cases r;rfl
 | bl _=>cases r;rfl
 | int _=>obtain ⟨t,rfl⟩:=r;rfl
 | str _=>obtain ⟨t,rfl⟩:=r;rfl
 | byt _=>obtain ⟨t,rfl⟩:=r;rfl
 | flt _=>obtain ⟨t,rfl⟩:=r;rfl
 | ref _=>cases r;rfl
 | ty _=>cases r;rfl
theorem RelV.inj {x y:V}{u:Value} (r:RelV x u) (q:RelV y u):x=y:=Option.some.inj (r.abs.symm.trans q.abs)
theorem Vals.inj:∀{xs ys:List V}{us:List Value},Vals xs us->Vals ys us->xs=ys
 | _,_,_,.nil,.nil=>rfl
 | _,_,_,.cons r t,.cons r' t'=>by rw [r.inj r',Vals.inj t t']
section
variable {X:Cx}{pins:List (Addr×Obj)} {σ:St}{H:Hp}{s:Shared}{a:Addr}{xs ys:List V}
theorem Zo.of {K:PySem.W.Frag} (h:H a=some (.lst xs)):Zo K H a xs:=.inl (.inl h)
theorem JH.of {K:PySem.W.Frag} (h:H a=some (.tup xs)):JH K H a xs:=.inl (.inl h)
theorem Inv.list (I:Inv X pins σ H s) (h:Zo X.K H a xs):∃its:List Value,Vals xs its/\PlainL s.heap a its.toArray/\xs.length<=sizeLine:=by
 rcases h with h | ⟨o,its,n,hk,hc,hd,hs,hz,r⟩
 ·obtain ⟨z,its,n,r,e⟩:=h.ok I.hok
  exact ⟨its,r,⟨_,n,e,rfl,rfl,rfl⟩,z⟩
 ·refine ⟨its.toList,r,⟨o,n,I.kIn a o hk,hc,hd,by simpa using hs⟩,?_⟩
  have e:=r.length
  simp only [Array.length_toList] at e
  lia
theorem Inv.tuple (I:Inv X pins σ H s) (h:JH X.K H a xs):∃its:List Value,Vals xs its/\IsTup s.heap a its.toArray/\xs.length<=sizeLine:=by
 rcases h with h | ⟨o,its,n,hk,hc,hs,hz,r⟩
 ·obtain ⟨z,its,r,p⟩:=h.ok I.hok
  exact ⟨its,r,p,z⟩
 ·refine ⟨its.toList,r,⟨o,I.kIn a o hk,hc,n,by simpa using hs⟩,?_⟩
  have e:=r.length
  simp only [Array.length_toList] at e
  lia
theorem Inv.list_inj (I:Inv X pins σ H s) (h:Zo X.K H a xs) (h':Zo X.K H a ys):xs=ys:=by
 obtain ⟨its,r,⟨o,n,e,_,_,d⟩,_⟩:=I.list h
 obtain ⟨its',r',⟨o',n',e',_,_,d'⟩,_⟩:=I.list h'
 rw [e] at e';cases e'
 rw [d] at d'
 injection d' with d1 _
 have:its=its':=by simpa using congrArg Array.toList d1
 subst this
 exact r.inj r'
theorem Inv.tuple_inj (I:Inv X pins σ H s) (h:JH X.K H a xs) (h':JH X.K H a ys):xs=ys:=by
 obtain ⟨its,r,⟨o,e,_,n,d⟩,_⟩:=I.tuple h
 obtain ⟨its',r',⟨o',e',_,n',d'⟩,_⟩:=I.tuple h'
 rw [e] at e';cases e'
 rw [d] at d'
 injection d' with d1 _
 have:its=its':=by simpa using congrArg Array.toList d1
 subst this
 exact r.inj r'
end
abbrev Cx.wish (X:Cx) (E:Value->Shared->Prop):Cx:={ X with xe:=E }
abbrev Cx.nox (X:Cx):Cx:=X.wish fun _ _=>False
theorem Cx.Ok.wish {X:Cx} (ok:X.Ok) (E:Value->Shared->Prop):(X.wish E).Ok:=
 ⟨ok.mod,ok.kind,ok.glob,ok.blt,ok.above,ok.inj,ok.has,ok.cab,ok.hd,ok.frames,ok.stk,ok.exf,ok.bs,ok.bsz,ok.noex,ok.exfs,ok.funs,ok.frf⟩
theorem Cx.Ok.unwish {X:Cx}{E:Value->Shared->Prop} (ok:(X.wish E).Ok):X.Ok:=
 ⟨ok.mod,ok.kind,ok.glob,ok.blt,ok.above,ok.inj,ok.has,ok.cab,ok.hd,ok.frames,ok.stk,ok.exf,ok.bs,ok.bsz,ok.noex,ok.exfs,ok.funs,ok.frf⟩
section
variable {X:Cx}{pins:List (Addr×Obj)} {σ:St}{H:Hp}{s:Shared}{E:Value->Shared->Prop}
theorem Inv.wish (I:Inv X pins σ H s) (E:Value->Shared->Prop):Inv (X.wish E) pins σ H s:=⟨I.ok.wish E,I.os,I.bare,I.base,I.loc,I.cell,I.free,I.freeC,I.pin,I.hok,I.len⟩
theorem Inv.unwish (I:Inv (X.wish E) pins σ H s):Inv X pins σ H s:=⟨I.ok.unwish,I.os,I.bare,I.base,I.loc,I.cell,I.free,I.freeC,I.pin,I.hok,I.len⟩
theorem SP.unwish {D:Ends}{f:Flow}{s':Shared} (h:SP (X.wish E) pins D f s'):SP X pins D f s':=by
 cases f with
 | next=>obtain ⟨σ',H',I,q⟩:=h;exact ⟨σ',H',I.unwish,q⟩
 | brk=>obtain ⟨σ',H',I,q⟩:=h;exact ⟨σ',H',I.unwish,q⟩
 | cont=>obtain ⟨σ',H',I,q⟩:=h;exact ⟨σ',H',I.unwish,q⟩
 | ret u=>obtain ⟨v,σ',H',I,r,q⟩:=h;exact ⟨v,σ',H',I.unwish,r,q⟩
theorem PSs.nox {st:List Stmt}{t:TS} (h:PSs X.nox st t):PSs X st t:=fun pins s σ H D I hw=>
 wpAny_mono (h pins s σ H D (I.wish _) hw) (fun _ _ q=>q.unwish) fun _ _ z=>False.elim z
end
section
variable {X:Cx}{st:Stmt}{rest:List Stmt}{t u:TS}{e:Expr}{te:TE}{pos:Pos}
def ZkB:TS:=fun D σ H=>D.nx σ H
def ZmX (t u:TS):TS:=fun D σ H=>t { D with nx:=u D } σ H
theorem ZX:PSs X [] ZkB:=fun _ _ σ H _ I h=>wpAny_execs_nil ⟨σ,H,I,h⟩
theorem Zd (h1:PS X st t) (h2:PSs X rest u):PSs X (st::rest) (ZmX t u):=by
 intro pins s σ H D I h
 refine wpAny_execs_cons (YJ (h1 pins s σ H { D with nx:=u D } I h) fun f s1 q=>?_)
 cases f with
 | next=>
  obtain ⟨σ',H',I',q⟩:=q
  exact h2 pins s1 σ' H' D I' q
 | ret v=>exact q
 | brk=>exact q
 | cont=>exact q
theorem Zh (h1:PS X st t):PSs X [st] t:=by
 intro pins s σ H D I h
 refine wpAny_execs_cons (YJ (h1 pins s σ H D I h) fun f s1 q=>?_)
 cases f with
 | next=>exact wpAny_execs_nil q
 | ret v=>exact q
 | brk=>exact q
 | cont=>exact q
theorem Inv.quiet {pins:List (Addr×Obj)} {σ:St}{H:Hp}{s:Shared} (I:Inv X pins σ H s):interactive X.env=false:=by simp [interactive,I.ok.kind]
def Zmz (te:TE):TS:=fun D σ H=>te σ H fun _ H1=>D.nx σ H1
theorem Z1 (he:PE X e te) (hs:swapsWith e none pos.line X.env=pure false:=by rfl):PS X (.Expr e pos) (Zmz te):=by
 intro pins s σ H D I h
 exact wpAny_Expr_any (YJ (he pins s σ H _ I h) fun v s1 ⟨x,H1,I1,r1,q1⟩=>⟨σ,H1,I1,q1⟩) I.quiet hs
def Zns (te:TE):TS:=fun D σ H=>te σ H D.rt
theorem ZJ (he:PE X e te):PS X (.Return (some e) pos) (Zns te):=by
 intro pins s σ H D I h
 exact wpAny_Return_some (YJ (he pins s σ H _ I h) fun v s1 ⟨x,H1,I1,r1,q1⟩=>⟨x,σ,H1,I1,r1,q1⟩)
def ZgN (c:TT) (t u:TS):TS:=fun D σ H=>c σ H fun b H1=>if b=true then t D σ H1 else u D σ H1
theorem Yh {c:Expr}{a b:List Stmt}{tc:TT} (hc:PT X c tc) (ha:PSs X a t) (hb:PSs X b u):PS X (.If c a b pos) (ZgN tc t u):=by
 intro pins s σ H D I h
 refine wpAny_If (YJ (hc pins s σ H _ I h) fun d s1 ⟨H1,I1,q1⟩=>?_)
 cases d with
 | true=>exact ha pins s1 σ H1 D I1 q1
 | false=>exact hb pins s1 σ H1 D I1 q1
end
abbrev TG:=V->St->Hp->(St->Hp->Prop)->Prop
abbrev TGs:=List V->St->Hp->(St->Hp->Prop)->Prop
def PG (X:Cx) (target:Expr) (t:TG):Prop:=
 ∀(pins:List (Addr×Obj)) (s:Shared) (σ:St) (H:Hp) (v:V) (u:Value) (Q:St->Hp->Prop),Inv X pins σ H s->RelV v u->t v σ H Q ->
  wpAny (model X.prog X.w) X.A (assign target X.env u) (fun _ s'=>∃ σ' H',Inv X pins σ' H' s'/\Q σ' H') X.xe s
def PGs (X:Cx) (ts:List Expr) (t:TGs):Prop:=
 ∀(pins:List (Addr×Obj)) (s:Shared) (σ:St) (H:Hp) (vs:List V) (us:List Value) (Q:St->Hp->Prop),Inv X pins σ H s->Vals vs us->t vs σ H Q ->
  wpAny (model X.prog X.w) X.A (assignInOrder ((assignEach ts X.env).map (·.2)) us) (fun _ s'=>∃ σ' H',Inv X pins σ' H' s'/\Q σ' H') X.xe s
abbrev Zlw:=V->V->V->Hp->(Hp->Prop)->Prop
def ZlT (X:Cx) (t:Zlw):Prop:=
 ∀(pins:List (Addr×Obj)) (s:Shared) (σ:St) (H:Hp) (o i v:V) (ov iv u:Value) (Q:Hp->Prop),Inv X pins σ H s->RelV o ov->RelV i iv->RelV v u->t o i v H Q ->
  wpAny (model X.prog X.w) X.A (setItem ov iv u) (fun _ s'=>∃H',Inv X pins σ H' s'/\Q H') X.xe s
section
variable {X:Cx}{pos:Pos}
def JD (i:Nat):TG:=fun v σ H Q=>Q (σ.set i (some v)) H
theorem Zj {i:Nat}{x:Str} (hN:X.N.Nodup) (hi:X.N[i]? = some x) (hx:Loc X.env.scope x) (hf:X.fn x=true∨X.env.scope.names.lookup x=some .local:=by first | exact .inl rfl | exact .inr rfl | assumption):PG X (.Name x pos) (JD i):=by
 intro pins s σ H v u Q I r h
 exact wpAny_assign_Name (Zef I hN hi hx r (fun s' I'=>⟨_,H,I',h⟩) hf)
def Znt:TGs:=fun vs σ H Q=>vs = []/\Q σ H
def Zl8 (t:TG) (u:TGs):TGs:=fun vs σ H Q=>∃v r,vs=v::r/\t v σ H fun σ' H'=>u r σ' H' Q
theorem Z7:PGs X [] Znt:=by
 intro pins s σ H vs us Q I r h
 obtain ⟨e,h⟩:=h
 subst e
 cases r
 exact assignInOrder_nil ⟨σ,H,I,h⟩
theorem Zq {e:Expr}{es:List Expr}{t:TG}{u:TGs} (h1:PG X e t) (h2:PGs X es u)
  (hs:(assignEach (e::es) X.env).map (·.2)=assign e X.env::(assignEach es X.env).map (·.2):=by rfl):PGs X (e::es) (Zl8 t u):=by
 intro pins s σ H vs us Q I r h
 obtain ⟨v,vr,e1,h⟩:=h
 subst e1
 cases r with
 | cons r rr=>
  rw [hs]
  refine assignInOrder_cons (YJ (h1 pins s σ H _ _ _ I r h) fun _ s1 ⟨σ1,H1,I1,q1⟩=>?_)
  exact h2 pins s1 σ1 H1 _ _ Q I1 rr q1
def Zml (K:PySem.W.Frag) (n:Nat) (t:TGs):TG:=fun v σ H Q=>∃a xs,v = .ref a/\JH K H a xs/\xs.length=n/\t xs σ H Q
theorem ZkQ {es:List Expr}{k:Nat}{t:TGs}{n:Nat} (hc:X.calm=true) (h:PGs X es t)
  (hn:(assignEach es X.env).length=n:=by rfl) (hst:(assignEach es X.env).findIdx? (·.1)=none:=by rfl):PG X (.Tuple es k pos) (Zml X.K n t):=by
 intro pins s σ H v u Q I r hw
 obtain ⟨a,xs,e1,hq,hl,hw⟩:=hw
 subst e1
 cases r
 obtain ⟨its,rv,ht,hz⟩:=I.tuple hq
 refine assign_Tuple_tuple (I.ok.hd hc) ht (by simp [hn,<- hl,rv.length]) hst fun h' hx=>?_
 have I1:Inv X pins σ H { s with heap:=h' }:=I.kept (t':=s.toks) fun b o e=>hx b o (Nat.ne_of_lt (Heap.lt_size e)) e
 exact h pins _ σ H xs _ Q I1 (by simpa using rv) hw
def Zlb (to ti:TE) (t:Zlw):TG:=fun v σ H Q=>to σ H fun o H1=>ti σ H1 fun i H2=>t o i v H2 fun H3=>Q σ H3
theorem YG {o i:Expr}{to ti:TE}{t:Zlw} (ho:PE X o to) (hi:PE X i ti) (hs:ZlT X t)
  (ha:∀v,assign (.Subscript o i pos) X.env v=(do
   let ov <- holding [v] (eval o X.env)
   let iv <- holding [v,ov] (eval i X.env)
   standAt pos
   holding [v,ov,iv] (setItem ov iv v)
   release [v,ov,iv] []):=by intro _;rfl):PG X (.Subscript o i pos) (Zlb to ti t):=by
 intro pins s σ H v u Q I r h
 rw [ha]
 refine wpAny_bind (wpAny_holding (YJ (ho pins s σ H _ I h) fun ov s1 ⟨x,H1,I1,r1,q1⟩=>?_))
 refine wpAny_bind (wpAny_holding (YJ (hi pins s1 σ H1 _ I1 q1) fun iv s2 ⟨y,H2,I2,r2,q2⟩=>?_))
 refine wpAny_bind (wpAny_standAt (wpAny_bind (wpAny_holding (YJ (hs pins s2 σ H2 x y v ov iv u _ I2 r1 r2 r q2) fun _ s3 ⟨H3,I3,q3⟩=>?_))))
 exact wpAny_release ⟨σ,H3,I3,q3⟩
def Zh6 (te:TE) (g:TG):TS:=fun D σ H=>te σ H fun x H1=>g x σ H1 D.nx
theorem Z6 {tg e:Expr}{te:TE}{g:TG} (he:PE X e te) (hg:PG X tg g) (hs:swapsWithSole [tg] e pos.line X.env=pure false:=by rfl) (hw:swappedStores [tg] e X.env=pure none:=by rfl)
  (h1:(assignEach [tg] X.env).map (·.2) = [assign tg X.env]:=by rfl):PS X (.Assign [tg] e pos) (Zh6 te g):=by
 intro pins s σ H D I h
 refine wpAny_Assign_stores (YJ (he pins s σ H _ I h) fun v s1 ⟨x,H1,I1,r1,q1⟩=>?_) hs hw
 rw [h1]
 exact YJ (hg pins s1 σ H1 x v _ I1 r1 q1) fun _ s2 q=>q
theorem Zr {i:Nat}{x:Str}{e:Expr}{te:TE}{pos':Pos} (hN:X.N.Nodup) (hi:X.N[i]? = some x) (hx:Loc X.env.scope x) (he:PE X e te) (hs:swapsWith e (some (.Name x pos')) pos.line X.env=pure false:=by rfl) (hf:X.fn x=true∨X.env.scope.names.lookup x=some .local:=by first | exact .inl rfl | exact .inr rfl | assumption):
  PS X (.Assign [.Name x pos'] e pos) (Zh6 te (JD i)):=by
 intro pins s σ H D I h
 refine wpAny_Assign_Name (YJ (he pins s σ H _ I h) fun v s1 ⟨y,H1,I1,r1,q1⟩=>?_) hs
 exact Zef I1 hN hi hx r1 (fun s2 I2=>⟨_,H1,I2,q1⟩) hf
end
section
variable {X:Cx}{pos:Pos}
def Zij (c:TT) (tb:TS):TS:=fun D σ H=>∃W:Nat->St->Hp->Prop,(∃m,W m σ H) /\ ∀m σ H,W m σ H ->
 c σ H fun b H1=>if b=true then ∃N:St->Hp->Prop,(∀ σ' H',N σ' H' -> ∃m',m'<m/\W m' σ' H')/\tb { D with nx:=N,ct:=N,bk:=D.nx } σ H1 else D.nx σ H1
theorem ZbN {c:Expr}{body:List Stmt}{tc:TT}{tb:TS} (hp:PassesOwn (model X.prog X.w) X.A X.env X.xe) (hc:PT X c tc) (hb:PSs X body tb):PS X (.While c body [] pos) (Zij tc tb):=by
 intro pins s σ H D I h
 obtain ⟨W,⟨m0,w0⟩,turn⟩:=h
 refine wpAny_While (codeAny_whileLoop (fun n s'=>∃ σ' H',Inv X pins σ' H' s'/\W n σ' H') ?_ m0 ⟨σ,H,I,w0⟩)
 rintro n s1 ⟨σ1,H1,I1,w1⟩
 refine wpAny_passesOwn hp (YJ (hc pins s1 σ1 H1 _ I1 (turn n σ1 H1 w1)) fun b s2 ⟨H2,I2,q2⟩=>?_)
 cases b with
 | true=>
  obtain ⟨N,hN,q2⟩:=q2
  rw [if_pos rfl]
  refine wpAny_passesOwn hp (YJ (hb pins s2 σ1 H2 _ I2 q2) fun f s3 q3=>?_)
  cases f with
  | next=>
   obtain ⟨σ3,H3,I3,n3⟩:=q3
   obtain ⟨m',hm,w3⟩:=hN σ3 H3 n3
   exact ⟨m',hm,σ3,H3,I3,w3⟩
  | cont=>
   obtain ⟨σ3,H3,I3,n3⟩:=q3
   obtain ⟨m',hm,w3⟩:=hN σ3 H3 n3
   exact ⟨m',hm,σ3,H3,I3,w3⟩
  | brk=>exact q3
  | ret v=>exact q3
 | false=>
  rw [if_neg Bool.false_ne_true]
  exact wpAny_execs_nil ⟨σ1,H2,I2,q2⟩
end
structure It where
 go:Nat->Hp->Prop
 yld:Nat->Hp->V->Hp->Prop
 stop:Nat->Hp->Prop
def Zcl (X:Cx) (pins:List (Addr×Obj)) (H:Hp) (b:Addr):Prop:=
 H b=none/\b≠X.env.locals/\b∉X.fs/\(b∈X.ex∨X.s₀.heap.objs.size<=b)/\(∀x c,X.env.cells.lookup x=some c->c≠b) /\ ∀p∈X.pn++pins,p.1≠b
theorem Inv.fpOk {X:Cx}{pins:List (Addr×Obj)} {σ:St}{H H':Hp}{s:Shared}{b:Addr} (I:Inv X pins σ H s) (hb:s.heap.objs.size<=b) (hn:H' b=none):Zcl X pins H' b:=by
 refine ⟨hn,Nat.ne_of_gt (Nat.lt_of_lt_of_le I.lt hb),I.nofs hb,.inr (Nat.le_trans I.sz hb),fun x c e z=>?_,fun p hp z=>?_⟩
 ·obtain ⟨v,q⟩:=I.cell x c e
  exact absurd (Nat.lt_of_lt_of_le q.lt (by rw [z];exact hb)) (Nat.lt_irrefl _)
 ·exact absurd (Nat.lt_of_lt_of_le (Heap.lt_size (I.pin p hp).1) (by rw [z];exact hb)) (Nat.lt_irrefl _)
structure Turn (P:Program) (w:World) (K:PySem.W.Frag) (tg:Expr) (J:It) (fp:List Addr) (it:Addr) (tn:Nat->Heap->Prop):Prop where
 mem:it∈fp
 obj:∀i h,tn i h -> ∀b∈fp,∃o,h.get? b=some o /\ ∀v,o.data ≠ .cell v
 keep:∀i h h',tn i h->(∀b∈fp,∀o,h.get? b=some o->h'.get? b=some o)->tn i h'
 item:∀(X:Cx),X.prog=P->X.w=w->X.K=K->X.calm=true -> ∀(i:Nat) (pins:List (Addr×Obj)) (s:Shared) (σ:St) (H:Hp) (E:Value->Shared->Prop),Inv X pins σ H s->(∀b∈fp,Zcl X pins H b)->tn i s.heap->J.go i H ->
  wpAny (model P w) X.A (pyNext (.ref it)) (fun r s1=>∃u,r=some u /\
   wpAny (model P w) X.A (letOwnedTupleGo tg (.ref it) u) (fun _ s2=>∃x H',Inv X pins σ H' s2/\RelV x u/\J.yld i H x H'/\tn (i+1) s2.heap /\ ∀b∈fp,H' b=none) E s1) E s
 done:∀(X:Cx),X.prog=P->X.w=w->X.K=K->X.calm=true -> ∀(i:Nat) (pins:List (Addr×Obj)) (s:Shared) (σ:St) (H:Hp) (E:Value->Shared->Prop),Inv X pins σ H s->(∀b∈fp,Zcl X pins H b)->tn i s.heap->J.stop i H ->
  wpAny (model P w) X.A (pyNext (.ref it)) (fun r s1=>r=none/\Inv X pins σ H s1) E s
 self:∀(A:Around) (i:Nat) (s:Shared) (Q:Value->Shared->Prop) (E:Value->Shared->Prop),tn i s.heap->Q (.ref it) s->wpAny (model P w) A (pyIter (.ref it)) Q E s
abbrev TI:=St->Hp->(It->Hp->Prop)->Prop
def PIE (X:Cx) (pins:List (Addr×Obj)) (σ:St) (tg:Expr) (R:It->Hp->Prop) (itv:Value) (s2:Shared):Prop:=
 ∃(it:Addr) (fp:List Addr) (tn:Nat->Heap->Prop) (J:It) (H':Hp),itv = .ref it/\Inv X pins σ H' s2/\Turn X.prog X.w X.K tg J fp it tn/\tn 0 s2.heap/\(∀b∈fp,Zcl X pins H' b)/\R J H'
def PI (X:Cx) (tg iter:Expr) (wi:TI):Prop:=
 ∀(pins:List (Addr×Obj)) (s:Shared) (σ:St) (H:Hp) (R:It->Hp->Prop),Inv X pins σ H s->wi σ H R ->
  wpAny (model X.prog X.w) X.A (eval iter X.env) (fun v s1=>wpAny (model X.prog X.w) X.A (pyIter v) (PIE X pins σ tg R) X.xe s1) X.xe s
theorem Zf6 {M:Model}{A:Around}{E:Value->Shared->Prop}{s:Shared}{tg:Expr}{it:Addr}{u:Value}{o:Obj}{n:String}{vs:Array Value}{Q:Unit->Shared->Prop} (ho:s.heap.get? it=some o) (hc:o.cls = .type n) (hd:o.data = .fields vs)
    (hn:["enumerate", "zip", "dict_itemiterator", "dict_reverseitemiterator", "odict_iterator", "itertools.zip_longest", "itertools.pairwise"].contains n=false) (hQ:Q () s):wpAny M A (letOwnedTupleGo tg (.ref it) u) Q E s:=by
  unfold letOwnedTupleGo
  cases tg<;>first
    | exact wpAny_pure hQ
    | (cases u<;>first
        | exact wpAny_pure hQ
        | (refine wpAny_bind (wpAny_load ho ?_)
           rw [hc,hd]
           show wpAny M A (if (["enumerate", "zip", "dict_itemiterator", "dict_reverseitemiterator", "odict_iterator", "itertools.zip_longest", "itertools.pairwise"].contains n&&vs[0]? == some (rawInt _))=true then _ else _) Q E s
           rw [if_neg (by intro h;rw [hn,Bool.false_and] at h;cases h)]
           exact wpAny_pure hQ))
def Itl (K:PySem.W.Frag) (a:Addr):It:=
 ⟨fun i H=>∃xs x,Zo K H a xs/\xs[i]? = some x,fun i H x H'=>H'=H /\ ∀xs,Zo K H a xs->xs[i]? = some x,fun i H=>∃xs,Zo K H a xs/\xs.length<=i⟩
def Itt (K:PySem.W.Frag) (a:Addr):It:=
 ⟨fun i H=>∃xs x,JH K H a xs/\xs[i]? = some x,fun i H x H'=>H'=H /\ ∀xs,JH K H a xs->xs[i]? = some x,fun i H=>∃xs,JH K H a xs/\xs.length<=i⟩
def Itr (lo:Int) (n:Nat):It:=⟨fun i _=>i<n,fun i H x H'=>H'=H/\x = .int (lo+i),fun i _=>n<=i⟩
theorem ZgQ {P:Program}{w:World}{K:PySem.W.Frag}{tg:Expr} (a it:Addr):Turn P w K tg (Itl K a) [it] it (fun i h=>h.IsListIter it a i) where
 mem:=by simp
 obj:=fun i h st b hb=>by
  have e:b=it:=by simpa using hb
  subst e
  obtain ⟨o,e,c,d⟩:=st
  exact ⟨o,e,fun v z=>by rw [d] at z;cases z⟩
 keep:=fun i h h' st k=>st.at fun o e=>k it (by simp) o e
 item:=by
  intro X hP hw hK hc i pins s σ H E I hf st hg
  subst hP hw hK
  obtain ⟨xs,x,hq,hx⟩:=hg
  obtain ⟨its,rv,p,hz⟩:=I.list hq
  obtain ⟨u,hu,ru⟩:=rv.get hx
  obtain ⟨f0,f1,f2,f3,f4,f5⟩:=hf it (by simp)
  refine wpAny_pyNext_list_item st p.isList (x:=u) (by simpa using hu) fun h' st' sb=>?_
  have I1:Inv X pins σ H { s with heap:=h' }:=I.turned (t':=s.toks) (fun b o hb e=>(sb.2 b hb).trans e) f0 f1 f3 f4 f5
  obtain ⟨o,e,c,d⟩:=id st'
  exact ⟨u,rfl,Zf6 (s:={ s with heap:=h' }) e c d (by decide) ⟨x,H,I1,ru,⟨rfl,fun ys hy=>by rw [I.list_inj hy hq];exact hx⟩,st',fun b hb=>(hf b hb).1⟩⟩
 done:=by
  intro X hP hw hK hc i pins s σ H E I hf st hg
  subst hP hw hK
  obtain ⟨xs,hq,hx⟩:=hg
  obtain ⟨its,rv,p,hz⟩:=I.list hq
  obtain ⟨f0,f1,f2,f3,f4,f5⟩:=hf it (by simp)
  have hl:=rv.length
  exact wpAny_pyNext_list_end (I.ok.hd hc) st p.isList (by simp;lia) fun h' eb=>⟨rfl,I.turned (t':=s.toks) (fun b o hb e=>eb b o hb e) f0 f1 f3 f4 f5⟩
 self:=fun _ _ _ _ _ st h=>wpAny_pyIter_listiter st h
theorem Zfk {P:Program}{w:World}{K:PySem.W.Frag}{tg:Expr} (a it:Addr):Turn P w K tg (Itt K a) [it] it (fun i h=>h.IsTupleIter it a i) where
 mem:=by simp
 obj:=fun i h st b hb=>by
  have e:b=it:=by simpa using hb
  subst e
  obtain ⟨o,e,c,d⟩:=st
  exact ⟨o,e,fun v z=>by rw [d] at z;cases z⟩
 keep:=fun i h h' st k=>st.at fun o e=>k it (by simp) o e
 item:=by
  intro X hP hw hK hc i pins s σ H E I hf st hg
  subst hP hw hK
  obtain ⟨xs,x,hq,hx⟩:=hg
  obtain ⟨its,rv,p,hz⟩:=I.tuple hq
  obtain ⟨u,hu,ru⟩:=rv.get hx
  obtain ⟨f0,f1,f2,f3,f4,f5⟩:=hf it (by simp)
  refine wpAny_pyNext_tuple_item st (show s.heap.IsTuple a its.toArray from p) (x:=u) (by simpa using hu) fun h' st' sb=>?_
  have I1:Inv X pins σ H { s with heap:=h' }:=I.turned (t':=s.toks) (fun b o hb e=>(sb.2 b hb).trans e) f0 f1 f3 f4 f5
  obtain ⟨o,e,c,d⟩:=id st'
  exact ⟨u,rfl,Zf6 (s:={ s with heap:=h' }) e c d (by decide) ⟨x,H,I1,ru,⟨rfl,fun ys hy=>by rw [I.tuple_inj hy hq];exact hx⟩,st',fun b hb=>(hf b hb).1⟩⟩
 done:=by
  intro X hP hw hK hc i pins s σ H E I hf st hg
  subst hP hw hK
  obtain ⟨xs,hq,hx⟩:=hg
  obtain ⟨its,rv,p,hz⟩:=I.tuple hq
  obtain ⟨f0,f1,f2,f3,f4,f5⟩:=hf it (by simp)
  have hl:=rv.length
  exact wpAny_pyNext_tuple_end (I.ok.hd hc) st (show s.heap.IsTuple a its.toArray from p) (by simp;lia) fun h' eb=>⟨rfl,I.turned (t':=s.toks) (fun b o hb e=>eb b o hb e) f0 f1 f3 f4 f5⟩
 self:=fun _ _ _ _ _ st h=>wpAny_pyIter_tupleiter st h
theorem ZeP {P:Program}{w:World}{K:PySem.W.Frag}{tg:Expr} (it:Addr) (lo:Int) (n:Nat):Turn P w K tg (Itr lo n) [it] it (fun i h=>IsRangeIter h it (lo+(i:Nat)*1) ((n:Int)-(i:Nat)) 1) where
 mem:=by simp
 obj:=fun i h st b hb=>by
  have e:b=it:=by simpa using hb
  subst e
  exact ⟨_,st,fun v z=>by
   have z':Data.fields _=Data.cell v:=z
   cases z'⟩
 keep:=fun i h h' st k=>k it (by simp) _ st
 item:=by
  intro X hP hw hK hc i pins s σ H E I hf st hg
  subst hP hw hK
  obtain ⟨f0,f1,f2,f3,f4,f5⟩:=hf it (by simp)
  have W:=Walks.range (prog:=X.prog) (w:=X.w) (I.ok.hd hc) it lo 1 n
  refine W.item i s _ _ hg st fun v h' tk hv st' kk=>?_
  obtain ⟨t,rfl⟩:=hv
  have I1:Inv X pins σ H { s with heap:=h',toks:=tk }:=I.turned (fun b o hb e=>kk b o (by simpa using hb) e) f0 f1 f3 f4 f5
  refine ⟨_,rfl,Zf6 (s:={ s with heap:=h',toks:=tk }) (n := "range_iterator") st' rfl rfl (by decide) ⟨.int (lo+i),H,I1,⟨t,?_⟩,⟨rfl,rfl⟩,st',fun b hb=>(hf b hb).1⟩⟩
  rw [Int.mul_one]
 done:=by
  intro X hP hw hK hc i pins s σ H E I hf st hg
  subst hP hw hK
  obtain ⟨f0,f1,f2,f3,f4,f5⟩:=hf it (by simp)
  exact wpAny_pyNext_range_end (I.ok.hd hc) st (by have:n<=i:=hg;lia) fun h' eb=>⟨rfl,I.turned (t':=s.toks) (fun b o hb e=>eb b o hb e) f0 f1 f3 f4 f5⟩
 self:=fun _ _ _ _ _ st h=>wpAny_pyIter_rangeiter st h
section
variable {X:Cx}{tg:Expr}
def Zky (K:PySem.W.Frag) (tl:TE):TI:=fun σ H R=>tl σ H fun x H1=>∃a,x = .ref a/\(∃xs,Zo K H1 a xs)/\R (Itl K a) H1
def ZkJ (K:PySem.W.Frag) (tl:TE):TI:=fun σ H R=>tl σ H fun x H1=>∃a,x = .ref a/\(∃xs,JH K H1 a xs)/\R (Itt K a) H1
theorem Zj2 {l:Expr}{tl:TE} (hl:PE X l tl):PI X tg l (Zky X.K tl):=by
 intro pins s σ H R I h
 refine YJ (hl pins s σ H _ I h) fun v s1 ⟨x,H1,I1,r1,q1⟩=>?_
 obtain ⟨a,e,⟨xs,hq⟩,q⟩:=q1
 subst e
 cases r1
 obtain ⟨its,rv,p,hz⟩:=I1.list hq
 refine wpAny_pyIter_list p.isList ?_
 refine ⟨s1.heap.objs.size,[s1.heap.objs.size],_,_,H1,rfl,I1.kept (t':=s1.toks) fun b o e=>Heap.get?_push_of_some _ e,ZgQ a _,⟨_,Heap.get?_push_size _ rfl,rfl,rfl⟩,fun b hb=>?_,q⟩
 have e:b=s1.heap.objs.size:=by simpa using hb
 subst e
 exact I1.fpOk (Nat.le_refl _) (I1.hok.fresh (Nat.le_refl _))
theorem ZkP {l:Expr}{tl:TE} (hl:PE X l tl):PI X tg l (ZkJ X.K tl):=by
 intro pins s σ H R I h
 refine YJ (hl pins s σ H _ I h) fun v s1 ⟨x,H1,I1,r1,q1⟩=>?_
 obtain ⟨a,e,⟨xs,hq⟩,q⟩:=q1
 subst e
 cases r1
 obtain ⟨its,rv,p,hz⟩:=I1.tuple hq
 refine wpAny_pyIter_tuple (show s1.heap.IsTuple a its.toArray from p) ?_
 refine ⟨s1.heap.objs.size,[s1.heap.objs.size],_,_,H1,rfl,I1.kept (t':=s1.toks) fun b o e=>Heap.get?_push_of_some _ e,Zfk a _,⟨_,Heap.get?_push_size _ rfl,rfl,rfl⟩,fun b hb=>?_,q⟩
 have e:b=s1.heap.objs.size:=by simpa using hb
 subst e
 exact I1.fpOk (Nat.le_refl _) (I1.hok.fresh (Nat.le_refl _))
theorem ZdJ {pins:List (Addr×Obj)} {σ:St}{H:Hp}{s:Shared}{R:It->Hp->Prop}{E:Value->Shared->Prop}{lo hi:Int}{t u v:Tok}{tk:Nat} (I:Inv X pins σ H s) (h1 : -(2 ^ 62)<=lo) (h2:lo<2 ^ 62) (h3 : -(2 ^ 62)<=hi) (h4:hi<2 ^ 62)
  (q:R (Itr lo (hi-lo).toNat) H):wpAny (model X.prog X.w) X.A (pyIter (.ref s.heap.objs.size)) (PIE X pins σ tg R) E { s with heap:=s.heap.push { cls:=.type "range", data:=.fields #[.int lo t,.int hi u,.int 1 v] },toks:=tk }:=by
 refine wpAny_pyIter_range (IsRange.new ..) (small_one h1 h2 h3 h4) ?_
 have I1:Inv X pins σ H { s with heap:=s.heap.push { cls:=.type "range", data:=.fields #[.int lo t,.int hi u,.int 1 v] },toks:=tk }:=I.kept fun b o e=>Heap.get?_push_of_some _ e
 refine ⟨(s.heap.push { cls:=.type "range", data:=.fields #[.int lo t,.int hi u,.int 1 v] }).objs.size,[(s.heap.push { cls:=.type "range", data:=.fields #[.int lo t,.int hi u,.int 1 v] }).objs.size],_,_,H,rfl,
  I1.kept (t':=tk) fun b o e=>Heap.get?_push_of_some _ e,ZeP _ lo (hi-lo).toNat,?_,fun b hb=>?_,q⟩
 ·have e1:lo+((0:Nat):Int)*1=lo:=by simp
  have e2:(((hi-lo).toNat:Nat):Int)-((0:Nat):Int)=Builtin.Range.rangeSize lo hi 1:=by rw [rangeSize_one];split<;>lia
  show IsRangeIter _ _ (lo+((0:Nat):Int)*1) ((((hi-lo).toNat:Nat):Int)-((0:Nat):Int)) 1
  rw [e1,e2]
  exact Heap.get?_push_size _ rfl
 ·have e:b=(s.heap.push { cls:=.type "range", data:=.fields #[.int lo t,.int hi u,.int 1 v] }).objs.size:=by simpa using hb
  subst e
  exact I1.fpOk (Nat.le_refl _) (I1.hok.fresh (Nat.le_refl _))
def Zmx (ta:TA):TI:=fun σ H R=>ta σ H fun vs H1=>∃j:Int,vs = [.int j] /\ -(2 ^ 62)<=j/\j<2 ^ 62/\R (Itr 0 j.toNat) H1
def ZmD (ta:TA):TI:=fun σ H R=>ta σ H fun vs H1=>∃i j:Int,vs = [.int i,.int j]/\(-(2 ^ 62)<=i/\i<2 ^ 62 /\ -(2 ^ 62)<=j/\j<2 ^ 62)/\R (Itr i (j-i).toNat) H1
theorem Yb {a:Expr}{ta:TA}{p pos:Pos} (hg:Gl X "range") (hm:X.mg "range" = none) (ha:PA X [a] ta) (hs:starEach [a] X.env = [(false,eval a X.env)]:=by rfl):PI X tg (.Call (.Name "range" p) [a] [] pos) (Zmx ta):=by
 intro pins s σ H R I h
 refine Call_ (Gq I hg hm boot_range (PyProof.Rows.callWith_type1 (YJ (ha pos pins s σ H _ I h) fun us s1 ⟨vs,H1,I1,r1,q1⟩=>?_) hs rfl))
 obtain ⟨j,e,q1,q2,q⟩:=q1
 subst e
 cases r1 with
 | cons r rr=>
  cases rr
  obtain ⟨t,rfl⟩:=r
  exact call_range_1 (ZdJ I1 (by lia) (by lia) q1 q2 (by simpa using q))
theorem Zal {a b:Expr}{ta:TA}{p pos:Pos} (hg:Gl X "range") (hm:X.mg "range" = none) (ha:PA X [a,b] ta) (hs:starEach [a,b] X.env = [(false,eval a X.env),(false,eval b X.env)]:=by rfl) (hs2:starEach [b] X.env = [(false,eval b X.env)]:=by rfl):
  PI X tg (.Call (.Name "range" p) [a,b] [] pos) (ZmD ta):=by
 intro pins s σ H R I h
 refine Call_ (Gq I hg hm boot_range (PyProof.Rows.callWith_type1 (YJ (ha pos pins s σ H _ I h) fun us s1 ⟨vs,H1,I1,r1,q1⟩=>?_) (by rw [hs,hs2]) (by rw [hs2];rfl)))
 obtain ⟨i,j,e,⟨q1,q2,q3,q4⟩,q⟩:=q1
 subst e
 cases r1 with
 | cons r rr=>
  cases rr with
  | cons r' rr=>
   cases rr
   obtain ⟨t,rfl⟩:=r
   obtain ⟨t',rfl⟩:=r'
   exact call_range_2 (ZdJ I1 q1 q2 q3 q4 q)
def Znd (wi:TI) (g:TG) (tb:TS):TS:=fun D σ H=>wi σ H fun J H1=>∃W:Nat->Nat->St->Hp->Prop,(∃m,W 0 m σ H1) /\ ∀i m σ H,W i m σ H ->
 (J.stop i H/\D.nx σ H)∨(J.go i H /\ ∃N:St->Hp->Prop,(∀ σ' H',N σ' H' -> ∃m',m'<m/\W (i+1) m' σ' H') /\ ∀x H',J.yld i H x H'->g x σ H' fun σ2 H2=>tb { D with nx:=N,ct:=N,bk:=D.nx } σ2 H2)
def Zb2 (fp:List Addr) (h:Heap):List (Addr×Obj):=fp.filterMap fun b=>(h.get? b).map fun o=>(b,o)
theorem Gn {fp:List Addr}{h:Heap}{b:Addr}{o:Obj} (hb:b∈fp) (e:h.get? b=some o):(b,o)∈Zb2 fp h:=List.mem_filterMap.mpr ⟨b,hb,by rw [e];rfl⟩
theorem ZgS {fp:List Addr}{h:Heap}{p:Addr×Obj} (hp:p∈Zb2 fp h):p.1∈fp/\h.get? p.1=some p.2:=by
 obtain ⟨b,hb,e⟩:=List.mem_filterMap.mp hp
 cases q:h.get? b with
 | none=>rw [q] at e;cases e
 | some o=>
  rw [q] at e
  have e':(b,o)=p:=Option.some.inj e
  subst e'
  exact ⟨hb,q⟩
theorem Inv.pinned {pins:List (Addr×Obj)} {σ:St}{H:Hp}{s:Shared}{fp:List Addr} (I:Inv X pins σ H s) (hf:∀b∈fp,Zcl X pins H b) (ho:∀b∈fp,∃o,s.heap.get? b=some o /\ ∀v,o.data ≠ .cell v):Inv X (pins++Zb2 fp s.heap) σ H s:=
 I.pins_of fun p hp=>(List.mem_append.mp hp).elim (fun z=>I.pin p (List.mem_append_right _ z)) fun z=>by
  obtain ⟨hb,e⟩:=ZgS z
  obtain ⟨f0,f1,f2,_⟩:=hf p.1 hb
  obtain ⟨o,e',d⟩:=ho p.1 hb
  rw [e] at e';cases e'
  exact ⟨e,f0,f1,f2,d⟩
theorem Inv.unpinned {pins pl:List (Addr×Obj)} {σ:St}{H:Hp}{s:Shared} (I:Inv X (pins++pl) σ H s):Inv X pins σ H s:=I.pins_of fun p hp=>I.pin p (List.mem_append_right _ (List.mem_append_left _ hp))
theorem Z3 {iter:Expr}{body:List Stmt}{wi:TI}{g:TG}{tb:TS}{pos:Pos} (hp:PassesOwn (model X.prog X.w) X.A X.env X.xe) (hc:X.calm=true) (hi:PI X tg iter wi) (hg:PG X tg g) (hb:PSs X body tb)
  (hs:∀x,foldedSetIterable iter X.env x=pure x:=by intro _;rfl):PS X (.For tg iter body [] pos) (Znd wi g tb):=by
 intro pins s σ H D I h
 refine wpAny_For (YJ (hi pins s σ H _ I h) fun v s1 h1=>YJ h1 fun itv s2 h2=>?_) hs
 obtain ⟨it,fp,tn,J,H2,e,I2,T,st2,f2,W,⟨m0,w0⟩,turn⟩:=h2
 subst e
 have stat:∀{H':Hp},(∀b∈fp,H' b=none) -> ∀b∈fp,Zcl X pins H' b:=fun hn b hb=>⟨hn b hb,(f2 b hb).2⟩
 refine codeAny_forLoop_any (fun n s'=>∃i σ' H',Inv X pins σ' H' s'/\tn i s'.heap/\(∀b∈fp,H' b=none)/\W i n σ' H') ?_ m0 ⟨0,σ,H2,I2,st2,fun b hb=>(f2 b hb).1,w0⟩
 rintro n s3 ⟨i,σ3,H3,I3,st3,fr3,w3⟩
 rcases turn i n σ3 H3 w3 with ⟨stop,qn⟩ | ⟨go,N,hN,step⟩
 ·refine wpAny_passesOwn hp (YJ (T.done X rfl rfl rfl hc i pins s3 σ3 H3 X.xe I3 (stat fr3) st3 stop) fun r s4 ⟨hr,I4⟩=>?_)
  subst hr
  exact wpAny_execs_nil ⟨σ3,H3,I4,qn⟩
 ·refine wpAny_passesOwn hp (YJ (T.item X rfl rfl rfl hc i pins s3 σ3 H3 X.xe I3 (stat fr3) st3 go) fun r s4 ⟨u,hr,h4⟩=>?_)
  subst hr
  refine wpAny_passesOwn hp (YJ h4 fun _ s5 ⟨x,H5,I5,r5,y5,st5,fr5⟩=>?_)
  have I5':=I5.pinned (stat fr5) (T.obj _ _ st5)
  refine wpAny_passesOwn hp (YJ (hg _ s5 σ3 H5 x u _ I5' r5 (step x H5 y5)) fun _ s6 ⟨σ6,H6,I6,q6⟩=>?_)
  refine wpAny_passesOwn hp (YJ (hb _ s6 σ6 H6 _ I6 q6) fun f s7 q7=>?_)
  have again:∀{σ7:St}{H7:Hp},Inv X (pins++Zb2 fp s5.heap) σ7 H7 s7->N σ7 H7 -> ∃m,m<n /\ ∃i σ' H',Inv X pins σ' H' s7/\tn i s7.heap/\(∀b∈fp,H' b=none)/\W i m σ' H':=fun {σ7 H7} I7 n7=>by
   obtain ⟨m',hm,w7⟩:=hN σ7 H7 n7
   refine ⟨m',hm,i+1,σ7,H7,I7.unpinned,T.keep _ _ _ st5 fun b hb o e=>(I7.pin (b,o) (List.mem_append_right _ (List.mem_append_right _ (Gn hb e)))).1,fun b hb=>?_,w7⟩
   obtain ⟨o,e,d⟩:=T.obj _ _ st5 b hb
   exact (I7.pin (b,o) (List.mem_append_right _ (List.mem_append_right _ (Gn hb e)))).2.1
  cases f with
  | next=>obtain ⟨σ7,H7,I7,n7⟩:=q7;exact again I7 n7
  | cont=>obtain ⟨σ7,H7,I7,n7⟩:=q7;exact again I7 n7
  | brk=>obtain ⟨σ7,H7,I7,q7⟩:=q7;exact ⟨σ7,H7,I7.unpinned,q7⟩
  | ret v=>obtain ⟨x7,σ7,H7,I7,r7,q7⟩:=q7;exact ⟨x7,σ7,H7,I7.unpinned,r7,q7⟩
end
theorem Wh {K:PySem.W.Frag}{a:Addr}{xs:List V}{g:TG}{tb:TS}{D:Ends} {σ:St}{H:Hp} (Pv:Nat->St->Hp->Prop) (h0:Pv 0 σ H) (hl:∀i σ H,i<=xs.length->Pv i σ H->Zo K H a xs)
  (hs:∀i x σ H,xs[i]? = some x->Pv i σ H->g x σ H fun σ2 H2=>tb { D with nx:=Pv (i+1),ct:=Pv (i+1),bk:=D.nx } σ2 H2) (hd:∀ σ H,Pv xs.length σ H->D.nx σ H):
  ∃W:Nat->Nat->St->Hp->Prop,(∃m,W 0 m σ H) /\ ∀i m σ H,W i m σ H ->
   ((Itl K a).stop i H/\D.nx σ H)∨((Itl K a).go i H /\ ∃N:St->Hp->Prop,(∀ σ' H',N σ' H' -> ∃m',m'<m/\W (i+1) m' σ' H') /\ ∀x H',(Itl K a).yld i H x H'->g x σ H' fun σ2 H2=>tb { D with nx:=N,ct:=N,bk:=D.nx } σ2 H2):=by
 refine ⟨fun i m σ H=>m=xs.length-i/\i<=xs.length/\Pv i σ H,⟨xs.length,by simp,Nat.zero_le _,h0⟩,?_⟩
 rintro i m σ H ⟨rfl,hi,p⟩
 have q:=hl i σ H hi p
 by_cases hlt:i<xs.length
 ·refine .inr ⟨⟨xs,xs[i],q,by simp [hlt]⟩,Pv (i+1),fun σ' H' p'=>⟨xs.length-(i+1),by lia,rfl,hlt,p'⟩,fun x H' y=>?_⟩
  obtain ⟨e,y⟩:=y
  subst e
  exact hs i x σ _ (y xs q) p
 ·have e:i=xs.length:=by lia
  subst e
  exact .inl ⟨⟨xs,q,Nat.le_refl _⟩,hd σ H p⟩
theorem Ys {lo:Int}{n:Nat}{g:TG}{tb:TS}{D:Ends} {σ:St}{H:Hp} (Pv:Nat->St->Hp->Prop) (h0:Pv 0 σ H)
  (hs:∀i σ H,i<n->Pv i σ H->g (.int (lo+i)) σ H fun σ2 H2=>tb { D with nx:=Pv (i+1),ct:=Pv (i+1),bk:=D.nx } σ2 H2) (hd:∀ σ H,Pv n σ H->D.nx σ H):
  ∃W:Nat->Nat->St->Hp->Prop,(∃m,W 0 m σ H) /\ ∀i m σ H,W i m σ H ->
   ((Itr lo n).stop i H/\D.nx σ H)∨((Itr lo n).go i H /\ ∃N:St->Hp->Prop,(∀ σ' H',N σ' H' -> ∃m',m'<m/\W (i+1) m' σ' H') /\ ∀x H',(Itr lo n).yld i H x H'->g x σ H' fun σ2 H2=>tb { D with nx:=N,ct:=N,bk:=D.nx } σ2 H2):=by
 refine ⟨fun i m σ H=>m=n-i/\i<=n/\Pv i σ H,⟨n,by simp,Nat.zero_le _,h0⟩,?_⟩
 rintro i m σ H ⟨rfl,hi,p⟩
 by_cases hlt:i<n
 ·refine .inr ⟨hlt,Pv (i+1),fun σ' H' p'=>⟨n-(i+1),by lia,rfl,hlt,p'⟩,fun x H' y=>?_⟩
  obtain ⟨e,y⟩:=y
  subst e y
  exact hs i σ _ hlt p
 ·have e:i=n:=by lia
  subst e
  exact .inl ⟨Nat.le_refl _,hd σ H p⟩
theorem Zix {c:TT}{tb:TS}{D:Ends} {σ:St}{H:Hp} (Pv:St->Hp->Prop) (μ:St->Hp->Nat) (h0:Pv σ H)
  (hs:∀ σ H,Pv σ H->c σ H fun b H1=>if b=true then tb { D with nx:=fun σ' H'=>Pv σ' H' /\ μ σ' H' < μ σ H,ct:=fun σ' H'=>Pv σ' H' /\ μ σ' H' < μ σ H,bk:=D.nx } σ H1 else D.nx σ H1)
  (mono:∀ σ H Q Q',(∀b H1,Q b H1->Q' b H1)->c σ H Q->c σ H Q'):Zij c tb D σ H:=by
 refine ⟨fun m σ H=>m = μ σ H/\Pv σ H,⟨_,rfl,h0⟩,?_⟩
 rintro m σ H ⟨rfl,p⟩
 refine mono σ H _ _ (fun b H1 q=>?_) (hs σ H p)
 cases b with
 | true=>exact ⟨_,fun σ' H' ⟨p',l⟩=>⟨_,l,rfl,p'⟩,q⟩
 | false=>exact q
abbrev R2:=V->V->Hp->VK->Prop
def OpR (X:Cx) (f:Value->Value->Sem Value) (r:R2):Prop:=
 ∀(pins:List (Addr×Obj)) (s:Shared) (σ:St) (H:Hp) (x y:V) (v u:Value) (Q:VK),Inv X pins σ H s->RelV x v->RelV y u->r x y H Q ->
  wpAny (model X.prog X.w) X.A (f v u) (EP X pins σ Q) X.xe s
def UnR (X:Cx) (f:Value->Sem Value) (r:V->Hp->VK->Prop):Prop:=
 ∀(pins:List (Addr×Obj)) (s:Shared) (σ:St) (H:Hp) (x:V) (v:Value) (Q:VK),Inv X pins σ H s->RelV x v->r x H Q ->
  wpAny (model X.prog X.w) X.A (f v) (EP X pins σ Q) X.xe s
def Wl (X:Cx) (f:Value) (r:List V->Hp->VK->Prop):Prop:=
 ∀(pins:List (Addr×Obj)) (s:Shared) (σ:St) (H:Hp) (xs:List V) (us:List Value) (Q:VK),Inv X pins σ H s->Vals xs us->r xs H Q ->
  wpAny (model X.prog X.w) X.A (call f us) (EP X pins σ Q) X.xe s
def tOp (r:R2) (ta tb:TE):TE:=fun σ H Q=>ta σ H fun x H1=>tb σ H1 fun y H2=>r x y H2 Q
def tUn (r:V->Hp->VK->Prop) (ta:TE):TE:=fun σ H Q=>ta σ H fun x H1=>r x H1 Q
def rI (C:Int->Int->Prop) (g:Int->Int->V):R2:=fun x y H Q=>∃i j,x = .int i/\y = .int j/\C i j/\Q (g i j) H
def rI0 (g:Int->Int->V):R2:=fun x y H Q=>∃i j,x = .int i/\y = .int j/\Q (g i j) H
def rU (g:Int->V):V->Hp->VK->Prop:=fun x H Q=>∃i,x = .int i/\Q (g i) H
section
variable {X:Cx}{a b c:Expr}{ta tb tc:TE}{pos:Pos}
theorem Zlc (ha:PE X a ta) (hb:PE X b tb) {pins:List (Addr×Obj)}{s:Shared} {σ:St}{H:Hp}{R:V->V->Hp->Prop} (I:Inv X pins σ H s)
  (h:ta σ H fun x H1=>tb σ H1 fun y H2=>R x y H2) {Q:Value->Shared->Prop}{f:Value->Value->Sem Value}
  (hf:∀v u s2 x y H2,Inv X pins σ H2 s2->RelV x v->RelV y u->R x y H2->wpAny (model X.prog X.w) X.A (f v u) Q X.xe s2):
  wpAny (model X.prog X.w) X.A (eval a X.env) (fun v s₁=>wpAny (model X.prog X.w) X.A (eval b X.env) (fun u s₂=>wpAny (model X.prog X.w) X.A (f v u) Q X.xe s₂) X.xe s₁) X.xe s:=by
 refine YJ (ha pins s σ H _ I h) fun v s1 ⟨x,H1,I1,r1,q1⟩=>?_
 refine YJ (hb pins s1 σ H1 _ I1 q1) fun u s2 ⟨y,H2,I2,r2,q2⟩=>?_
 exact hf v u s2 x y H2 I2 r1 r2 q2
theorem Zm {op:Operator}{r:R2} (ho:OpR X (binaryOp op) r) (ha:PE X a ta) (hb:PE X b tb):PE X (.BinOp a op b pos) (tOp r ta tb):=by
 intro pins s σ H Q I h
 exact wpAny_BinOp (Zlc ha hb I h fun v u s2 x y H2 I2 rx ry q=>ho pins s2 σ H2 x y v u Q I2 rx ry q)
theorem Zcp {op:UnaryOp}{r:V->Hp->VK->Prop} (ho:UnR X (unaryOp op) r) (ha:PE X a ta):PE X (.UnaryOp op a pos) (tUn r ta):=by
 intro pins s σ H Q I h
 exact UnaryOp_ (YJ (ha pins s σ H _ I h) fun v s1 ⟨x,H1,I1,r1,q1⟩=>ho pins s1 σ H1 x v Q I1 r1 q1)
theorem opI {f:Value->Value->Sem Value}{C:Int->Int->Prop}{g:Int->Int->Int}
  (rule:∀(i j:Int) (t u:Tok) (s:Shared) (Q:Value->Shared->Prop) (E:Value->Shared->Prop),C i j->Q (.int (g i j) s.toks) { s with toks:=s.toks+1 } -> wpAny (model X.prog X.w) X.A (f (.int i t) (.int j u)) Q E s):
  OpR X f (rI C fun i j=>.int (g i j)):=by
 intro pins s σ H x y v u Q I rx ry h
 obtain ⟨i,j,rfl,rfl,hc,q⟩:=h
 obtain ⟨t,rfl⟩:=rx
 obtain ⟨t',rfl⟩:=ry
 exact rule i j t t' s _ _ hc ⟨.int (g i j),H,I.tok _,⟨_,rfl⟩,q⟩
theorem Zmf {f:Value->Value->Sem Value}{g:Int->Int->Int}
  (rule:∀(i j:Int) (t u:Tok) (s:Shared) (Q:Value->Shared->Prop) (E:Value->Shared->Prop),Q (.int (g i j) s.toks) { s with toks:=s.toks+1 } -> wpAny (model X.prog X.w) X.A (f (.int i t) (.int j u)) Q E s):
  OpR X f (rI0 fun i j=>.int (g i j)):=by
 intro pins s σ H x y v u Q I rx ry h
 obtain ⟨i,j,rfl,rfl,q⟩:=h
 obtain ⟨t,rfl⟩:=rx
 obtain ⟨t',rfl⟩:=ry
 exact rule i j t t' s _ _ ⟨.int (g i j),H,I.tok _,⟨_,rfl⟩,q⟩
theorem ZlP {f:Value->Value->Sem Value}{g:Int->Int->Bool}
  (rule:∀(i j:Int) (t u:Tok) (s:Shared) (Q:Value->Shared->Prop) (E:Value->Shared->Prop),Q (.bool (g i j)) s->wpAny (model X.prog X.w) X.A (f (.int i t) (.int j u)) Q E s):
  OpR X f (rI0 fun i j=>.bl (g i j)):=by
 intro pins s σ H x y v u Q I rx ry h
 obtain ⟨i,j,rfl,rfl,q⟩:=h
 obtain ⟨t,rfl⟩:=rx
 obtain ⟨t',rfl⟩:=ry
 exact rule i j t t' s _ _ ⟨.bl (g i j),H,I,rfl,q⟩
def Znk (i j:Int):Prop:=0<j/\j<1073741824
def Zm9 (i j:Int):Prop:=0<=j/\j<=1000000/\i.natAbs<2 ^ 64
def ZlG (i j:Int):Prop:=(-(2 ^ 64)<i/\i<2 ^ 64)∨(-(2 ^ 64)<j/\j<2 ^ 64)
theorem ZlG.ok {i j:Int} (h:ZlG i j):IntMulOk i j:=by
 rcases h with ⟨h1,h2⟩ | ⟨h1,h2⟩
 ·exact .of_left (intBits_le_64 h1 h2)
 ·exact .of_right (intBits_le_64 h1 h2)
theorem Zv:OpR X (binaryOp .Add) (rI0 fun i j=>.int (i+j)):=Zmf fun _ _ _ _ _ _ _ q=>add_int q
theorem Yx:OpR X (binaryOp .Sub) (rI0 fun i j=>.int (i-j)):=Zmf fun _ _ _ _ _ _ _ q=>sub_int q
theorem UE:OpR X (binaryOp .Mult) (rI ZlG fun i j=>.int (i*j)):=opI fun _ _ _ _ _ _ _ hc q=>mul_int q hc.ok
theorem Zbn:OpR X (binaryOp .FloorDiv) (rI Znk fun i j=>.int (i / j)):=opI fun i j _ _ _ _ _ hc q=>by
 have h1:(0:Int)<j:=hc.1
 have h2:j<1073741824:=hc.2
 exact floordiv_int (by lia) (by rw [Int.fdiv_eq_ediv_of_nonneg i (by lia)];exact q) (.inl (PyProof.noPylong_small (by lia)))
theorem WH:OpR X (binaryOp .Mod) (rI (fun _ j=>0<j) fun i j=>.int (i % j)):=opI fun i j _ _ _ _ _ hc q=>by
 have h1:(0:Int)<j:=hc
 exact mod_int' (by lia) (by rw [Int.fmod_eq_emod_of_nonneg i (by lia)];exact q)
theorem Zfn:OpR X (binaryOp .Pow) (rI Zm9 fun i j=>.int (i ^ j.toNat)):=opI fun _ _ _ _ _ _ _ hc q=>pow_int_small hc.1 hc.2.1 hc.2.2 q
theorem unI {f:Value->Sem Value}{g:Int->Int}
  (rule:∀(i:Int) (t:Tok) (s:Shared) (Q:Value->Shared->Prop) (E:Value->Shared->Prop),Q (.int (g i) s.toks) { s with toks:=s.toks+1 } -> wpAny (model X.prog X.w) X.A (f (.int i t)) Q E s):
  UnR X f (rU fun i=>.int (g i)):=by
 intro pins s σ H x v Q I rx h
 obtain ⟨i,rfl,q⟩:=h
 obtain ⟨t,rfl⟩:=rx
 exact rule i t s _ _ ⟨.int (g i),H,I.tok _,⟨_,rfl⟩,q⟩
theorem ZaK:UnR X (unaryOp .USub) (rU fun i=>.int (-i)):=unI fun _ _ _ _ _ q=>neg_int q
end
def Zmq:V->V->Bool
 | .non,.non=>true | .non,.int _=>true | .int _,.non=>true | .non,.bl _=>true | .bl _,.non=>true | .non,.str _=>true | .str _,.non=>true
 | .int _,.int _=>true | .bl _,.bl _=>true | .str _,.str _=>true | .byt _,.byt _=>true
 | .int _,.str _=>true | .str _,.int _=>true | .bl _,.str _=>true | .str _,.bl _=>true
 | _,_=>false
def rEq:R2:=fun x y H Q=>Zmq x y=true/\Q (.bl (decide (x=y))) H
def rNe:R2:=fun x y H Q=>Zmq x y=true/\Q (.bl (!decide (x=y))) H
theorem ZfM {i j:Int}:decide (V.int i=V.int j)=(i==j):=by
 rw [Bool.eq_iff_iff]
 simp
theorem Zh9 {i j:Bool}:decide (V.bl i=V.bl j)=(i==j):=by
 rw [Bool.eq_iff_iff]
 simp
theorem ZfA {i j:Str}:decide (V.str i=V.str j)=(i==j):=by
 rw [Bool.eq_iff_iff]
 simp
theorem ZfF {i j:Array UInt8}:decide (V.byt i=V.byt j)=(i.toList==j.toList):=by
 rw [Bool.eq_iff_iff]
 cases i
 cases j
 simp
section
variable {X:Cx}{a b c:Expr}{ta tb tc:TE}{pos:Pos}
theorem ZR {pins:List (Addr×Obj)} {σ:St}{H:Hp}{s:Shared}{Q:VK}{k k':Bool} (I:Inv X pins σ H s) (q:Q (.bl k) H) (e:k=k'):EP X pins σ Q (.bool k') s:=by
 subst e
 exact ⟨.bl k,H,I,rfl,q⟩
theorem J7:OpR X (compareOp .Eq) rEq:=by
 intro pins s σ H x y v u Q I rx ry h
 obtain ⟨hs,q⟩:=h
 cases x with
 | non=>
  cases rx
  cases y with
  | non=>cases ry;exact PySem.EqNone.eq_none_none (ZR I q (by simp))
  | bl j=>cases ry;exact PySem.EqNone.eq_none_bool (ZR I q (by simp))
  | int j=>obtain ⟨t',rfl⟩:=ry;exact PySem.EqNone.eq_none_int (ZR I q (by simp))
  | str j=>obtain ⟨t',rfl⟩:=ry;exact PySem.EqNone.eq_none_str (ZR I q (by simp))
  | _=>exact absurd (show false=true from hs) Bool.false_ne_true
 | bl i=>
  cases rx
  cases y with
  | non=>cases ry;exact PySem.EqNone.eq_bool_none (ZR I q (by simp))
  | bl j=>cases ry;exact eq_bool (ZR I q Zh9)
  | str j=>obtain ⟨t',rfl⟩:=ry;exact PySem.EqMixed.eq_bool_str (ZR I q (by simp))
  | _=>exact absurd (show false=true from hs) Bool.false_ne_true
 | int i=>
  obtain ⟨t,rfl⟩:=rx
  cases y with
  | non=>cases ry;exact PySem.EqNone.eq_int_none (ZR I q (by simp))
  | int j=>obtain ⟨t',rfl⟩:=ry;exact eq_int (ZR I q ZfM)
  | str j=>obtain ⟨t',rfl⟩:=ry;exact PySem.EqMixed.eq_int_str (ZR I q (by simp))
  | _=>exact absurd (show false=true from hs) Bool.false_ne_true
 | str i=>
  obtain ⟨t,rfl⟩:=rx
  cases y with
  | non=>cases ry;exact PySem.EqNone.eq_str_none (ZR I q (by simp))
  | bl j=>cases ry;exact PySem.EqMixed.eq_str_bool (ZR I q (by simp))
  | int j=>obtain ⟨t',rfl⟩:=ry;exact PySem.EqMixed.eq_str_int (ZR I q (by simp))
  | str j=>obtain ⟨t',rfl⟩:=ry;exact eq_str (ZR I q ZfA)
  | _=>exact absurd (show false=true from hs) Bool.false_ne_true
 | byt i=>
  obtain ⟨t,rfl⟩:=rx
  cases y with
  | byt j=>obtain ⟨t',rfl⟩:=ry;exact PySem.W.eq_bytes (ZR I q ZfF)
  | _=>exact absurd (show false=true from hs) Bool.false_ne_true
 | _=>cases y<;>exact absurd (show false=true from hs) Bool.false_ne_true
theorem Zcu:OpR X (compareOp .NotEq) rNe:=by
 intro pins s σ H x y v u Q I rx ry h
 obtain ⟨hs,q⟩:=h
 cases x with
 | non=>
  cases rx
  cases y with
  | non=>cases ry;exact PySem.EqNone.ne_none_none (ZR I q (by simp))
  | bl j=>cases ry;exact PySem.EqNone.ne_none_bool (ZR I q (by simp))
  | int j=>obtain ⟨t',rfl⟩:=ry;exact PySem.EqNone.ne_none_int (ZR I q (by simp))
  | str j=>obtain ⟨t',rfl⟩:=ry;exact PySem.EqNone.ne_none_str (ZR I q (by simp))
  | _=>exact absurd (show false=true from hs) Bool.false_ne_true
 | bl i=>
  cases rx
  cases y with
  | non=>cases ry;exact PySem.EqNone.ne_bool_none (ZR I q (by simp))
  | bl j=>cases ry;exact ne_bool (ZR I q (congrArg not Zh9))
  | str j=>obtain ⟨t',rfl⟩:=ry;exact PySem.EqMixed.ne_bool_str (ZR I q (by simp))
  | _=>exact absurd (show false=true from hs) Bool.false_ne_true
 | int i=>
  obtain ⟨t,rfl⟩:=rx
  cases y with
  | non=>cases ry;exact PySem.EqNone.ne_int_none (ZR I q (by simp))
  | int j=>obtain ⟨t',rfl⟩:=ry;exact ne_int (ZR I q (congrArg not ZfM))
  | str j=>obtain ⟨t',rfl⟩:=ry;exact PySem.EqMixed.ne_int_str (ZR I q (by simp))
  | _=>exact absurd (show false=true from hs) Bool.false_ne_true
 | str i=>
  obtain ⟨t,rfl⟩:=rx
  cases y with
  | non=>cases ry;exact PySem.EqNone.ne_str_none (ZR I q (by simp))
  | bl j=>cases ry;exact PySem.EqMixed.ne_str_bool (ZR I q (by simp))
  | int j=>obtain ⟨t',rfl⟩:=ry;exact PySem.EqMixed.ne_str_int (ZR I q (by simp))
  | str j=>obtain ⟨t',rfl⟩:=ry;exact ne_str (ZR I q (congrArg not ZfA))
  | _=>exact absurd (show false=true from hs) Bool.false_ne_true
 | byt i=>
  obtain ⟨t,rfl⟩:=rx
  cases y with
  | byt j=>obtain ⟨t',rfl⟩:=ry;exact PySem.W.ne_bytes (ZR I q (congrArg not ZfF))
  | _=>exact absurd (show false=true from hs) Bool.false_ne_true
 | _=>cases y<;>exact absurd (show false=true from hs) Bool.false_ne_true
theorem Zil:OpR X (compareOp .Lt) (rI0 fun i j=>.bl (decide (i<j))):=ZlP fun _ _ _ _ _ _ _ q=>lt_int q
theorem ZaN:OpR X (compareOp .Gt) (rI0 fun i j=>.bl (decide (j<i))):=ZlP fun _ _ _ _ _ _ _ q=>gt_int q
theorem Zl5:OpR X (compareOp .GtE) (rI0 fun i j=>.bl (decide (j<=i))):=ZlP fun _ _ _ _ _ _ _ q=>ge_int q
theorem Zie:OpR X (compareOp .Is) (fun x y H Q=>y = .non/\Q (.bl (decide (x = .non))) H):=by
 intro pins s σ H x y v u Q I rx ry h
 obtain ⟨rfl,q⟩:=h
 cases ry
 refine is_none_gen (ZR I q ?_)
 cases x<;>first
  | (cases rx;rfl)
  | (obtain ⟨t,rfl⟩:=rx;rfl)
theorem ZM (b:Expr) {op:CmpOp} (h:op ≠ .In:=by decide) (h2:op ≠ .NotIn:=by decide):behindInMarks op b=false:=by
 have e1:(op==CmpOp.In)=false:=by cases op<;>first | rfl | exact absurd rfl h
 have e2:(op==CmpOp.NotIn)=false:=by cases op<;>first | rfl | exact absurd rfl h2
 cases b<;>simp [behindInMarks,e1,e2]
theorem Zgg {op:CmpOp}{r:R2} (ho:OpR X (compareOp op) r) (ha:PE X a ta) (hb:PE X b tb) (hm:behindInMarks op b=false):PE X (.Compare a [op] [b] pos) (tOp r ta tb):=by
 intro pins s σ H Q I h
 exact wpAny_Compare1 (Zlc ha hb I h fun v u s2 x y H2 I2 rx ry q=>ho pins s2 σ H2 x y v u Q I2 rx ry q) hm
def ZmE (t:TE):TT:=fun σ H Q=>t σ H fun x H'=>∃k,x = .bl k/\Q k H'
theorem Zw {op:CmpOp}{r:R2} (ho:OpR X (compareOp op) r) (ha:PE X a ta) (hb:PE X b tb) (hm:behindInMarks op b=false):PT X (.Compare a [op] [b] pos) (ZmE (tOp r ta tb)):=by
 intro pins s σ H Q I h
 refine wpAny_isTrue_Compare1 (YJ (ha pins s σ H _ I h) fun v s1 ⟨x,H1,I1,r1,q1⟩=>YJ (hb pins s1 σ H1 _ I1 q1) fun u s2 ⟨y,H2,I2,r2,q2⟩=>
  YJ (ho pins s2 σ H2 x y v u _ I2 r1 r2 q2) fun c s3 ⟨z,H3,I3,r3,k,e,q3⟩=>?_) hm
 subst e
 cases r3
 exact wpAny_truthy_bool ⟨H3,I3,q3⟩
theorem Zde:(sizeLine:Nat)<2 ^ 63:=by rw [sizeLine_eq];decide
theorem vals1 {x:V}{us:List Value} (r:Vals [x] us):∃u,us = [u]/\RelV x u:=by
 cases r with
 | cons r1 r2=>cases r2;exact ⟨_,rfl,r1⟩
theorem vals2 {x y:V}{us:List Value} (r:Vals [x,y] us):∃u w',us = [u,w']/\RelV x u/\RelV y w':=by
 cases r with
 | cons r1 r2=>
  cases r2 with
  | cons r3 r4=>cases r4;exact ⟨_,_,rfl,r1,r3⟩
theorem ZbP:Wl X (.builtin "abs") (fun xs H Q=>∃i,xs = [.int i]/\Q (.int (if i<0 then -i else i)) H):=by
 intro pins s σ H xs us Q I r h
 obtain ⟨i,rfl,q⟩:=h
 obtain ⟨u,rfl,t,rfl⟩:=vals1 r
 exact call_abs_int fun u tk=>⟨.int (if i<0 then -i else i),H,I.tok _,⟨_,rfl⟩,q⟩
theorem ZcS (hc:X.calm=true):Wl X (.builtin "max") (fun xs H Q=>∃i j,xs = [.int i,.int j]/\Q (.int (if j>i then j else i)) H):=by
 intro pins s σ H xs us Q I r h
 obtain ⟨i,j,rfl,q⟩:=h
 obtain ⟨u,w',rfl,⟨t,rfl⟩,⟨t',rfl⟩⟩:=vals2 r
 refine max_two_ints (I.ok.hd hc) fun h' tk k=>⟨_,H,I.kept k,?_,q⟩
 by_cases hj:j>i
 ·rw [if_pos hj,if_pos hj];exact ⟨_,rfl⟩
 ·rw [if_neg hj,if_neg hj];exact ⟨_,rfl⟩
theorem Zg0 (hc:X.calm=true):Wl X (.builtin "min") (fun xs H Q=>∃i j,xs = [.int i,.int j]/\Q (.int (if j<i then j else i)) H):=by
 intro pins s σ H xs us Q I r h
 obtain ⟨i,j,rfl,q⟩:=h
 obtain ⟨u,w',rfl,⟨t,rfl⟩,⟨t',rfl⟩⟩:=vals2 r
 refine min_two_ints (I.ok.hd hc) fun h' tk k=>⟨_,H,I.kept k,?_,q⟩
 by_cases hj:j<i
 ·rw [if_pos hj,if_pos hj];exact ⟨_,rfl⟩
 ·rw [if_neg hj,if_neg hj];exact ⟨_,rfl⟩
end
structure ZjU (h:Heap) (x dx C:Addr) (mA:Str->Option Value):Prop where
 obj:h.get? x=some (PySem.W.instObj C dx)
 ns:h.Ns1 dx mA
 ne:dx≠x
theorem ZgW {h:Heap}{dx:Addr}{mA:Str->Option Value} (n:h.Ns1 dx mA):∃od,h.get? dx=some od /\ ∀name,PySem.W.lookIn name od=some (mA name):=by
 obtain ⟨o,es,ep,ho,hd,hk,_,hm⟩:=n
 refine ⟨o,ho,fun name=>?_⟩
 have e:=hm name
 unfold nsFind findBy at e
 rw [<- Array.find?_toList] at e
 unfold PySem.W.lookIn
 rw [hd]
 dsimp only
 split
 ·rename_i y q
  rw [q] at e
  exact congrArg some e
 ·rename_i q
  rw [q] at e
  have a:es.toList.any (·.refKey)=false:=by
   rw [List.any_eq_false]
   intro y hy
   obtain ⟨z,t,hkey⟩:=hk y (Array.mem_toList_iff.mp hy)
   simp [DictEntry.refKey,hkey]
  have a':¬es.toList.any (·.refKey)=true:=by rw [a];exact Bool.false_ne_true
  rw [if_neg a']
  exact congrArg some e
theorem ZjU.look {h:Heap}{x dx C:Addr}{mA:Str->Option Value} (I:ZjU h x dx C mA):∃od,PySem.W.InstAt h x (PySem.W.instObj C dx) C (some od) /\ ∀name,PySem.W.lookIn name od=some (mA name):=
 let ⟨od,ho,hl⟩:=ZgW I.ns
 ⟨od,⟨I.obj,rfl,rfl,ho⟩,hl⟩
section
variable {prog:Program}{w:World}{A:Around}{E:Value->Shared->Prop}{s:Shared}{K:PySem.W.Frag}{x dx C f:Addr}{mA:Str->Option Value}{name:Str}{v:Value}
theorem ZhZ {pl:Sem Bool}{Q:Value×List Value->Shared->Prop} (X:K.In s.heap) (I:ZjU s.heap x dx C mA) (hg:PySem.W.plainGet K C name=true)
  (hf:PySem.W.findIn K (.ref C) name=some (some (.ref f))) (ht:PySem.W.isFn K (.ref f)=true) (hv:mA name=none) (h:Q (.ref f,[.ref x]) s):
  wpAny (model prog w) A (getMethod (.ref x) name pl) Q E s:=by
 obtain ⟨od,J,hl⟩:=I.look
 exact PySem.W.method_fn X J (PySem.W.plainGet_of hg).1 (PySem.W.plainGet_of hg).2 hf (beq_iff_eq.mp ht) (by show (PySem.W.lookIn name od).map (·.isSome)=some false;rw [hl,hv];rfl) h
theorem ZgZ {R:Result->Shared->Prop} (X:K.In s.heap) (hm:PySem.W.makesIn K C=true)
  (hi:PySem.W.findIn K (.ref C) "__init__" = some (some (.builtin "object.__init__")))
  (hb:∀self,PySem.W.Looks (model prog w) s.heap (bindSpecial (.builtin "object.__init__") self) (.builtin "object.__init__", [self]))
  (h:codeAny (model prog w) (A.under (.builtin "type.__call__" ⟨[.ref C],[]⟩)) (.call (.builtin "object.__init__") ⟨[.ref (s.heap.objs.size+1)],[]⟩) (PySem.W.InitBack (s.heap.objs.size+1) R)
   { s with heap:=(s.heap.push PySem.W.emptyDict).push (PySem.W.instObj C s.heap.objs.size) }):
  codeAny (model prog w) A (.call (.ref C) ⟨[],[]⟩) R s:=by
 obtain ⟨hh,g,d,t,os⟩:=s
 exact PySem.W.make_core (PySem.W.makes_of X hm) (PySem.W.looks_findIn X hi) hb (.inr ⟨rfl,rfl⟩) h
end
theorem UW.some_of {v:V}{o:Option Value} (r:UW (some v) o):∃u,o=some u/\RelV v u:=by
 cases o with
 | none=>exact (show False from r).elim
 | some u=>exact ⟨u,rfl,r⟩
theorem UW.none_of {o:Option Value} (r:UW none o):o=none:=by
 cases o with
 | none=>rfl
 | some u=>exact (show False from r).elim
section
variable {P:Program}{w:World}{H H':Hp}{h h':Heap}{a C dx:Addr}{fs fs':List (Str×V)}
theorem Zjn (hok:Gj P w H h) (e:H a=some (.ins C dx fs)):∃mA,ZjU h a dx C mA/\(∀f,UW (fs.lookup f) (mA f))/\PySem.Within mA (fs.map (·.1))/\fs.length<=1000/\H dx=some (.own a):=by
 obtain ⟨d,z,ne,ob,mA,n,r,q⟩:=(show Yo P w H h a (.ins C dx fs) from hok a _ e)
 exact ⟨mA,⟨ob,n,ne⟩,r,q,z,d⟩
end
structure Cls (K:PySem.W.Frag) (C:Addr):Prop where
 pg:PySem.W.plainGet K C Str.empty=true
 hd:PySem.W.hasDictIn K C=true
 po:PySem.W.plainOver K C=true
 sa:PySem.W.findIn K (.ref C) "__setattr__" = some (some (.builtin "object.__setattr__"))
theorem Cls.get {K:PySem.W.Frag}{C:Addr} (c:Cls K C) (f:Str):PySem.W.plainGet K C f=true:=c.pg
structure Con (K:PySem.W.Frag) (C:Addr) (f:Str) (v:V) (u:Value):Prop where
 at_:PySem.W.findIn K (.ref C) f=some (some u)
 rel:RelV v u
 get:PySem.W.specialIn K u "__get__" = some none
 cp:PySem.W.copiedNames.contains f=false
structure Meth (K:PySem.W.Frag) (C:Addr) (m:Str) (f:Addr):Prop where
 at_:PySem.W.findIn K (.ref C) m=some (some (.ref f))
 fn:PySem.W.isFn K (.ref f)=true
 kp:PySem.W.keepIn K (.ref f)=true
section
variable {X:Cx}{pins:List (Addr×Obj)} {σ:St}{H:Hp}{s:Shared}{a C dx:Addr}{fs:List (Str×V)}{f:Str}{v:V}{A:Around}{E:Value->Shared->Prop}
theorem Zb3 {m:Str}{g:Addr}{pl:Sem Bool}{Q:Value×List Value->Shared->Prop} (I:Inv X pins σ H s) (e:H a=some (.ins C dx fs)) (c:Cls X.K C) (k:Meth X.K C m g) (l:fs.lookup m=none)
  (h:Q (.ref g,[.ref a]) s):wpAny (model X.prog X.w) A (getMethod (.ref a) m pl) Q E s:=by
 obtain ⟨mA,O,r,_,_,_⟩:=Zjn I.hok e
 have hn:mA m=none:=UW.none_of (by rw [<- l];exact r m)
 exact ZhZ I.kIn O (c.get m) k.at_ k.fn hn h
theorem Inv.made (I:Inv X pins σ H s):Inv X pins σ (upd (upd H s.heap.objs.size (.own (s.heap.objs.size+1))) (s.heap.objs.size+1) (.ins C s.heap.objs.size []))
  { s with heap:=(s.heap.push PySem.W.emptyDict).push (PySem.W.instObj C s.heap.objs.size) }:=by
 have e1:(s.heap.push PySem.W.emptyDict).get? s.heap.objs.size=some PySem.W.emptyDict:=Heap.get?_push_size s.heap rfl
 have e2:((s.heap.push PySem.W.emptyDict).push (PySem.W.instObj C s.heap.objs.size)).get? (s.heap.objs.size+1)=some (PySem.W.instObj C s.heap.objs.size):=by
  have:=Heap.get?_push_size (s.heap.push PySem.W.emptyDict) (o:=PySem.W.instObj C s.heap.objs.size) rfl
  rwa [Heap.size_push] at this
 have e3:(s.heap.push PySem.W.emptyDict).Ns s.heap.objs.size (fun _=>none):=⟨PySem.W.emptyDict,#[],_,e1,rfl,(fun e he=>absurd he (by simp)),fun _=>rfl⟩
 have I1:=I.laid (a:=s.heap.objs.size) (o:=.own (s.heap.objs.size+1)) (h':=s.heap.push PySem.W.emptyDict) (t':=s.toks) (fun b u q=>Heap.get?_push_of_some _ q) (Nat.le_refl _) ⟨_,e1⟩
 refine I1.laid (a:=s.heap.objs.size+1) (o:=.ins C s.heap.objs.size []) (t':=s.toks) (fun b u q=>Heap.get?_push_of_some _ q) (Nat.le_of_eq (Heap.size_push _ _)) ?_
 have ne:s.heap.objs.size≠s.heap.objs.size+1:=Nat.ne_of_lt (Nat.lt_succ_self _)
 refine ⟨by rw [Zi ne,Zb],Nat.zero_le _,ne,e2,fun _=>none,(Heap.Ns1.of_empty e3).at fun o q=>Heap.get?_push_of_some _ q,fun _=>True.intro,fun y hy=>absurd rfl hy⟩
end
section
variable {X:Cx}{o e value:Expr}{f:Str}{pos pos' tpos:Pos}{ta tv:TE}
end
section
variable {X:Cx}{pins:List (Addr×Obj)} {σ:St}{H:Hp}{s:Shared}{A:Around}{E:Value->Shared->Prop}{Q:Value->Shared->Prop}{c:Value}{b:Bool}
inductive Zb6 (K:PySem.W.Frag) (H:Hp):V->Value->Prop where
 | non:Zb6 K H .non (.type "NoneType")
 | bl (x:Bool):Zb6 K H (.bl x) (.type "bool")
 | int (i:Int):Zb6 K H (.int i) (.type "int")
 | str (x:Str):Zb6 K H (.str x) (.type "str")
 | flt (x:UInt64):Zb6 K H (.flt x) (.type "float")
 | lst {a:Addr}{xs:List V} (e:H a=some (.lst xs)):Zb6 K H (.ref a) (.type "list")
 | frz {a:Addr}{o:Obj}{xs:List V} (e:H a=some (.frz o (.lst xs))):Zb6 K H (.ref a) (.type "list")
 | tup {a:Addr}{xs:List V} (e:H a=some (.tup xs)):Zb6 K H (.ref a) (.type "tuple")
 | dK {a:Addr}{kvs:List (Key×V)} (e:H a=some (.dK kvs)):Zb6 K H (.ref a) (.type "dict")
 | dT {a:Addr}{kvs:List (List Key×V)} (e:H a=some (.dT kvs)):Zb6 K H (.ref a) (.type "dict")
 | ins {a C dx:Addr}{fs:List (Str×V)} (e:H a=some (.ins C dx fs)) (cl:Cls K C) (ha:PySem.W.findIn K (.ref C) "__class__" = some (some (.builtin "object.__class__")))
   (hn:PySem.W.specialIn K (.builtin "object.__class__") "__get__" = some (some (.builtin "getset_descriptor.__get__"))) (htk:PySem.W.takesIn K (.builtin "object.__class__")=some true)
   (hm:PySem.W.mroIn K C (.type "object")=some true):Zb6 K H (.ref a) (.ref C)
end
structure JE (k:Nat) (A:Around):Prop where
 hd:A.handled=none
 dp:A.depth+3*k+5<recursionLimit
 un:A.units+16*k+200<cLine
theorem JE.mono {j k:Nat}{A:Around} (r:JE k A) (h:j<=k):JE j A:=⟨r.hd,by have:=r.dp;lia,by have:=r.un;lia⟩
theorem JE.deeper {k:Nat}{A:Around} (r:JE (k+1) A) (env:Env):JE k (A.deeper env):=
 ⟨r.hd,by have:=r.dp;show A.depth+1+3*k+5<_;lia,by have:=r.un;show A.units+3+16*k+200<_;lia⟩
theorem JE.depth {k:Nat}{A:Around} (r:JE k A):A.depth<recursionLimit:=by have:=r.dp;lia
theorem JE.units {k:Nat}{A:Around} (r:JE k A):A.units+64<cLine:=by have:=r.un;lia
def Zi1:TA:=fun _ H Q=>Q [] H
def Zkt (ta:TE) (tr:TA):TA:=fun σ H Q=>ta σ H fun x H1=>tr σ H1 fun xs H2=>Q (x::xs) H2
section
variable {X:Cx}{e:Expr}{es:List Expr}{te:TE}{t:TA}{pos:Pos}
theorem Zc:PA X [] Zi1:=fun _ _ _ _ H Q I h=>Calls.spliced_nil ⟨[],H,I,.nil,h⟩
theorem Za (ha:PE X e te) (hr:PA X es t) (hs:starEach (e::es) X.env=(false,eval e X.env)::starEach es X.env:=by rfl):PA X (e::es) (Zkt te t):=by
 intro pos pins s σ H Q I h
 rw [hs]
 show wpAny _ _ (spliced ((false,eval e X.env)::backTo pos (starEach es X.env))) _ _ s
 refine Calls.spliced_cons (YJ (ha pins s σ H _ I h) fun u s1 ⟨x,H1,I1,r1,q1⟩=>?_)
 exact YJ (hr pos pins s1 σ H1 _ I1 q1) fun us s2 ⟨xs,H2,I2,r2,q2⟩=>⟨x::xs,H2,I2,.cons r1 r2,q2⟩
def Zm6 (t:TA):TE:=fun σ H Q=>t σ H fun xs H1=>xs.length<=sizeLine /\ ∀p,H1 p=none->Q (.ref p) (upd H1 p (.tup xs))
def Znb (t:TA):TE:=fun σ H Q=>t σ H fun xs H1=>xs.length<=sizeLine /\ ∀p,H1 p=none->Q (.ref p) (upd H1 p (.lst xs))
theorem Yr {x1} (h:PA X es t):PE X (.Tuple es x1 pos) (Zm6 t):=by
 intro pins s σ H Q I hq
 refine wpAny_Tuple_spliced (YJ (h pos pins s σ H _ I hq) fun us s1 ⟨xs,H1,I1,r,z,q⟩=>⟨by rw [<- r.length];exact z,?_⟩)
 have hf:H1 s1.heap.objs.size=none:=I1.hok.fresh (Nat.le_refl _)
 refine ⟨.ref s1.heap.objs.size,upd H1 s1.heap.objs.size (.tup xs),I1.laid (t':=s1.toks) (fun b u e=>Heap.get?_push_of_some _ e) (Nat.le_refl _) ?_,rfl,q _ hf⟩
 exact ⟨z,us,r,⟨_,Heap.get?_push_size _ rfl,rfl,_,rfl⟩⟩
theorem Z5 (h:PA X es t):PE X (.List es pos) (Znb t):=by
 intro pins s σ H Q I hq
 refine wpAny_List_spliced (YJ (h pos pins s σ H _ I hq) fun us s1 ⟨xs,H1,I1,r,z,q⟩=>⟨by rw [<- r.length];exact z,?_⟩)
 have hf:H1 s1.heap.objs.size=none:=I1.hok.fresh (Nat.le_refl _)
 refine ⟨.ref s1.heap.objs.size,upd H1 s1.heap.objs.size (.lst xs),I1.laid (t':=s1.toks) (fun b u e=>Heap.get?_push_of_some _ e) (Nat.le_refl _) ?_,rfl,q _ hf⟩
 exact ⟨z,us,0,r,Heap.get?_push_size _ rfl⟩
end
abbrev Sp:=List V->Hp->VK->XK->Prop
abbrev CXT:=List Env->Hp->Shared->XK->Value->Shared->Prop
structure ZhY (P:Program) (w:World) (K:PySem.W.Frag) (mg:Str->Option Value) (base:Heap) (A:Around) (outer:List Env) (s:Shared) (H:Hp):Prop where
 frames:A.frames=some outer
 mod:Mod K mg base
 bs:∀b o,base.get? b=some o->s.heap.get? b=some o/\H b=none
 bsz:base.objs.size<=s.heap.objs.size
 funs:s.heap.FunFrames base outer
 frf:∀b∈JI outer,H b=none
 hok:Gj P w H s.heap
 bare:AllBare s.gens
def CE (outer:List Env) (P:Program) (w:World) (H:Hp) (s:Shared) (Q:VK) (u:Value) (s':Shared):Prop:=
 ∃v H',s'.os=s.os/\AllBare s'.gens/\Un (JI outer) [] H H' s.heap s'.heap/\Gj P w H' s'.heap/\RelV v u/\Q v H'
def CR (CX:CXT) (outer:List Env) (P:Program) (w:World) (H:Hp) (s:Shared) (Q:VK) (E:XK) (r:Result) (s':Shared):Prop:=
 match r with
 | .ok (.ret u)=>CE outer P w H s Q u s'
 | .ok _=>False
 | .error e=>CX outer H s E e s'
structure Yj (P:Program) (w:World) (K:PySem.W.Frag) (mg:Str->Option Value) (base:Heap) (CX:CXT) (k:Nat) (f:Addr) (fd:FuncData) (ps:List Str) (sp:Sp):Prop where
 len:∀vs H Q E,sp vs H Q E->vs.length=ps.length
 run:∀(A:Around) (outer:List Env) (s:Shared) (H:Hp) (args:Args) (us:List Value) (vs:List V) (Q:VK) (E:XK),JE k A->ZhY P w K mg base A outer s H->BindsTo s fd args (ps.zip us)->Vals vs us->sp vs H Q E ->
  codeAny (model P w) A (.call (.ref f) args) (CR CX outer P w H s Q E) s
section
variable {X:Cx}{pins:List (Addr×Obj)} {σ:St}{H:Hp}{s s':Shared}
theorem Inv.env0 (I:Inv X pins σ H s):ZhY X.prog X.w X.K X.mg X.base X.A X.stack s H:=
 ⟨I.ok.frames,I.ok.mod,I.bs,Nat.le_trans I.ok.bsz I.sz,I.stack,I.stkFree,I.hok,I.bare⟩
theorem Inv.after {Q:VK}{u:Value} (I:Inv X pins σ H s) (h:CE X.stack X.prog X.w H s Q u s'):EP X pins σ Q u s':=by
 obtain ⟨v,H',os,bare,un,hok,r,q⟩:=h
 obtain ⟨hh,g,d,t,os'⟩:=s'
 obtain rfl:os'=s.os:=os
 exact ⟨v,H',I.call (h':=hh) (g':=g) (d':=d) (t':=t) (ch:=[]) un hok bare (fun b z=>absurd z (by simp)),r,q⟩
end
def ZiJ (sp:Sp) (dvs:List V) (E:XK) (t:TA):TE:=fun σ H Q=>t σ H fun vs H1=>sp (vs++dvs) H1 Q E
def ZfV (C:Addr) (m:Str) (sp:Sp) (dvs:List V) (E:XK) (ta:TE) (t:TA):TE:=fun σ H Q=>ta σ H fun x H1=>∃a dx fs,x = .ref a/\H1 a=some (.ins C dx fs)/\fs.lookup m=none /\
 t σ H1 fun vs H2=>sp (x::(vs++dvs)) H2 Q E
def Binds (K:PySem.W.Frag) (fd:FuncData) (ps:List Str) (ds:List Value):Prop:=
 ∀(s:Shared) (us:List Value),K.In s.heap->(us++ds).length=ps.length->BindsTo s fd ⟨us,[]⟩ (ps.zip (us++ds))
theorem Binds.all {K:PySem.W.Frag}{fd:FuncData}{ps:List Str} (h:∀us:List Value,us.length=ps.length->bindArgs fd ⟨us,[]⟩=pure (ps.zip us)):Binds K fd ps []:=fun s us _ hl=>by
 rw [List.append_nil] at hl ⊢
 exact .of_eq (h us hl)
def Passes (CX:CXT) (X:Cx) (E:XK):Prop:=∀(pins:List (Addr×Obj)) (σ:St) (H:Hp) (s:Shared) (e:Value) (s':Shared),Inv X pins σ H s->CX X.stack H s E e s'->X.xe e s'
section
variable {X:Cx}{CX:CXT}{k:Nat}{f C:Addr}{fd:FuncData}{ps:List Str}{sp:Sp}{dvs:List V}{ds:List Value}{E:XK}{x m:Str}{p pos apos:Pos}{e o:Expr}{es:List Expr}{ta:TE}{t:TA}
theorem ZeM {pins:List (Addr×Obj)} {σ:St}{H:Hp}{s:Shared}{Q:VK}{us:List Value}{vs:List V} (F:Yj X.prog X.w X.K X.mg X.base CX k f fd ps sp) (hr:JE k X.A) (hb:Binds X.K fd ps ds) (hd:Vals dvs ds) (hx:Passes CX X E)
  (I:Inv X pins σ H s) (r:Vals vs us) (h:sp (vs++dvs) H Q E):wpAny (model X.prog X.w) X.A (call (.ref f) us) (EP X pins σ Q) X.xe s:=by
 have r2:Vals (vs++dvs) (us++ds):=r.append hd
 have hl:(us++ds).length=ps.length:=by rw [<- r2.length];exact F.len _ _ _ _ h
 refine wpAny_call (codeAny_mono (F.run X.A X.stack s H ⟨us,[]⟩ (us++ds) (vs++dvs) Q E hr I.env0 (hb s us I.kIn hl) r2 h) fun r s' hq=>?_)
 cases r with
 | error e=>exact hx pins σ H s e s' I hq
 | ok fl=>
  cases fl with
  | ret u=>exact I.after hq
  | next=>exact False.elim hq
  | brk=>exact False.elim hq
  | cont=>exact False.elim hq
theorem ZfQ (F:Yj X.prog X.w X.K X.mg X.base CX k f fd ps sp) (hr:JE k X.A) (hg:Gl X x) (hm:X.mg x=some (.ref f)) (hk:PySem.W.keepIn X.K (.ref f)=true) (hb:Binds X.K fd ps ds) (hd:Vals dvs ds) (hx:Passes CX X E)
  (ha:PA X (e::es) t) (hdb:(x==("__debug__" : Str))=false:=by decide) (he:starEach (e::es) X.env=(false,eval e X.env)::starEach es X.env:=by rfl) (hpl:(backTo pos (starEach es X.env)).any (·.1)=false:=by rfl):
  PE X (.Call (.Name x p) (e::es) [] pos) (ZiJ sp dvs E t):=by
 intro pins s σ H Q I h
 refine wpAny_Call_Name_kw (Ud I hg hm ?_ hdb)
 refine PySem.W.callWith_K (h₀:=X.base) I.ok.mod.kin hk (YJ (ha pos pins s σ H _ I h) fun us s1 ⟨vs,H1,I1,r,q⟩=>⟨I1.kIn,?_⟩) he hpl
 exact ZeM F hr hb hd hx I1 r q
theorem ZjM {pl:Sem Bool} (he:PE X o ta) (c:Cls X.K C) (hm:Meth X.K C m f) (F:Yj X.prog X.w X.K X.mg X.base CX k f fd ps sp) (hr:JE k X.A) (hb:Binds X.K fd ps ds) (hd:Vals dvs ds) (hx:Passes CX X E) (ha:PA X (e::es) t)
  (hst:starEach (e::es) X.env=(false,eval e X.env)::starEach es X.env:=by rfl) (hpl:(backTo pos (starEach es X.env)).any (·.1)=false:=by rfl)
  (ht:eval (.Call (.Attribute o m apos) (e::es) [] pos) X.env=(do
   let ov <- eval o X.env
   standAt apos.atName
   let (f,first) <- holding [ov] (getMethod ov m pl)
   callWith pos f first (backTo pos (starEach (e::es) X.env)) (backToKw pos (keywordEach [] X.env))):=by rfl):
  PE X (.Call (.Attribute o m apos) (e::es) [] pos) (ZfV C m sp dvs E ta t):=by
 intro pins s σ H Q I h
 refine PySem.W.methodCall_KW (pl:=pl) (YJ (he pins s σ H _ I h) fun u s1 ⟨x,H1,I1,rx,a,dx,fs,ex,ea,l,q⟩=>?_) ht
 subst ex
 obtain rfl:u=Value.ref a:=rx
 refine Zb3 I1 ea c hm l ?_
 refine PySem.W.callWith_K (first:=[.ref a]) (h₀:=X.base) I.ok.mod.kin hm.kp (YJ (ha pos pins s1 σ H1 _ I1 q) fun us s2 ⟨vs,H2,I2,r,q2⟩=>⟨I2.kIn,?_⟩) hst hpl
 exact ZeM (us:=.ref a::us) (vs:=.ref a::vs) F hr hb hd hx I2 (.cons rfl r) q2
theorem Zg8 {pl:Sem Bool} (he:PE X o ta) (c:Cls X.K C) (hm:Meth X.K C m f) (F:Yj X.prog X.w X.K X.mg X.base CX k f fd ps sp) (hr:JE k X.A) (hb:Binds X.K fd ps ds) (hd:Vals dvs ds) (hx:Passes CX X E)
  (ht:eval (.Call (.Attribute o m apos) [] [] pos) X.env=(do
   let ov <- eval o X.env
   standAt apos.atName
   let (f,first) <- holding [ov] (getMethod ov m pl)
   callWith pos f first (backTo pos (starEach [] X.env)) (backToKw pos (keywordEach [] X.env))):=by rfl):
  PE X (.Call (.Attribute o m apos) [] [] pos) (ZfV C m sp dvs E ta Zi1):=by
 intro pins s σ H Q I h
 refine PySem.W.methodCall_KW (pl:=pl) (YJ (he pins s σ H _ I h) fun u s1 ⟨x,H1,I1,rx,a,dx,fs,ex,ea,l,q⟩=>?_) ht
 subst ex
 obtain rfl:u=Value.ref a:=rx
 refine Zb3 I1 ea c hm l ?_
 exact PySem.W.callWith_K0 (first:=[.ref a]) I1.kIn hm.kp (ZeM (us:=[.ref a]) (vs:=[.ref a]) F hr hb hd hx I1 (.cons rfl .nil) q)
structure Mk (K:PySem.W.Frag) (C f:Addr):Prop where
 makes:PySem.W.makesIn K C=true
 init:PySem.W.findIn K (.ref C) "__init__" = some (some (.ref f))
 fn:PySem.W.isFn K (.ref f)=true
 kp:PySem.W.keepIn K (.ref C)=true
end
section
variable {X:Cx}{CX:CXT}{k:Nat}{f C:Addr}{fd:FuncData}{ps ks:List Str}{sp:Sp}{E:XK}{x m:Str}{p pos apos kpos:Pos}{e o:Expr}{es:List Expr}{kws:List Keyword}{te ta:TE}{t tk:TA}{nm:Option Str}
structure Znm (K:PySem.W.Frag) (fd:FuncData) (ps ks:List Str) (g:List Value->List Value->List Value) (gV:List V->List V->List V):Prop where
 to:∀(s:Shared) (us ws:List Value),K.In s.heap->(g us ws).length=ps.length->BindsTo s fd ⟨us,ks.zip ws⟩ (ps.zip (g us ws))
 rel:∀{vs:List V}{us:List Value}{zs:List V}{ws:List Value},Vals vs us->Vals zs ws->Vals (gV vs zs) (g us ws)
variable {g:List Value->List Value->List Value}{gV:List V->List V->List V}
end
structure ZF (N P:List Str) (sc:Scope):Prop where
 kind:sc.kind = .function:=by rfl
 co:sc.isCoroutine=false:=by rfl
 gen:sc.isGenerator=false:=by rfl
 nd:N.Nodup:=by decide +kernel
 pre:N.take P.length=P:=by rfl
 par:∀x∈P,sc.names.lookup x=some .local∨sc.names.lookup x=some .cell:=by decide +kernel
 nofree:∀y∈sc.names,y.2 ≠ .free:=by decide +kernel
theorem Zcx {kindOf:Str->Option NameKind}{x:Str}:∀{binds:List (Str×Value)}{m:Str->Option Value},(∀v,(x,v)∉binds)->bindL kindOf binds m x=m x
 | [],_,_=>rfl
 | (n,v)::r,m,h=>by
  unfold bindL
  rw [Zcx fun w hw=>h w (List.mem_cons_of_mem _ hw)]
  split
  ·have:x≠n:=by rintro rfl;exact h v List.mem_cons_self
   simp [this]
  ·rfl
theorem Zcn {kindOf:Str->Option NameKind}{x:Str}:∀{binds:List (Str×Value)}{m:Str->Option Value},(∀v,(x,v)∉binds)->bindC kindOf binds m x=m x
 | [],_,_=>rfl
 | (n,v)::r,m,h=>by
  unfold bindC
  rw [Zcn fun w hw=>h w (List.mem_cons_of_mem _ hw)]
  split
  ·rfl
  ·have:x≠n:=by rintro rfl;exact h v List.mem_cons_self
   simp [this]
theorem ZcJ {kindOf:Str->Option NameKind}{x:Str}{v:Value}:∀{P:List Str}{vs:List Value}{i:Nat}{m:Str->Option Value},P.Nodup->P[i]? = some x->vs[i]? = some v->kindOf x=some .local ->
  bindL kindOf (P.zip vs) m x=some v
 | [],_,_,_,_,h,_,_=>by simp at h
 | _::_,[],_,_,_,_,h,_=>by simp at h
 | p::P,w::vs,0,m,nd,h1,h2,hk=>by
  simp at h1 h2;subst h1;subst h2
  show bindL kindOf ((p,w)::P.zip vs) m p=_
  unfold bindL
  rw [Zcx fun v hv=>(List.nodup_cons.mp nd).1 (List.of_mem_zip hv).1,if_pos hk]
  simp
 | p::P,w::vs,i+1,m,nd,h1,h2,hk=>by
  show bindL kindOf ((p,w)::P.zip vs) m x=_
  unfold bindL
  exact ZcJ (i:=i) (List.nodup_cons.mp nd).2 (by simpa using h1) (by simpa using h2) hk
theorem ZcK {kindOf:Str->Option NameKind}{x:Str}{v:Value}:∀{P:List Str}{vs:List Value}{i:Nat}{m:Str->Option Value},P.Nodup->P[i]? = some x->vs[i]? = some v->kindOf x≠some .local ->
  bindC kindOf (P.zip vs) m x=some v
 | [],_,_,_,_,h,_,_=>by simp at h
 | _::_,[],_,_,_,_,h,_=>by simp at h
 | p::P,w::vs,0,m,nd,h1,h2,hk=>by
  simp at h1 h2;subst h1;subst h2
  show bindC kindOf ((p,w)::P.zip vs) m p=_
  unfold bindC
  rw [Zcn fun v hv=>(List.nodup_cons.mp nd).1 (List.of_mem_zip hv).1,if_neg hk]
  simp
 | p::P,w::vs,i+1,m,nd,h1,h2,hk=>by
  show bindC kindOf ((p,w)::P.zip vs) m x=_
  unfold bindC
  exact ZcK (i:=i) (List.nodup_cons.mp nd).2 (by simpa using h1) (by simpa using h2) hk
def start (N:List Str) (vs:List V):St:=vs.map some++List.replicate (N.length-vs.length) none
def JS (CX:CXT) (P:Program) (w:World) (K:PySem.W.Frag) (mg:Str->Option Value) (base:Heap) (N:List Str) (qual:Str) (scope:Scope) (f:Addr) (cd:Value) (A:Around) (outer:List Env) (s:Shared) (H:Hp) (E:XK):Cx where
 prog:=P
 w:=w
 K:=K
 mg:=mg
 base:=base
 A:=A.deeper (envOfC qual scope s.heap.objs.size f cd)
 N:=N
 s₀:=s
 H₀:=H
 env:=envOfC qual scope s.heap.objs.size f cd
 outer:=outer
 stack:=envOfC qual scope s.heap.objs.size f cd::outer
 ex:=[]
 calm:=true
 fn:=fun _=>true
 pn:=[]
 xe:=fun e s'=>wpAny (model P w) (A.deeper (envOfC qual scope s.heap.objs.size f cd)) (leaving (envOfC qual scope s.heap.objs.size f cd) e) (fun _ s''=>CX outer H s E e s'') (fun e' s''=>CX outer H s E e' s'') s'
theorem ZeD {sc:Scope}{n:Nat}{x:Str} (h:sc.names.lookup x=some .cell):∃c,(cellsFrom n sc.names []).lookup x=some c:=by
 have q:=PySem.W.cellsFrom_some sc.names n [] (.inl h)
 exact Option.isSome_iff_exists.mp q
theorem Zgz {CX:CXT}{P:Program}{w:World}{K:PySem.W.Frag}{mg:Str->Option Value}{base:Heap}{N ps:List Str}{qual:Str}{scope:Scope}{f:Addr}{cd:Value}{A:Around}{outer:List Env}{s s1:Shared}{H:Hp}{E:XK}{us:List Value}{vs:List V}
  (S:ZF N ps scope) (hd:A.handled=none) (e0:ZhY P w K mg base A outer s H) (hl:vs.length=ps.length) (r:Vals vs us)
  (x:InCallC s s.heap.objs.size (bindL (envOfC qual scope s.heap.objs.size f cd).kindOf (ps.zip us) fun _=>none) (cellsFrom (s.heap.objs.size+1) scope.names []) (bindC (envOfC qual scope s.heap.objs.size f cd).kindOf (ps.zip us) fun _=>none) s1):
  Inv (JS CX P w K mg base N qual scope f cd A outer s H E) [] (start N vs) H s1:=by
 have hpl:ps.length<=N.length:=by have:=congrArg List.length S.pre;rw [List.length_take] at this;lia
 obtain ⟨h1,tk,rfl,hk⟩:=x.done
 have noA:∀b:Addr,b∉(JS CX P w K mg base N qual scope f cd A outer s H E).ex:=fun b z=>absurd (show b∈([]:List Addr) from z) (by simp)
 refine ⟨⟨e0.mod,S.kind,rfl,rfl,Nat.le_refl _,fun y z c h1 h2=>?_,fun y hy=>?_,fun y c _ h=>?_,fun _=>hd,Around.frames_deeper e0.frames,.inr ⟨rfl,rfl⟩,fun b z=>absurd z (noA b),e0.bs,e0.bsz,fun b _ _=>noA b,fun b z=>absurd z (noA b),e0.funs,e0.frf⟩,
  rfl,e0.bare,Un.kept hk,⟨_,x.toInCall.ns,fun i y v h1 h2 h3=>?_⟩,fun y c h=>⟨_,x.cell y c h⟩,e0.hok.fresh (Nat.le_refl _),fun y c h=>?_,fun p hp=>absurd (show p∈([]:List (Addr×Obj)) from hp) (by simp),e0.hok.kept hk,?_⟩
 ·exact name_of_addr x.apart (PySem.mem_of_lookup h1) (PySem.mem_of_lookup h2)
 ·have hy:scope.names.lookup y=some .cell∨scope.names.lookup y=some .free:=hy
  rcases hy with hy | hy
  ·exact ZeD hy
  ·exact absurd rfl (S.nofree _ (PySem.mem_of_lookup hy))
 ·exact Nat.le_of_lt (x.above y c (PySem.mem_of_lookup h))
 ·have hi:i<vs.length:=by
   unfold start at h2
   by_cases hi:i<vs.length
   ·exact hi
   ·rw [List.getElem?_append_right (by simpa using hi)] at h2
    rw [List.getElem?_replicate] at h2
    split at h2<;>cases h2
  have ha:vs[i]? = some v:=by
   unfold start at h2
   rw [List.getElem?_append_left (by simpa using hi),List.getElem?_map] at h2
   cases e:vs[i]? with
   | none=>rw [e] at h2;cases h2
   | some a=>rw [e] at h2;cases h2;rfl
  obtain ⟨u,hu,rv⟩:=r.get ha
  have hp:ps[i]? = some y:=by
   rw [<- S.pre,List.getElem?_take_of_lt (by lia)];exact h1
  have ndP:ps.Nodup:=by rw [<- S.pre];exact S.nd.sublist (List.take_sublist _ _)
  refine ⟨u,rv,?_⟩
  rcases S.par y (List.mem_of_getElem? hp) with k | k
  ·exact .inl ⟨k,ZcJ ndP hp hu k⟩
  ·obtain ⟨c,e⟩:=ZeD (n:=s.heap.objs.size+1) k
   refine .inr ⟨.inl k,c,e,?_⟩
   have q:=x.cell y c e
   rw [ZcK ndP hp hu (by show scope.names.lookup y≠_;rw [k];decide)] at q
   exact q
 ·exact e0.hok.fresh (Nat.le_of_lt (x.above y c (PySem.mem_of_lookup h)))
 ·unfold start
  show _=N.length
  rw [List.length_append,List.length_map,List.length_replicate]
  lia
theorem Zkq {CX:CXT}{P:Program}{w:World}{K:PySem.W.Frag}{mg:Str->Option Value}{base:Heap}{k:Nat}{f:Addr}{name qual:Str}{params:Arguments}{body:List Stmt}{scope:Scope}{dV kV doc pm cdv ct oc:Value}{an od:Option Addr}
  {osl:Array (Option Value)}{N ps:List Str}{sp:Sp} (lk:K.lookup f=some ⟨oc,od,.func (PySem.W.fnOf name qual params body scope dV kV doc pm an cdv ct),osl⟩) (hcd:PySem.W.codeIn K cdv qual=true) (S:ZF N ps scope)
  (len:∀vs H Q E,sp vs H Q E->vs.length=ps.length)
  (hbody:∀(A:Around) (outer:List Env) (s:Shared) (H:Hp) (vs:List V) (Q:VK) (E:XK),JE k (A.deeper (envOfC qual scope s.heap.objs.size f cdv))->sp vs H Q E ->
   ∃t,PSs (JS CX P w K mg base N qual scope f cdv A outer s H E) body t/\t { nx:=fun _ H'=>Q .non H',rt:=Q } (start N vs) H):
  Yj P w K mg base CX (k+1) f (PySem.W.fnOf name qual params body scope dV kV doc pm an cdv ct) ps sp:=by
 refine ⟨len,fun A outer s H args us vs Q E hr e0 hb r hsp=>?_⟩
 have hl:=len _ _ _ _ hsp
 have KX:K.In s.heap:=e0.mod.kin.keeps fun b o e=>(e0.bs b o e).1
 have lim:s.heap.NoLimit:=e0.mod.nolimit.keeps fun b o e=>(e0.bs b o e).1
 have hkind:∀y∈ps.zip us,scope.names.lookup y.1=some .local∨(scope.names.lookup y.1=some .cell/\((cellsFrom (s.heap.objs.size+1) scope.names []).lookup y.1).isSome=true):=fun ⟨n,v⟩ hy=>by
  rcases S.par n (List.of_mem_zip hy).1 with q | q
  ·exact .inl q
  ·exact .inr ⟨q,PySem.W.cellsFrom_some _ _ _ (.inl q)⟩
 refine codeAny_call_function hr.depth (KX _ _ lk) rfl S.co S.gen rfl (PySem.W.codeRec_of KX hcd) (hb _ _ _ _ ?_)
 refine wpAny_newFunctionEnv_cells S.kind hkind fun env he s1 x=>?_
 subst he
 refine ⟨lim.keeps x.toInCall.keep,codeAny_func ?_⟩
 obtain ⟨t,ht,hq⟩:=hbody A outer s H vs Q E (hr.deeper _) hsp
 have I:Inv (JS CX P w K mg base N qual scope f cdv A outer s H E) [] (start N vs) H s1:=Zgz S hr.hd e0 hl r x
 refine wpAny_mono (ht [] s1 (start N vs) H _ I hq) (fun fl s' hs=>?_) fun e s' hs=>hs
 have fin:∀{σ':St}{H':Hp}{v:V}{u:Value},Inv (JS CX P w K mg base N qual scope f cdv A outer s H E) [] σ' H' s'->RelV v u->Q v H'->CE outer P w H s Q u s':=
  fun {σ' H' v u} J rv q=>⟨v,H',J.os,J.bare,J.base,J.hok,rv,q⟩
 cases fl with
 | ret u=>
  obtain ⟨v,σ',H',J,rv,q⟩:=hs
  exact fin J rv q
 | next=>
  obtain ⟨σ',H',J,q⟩:=hs
  exact fin (v:=V.non) (u:=Value.none) J rfl q
 | brk=>
  obtain ⟨_,_,_,q⟩:=hs
  exact False.elim q
 | cont=>
  obtain ⟨_,_,_,q⟩:=hs
  exact False.elim q
section
variable {X:Cx}{x:Str}{p pos:Pos}{e:Expr}{es:List Expr}{t:TA}{id T:String}{r:List V->Hp->VK->Prop}
def tCB (r:List V->Hp->VK->Prop) (t:TA):TE:=fun σ H Q=>t σ H fun vs H1=>r vs H1 Q
theorem ZH (hc:Wl X (.builtin id) r) (hg:Gl X x) (hm:X.mg x=none) (hv:bootBuiltins x=some (.builtin id)) (ha:PA X (e::es) t) (hn:x ≠ "__name__" := by decide) (hdb:(x==("__debug__" : Str))=false:=by decide)
  (he:starEach (e::es) X.env=(false,eval e X.env)::starEach es X.env:=by rfl) (hpl:(backTo pos (starEach es X.env)).any (·.1)=false:=by rfl):PE X (.Call (.Name x p) (e::es) [] pos) (tCB r t):=by
 intro pins s σ H Q I h
 refine wpAny_Call_Name_kw (Gq I hg hm hv ?_ hn hdb)
 exact PyProof.Rows.callWith_builtin1 (YJ (ha pos pins s σ H _ I h) fun us s1 ⟨vs,H1,I1,r1,q1⟩=>hc pins s1 σ H1 vs us Q I1 r1 q1) he hpl
theorem ZaF (hc:Wl X (.type T) r) (hg:Gl X x) (hm:X.mg x=none) (hv:bootBuiltins x=some (.type T)) (ha:PA X (e::es) t) (hn:x ≠ "__name__" := by decide) (hdb:(x==("__debug__" : Str))=false:=by decide)
  (he:starEach (e::es) X.env=(false,eval e X.env)::starEach es X.env:=by rfl) (hpl:(backTo pos (starEach es X.env)).any (·.1)=false:=by rfl):PE X (.Call (.Name x p) (e::es) [] pos) (tCB r t):=by
 intro pins s σ H Q I h
 refine wpAny_Call_Name_kw (Gq I hg hm hv ?_ hn hdb)
 exact PyProof.Rows.callWith_type1 (YJ (ha pos pins s σ H _ I h) fun us s1 ⟨vs,H1,I1,r1,q1⟩=>hc pins s1 σ H1 vs us Q I1 r1 q1) he hpl
end
end L2
namespace HT
open PySem PyProof.Rows
def lexLt:List Int->List Int->Bool
 | [],[]=>false
 | [],_::_=>true
 | _::_,[]=>false
 | x::xs,y::ys=>if x=y then lexLt xs ys else decide (x<y)
section
open PySem.SeqAt
open PySem.AutoSeq1 (wpAny_loadPart')
open PySem.MeetsSeq PySem.MeetsSeq2 PySem.MeetsSeq3
end
section
variable {prog:Program}{w:World}{A:Around}{E:Value->Shared->Prop}{s:Shared}
theorem Zkj {t b:Addr}{vs ws:List Value}{Q:Value->Shared->Prop} (ht:IsTup s.heap t vs.toArray) (hb:IsTup s.heap b ws.toArray) (hv:vs ≠ [])
  (h1:ws = []->Q (.ref t) s) (h2:ws ≠ []->Q (.ref s.heap.objs.size) { s with heap:=s.heap.push { cls:=.type "tuple", data:=.seq (vs++ws).toArray } })
  (hsz:vs.length+ws.length<=sizeLine):wpAny (model prog w) A (binaryOp .Add (.ref t) (.ref b)) Q E s:=by
 obtain ⟨⟨cls,dd,data,sl⟩,ho,hc,n,hd⟩:=id ht
 obtain ⟨⟨cls2,dd2,data2,sl2⟩,ho2,hc2,n2,hd2⟩:=id hb
 simp only at hc hd hc2 hd2
 subst hc hd hc2 hd2
 have e:vs.toArray++ws.toArray=(vs++ws).toArray:=by simp
 by_cases hw:ws = []
 ·exact concat_meets ⟨_,ho,rfl⟩ ⟨_,ho2,rfl⟩ noFill_tuple_add seq_tuple_add PySem.F.slot_tuple_add PySem.F.entry_tuple_add (PySem.F.args_tuple_add_2 _ _)
   (tuple_addW1 t b vs.toArray ws.toArray n n2 dd dd2 sl sl2 (by simpa using hv) (by simp [hw])) ⟨ho,ho2,h1 hw⟩
 ·refine concat_meets ⟨_,ho,rfl⟩ ⟨_,ho2,rfl⟩ noFill_tuple_add seq_tuple_add PySem.F.slot_tuple_add PySem.F.entry_tuple_add (PySem.F.args_tuple_add_2 _ _)
   (tuple_addW2 t b vs.toArray ws.toArray n n2 dd dd2 sl sl2 (by simpa using hv) (by simpa using hw) (by rw [List.size_toArray,List.size_toArray];exact hsz)) ⟨ho,ho2,?_⟩
  rw [e]
  exact h2 hw
def sIx (n d:Nat):Option Int->Nat
 | none=>d
 | some v=>if v<0 then (v+(n:Int)).toNat else min v.toNat n
theorem Zd9 (n d:Nat):sIx n d none=d:=rfl
theorem Zbc (n d k:Nat):sIx n d (some (k:Int))=min k n:=by
 show (if (k:Int)<0 then ((k:Int)+(n:Int)).toNat else min (k:Int).toNat n)=min k n
 rw [if_neg (by lia),Int.toNat_natCast]
end
end HT
namespace L2
open PySem PySem.Spec PyProof.Rows
abbrev TO:=St->Hp->(Option Int->Hp->Prop)->Prop
def PO (X:Cx) (e:Option Expr) (t:TO):Prop:=
 ∀(pins:List (Addr×Obj)) (s:Shared) (σ:St) (H:Hp) (Q:Option Int->Hp->Prop),Inv X pins σ H s->t σ H Q ->
  wpAny (model X.prog X.w) X.A (evalPart e X.env) (fun u s'=>∃o H',Inv X pins σ H' s'/\IsPart u o/\Q o H') X.xe s
def ZjV:TO:=fun _ H Q=>Q none H
def Zmm (t:TE):TO:=fun σ H Q=>t σ H fun x H1=>∃i,x = .int i/\Q (some i) H1
section
variable {X:Cx}{e:Expr}{te:TE}{lo hi:Option Expr}{tl th:TO}{pos p2:Pos}
theorem Wu:PO X none ZjV:=by
 intro pins s σ H Q I h
 rw [evalPart_none]
 exact wpAny_pure ⟨none,H,I,.none,h⟩
theorem Yf (h:PE X e te):PO X (some e) (Zmm te):=by
 intro pins s σ H Q I hw
 rw [evalPart_some]
 refine YJ (h pins s σ H _ I hw) fun u s1 ⟨x,H1,I1,r1,q1⟩=>?_
 obtain ⟨i,rfl,q⟩:=q1
 obtain ⟨t,rfl⟩:=r1
 exact ⟨some i,H1,I1,.int i t,q⟩
def SlR (X:Cx) (r:V->Option Int->Option Int->Hp->VK->Prop):Prop:=
 ∀(pins:List (Addr×Obj)) (s:Shared) (σ:St) (H:Hp) (x:V) (v vl vu:Value) (lo hi:Option Int) (sl:Addr) (Q:VK),Inv X pins σ H s->RelV x v->s.heap.IsSliceOf sl vl vu .none->IsPart vl lo->IsPart vu hi->r x lo hi H Q ->
  ∃T id,typeLookup (.type T) "__getitem__" = pure (some (.builtin id))/\s.TypeIs v T/\wpAny (model X.prog X.w) X.A (getItem v (.ref sl)) (EP X pins σ Q) X.xe s
def tSl (r:V->Option Int->Option Int->Hp->VK->Prop) (te:TE) (tl th:TO):TE:=fun σ H Q=>te σ H fun x H1=>tl σ H1 fun l H2=>th σ H2 fun u H3=>r x l u H3 Q
theorem YR {r:V->Option Int->Option Int->Hp->VK->Prop} (hr:SlR X r) (he:PE X e te) (hl:PO X lo tl) (hu:PO X hi th):PE X (.Subscript e (.Slice lo hi none p2) pos) (tSl r te tl th):=by
 intro pins s σ H Q I h
 refine Subscript_ (YJ (he pins s σ H _ I h) fun v s1 ⟨x,H1,I1,r1,q1⟩=>?_)
 refine wpAny_Slice (YJ (hl pins s1 σ H1 _ I1 q1) fun vl s2 ⟨l,H2,I2,pl,q2⟩=>YJ (hu pins s2 σ H2 _ I2 q2) fun vu s3 ⟨u,H3,I3,pu,q3⟩=>?_)
 rw [evalPart_none]
 refine wpAny_pure ?_
 have I4:Inv X pins σ H3 { s3 with heap:=s3.heap.push { cls:=.type "slice", data:=.fields #[vl,vu,.none] } }:=I3.kept (t':=s3.toks) fun b ob q=>Heap.get?_push_of_some _ q
 obtain ⟨T,id,hT,ht,hg⟩:=hr pins { s3 with heap:=s3.heap.push { cls:=.type "slice", data:=.fields #[vl,vu,.none] } } σ H3 x v vl vu l u s3.heap.objs.size Q I4 r1 (Heap.IsSliceOf.new ..) pl pu q3
 show wpAny (model X.prog X.w) X.A (subscriptTail e (.Slice lo hi none p2) v (.ref s3.heap.objs.size)) (EP X pins σ Q) X.xe { s3 with heap:=s3.heap.push { cls:=.type "slice", data:=.fields #[vl,vu,.none] } }
 exact tail_any (ops:=[.ref s3.heap.objs.size,v]) ht hT hg (by with_unfolding_all rfl)
def UU (xs:List V) (lo hi:Option Int):List V:=(xs.drop (HT.sIx xs.length 0 lo)).take (HT.sIx xs.length xs.length hi-HT.sIx xs.length 0 lo)
theorem Zd2 (xs:List V) (lo hi:Option Int):(UU xs lo hi).length<=xs.length:=by
 unfold UU
 rw [List.length_take,List.length_drop]
 lia
end
def ixN (n:Nat) (i:Int):Option Nat:=if 0<=i then (if i<n then some i.toNat else none) else if -(n:Int)<=i then some (i+n).toNat else none
def atI {α:Type} (xs:List α) (i:Int):Option α:=(ixN xs.length i).bind fun j=>xs[j]?
theorem ZfC {n:Nat}{i:Int}{j:Nat} (h:ixN n i=some j):seqIndex? i n=some j/\j<n /\ -(n:Int)<=i/\i<n:=by
 unfold ixN at h
 by_cases h0:0<=i
 ·rw [if_pos h0] at h
  by_cases h1:i<n
  ·rw [if_pos h1] at h
   have e:i.toNat=j:=Option.some.inj h
   exact ⟨by rw [seqIndex_of h0 h1,e],by lia,by lia,h1⟩
  ·rw [if_neg h1] at h;cases h
 ·rw [if_neg h0] at h
  by_cases h1 : -(n:Int)<=i
  ·rw [if_pos h1] at h
   have e:(i+n).toNat=j:=Option.some.inj h
   exact ⟨by rw [seqIndex_neg (by lia) h1,e],by lia,h1,by lia⟩
  ·rw [if_neg h1] at h;cases h
theorem ZfB {α:Type}{xs:List α}{i:Int}{v:α} (h:atI xs i=some v):∃j,seqIndex? i xs.length=some j/\xs[j]? = some v/\j<xs.length /\ -(xs.length:Int)<=i/\i<xs.length:=by
 unfold atI at h
 cases e:ixN xs.length i with
 | none=>rw [e] at h;cases h
 | some j=>
  rw [e] at h
  obtain ⟨h1,h2,h3,h4⟩:=ZfC e
  exact ⟨j,h1,h,h2,h3,h4⟩
theorem Zn {α:Type}{xs:List α}{j:Nat}{v:α} (h:xs[j]? = some v):atI xs (j:Int)=some v:=by
 have hj:j<xs.length:=(List.getElem?_eq_some_iff.mp h).1
 have e:ixN xs.length (j:Int)=some j:=by
  unfold ixN
  rw [if_pos (by lia),if_pos (by lia)];simp
 unfold atI;rw [e];exact h
theorem ZiM {α:Type} (xs:List α) (v:α):atI (xs ++ [v]) (-1)=some v:=by
 have hl:(xs ++ [v]).length=xs.length+1:=by simp
 have e:ixN (xs ++ [v]).length (-1)=some xs.length:=by
  unfold ixN
  rw [hl,if_neg (by decide),if_pos (by lia)]
  congr 1
  lia
 unfold atI
 rw [e]
 show (xs ++ [v])[xs.length]? = some v
 simp
def ZjW (b:Expr):Prop:=∀o i,subscripted b false o i=operate [o,i] (getItem o i)
def IxR (X:Cx) (r:R2):Prop:=
 ∀(value slice:Expr) (pins:List (Addr×Obj)) (s:Shared) (σ:St) (H:Hp) (x y:V) (v u:Value) (Q:VK),Inv X pins σ H s->RelV x v->RelV y u->r x y H Q ->
  subscripted slice false v u=operate [v,u] (getItem v u)->wpAny (model X.prog X.w) X.A (subscriptTail value slice v u) (EP X pins σ Q) X.xe s
def MtR (X:Cx) (id:String) (r:V->List V->Hp->VK->Prop):Prop:=
 ∀(pins:List (Addr×Obj)) (s:Shared) (σ:St) (H:Hp) (x:V) (xs:List V) (v:Value) (us:List Value) (Q:VK),Inv X pins σ H s->RelV x v->Vals xs us->r x xs H Q ->
  wpAny (model X.prog X.w) X.A (call (.builtin id) (v::us)) (EP X pins σ Q) X.xe s
section
variable {X:Cx}{a b:Expr}{ta tb:TE}{pos:Pos}
theorem Zp {r:R2} (hr:IxR X r) (ha:PE X a ta) (hb:PE X b tb) (hs:ZjW b):PE X (.Subscript a b pos) (tOp r ta tb):=by
 intro pins s σ H Q I h
 exact Subscript_ (Zlc ha hb I h fun v u s2 x y H2 I2 rx ry q=>hr a b pins s2 σ H2 x y v u Q I2 rx ry q (hs _ _))
def Zms (K:PySem.W.Frag):R2:=fun x y H Q=>∃p xs i v,x = .ref p/\y = .int i/\Zo K H p xs/\atI xs i=some v/\Q v H
def ZmA (K:PySem.W.Frag):R2:=fun x y H Q=>∃p xs i v,x = .ref p/\y = .int i/\JH K H p xs/\atI xs i=some v/\Q v H
theorem Zi2:IxR X (Zms X.K):=by
 intro value slice pins s σ H x y v u Q I rx ry h hs
 obtain ⟨p,xs,i,z,rfl,rfl,hq,he,q⟩:=h
 cases rx
 obtain ⟨t,rfl⟩:=ry
 obtain ⟨its,r,pl,hz⟩:=I.list hq
 obtain ⟨j,h1,h2,h3,h4,h5⟩:=ZfB he
 obtain ⟨w,ew,rw'⟩:=r.get h2
 have hl:=r.length
 have hn:=Zde
 have fin:EP X pins σ Q w s:=⟨z,H,I,rw',q⟩
 by_cases h0:0<=i
 ·have hj:i.toNat=j:=by
   rw [seqIndex_of h0 h5] at h1
   exact Option.some.inj h1
  exact item_listR pl.isList h0 (by lia) (by rw [hj];simpa using ew) fin hs
 ·have hj:(i+(its.toArray.size:Int)).toNat=j:=by
   rw [seqIndex_neg (by lia) h4] at h1
   rw [List.size_toArray,<- hl]
   exact Option.some.inj h1
  exact subscriptTail_builtinR (x:=w) pl.isList.typeIs slot_list_getitem.lookup
   (wpAny_getItem_list_neg (Q:=fun r s'=>r=w/\EP X pins σ Q r s') pl.isList (by lia) (by rw [List.size_toArray]<;>lia) (by lia) (by rw [hj];simpa using ew) ⟨rfl,fin⟩) hs
theorem ZlJ:IxR X (ZmA X.K):=by
 intro value slice pins s σ H x y v u Q I rx ry h hs
 obtain ⟨p,xs,i,z,rfl,rfl,hq,he,q⟩:=h
 cases rx
 obtain ⟨t,rfl⟩:=ry
 obtain ⟨its,r,pl,hz⟩:=I.tuple hq
 obtain ⟨j,h1,h2,h3,h4,h5⟩:=ZfB he
 obtain ⟨w,ew,rw'⟩:=r.get h2
 have hl:=r.length
 have hn:=Zde
 have fin:EP X pins σ Q w s:=⟨z,H,I,rw',q⟩
 exact subscriptTail_builtinR (x:=w) pl.typeIs slot_tuple_getitem.lookup
  (getItem_tuple (j:=j) (Q:=fun r s'=>r=w/\EP X pins σ Q r s') pl (by lia) (by lia) (by rw [List.size_toArray,<- hl];exact h1) (by simpa using ew) ⟨rfl,fin⟩) hs
theorem ZeY (its:List Value) (n j:Nat) (u:Value):Obj.mapSeq (·.setIfInBounds j u) { cls:=.type "list", data:=.seq its.toArray n } = { cls:=.type "list", data:=.seq (its.set j u).toArray n }:=by
 simp [Obj.mapSeq]
theorem Inv.lst {pins:List (Addr×Obj)} {σ:St}{H:Hp}{s:Shared}{p:Addr}{xs:List V} (I:Inv X pins σ H s) (h:H p=some (.lst xs)):
  ∃(its:List Value) (n:Nat),Vals xs its/\s.heap.get? p=some { cls:=.type "list", data:=.seq its.toArray n } /\ xs.length<=sizeLine:=by
 obtain ⟨z,its,n,r,e⟩:=I.hok p _ h
 exact ⟨its,n,r,e,z⟩
theorem Inv.lstUpd {pins:List (Addr×Obj)} {σ:St}{H:Hp}{s:Shared}{p:Addr}{xs ys:List V}{its its':List Value}{n n':Nat}{f:Obj->Obj} (I:Inv X pins σ H s) (h:H p=some (.lst xs))
  (ho:s.heap.get? p=some { cls:=.type "list", data:=.seq its.toArray n }) (hf:f { cls:=.type "list", data:=.seq its.toArray n } = { cls:=.type "list", data:=.seq its'.toArray n' }) (r:Vals ys its') (hz:ys.length<=sizeLine) (t:Nat):
  Inv X pins σ (upd H p (.lst ys)) { s with heap:=s.heap.update p f,toks:=t }:=by
 have e:(s.heap.update p f).get? p=some { cls:=.type "list", data:=.seq its'.toArray n' }:=by
  rw [Heap.get?_update_self f ho (by rw [hf]<;>rfl),hf]
 refine I.write (x:=p) (e:=p) (by rw [h];trivial) (.inl rfl) (fun b u hb q=>(Heap.get?_update_other _ _ (Ne.symm hb)).trans q) ⟨_,e⟩ ?_
 exact ⟨hz,its',n',r,e⟩
def Zl6:V->V->V->Hp->(Hp->Prop)->Prop:=fun o i v H Q=>∃p xs k j,o = .ref p/\i = .int k/\H p=some (.lst xs)/\ixN xs.length k=some j/\Q (upd H p (.lst (xs.set j v)))
theorem set_list:ZlT X Zl6:=by
 intro pins s σ H o i v ov iv u Q I ro ri rv h
 obtain ⟨p,xs,k,j,rfl,rfl,hp,hj,q⟩:=h
 cases ro
 obtain ⟨t,rfl⟩:=ri
 obtain ⟨its,n,r,ho,hz⟩:=I.lst hp
 obtain ⟨h1,h2,h3,h4⟩:=ZfC hj
 have hl:=r.length
 have hn:=Zde
 have I':Inv X pins σ (upd H p (.lst (xs.set j v))) { s with heap:=s.heap.update p (Obj.mapSeq (·.setIfInBounds j u)) }:=
  I.lstUpd hp ho (ZeY its n j u) (r.set rv j) (by rw [List.length_set];exact hz) s.toks
 by_cases h0:0<=k
 ·have hk:k.toNat=j:=by
   rw [seqIndex_of h0 h4] at h1
   exact Option.some.inj h1
  exact PySem.W.ki_setAt ho h0 (by lia) (by rw [List.size_toArray,<- hl];exact h4) (by rw [hk];exact ⟨_,I',q⟩)
 ·have hk:(k+(its.toArray.size:Int)).toNat=j:=by
   rw [seqIndex_neg (by lia) h3] at h1
   rw [List.size_toArray,<- hl]
   exact Option.some.inj h1
  exact PySem.W.ki_setBack ho (by lia) (by rw [List.size_toArray,<- hl];exact h3) (by lia) (by rw [hk];exact ⟨_,I',q⟩)
theorem Zc2 (lo hi:Option Int) (n:Nat):(sliceBounds lo hi none n).1=((HT.sIx n 0 lo:Nat):Int)/\(sliceBounds lo hi none n).2.1=((HT.sIx n n hi:Nat):Int)/\(sliceBounds lo hi none n).2.2=1:=by
 refine ⟨?_,?_,rfl⟩
 ·cases lo with
  | none=>simp [sliceBounds,HT.sIx]
  | some i=>
   simp only [sliceBounds,HT.sIx,Option.getD_none,show (1:Int)>0 by decide,if_true]
   by_cases h:i<0
   ·simp only [h,if_true]<;>lia
   ·simp only [h,if_false]<;>lia
 ·cases hi with
  | none=>simp [sliceBounds,HT.sIx]
  | some i=>
   simp only [sliceBounds,HT.sIx,Option.getD_none,show (1:Int)>0 by decide,if_true]
   by_cases h:i<0
   ·simp only [h,if_true]<;>lia
   ·simp only [h,if_false]<;>lia
theorem Zcm (its:List Value) (lo hi:Option Int):slicePick its.toArray lo hi none=((its.drop (HT.sIx its.length 0 lo)).take (HT.sIx its.length its.length hi-HT.sIx its.length 0 lo)).toArray:=by
 obtain ⟨h1,h2,h3⟩:=Zc2 lo hi its.toArray.size
 unfold slicePick
 rw [h1,h2,h3]
 simp only [sliceRange_one,pick_run,List.size_toArray]<;>rfl
def ZmC (K:PySem.W.Frag):V->Option Int->Option Int->Hp->VK->Prop:=fun x lo hi H Q=>∃a xs,x = .ref a/\Zo K H a xs /\ ∀p,H p=none->Q (.ref p) (upd H p (.lst (UU xs lo hi)))
theorem Zji:SlR X (ZmC X.K):=by
 intro pins s σ H x v vl vu lo hi sl Q I rx hs pl pu h
 obtain ⟨a,xs,rfl,hx,q⟩:=h
 cases rx
 obtain ⟨its,r,ht,hz⟩:=I.list hx
 have hlen:=r.length
 refine ⟨"list", _,slot_list_getitem.lookup,ht.isList.typeIs,?_⟩
 refine wpAny_getItem_list_slice ht.isList hs pl pu .none (by simp) ?_ (by rw [List.size_toArray]<;>lia)
 rw [Zcm,<- hlen]
 refine ⟨.ref s.heap.objs.size,_,I.laid (t':=s.toks) (o:=.lst (UU xs lo hi)) (fun b ob q=>Heap.get?_push_of_some _ q) (Nat.le_refl _) ?_,rfl,q _ (I.hok.fresh (Nat.le_refl _))⟩
 exact ⟨Nat.le_trans (Zd2 xs lo hi) hz,_,0,(r.drop (HT.sIx xs.length 0 lo)).take (HT.sIx xs.length xs.length hi-HT.sIx xs.length 0 lo),Heap.get?_push_size _ rfl⟩
def Wv:V->Bool
 | .non=>true
 | .bl _=>true
 | .int _=>true
 | .str _=>true
 | _=>false
def eqV:V->V->Bool
 | .non,.non=>true
 | .bl a,.bl b=>a==b
 | .bl a,.int b=>(if a then 1 else 0)==b
 | .int a,.bl b=>a==(if b then 1 else 0)
 | .int a,.int b=>a==b
 | .str a,.str b=>a==b
 | _,_=>false
theorem ZkL {A:Around}{s:Shared}{y x:V}{u v:Value} (ry:RelV y u) (rx:RelV x v) (fy:Wv y=true) (fx:Wv x=true):SeqAt.EqAt A s u v (eqV y x):=by
 cases y with
 | non=>
  cases ry
  cases x with
  | non=>cases rx;exact SeqAt.EqAt.same _
  | bl b=>cases rx;exact SeqAt.EqAt.none_bool b
  | int b=>obtain ⟨t,rfl⟩:=rx;exact SeqAt.EqAt.none_int b t
  | str b=>obtain ⟨t,rfl⟩:=rx;exact SeqAt.EqAt.none_str b t
  | _=>exact absurd (show false=true from fx) Bool.false_ne_true
 | bl a=>
  cases ry
  cases x with
  | non=>cases rx;exact SeqAt.EqAt.bool_none a
  | bl b=>cases rx;exact SeqAt.EqAt.bool_bool a b
  | int b=>obtain ⟨t,rfl⟩:=rx;exact SeqAt.EqAt.bool_int a b t
  | str b=>obtain ⟨t,rfl⟩:=rx;exact SeqAt.EqAt.bool_str a b t
  | _=>exact absurd (show false=true from fx) Bool.false_ne_true
 | int a=>
  obtain ⟨t',rfl⟩:=ry
  cases x with
  | non=>cases rx;exact SeqAt.EqAt.int_none a t'
  | bl b=>cases rx;exact SeqAt.EqAt.int_bool a t' b
  | int b=>obtain ⟨t,rfl⟩:=rx;exact SeqAt.EqAt.int_int a t' b t
  | str b=>obtain ⟨t,rfl⟩:=rx;exact SeqAt.EqAt.int_str a t' b t
  | _=>exact absurd (show false=true from fx) Bool.false_ne_true
 | str a=>
  obtain ⟨t',rfl⟩:=ry
  cases x with
  | non=>cases rx;exact SeqAt.EqAt.str_none a t'
  | bl b=>cases rx;exact SeqAt.EqAt.str_bool a t' b
  | int b=>obtain ⟨t,rfl⟩:=rx;exact SeqAt.EqAt.str_int a t' b t
  | str b=>obtain ⟨t,rfl⟩:=rx;exact SeqAt.EqAt.str_str a t' b t
  | _=>exact absurd (show false=true from fx) Bool.false_ne_true
 | _=>exact absurd (show false=true from fy) Bool.false_ne_true
def eqU (x:V) (u:Value):Bool:=match u with
 | .none=>eqV .non x
 | .bool b=>eqV (.bl b) x
 | .int i _=>eqV (.int i) x
 | .str z _=>eqV (.str z) x
 | _=>false
theorem Ze5 {x y:V}{u:Value} (r:RelV y u) (f:Wv y=true):eqU x u=eqV y x:=by
 cases y with
 | non=>cases r;rfl
 | bl b=>cases r;rfl
 | int i=>obtain ⟨t,rfl⟩:=r;rfl
 | str z=>obtain ⟨t,rfl⟩:=r;rfl
 | _=>exact absurd (show false=true from f) Bool.false_ne_true
theorem Zdi {x:V}:∀{xs:List V}{us:List Value},Vals xs us->xs.all Wv=true->us.any (eqU x)=xs.any fun y=>eqV y x
 | _,_,.nil,_=>rfl
 | y::xs,u::us,.cons r t,f=>by
  rw [List.all_cons,Bool.and_eq_true] at f
  rw [List.any_cons,List.any_cons,Ze5 r f.1,Zdi t f.2]
theorem Zaf {A:Around}{s:Shared}{x:V}{v:Value} (rx:RelV x v) (fx:Wv x=true):∀{xs:List V}{us:List Value},Vals xs us->xs.all Wv=true -> ∀u∈us,SeqAt.EqAt A s u v (eqU x u)
 | _,_,.nil,_=>fun u hu=>by cases hu
 | y::xs,u::us,.cons r t,f=>fun u' hu=>by
  rw [List.all_cons,Bool.and_eq_true] at f
  rcases List.mem_cons.mp hu with rfl | hu
  ·rw [Ze5 r f.1];exact ZkL r rx f.1 fx
  ·exact Zaf rx fx t f.2 u' hu
def inV (x:V) (xs:List V):Bool:=xs.any fun y=>eqV y x
def rIn (K:PySem.W.Frag) (neg:Bool):R2:=fun x y H Q=>∃p xs,y = .ref p/\(Zo K H p xs∨JH K H p xs)/\Wv x=true/\xs.all Wv=true/\Q (.bl (if neg then !inV x xs else inV x xs)) H
theorem Zdx:OpR X (compareOp .NotIn) (rIn X.K true):=by
 intro pins s σ H x y v u Q I rx ry h
 obtain ⟨p,xs,rfl,hq,fx,fs,q⟩:=h
 cases ry
 rcases hq with hq | hq
 ·obtain ⟨its,r,pl,hz⟩:=I.list hq
  refine SeqAt.notIn_listAt (eqU x) pl.isList (fun w hw=>Zaf rx fx r fs w (by simpa using hw)) ⟨.bl _,H,I,rfl,?_⟩
  rw [show its.toArray.any (eqU x)=its.any (eqU x) by simp,Zdi r fs]
  exact q
 ·obtain ⟨its,r,pl,hz⟩:=I.tuple hq
  refine SeqAt.notIn_tupleAt (eqU x) pl (fun w hw=>Zaf rx fx r fs w (by simpa using hw)) ⟨.bl _,H,I,rfl,?_⟩
  rw [show its.toArray.any (eqU x)=its.any (eqU x) by simp,Zdi r fs]
  exact q
theorem Zdw:Wl X (.builtin "len") (fun xs H Q=>∃p ys,xs = [.ref p]/\(Zo X.K H p ys∨JH X.K H p ys)/\Q (.int ys.length) H):=by
 intro pins s σ H xs us Q I r h
 obtain ⟨p,ys,rfl,hq,q⟩:=h
 obtain ⟨u,rfl,rx⟩:=vals1 r
 cases rx
 have hn:=Zde
 rcases hq with hq | hq
 ·obtain ⟨its,r',pl,hz⟩:=I.list hq
  have hlen:=r'.length
  exact Calls.call_len_list pl.isList (by simp only [List.size_toArray]<;>lia) ⟨.int ys.length,H,I.tok _,⟨s.toks+1,by rw [List.size_toArray,hlen]⟩,q⟩
 ·obtain ⟨its,r',pl,hz⟩:=I.tuple hq
  have hlen:=r'.length
  exact len_tuple pl (by simp only [List.size_toArray]<;>lia) ⟨.int ys.length,H,I.tok _,⟨s.toks+1,by rw [List.size_toArray,hlen]⟩,q⟩
theorem Zdt:Wl X (.type "list") (fun xs H Q=>∃p ys,xs = [.ref p]/\(Zo X.K H p ys∨JH X.K H p ys) /\ ∀l,H l=none->Q (.ref l) (upd H l (.lst ys))):=by
 intro pins s σ H xs us Q I r h
 obtain ⟨p,ys,rfl,hq,q⟩:=h
 obtain ⟨u,rfl,rx⟩:=vals1 r
 cases rx
 have fin:∀(its:List Value),Vals ys its->ys.length<=sizeLine -> ∀(h':Heap) (c':Nat),(∀b o',s.heap.get? b=some o'->h'.get? b=some o') ->
   h'.get? s.heap.objs.size=some { cls:=.type "list", dict:=none,data:=.seq its.toArray c',slots:=#[] } -> EP X pins σ Q (.ref s.heap.objs.size) { s with heap:=h' }:=fun its r' hz h' c' kp e=>
  ⟨.ref s.heap.objs.size,_,I.laid (t':=s.toks) kp (Nat.le_refl _) (show Yo X.prog X.w _ h' _ (.lst ys) from ⟨hz,its,c',r',e⟩),rfl,q _ (I.hok.fresh (Nat.le_refl _))⟩
 rcases hq with hq | hq
 ·obtain ⟨its,r',pl,hz⟩:=I.list hq
  have hlen:=r'.length
  obtain ⟨o,ho,hc,n,hd⟩:=pl.isList
  exact call_list_seq p (.inl rfl) ho hc hd (fun h' c' kp e=>fin its r' hz h' c' kp e) (by simp only [List.size_toArray]<;>lia)
 ·obtain ⟨its,r',pl,hz⟩:=I.tuple hq
  have hlen:=r'.length
  obtain ⟨o,ho,hc,n,hd⟩:=pl
  exact call_list_seq p (.inr rfl) ho hc hd (fun h' c' kp e=>fin its r' hz h' c' kp e) (by simp only [List.size_toArray]<;>lia)
def tyV (K:PySem.W.Frag) (T:String) (x:V) (H:Hp):Prop:=match x with
 | .str _=>T = "str"
 | .int _=>T = "int"
 | .ref p=>(T = "list" /\ ∃xs,Zo K H p xs)∨(T = "tuple" /\ ∃o,K.lookup p=some o/\o.cls = .type "tuple" /\ o.dict=none) ∨
   (T = "dict" /\ ((∃kvs,H p=some (.dK kvs)) ∨ ∃kvs,H p=some (.dT kvs)))∨(T = "set" /\ ∃S n,H p=some (.set S n))
 | _=>False
theorem ZkH {pins:List (Addr×Obj)} {σ:St}{H:Hp}{s:Shared}{T:String}{x:V}{v:Value} (I:Inv X pins σ H s) (r:RelV x v) (ty:tyV X.K T x H):
  s.TypeIs v T /\ ∀a,v = .ref a -> ∃ob,s.heap.get? a=some ob/\ob.dict=none:=by
 cases x with
 | str z=>
  obtain ⟨t,rfl⟩:=r
  cases (show T = "str" from ty)
  exact ⟨typeIs_str s z t,fun _ e=>nomatch e⟩
 | int i=>
  obtain ⟨t,rfl⟩:=r
  cases (show T = "int" from ty)
  exact ⟨typeIs_int s i t,fun _ e=>nomatch e⟩
 | ref p=>
  cases r
  rcases ty with ⟨rfl,xs,hq⟩ | ⟨rfl,o,hk,hc,hd⟩ | ⟨rfl,hk⟩ | ⟨rfl,S,n,hk⟩
  ·obtain ⟨its,_,pl,_⟩:=I.list hq
   refine ⟨pl.isList.typeIs,fun a e=>?_⟩
   cases e
   obtain ⟨o,n,e,c,hd,_⟩:=pl
   exact ⟨o,e,hd⟩
  ·refine ⟨⟨o,I.kIn p o hk,hc⟩,fun a e=>?_⟩
   cases e
   exact ⟨o,I.kIn _ o hk,hd⟩
  ·have z:∃o,s.heap.get? p=some o/\o.ExactDict:=by
    rcases hk with ⟨kvs,hk⟩ | ⟨kvs,hk⟩
    ·obtain ⟨_,_,_,_,o,_,_,e,ex,_⟩:=I.hok p _ hk
     exact ⟨o,e,ex⟩
    ·obtain ⟨_,_,_,_,o,_,_,e,ex,_⟩:=I.hok p _ hk
     exact ⟨o,e,ex⟩
   obtain ⟨o,e,ex⟩:=z
   refine ⟨⟨o,e,ex.1⟩,fun a e2=>?_⟩
   cases e2
   exact ⟨o,e,ex.2.1⟩
  ·obtain ⟨o,_,_,_,e,ex,_⟩:=I.hok p _ hk
   refine ⟨⟨o,e,ex.1⟩,fun a e2=>?_⟩
   cases e2
   exact ⟨o,e,ex.2.1⟩
 | _=>exact False.elim ty
def tBM (K:PySem.W.Frag) (T:String) (r:V->List V->Hp->VK->Prop) (to:TE) (t:TA):TE:=fun σ H Q=>to σ H fun x H1=>tyV K T x H1/\t σ H1 fun xs H2=>r x xs H2 Q
variable {o e:Expr}{es:List Expr}{to:TE}{t:TA}{name:Str}{apos cpos:Pos}{T id:String}{r:V->List V->Hp->VK->Prop}
theorem Jz (pa:PlainAttrs T) (slot:Slot T name id) (hty:typeOf (.builtin id)=pure (.type "method_descriptor")) (hm:MtR X id r) (ho:PE X o to) (ha:PA X (e::es) t)
  (hbase:attributeBase o name X.env (eval o X.env)=eval o X.env:=by rfl)
  (hfew:((backTo cpos (starEach (e::es) X.env)).all (fun x=>!x.1)&&(backToKw cpos (keywordEach [] X.env)).all (fun x=>x.1.isSome)
   && decide ((e::es).length+([]:List Keyword).length+(if ([]:List Keyword).isEmpty then 0 else 1)<30))=true:=by rfl)
  (hline:(apos.endLine==cpos.line)=true:=by rfl) (hs:starEach (e::es) X.env=(false,eval e X.env)::starEach es X.env:=by rfl) (hplain:(backTo cpos (starEach es X.env)).any (·.1)=false:=by rfl):
  PE X (.Call (.Attribute o name apos) (e::es) [] cpos) (tBM X.K T r to t):=by
 intro pins s σ H Q I h
 refine wpAny_Call_method_late hbase hfew hline rfl (YJ (ho pins s σ H _ I h) fun v s1 ⟨x,H1,I1,r1,ty,q1⟩=>?_)
 obtain ⟨h1,h2⟩:=ZkH I1 r1 ty
 refine ⟨T,id,pa,slot,hty,h1,h2,?_⟩
 have hA:=ha cpos pins s1 σ H1 _ I1 q1
 rw [hs] at hA ⊢
 refine Calls.callWith_builtin (by show (false||(backTo cpos (starEach es X.env)).any (·.1))=false;rw [hplain]<;>rfl) (Calls.evalArgs_plain ?_)
 exact YJ hA fun us s2 ⟨vs,H2,I2,r2,q2⟩=>hm pins s2 σ H2 x vs v us Q I2 r1 r2 q2
end
def MtM (X:Cx) (id:String) (r:V->List V->Hp->VK->Prop):Prop:=
 ∀(pins:List (Addr×Obj)) (s:Shared) (σ:St) (H:Hp) (x:V) (xs:List V) (v:Value) (us:List Value) (Q:VK),Inv X pins σ H s->RelV x v->Vals xs us->r x xs H Q ->
  wpAny (model X.prog X.w) X.A (call (.builtin id) (v::us)) (EP X pins σ Q) X.xe s
theorem Vals.one:∀{x:V}{us:List Value},Vals [x] us -> ∃u,us = [u]/\RelV x u
 | _,_,.cons r .nil=>⟨_,rfl,r⟩
theorem Vals.two:∀{x y:V}{us:List Value},Vals [x,y] us -> ∃u v,us = [u,v]/\RelV x u/\RelV y v
 | _,_,_,.cons r (.cons q .nil)=>⟨_,_,rfl,r,q⟩
theorem Vals.eraseIdx:∀{xs:List V}{us:List Value} (i:Nat),Vals xs us->Vals (xs.eraseIdx i) (us.eraseIdx i)
 | _,_,_,.nil=>.nil
 | _,_,0,.cons _ t=>t
 | _,_,i+1,.cons r t=>.cons r (Vals.eraseIdx i t)
theorem Vals.rep {xs:List V}{us:List Value} (h:Vals xs us):∀k:Nat,Vals (List.replicate k xs).flatten (List.replicate k us).flatten
 | 0=>.nil
 | k+1=>by
  rw [List.replicate_succ,List.replicate_succ,List.flatten_cons,List.flatten_cons]
  exact Vals.append h (Vals.rep h k)
theorem Zcv {α:Type}:∀(l:List α) (i:Nat),(l.eraseIdx i).length<=l.length
 | [],_=>Nat.le_refl _
 | _::_,0=>Nat.le_succ _
 | _::r,i+1=>Nat.succ_le_succ (Zcv r i)
theorem foldl_rep (its:List Value):∀(k:Nat) (acc:List Value),
  List.foldl (fun x1 x2=>x1++x2) acc.toArray (List.replicate k its.toArray)=(acc++(List.replicate k its).flatten).toArray
 | 0,acc=>by simp
 | k+1,acc=>by
  have e:acc.toArray++its.toArray=(acc++its).toArray:=by simp
  have e2:(acc++its)++(List.replicate k its).flatten=acc++(List.replicate (k+1) its).flatten:=by
   rw [List.replicate_succ,List.flatten_cons,List.append_assoc]
  rw [<- e2,<- foldl_rep its k (acc++its),<- e,List.replicate_succ,List.foldl_cons]
section
variable {X:Cx}{pins:List (Addr×Obj)} {σ:St}{H:Hp}{s:Shared}{l b:Addr}{xs ys zs:List V}
theorem Inv.lset {its its':List Value}{n:Nat}{f:Array Value->Array Value}{t':Nat} (I:Inv X pins σ H s) (hH:H l=some (.lst xs))
  (e:s.heap.get? l=some { cls:=.type "list", data:=.seq its.toArray n }) (hf:f its.toArray=its'.toArray) (hv:Vals ys its') (hz:ys.length<=sizeLine):
  Inv X pins σ (upd H l (.lst ys)) { s with heap:=s.heap.update l (Obj.mapSeq f),toks:=t' }:=by
 have q:=PySem.IsL.update e f
 rw [hf] at q
 refine I.write (x:=l) (e:=l) (by rw [hH];exact trivial) (.inl rfl) (fun b' u hb hu=>(Heap.get?_update_other s.heap (Obj.mapSeq f) (Ne.symm hb)).trans hu) ⟨_,q⟩ ?_
 exact ⟨hz,its',_,hv,q⟩
theorem Inv.lnew {its:List Value}{t':Nat} (I:Inv X pins σ H s) (hv:Vals ys its) (hz:ys.length<=sizeLine):
  Inv X pins σ (upd H s.heap.objs.size (.lst ys)) { s with heap:=s.heap.push { cls:=.type "list", data:=.seq its.toArray },toks:=t' }:=
 I.laid (fun _ _ q=>Heap.get?_push_of_some _ q) (Nat.le_refl _) ⟨hz,its,0,hv,Heap.get?_push_size _ rfl⟩
theorem Inv.fresh (I:Inv X pins σ H s):H s.heap.objs.size=none:=I.hok.fresh (Nat.le_refl _)
theorem Inv.lstM (I:Inv X pins σ H s) (hH:H l=some (.lst xs)):xs.length<=sizeLine /\ ∃(its:List Value) (n:Nat),Vals xs its/\xs.length=its.length/\s.heap.get? l=some { cls:=.type "list", data:=.seq its.toArray n }:=by
 obtain ⟨z,its,n,r,e⟩:=I.hok l _ hH
 exact ⟨z,its,n,r,r.length,e⟩
theorem Zbu {n:Nat} (h:n<=sizeLine):Builtin.List.listTooLong n=false:=by
 unfold Builtin.List.listTooLong
 exact decide_eq_false (by lia)
end
section
variable {X:Cx}
def ZfU:V->List V->Hp->VK->Prop:=fun x vs H Q=>∃l xs y,x = .ref l/\vs = [y]/\H l=some (.lst xs)/\xs.length<sizeLine/\Q .non (upd H l (.lst (xs ++ [y])))
theorem Yt:MtM X "list.append" ZfU:=by
 intro pins s σ H x vs v us Q I rx rv h
 obtain ⟨l,xs,y,rfl,rfl,hH,hz,q⟩:=h
 cases rx
 obtain ⟨u,rfl,ru⟩:=rv.one
 obtain ⟨z,its,n,r,hl,e⟩:=I.lstM hH
 refine call_meets F.slot_list_append ⟨_,e,rfl⟩ F.entry_list_append (F.args_list_append_2 _ _) (PySem.list_append l its.toArray n u (by rw [List.size_toArray];lia)) ⟨e,?_⟩
 refine ⟨.non,_,I.lset (its':=its ++ [u]) hH e (by simp) (r.append (.cons ru .nil)) ?_,rfl,q⟩
 rw [List.length_append,List.length_singleton]
 lia
def Zlv:V->List V->Hp->VK->Prop:=fun x vs H Q=>∃l xs i k y,x = .ref l/\vs = [.int i]/\H l=some (.lst xs) /\ -(2 ^ 63)<=i/\i<2 ^ 63/\seqIndex? i xs.length=some k/\xs[k]? = some y/\Q y (upd H l (.lst (xs.eraseIdx k)))
theorem ZeC:MtM X "list.pop" Zlv:=by
 intro pins s σ H x vs v us Q I rx rv h
 obtain ⟨l,xs,i,k,y,rfl,rfl,hH,h1,h2,hk,hy,q⟩:=h
 cases rx
 obtain ⟨u,rfl,ru⟩:=rv.one
 obtain ⟨t,rfl⟩:=ru
 obtain ⟨z,its,n,r,hl,e⟩:=I.lstM hH
 obtain ⟨w,hw,rw'⟩:=r.get hy
 refine call_meets F.slot_list_pop ⟨_,e,rfl⟩ F.entry_list_pop (F.args_list_pop_2 _ _)
  (MeetsSeq.list_pop_at l its.toArray n i t k w (fitsIndex_both h1 h2) (by rw [List.size_toArray,<- hl];exact hk) (by rw [<- Array.getElem?_toList];exact hw) (by rw [List.size_toArray];lia)) ⟨e,?_⟩
 refine ⟨y,_,I.lset (its':=its.eraseIdx k) hH e ?_ (r.eraseIdx k) ?_,rw',q⟩
 ·show its.toArray.eraseIdxIfInBounds k=(its.eraseIdx k).toArray
  rw [List.eraseIdxIfInBounds_toArray]
 ·have:=Zcv xs k
  lia
def ZmY:R2:=fun x y H Q=>∃l b xs zs,x = .ref l/\y = .ref b/\H l=some (.lst xs)/\H b=some (.lst zs)/\xs.length+zs.length<=sizeLine /\ ∀p,H p=none->Q (.ref p) (upd H p (.lst (xs++zs)))
theorem Zau:OpR X (binaryOp .Add) ZmY:=by
 intro pins s σ H x y v u Q I rx ry h
 obtain ⟨l,b,xs,zs,rfl,rfl,hH,hB,hz,q⟩:=h
 cases rx
 cases ry
 obtain ⟨z,its,n,r,hl,e⟩:=I.lstM hH
 obtain ⟨z2,its2,n2,r2,hl2,e2⟩:=I.lstM hB
 refine PySem.P.add_list e e2 ?_ (by rw [List.size_toArray,List.size_toArray];lia)
 have ea:its.toArray++its2.toArray=(its++its2).toArray:=by simp
 rw [ea]
 exact ⟨.ref _,_,I.lnew (t':=s.toks) (r.append r2) (by rw [List.length_append];lia),rfl,q _ I.fresh⟩
def Zm8:R2:=fun x y H Q=>∃l k xs,x = .ref l/\y = .int k/\H l=some (.lst xs) /\ -(2 ^ 63)<=k/\k<2 ^ 63/\xs.length*k.toNat<=sizeLine /\
 ∀p,H p=none->Q (.ref p) (upd H p (.lst (List.replicate k.toNat xs).flatten))
theorem len_rep {α:Type} (xs:List α) (k:Nat):(List.replicate k xs).flatten.length=k*xs.length:=by
 induction k with
 | zero=>simp
 | succ k ih=>rw [List.replicate_succ,List.flatten_cons,List.length_append,ih,Nat.succ_mul,Nat.add_comm]
theorem ZkK:OpR X (binaryOp .Mult) Zm8:=by
 intro pins s σ H x y v u Q I rx ry h
 obtain ⟨l,k,xs,rfl,rfl,hH,h1,h2,hz,q⟩:=h
 cases rx
 obtain ⟨t,rfl⟩:=ry
 obtain ⟨z,its,n,r,hl,e⟩:=I.lstM hH
 have hlen:its.toArray.size*k.toNat<=sizeLine:=by rw [List.size_toArray,<- hl];exact hz
 have hcap:¬its.toArray.size*k.toNat>(2 ^ 63-1) / 8:=by
  have:(sizeLine:Nat)<=(2 ^ 63-1) / 8:=by decide
  lia
 have hfit:¬(!Builtin.List.listFitsIndex k)=true:=by
  rw [fitsIndex_both h1 h2]
  exact Bool.false_ne_true
 have hlong:¬Builtin.List.listTooLong (its.toArray.size*k.toNat)=true:=by
  rw [Zbu hlen]
  exact Bool.false_ne_true
 have hnew:List.foldl (fun x1 x2=>x1++x2) #[] (List.replicate (if its.toArray.isEmpty=true then 0 else k.toNat) its.toArray)=(List.replicate k.toNat its).flatten.toArray:=by
  have f0:∀m:Nat,List.foldl (fun x1 x2=>x1++x2) #[] (List.replicate m its.toArray)=(List.replicate m its).flatten.toArray:=fun m=>by
   have:=foldl_rep its m []
   rw [List.nil_append] at this
   exact this
  rw [f0]
  cases its with
  | nil=>simp
  | cons a r'=>rw [if_neg (by simp)]
 refine wpAny_binaryOp_repeat_ref (T := "list") (U := "int") (by decide) ⟨_,e,rfl⟩ (fun s'=>typeIs_int s' k t) noFill_list_mul F.fills_int_mul F.slot_int_rmul repeat_list F.slot_int_index.lookup
  (call_meets F.slot_int_rmul (typeIs_int s k t) F.entry_int_rmul (F.args_int_rmul_2 _ _) (int___rmul___int_list k t l its.toArray n)
   ⟨e,rfl,⟨_,e,rfl⟩,call_meets F.slot_list_mul ⟨_,e,rfl⟩ F.entry_list_mul (F.args_list_mul_2 _ _) (AutoListH.list___mul___list_int_3 l its.toArray n k t hfit hcap hlong) ⟨e,?_⟩⟩)
 rw [hnew]
 exact ⟨.ref _,_,I.lnew (t':=s.toks) (r.rep k.toNat) (by rw [len_rep,Nat.mul_comm];exact hz),rfl,q _ I.fresh⟩
end
section
variable {prog:Program}{w:World}{A:Around}{E:Value->Shared->Prop}{s:Shared}
theorem ZgG (its its2:List Value) (a c:Nat):its.toArray.extract 0 a++its2.toArray++its.toArray.extract c its.toArray.size=(its.take a++its2++its.drop c).toArray:=by
  apply Array.toList_inj.mp
  first
    | (simp
       exact List.take_of_length_le (by simp))
    | simp [List.take_of_length_le]
    | simp
theorem ZeL {a c n:Nat} (hac:a<=c) (hc:c<=n):sliceBounds (some (a:Int)) (some (c:Int)) none n=((a:Int),(c:Int),1):=by
 simp only [sliceBounds,Option.getD_none]
 have h1:¬((a:Int)<0):=by lia
 have h2:¬((c:Int)<0):=by lia
 simp only [h1,h2,if_false,show (1:Int)>0 by decide,if_true]
 congr 1
 ·lia
 ·congr 1;lia
set_option maxRecDepth 100000 in
theorem Zch {l b sl:Addr}{items new:Array Value}{n n2:Nat}{vl vu:Value}{a c:Nat}{Q:Unit->Shared->Prop}
    (e:s.heap.get? l=some { cls:=.type "list", data:=.seq items n }) (e2:s.heap.get? b=some { cls:=.type "list", data:=.seq new n2 }) (hne:l≠b)
    (hs:s.heap.IsSliceOf sl vl vu .none) (pl:IsPart vl (some (a:Int))) (pu:IsPart vu (some (c:Int))) (hac:a<=c) (hc:c<=items.size)
    (hsz:items.size+new.size<=sizeLine) (h:Q () { s with heap:=s.heap.update l (Obj.mapSeq fun xs=>xs.extract 0 a++new++xs.extract c xs.size) }):
    wpAny (model prog w) A (setItem (.ref l) (.ref sl) (.ref b)) Q E s:=by
  have hl:s.heap.IsList l items:=PySem.IsL.isList e
  have hb:s.heap.IsList b new:=PySem.IsL.isList e2
  obtain ⟨os,hos,hcs,hds⟩:=id hs
  have hTs:s.TypeIs (.ref sl) "slice" := ⟨os,hos,hcs⟩
  have hstep:¬((rawPart none==rawInt 0)=true):=Bool.false_ne_true
  have hsame:Builtin.List.listSameRef (.ref l) (.ref b)=false:=by
    unfold Builtin.List.listSameRef
    exact beq_eq_false_iff_ne.mpr hne
  have hmax:(max (a:Int) (c:Int)).toNat=c:=by lia
  have hz':((fun xs:Array Value=>xs.extract 0 a++new++xs.extract c xs.size) items).size<=sizeLine+1:=by
    simp only [Array.size_append,Array.size_extract]
    lia
  unfold setItem
  try with_reducible refine wpAny_holding ?_
  first | refine wpAny_bind (wpAny_pure ?_) | skip
  refine wpAny_bind (wpAny_sequenceKey hl.typeIs (by decide) ?_)
  refine wpAny_bind (wpAny_callSpecial?_slot (name:=Str.ofString "__setitem__") hl.typeIs slot_list_setitem
    (wpAny_call_entry slot_list_setitem hl.typeIs entry_list_setitem ?_ (args_list_setitem _ _ _)))
  show wpAny _ _ (Builtin.List.listSubscript? (.ref sl) >>= _) _ _ s
  refine wpAny_bind ?_
  unfold Builtin.List.listSubscript?
  refine wpAny_bind (wpAny_specialOf hTs slice_no_index ?_)
  simp only [Option.isNone_none,if_true]
  refine wpAny_pure ?_
  show wpAny _ _ (typeOf (.ref sl) >>= _) _ _ s
  refine wpAny_bind (wpAny_typeOf hTs ?_)
  first
    | rw [if_neg (by decide)]
    | refine PySem.W.KFB.if_not (by decide) ?_
  rw [listSliceParts_eq]
  refine wpAny_bind (wpAny_bind (wpAny_field hos hds (x:=.none) rfl (wpAny_bind (wpAny_listPart .none ?_))))
  rw [if_neg hstep]
  refine wpAny_bind (wpAny_field hos hds (x:=vl) rfl (wpAny_bind (wpAny_listPart pl ?_)))
  refine wpAny_bind (wpAny_field hos hds (x:=vu) rfl (wpAny_bind (wpAny_listPart pu (wpAny_pure ?_))))
  first
    | simp only [hsame,Bool.false_eq_true,if_false]
    | refine PySem.W.KFB.if_not hsame ?_
    | (dsimp only
       rw [if_neg (by rw [hsame];exact Bool.false_ne_true)])
  refine wpAny_bind (m:=Builtin.List.listAllItems (.ref b) "must assign iterable to extended slice") ?_
  unfold Builtin.List.listAllItems
  refine wpAny_bind (wpAny_typeOf hb.typeIs ?_)
  first
    | refine PySem.W.KFB.if_so (by decide) ?_
    | rw [if_pos (by decide)]
    | simp only [beq_self_eq_true,Bool.true_or,if_true]
  unfold Builtin.List.listItems
  refine wpAny_bind (wpAny_seqItems e2 rfl (wpAny_pure ?_))
  refine wpAny_bind (wpAny_bind (wpAny_seqItems e rfl (wpAny_pure ?_)))
  refine wpAny_bind (wpAny_of_eq ((sliceIndices_raw (some (a:Int)) (some (c:Int)) none items.size (by simp)).trans (congrArg (pure:Int×Int×Int->Sem (Int×Int×Int)) (ZeL hac hc))) ?_)
  show wpAny _ _ (if ((1:Int)==1)=true then _ else _) _ _ s
  rw [if_pos (by decide)]
  refine wpAny_bind (wpAny_rule ?_)
  first
    | simp only [Zbu hsz,Bool.false_eq_true,if_false]
    | refine PySem.W.KFB.if_not (Zbu hsz) ?_
  first | refine wpAny_bind (wpAny_pure ?_) | skip
  show wpAny _ _ (updateSeq l (fun xs=>xs.extract 0 ((a:Int)).toNat++new++xs.extract (max (a:Int) (c:Int)).toNat xs.size) >>= _) _ _ s
  rw [hmax,Int.toNat_natCast]
  refine wpAny_bind (wpAny_updateSeq (hz:=Nat.le_trans (Nat.le_add_right _ _) hsz) (_hz':=hz') e rfl ?_)
  refine wpAny_bind (wpAny_letGo ?_)
  first
    | exact wpAny_bind (wpAny_pure (wpAny_pure ⟨.none,rfl,wpAny_pure h⟩))
    | exact wpAny_pure ⟨.none,rfl,wpAny_pure h⟩
end
section
variable {X:Cx}
theorem ZgM {pins:List (Addr×Obj)}{s:Shared} {σ:St}{H:Hp}{l b sl:Addr}{xs ys:List V}{a c:Int}{vl vu:Value}{Q:Unit->Shared->Prop} (I:Inv X pins σ H s)
  (hH:H l=some (.lst xs)) (hB:H b=some (.lst ys)) (hne:l≠b) (hs:s.heap.IsSliceOf sl vl vu .none) (ra:RelV (.int a) vl) (rc:RelV (.int c) vu) (h0:0<=a) (hac:a<=c) (hc:c<=xs.length)
  (hz:xs.length+ys.length<=sizeLine) (h:∀s',Inv X pins σ (upd H l (.lst (xs.take a.toNat++ys++xs.drop c.toNat))) s'->Q () s'):
  wpAny (model X.prog X.w) X.A (setItem (.ref l) (.ref sl) (.ref b)) Q X.xe s:=by
 obtain ⟨ta,rfl⟩:=ra
 obtain ⟨tc,rfl⟩:=rc
 obtain ⟨z,its,n,r,hl,e⟩:=I.lstM hH
 obtain ⟨z2,its2,n2,r2,hl2,e2⟩:=I.lstM hB
 obtain ⟨a',rfl⟩:=Int.eq_ofNat_of_zero_le h0
 obtain ⟨c',rfl⟩:=Int.eq_ofNat_of_zero_le (Int.le_trans h0 hac)
 simp only [Int.toNat_natCast] at h
 refine Zch (a:=a') (c:=c') e e2 hne hs (.int _ _) (.int _ _) (by lia) (by rw [List.size_toArray];lia) (by rw [List.size_toArray,List.size_toArray];lia) (h _ ?_)
 refine I.lset (its':=its.take a'++its2++its.drop c') (t':=s.toks) hH e ?_ (Vals.append (Vals.append (r.take _) r2) (r.drop _)) ?_
 ·exact ZgG its its2 a' c'
 ·rw [List.length_append,List.length_append,List.length_take,List.length_drop]
  lia
end
end L2
namespace Att
open PySem PySem.W PySem.Calls PyProof.Rows
theorem ZaZ {P:Params}{h:Heap}:∀(ns:List Int) (vs:List Value),WellAll P h vs (ns.map WData.int)->IntsAre vs ns:=by
 intro ns
 induction ns with
 | nil=>
  intro vs w
  rw [List.map_nil] at w
  cases w
  exact .nil
 | cons n ns ih=>
  intro vs w
  rw [List.map_cons] at w
  cases w with
  | cons a b=>
   cases a
   exact .cons _ _ (ih _ b)
theorem Zg2 {l:OpenLaw}{n:Nat} (hn:l.most=some n) {P:Params}{h:Heap}{args:List WData}{vals:List Value}
  (hpre:l.row.toRowW.claim.pre args=true) (hwl:WellAll P h vals args):
  ∃a vs ns,vals = [Value.ref a]/\args = [WData.list (ns.map WData.int)]/\h.get? a=some { cls:=.type "list", data:=.seq vs.toArray } /\ IntsAre vs ns/\ns.length<=n:=by
 have hsh:WShape.hasAll [] args [.list .int]=true:=(pre_splitW hpre).1
 have hc:l.pre.holds [] { args:=args } = true:=(pre_splitW hpre).2
 obtain ⟨d,r,rfl,h1,h2⟩:=hasAllW_cons hsh
 obtain rfl:=hasAllW_nil h2
 obtain ⟨xs,rfl,h3⟩:=hasW_list h1
 obtain ⟨ns,rfl⟩:=items_int h3
 have hlen:ns.length<=n:=by
  unfold OpenLaw.pre at hc
  have h4:(WTm.not (.lt (.lit (.int (n:Int))) (.len (.arg 0)))).holds [] { args:=[.list (ns.map .int)] } = true:=by
   have h4:=(holds_andW hc).1
   rw [hn] at h4
   exact h4
  have h5:=condW_of h4 (w_not (w_lt w_lit (w_len_list (w_arg rfl))))
  rw [List.length_map] at h5
  refine Nat.le_of_not_lt fun q=>?_
  have q':(n:Int)<((ns.length:Nat):Int):=by lia
  first
   | (rw [decide_eq_true q'] at h5;exact absurd h5 (by decide))
   | (simp at h5;lia)
 cases hwl with
 | cons w1 w2=>
  cases w2
  cases w1 with
  | list ho hall=>exact ⟨_,_,ns,rfl,rfl,ho,ZaZ ns _ hall,hlen⟩
theorem Zg1 (l:OpenLaw) (args:List WData):l.row.toRowW.claim.post args (.bool true) args=true:=
 postW_of (r:=l.row.toRowW) (X:=(true==true))
  (show WShape.has [] (.bool true) .bool=true by first | rfl | decide | simp [WShape.has,WShape.arms,WShape.armsAll])
  (show (WTm.eq .res (.lit (.bool true))).value [] { args:=args,res:=some (.bool true),after:=args } = some (.bool (true==true)) from w_eq_bool (w_res rfl) w_lit) rfl
theorem Zer {l:OpenLaw}{n:Nat}{q:Program}{loose:List Str}{XP:(Str->Option Value)->Heap->Prop}{YP:World->Heap->Prop}{d:DefRec}
  (hn:l.most=some n) (hdf:d.params.defaults = [])
  (call:∀(w:World) (s₀ s₁:Shared) (mg mb:Str->Option Value) (fa:Addr) (o:Obj) (pm cd doc:Value) (a:Addr) (vs:List Value) (ns:List Int),
   Ground q loose [] XP w s₀ mg mb s₁.heap->YP w s₁.heap ->
   s₁.heap.get? fa=some o->o.data = .func (docDef d.name d.params d.body d.scope pm cd doc)->s₁.heap.CodeRec cd d.name->mg d.name=some (.ref fa) ->
   s₁.heap.get? a=some { cls:=.type "list", data:=.seq vs.toArray } -> IntsAre vs ns->ns.length<=n->s₁.gens = #[] ->
   codeAny (model l.prog w) callerA (.call (.ref fa) ⟨[.ref a],[]⟩) (fun r s'=>r = .ok (.ret (.bool true))/\OldK s₁.heap s'.heap/\s'.os=s₁.os/\AllBare s'.gens) s₁):
  WalkO q loose XP YP l.row.toRowW d [] (fun f vs=>PySem.call f vs):=by
 intro w s₀ s₁ mg mb G Y fa o pm cd doc dV kV ho hd hcd hD hmg hg args vals as hpre hlay hrd hwl hlo
 obtain rfl:dV = .none:=Dflts.none hD hdf
 obtain rfl:kV = .none:=Dflts.noKw hD
 obtain ⟨a,vs,ns,rfl,rfl,hobj,hints,hlen⟩:=Zg2 hn hpre hwl
 refine enter_call (codeAny_mono (call w s₀ s₁ mg mb fa o pm cd doc a vs ns G Y ho (fd_plain hd) hcd hmg hobj hints hlen hg) fun r s' hq=>?_)
 obtain ⟨rfl,h2,h3,h4⟩:=hq
 exact ⟨.inl ⟨.bool true,.bool true,[],rfl,fun _=>rfl,.bool true,Zg1 l _,fun _=>⟨List.Pairwise.nil,fun _ hm=>(nomatch hm)⟩⟩,h2,h3,h4⟩
section
variable {prog:Program}{w:World}{A:Around}{E:Value->Shared->Prop}{s:Shared}{K:Frag}
def ledger (h:Heap) (L d:Addr):List (Addr×Obj):=(List.range h.objs.size).filterMap fun a=>if a=L∨a=d then none else (h.get? a).map fun o=>(a,o)
end
end Att
namespace L2
open PySem PySem.Spec PyProof.Rows
theorem ZaE:∀{vs:List Value}{ns:List Int},IntsAre vs ns->Vals (ns.map V.int) vs
 | _,_,.nil=>.nil
 | _,_,.cons n t h=>.cons ⟨t,rfl⟩ (ZaE h)
def ZlR (H:Hp):Prop:=∀b,H b=none ∨ ∃o xs,H b=some (.frz o (.lst xs))
theorem ZhO {P:Program}{w:World}{K:PySem.W.Frag}{mg mb:Str->Option Value}{CX:CXT}{k:Nat}{fa a:Addr}{fd:FuncData}{x:Str}{sp:Sp}{s₁:Shared}{vs:List Value}{ns:List Int}
  (KX:K.In s₁.heap) (hns:s₁.heap.Ns mainGlobals mg) (hb:s₁.heap.Ns builtinsNs mb) (hbb:∀x:Str,x ≠ "__name__" -> mb x=bootBuiltins x) (hlim:s₁.heap.NoLimit) (hg:s₁.gens = #[])
  (ha:s₁.heap.get? a=some { cls:=.type "list", data:=.seq vs.toArray }) (hi:IntsAre vs ns) (hl:ns.length<=sizeLine) (hr:JE k callerA)
  (F:∀base:Heap,K.In base->base.Ns mainGlobals mg->Yj P w K mg base CX k fa fd [x] sp) (hbind:∀(s:Shared) (u:Value),BindsTo s fd ⟨[u],[]⟩ [(x,u)])
  (hsp:∀H:Hp,ZlR H->Zo K H a (ns.map V.int)->sp [.ref a] H (fun v _=>v = .bl true) fun _ _ _=>False)
  (hCX:∀H e s',CX [] H s₁ (fun _ _ _=>False) e s'->False):
  codeAny (model P w) callerA (.call (.ref fa) ⟨[.ref a],[]⟩) (fun r s'=>r = .ok (.ret (.bool true))/\OldK s₁.heap s'.heap/\s'.os=s₁.os/\AllBare s'.gens) s₁:=by
 have rv:=ZaE hi
 have lenV:=hi.length
 have core:∀H:Hp,ZlR H->Zo K H a (ns.map V.int)->Gj P w H s₁.heap->(∀b,H b≠none->b=a)->(H a≠none->K.lookup a=none) ->
   codeAny (model P w) callerA (.call (.ref fa) ⟨[.ref a],[]⟩) (fun r s'=>r = .ok (.ret (.bool true))/\OldK s₁.heap s'.heap/\s'.os=s₁.os/\AllBare s'.gens) s₁:=by
  intro H hO hS hok hA hK
  have base_of:∀{b:Addr}{o:Obj},s₁.heap.get? b=some o->H b=none->(Zdk s₁.heap H).get? b=some o:=fun e n=>ZiB e n
  have noA:∀{b:Addr}{o:Obj}{es:Array DictEntry}{ep:Nat},s₁.heap.get? b=some o->o.data = .dict es ep->H b=none:=fun {b o es ep} e d=>by
   cases q:H b with
   | none=>rfl
   | some u=>
    have e':b=a:=hA b (by rw [q];simp)
    subst e'
    rw [ha] at e;cases e
    have d':Data.seq vs.toArray _=Data.dict es ep:=d
    cases d'
  have nsK:∀{b:Addr}{m:Str->Option Value},s₁.heap.Ns b m->(Zdk s₁.heap H).Ns b m:=fun {b m} ⟨o,es,ep,e,d,r⟩=>⟨o,es,ep,base_of e (noA e d),d,r⟩
  have hKb:K.In (Zdk s₁.heap H):=fun b o e=>base_of (KX b o e) (by
   cases q:H b with
   | none=>rfl
   | some u=>
    have e':b=a:=hA b (by rw [q];simp)
    subst e'
    rw [hK (by rw [q];simp)] at e;cases e)
  have hM:Mod K mg (Zdk s₁.heap H):=⟨hKb,nsK hns,⟨mb,nsK hb,hbb⟩,let ⟨mc,h1,h2⟩:=hlim;⟨mc,nsK h1,h2⟩⟩
  have e0:ZhY P w K mg (Zdk s₁.heap H) callerA [] s₁ H:=⟨rfl,hM,fun b o e=>ZjI e,Nat.le_of_eq (Zgx _ _),trivial,fun b hb=>absurd (show b∈([]:List Addr) from hb) (by simp),hok,.of_eq hg⟩
  refine codeAny_mono ((F _ hKb (nsK hns)).run callerA [] s₁ H ⟨[.ref a],[]⟩ [.ref a] [.ref a] _ _ hr e0 (hbind s₁ (.ref a)) (.cons rfl .nil) (hsp H hO hS)) fun r s' h=>?_
  cases r with
  | error e=>exact (hCX H e s' h).elim
  | ok fl=>
   cases fl with
   | next=>exact False.elim h
   | brk=>exact False.elim h
   | cont=>exact False.elim h
   | ret u=>
    obtain ⟨v,H',os,bare,un,hok',r',q⟩:=h
    have q':v = .bl true:=q
    subst q'
    obtain rfl:u=Value.bool true:=r'
    refine ⟨rfl,OldK.of_keep fun b o e=>?_,os,bare⟩
    cases q:H b with
    | none=>exact un.keep b o e q (by intro z;exact absurd (show b∈([]:List Addr) from z) (by simp)) (by simp)
    | some u=>
     rcases hO b with z | ⟨ob,xs,z⟩
     ·rw [q] at z;cases z
     ·have z2:=un.frzs b ob _ z
      obtain ⟨e1,_⟩:=hok b _ z
      obtain ⟨e2,_⟩:=hok' b _ z2
      rw [e] at e1;cases e1
      exact e2
 cases hk:K.lookup a with
 | some o=>
  have e:=KX a o hk
  rw [ha] at e
  cases e
  refine core (fun _=>none) (fun _=>.inl rfl) (.inr ⟨_,vs.toArray,_,hk,rfl,rfl,rfl,by rw [List.size_toArray,lenV];exact hl,by simpa using rv⟩) (fun b u z=>by have z':(none:Option HO)=some u:=z;cases z') (fun b z=>absurd rfl z) fun z=>absurd rfl z
 | none=>
  refine core (fun b=>if b=a then some (.frz { cls:=.type "list", data:=.seq vs.toArray } (.lst (ns.map V.int))) else none) (fun b=>?_) (.inl (.inr ⟨{ cls:=.type "list", data:=.seq vs.toArray },if_pos rfl⟩)) (fun b u z=>?_) (fun b z=>?_) fun _=>hk
  ·by_cases hb:b=a
   ·exact .inr ⟨_,_,if_pos hb⟩
   ·exact .inl (if_neg hb)
  ·by_cases hb:b=a
   ·have z':=(if_pos hb).symm.trans z
    cases z'
    subst hb
    exact ⟨ha,by rw [List.length_map];exact hl,vs,_,rv,ha⟩
   ·have z':=(if_neg hb).symm.trans z
    cases z'
  ·by_cases hb:b=a
   ·exact hb
   ·exact absurd (if_neg hb) z
abbrev KOf {K:PySem.W.Frag}{h:Heap} (_:K.In h):PySem.W.Frag:=K
theorem ZjK {l:PySem.W.OpenLaw}{n k:Nat}{q:Program}{loose:List Str}{XP:(Str->Option Value)->Heap->Prop}{YP:World->Heap->Prop}{d:DefRec}{K:Params->PySem.W.Frag}{CX:World->CXT}{sp:World->Sp}{x:Str}
  (hn:l.most=some n) (hn2:n<=sizeLine) (hdf:d.params.defaults = []) (hr:JE k callerA)
  (hY:∀(w:World) (h:Heap),YP w h->(K w.params).In h)
  (F:∀(w:World) (mg:Str->Option Value) (fa:Addr) (h:Heap),(K w.params).In h->h.Ns mainGlobals mg->mg d.name=some (.ref fa) ->
   ∃fd:FuncData,(∀(s:Shared) (u:Value),BindsTo s fd ⟨[u],[]⟩ [(x,u)]) /\
    ∀base:Heap,(K w.params).In base->base.Ns mainGlobals mg->Yj l.prog w (K w.params) mg base (CX w) k fa fd [x] (sp w))
  (hsp:∀(w:World) (H:Hp) (a:Addr) (ns:List Int),ns.length<=n->ZlR H->Zo (K w.params) H a (ns.map V.int)->sp w [.ref a] H (fun v _=>v = .bl true) fun _ _ _=>False)
  (hCX:∀(w:World) (H:Hp) (s:Shared) (e:Value) (s':Shared),CX w [] H s (fun _ _ _=>False) e s'->False):
  PySem.W.WalkO q loose XP YP l.row.toRowW d [] (fun f vs=>PySem.call f vs):=by
 refine Att.Zer hn hdf fun w s₀ s₁ mg mb fa o pm cd doc a vs ns G Y ho hd hcd hmg hobj hints hlen hg=>?_
 have KX:=hY w _ Y
 obtain ⟨fd,hb,hF⟩:=F w mg fa _ KX G.T.g hmg
 exact ZhO KX G.T.g G.T.b G.T.builtins G.T.nolimit hg hobj hints (Nat.le_trans hlen hn2) hr hF hb (fun H hO hS=>hsp w H a ns hlen hO hS) fun H e s'=>hCX w H s₁ e s'
def U1 (s:Stmt):Arguments:=match s with
 | .FunctionDef _ a _ _ _ _ _ _ _ _=>a
 | _=>{ posonlyargs:=[],args:=[],vararg:=none,kwonlyargs:=[],kw_defaults:=[],kwarg:=none,defaults:=[] }
def Gw (s:Stmt):List Stmt:=match s with
 | .FunctionDef _ _ b _ _ _ _ _ _ _=>b
 | _=>[]
def Zl (s:Stmt):Scope:=match s with
 | .FunctionDef _ _ _ _ _ _ sc _ _ _=>sc
 | _=>{ kind:=.function,names:=[],isGenerator:=false,isCoroutine:=false }
abbrev GV:CXT:=fun _ _ _ _ _ _=>False
abbrev E0:XK:=fun _ _ _=>False
theorem ZhC {X:Cx}:Passes GV X E0:=fun _ _ _ _ _ _ _ h=>h.elim
structure Y8 (K:PySem.W.Frag) (x qual:Str) (st:Stmt) (f:Addr) (fd:FuncData):Prop where
 ex:∃(oc:Value) (od:Option Addr) (kV doc pm:Value) (an:Option Addr) (cdv ct:Value) (osl:Array (Option Value)),
  fd=PySem.W.fnOf x qual (U1 st) (Gw st) (Zl st) .none kV doc pm an cdv ct/\K.lookup f=some ⟨oc,od,.func fd,osl⟩/\PySem.W.codeIn K cdv qual=true
 kp:PySem.W.keepIn K (.ref f)=true
section
variable {P:Program}{w:World}{K:PySem.W.Frag}{mg:Str->Option Value}{base:Heap}
theorem Y8.ok {x qual:Str}{st:Stmt}{f:Addr}{fd:FuncData}{N ps:List Str}{k:Nat}{sp:Sp} (F:Y8 K x qual st f fd) (S:ZF N ps (Zl st)) (len:∀vs H Q E,sp vs H Q E->vs.length=ps.length)
  (hbody:∀(cdv:Value) (A:Around) (outer:List Env) (s:Shared) (H:Hp) (vs:List V) (Q:VK) (E:XK),JE k (A.deeper (envOfC qual (Zl st) s.heap.objs.size f cdv))->sp vs H Q E ->
   ∃t,PSs (JS GV P w K mg base N qual (Zl st) f cdv A outer s H E).nox (Gw st) t/\t { nx:=fun _ H'=>Q .non H',rt:=Q } (start N vs) H):Yj P w K mg base GV (k+1) f fd ps sp:=by
 obtain ⟨oc,od,kV,doc,pm,an,cdv,ct,osl,rfl,lk,hcd⟩:=F.ex
 refine Zkq lk hcd S len fun A outer s H vs Q E hr hsp=>?_
 obtain ⟨t,h,q⟩:=hbody cdv A outer s H vs Q E hr hsp
 exact ⟨t,h.nox,q⟩
theorem Y8.binds {x qual:Str}{st:Stmt}{f:Addr}{fd:FuncData}{ps:List Str} (F:Y8 K x qual st f fd)
  (h:∀(kV doc pm:Value) (an:Option Addr) (cdv ct:Value) (us:List Value),us.length=ps.length->bindArgs (PySem.W.fnOf x qual (U1 st) (Gw st) (Zl st) .none kV doc pm an cdv ct) ⟨us,[]⟩=pure (ps.zip us)):Binds K fd ps []:=by
 obtain ⟨oc,od,kV,doc,pm,an,cdv,ct,osl,rfl,lk,hcd⟩:=F.ex
 exact .all (h kV doc pm an cdv ct)
theorem ZW {x qual:Str}{st:Stmt}{f:Addr}{oc:Value}{od an:Option Addr}{osl:Array (Option Value)}{kV doc pm cdv ct:Value} (l:K.lookup f=some ⟨oc,od,.func (PySem.W.fnOf x qual (U1 st) (Gw st) (Zl st) .none kV doc pm an cdv ct),osl⟩)
  (c:PySem.W.codeIn K cdv qual=true) (k:PySem.W.keepIn K (.ref f)=true):Y8 K x qual st f (PySem.W.fnOf x qual (U1 st) (Gw st) (Zl st) .none kV doc pm an cdv ct):=⟨⟨oc,od,kV,doc,pm,an,cdv,ct,osl,rfl,l,c⟩,k⟩
end
theorem Y0 {A:Around}{k:Nat} (hr:JE k A):A.units+1<cLine:=Nat.lt_of_le_of_lt (Nat.add_le_add_left (by decide:1<=64) _) hr.units
theorem ZI {n:Nat} (h:n<=1000):n<sizeLine:=Nat.lt_of_le_of_lt h (by decide)
section
variable {X:Cx}
theorem pv (i:Nat) {x:Str}{pos:Pos} (hN:X.N[i]? = some x:=by rfl) (hv:Vis X.env.scope x:=by first | exact Or.inl rfl | exact Or.inr (Or.inl rfl) | exact Or.inr (Or.inr rfl)) (hd:(x==("__debug__" : Str))=false:=by decide)
  (hcd:(x==("__classdict__" : Str))=false:=by decide):PE X (.Name x pos) (Zdy i):=Zlu hN hv hd hcd
end
theorem ZgX {A B:Prop} (h:B):if false=true then A else B:=by
 rw [if_neg Bool.false_ne_true]
 exact h
theorem GA {A B:Prop} (h:A):if true=true then A else B:=by
 rw [if_pos rfl]
 exact h
theorem Y1 {c A B:Prop} [Decidable c] (h1:c->A) (h2:¬c->B):if c then A else B:=by
 by_cases h:c
 ·rw [if_pos h]
  exact h1 h
 ·rw [if_neg h]
  exact h2 h
theorem Zkw {c A B:Prop} [Decidable c] (hc:c) (h:B):if (!decide c)=true then A else B:=by
 rw [decide_eq_true hc]
 exact ZgX h
def Zf (H H':Hp):Prop:=∀b o,H b=some o->H' b=some o
theorem Zf.refl (H:Hp):Zf H H:=fun _ _ h=>h
theorem Zf.trans {H H1 H2:Hp} (a:Zf H H1) (b:Zf H1 H2):Zf H H2:=fun c o h=>b c o (a c o h)
theorem Zf.free {H H':Hp} (e:Zf H H') {l:Addr} (h:H' l=Option.none):H l=Option.none:=by
 cases q:H l with
 | none=>rfl
 | some o=>
  rw [e l o q] at h
  cases h
theorem Zf.seq {K:PySem.W.Frag}{H H':Hp}{a:Addr}{xs:List V} (e:Zf H H') (h:Zo K H a xs):Zo K H' a xs:=by
 rcases h with (h | ⟨o,h⟩) | h
 ·exact .inl (.inl (e _ _ h))
 ·exact .inl (.inr ⟨o,e _ _ h⟩)
 ·exact .inr h
end L2
set_option maxHeartbeats 4000000
namespace L2
open PySem PySem.Spec PyProof.Rows
section
variable {prog:Program}{w:World}{A:Around}{R:Result->Shared->Prop}{s:Shared}
theorem ZgC {elt target iter:Expr}{ifs:List Expr}{scope:Scope}{pos:Pos}{it acc:Value}{env:Env} (I:Nat->Shared->Prop)
  (turn:∀n s,I n s->wpAny (model prog w) A (pyNext it) (fun r s₁=>match r with
   | none=>R (.ok .next) s₁
   | some v=>wpAny (model prog w) A (letOwnedTupleGo target it v) (fun _ s₁'=>wpAny (model prog w) A (assign target env v) (fun _ s₂=>
     wpAny (model prog w) A (forIn ifs true fun c r=>if r=true then do let ok <- isTrue c env (eval c env);pure (ForInStep.yield ok) else pure (ForInStep.yield r)) (fun ok s₃=>
      if ok=true then wpAny (model prog w) A (eval elt env) (fun x s₄=>
       wpAny (model prog w) A (call (.builtin "list.append") [acc,x]) (fun _ s₅=>∃m,m<n/\I m s₅) (fun _ _=>False) s₄) (fun _ _=>False) s₃
      else ∃m,m<n/\I m s₃) (fun _ _=>False) s₂) (fun _ _=>False) s₁') (fun _ _=>False) s₁) (fun _ _=>False) s)
  (n:Nat) (h:I n s):codeAny (model prog w) A (.compLoop (.ListComp elt [⟨target,iter,ifs,0⟩] scope pos) 0 it acc env) R s:=by
 refine codeAny_loop rfl I (fun n s hI=>?_) n h
 show wpAny _ A ((compTurn (.ListComp elt [⟨target,iter,ifs,0⟩] scope pos) 0 it acc env).onRaise (fun x=>do noteFrame x env;theTreesLotGoes x)) _ _ s
 refine wpAny_noted ?_
 rw [compTurn_list]
 refine wpAny_bind (wpAny_standAt (wpAny_bind (wpAny_mono (turn n s hI) (fun r s₁ h₁=>?_) fun _ _ h'=>h'.elim)))
 cases r with
 | none=>exact wpAny_pure h₁
 | some v=>
  refine wpAny_bind (wpAny_mono h₁ (fun _ s₁' h₁'=>?_) fun _ _ h'=>h'.elim)
  refine wpAny_bind (wpAny_mono h₁' (fun _ s₂ h₂=>wpAny_bind (wpAny_mono h₂ (fun ok s₃ h₃=>?_) fun _ _ h'=>h'.elim)) fun _ _ h'=>h'.elim)
  cases ok with
  | false=>exact wpAny_pure ⟨rfl,h₃⟩
  | true=>
   exact wpAny_bind (wpAny_bind (wpAny_mono h₃ (fun x s₄ h₄=>wpAny_bind (wpAny_mono h₄ (fun _ s₅ h₅=>wpAny_pure (wpAny_pure ⟨rfl,h₅⟩)) fun _ _ h'=>h'.elim)) fun _ _ h'=>h'.elim))
end
theorem Zdb (env:Env) (f:Str×NameKind->List (Str×Addr)->Sem (ForInStep (List (Str×Addr))))
  (hf:∀n k r,f (n,k) r=if (k==NameKind.free)=true then (do let a <- cellOf env n;pure (ForInStep.yield ((n,a)::r))) else pure (ForInStep.yield r)):
  ∀(ns:List (Str×NameKind)) (acc:List (Str×Addr)),(∀y∈ns,y.2 = .free -> ∃c,env.cells.lookup y.1=some c)->(∀x c,acc.lookup x=some c->env.cells.lookup x=some c) ->
   ∃cl,forIn ns acc f=pure cl/\(∀x c,cl.lookup x=some c->env.cells.lookup x=some c)/\(∀y∈ns,y.2 = .free -> ∃c,cl.lookup y.1=some c)/\(∀x c,acc.lookup x=some c -> ∃c',cl.lookup x=some c')
 | [],acc,_,ha=>⟨acc,by rw [List.forIn_nil],ha,fun _ h=>(nomatch h),fun x c h=>⟨c,h⟩⟩
 | (n,k)::r,acc,hn,ha=>by
  rw [List.forIn_cons,hf]
  by_cases hk:k = .free
  ·subst hk
   obtain ⟨c,hc⟩:=hn (n,.free) List.mem_cons_self rfl
   have hc':env.cells.lookup n=some c:=hc
   have e1:cellOf env n=pure c:=by unfold cellOf;rw [hc']
   obtain ⟨cl,h1,h2,h3,h4⟩:=Zdb env f hf r ((n,c)::acc) (fun y hy=>hn y (List.mem_cons_of_mem _ hy)) (fun x c' hx=>by
    rw [List.lookup_cons] at hx
    cases e:x==n with
    | true=>
     rw [e] at hx
     have:x=n:=by simpa using e
     subst this
     rw [<- Option.some.inj hx];exact hc'
    | false=>rw [e] at hx;exact ha x c' hx)
   refine ⟨cl,?_,h2,fun y hy hyf=>?_,fun x c' hx=>?_⟩
   ·rw [if_pos (by rfl),e1]
    exact h1
   ·rcases List.mem_cons.mp hy with e | hy
    ·subst e
     exact h4 n c (by simp)
    ·exact h3 y hy hyf
   ·cases e:x==n with
    | true=>exact h4 x c (by rw [List.lookup_cons,e])
    | false=>exact h4 x c' (by rw [List.lookup_cons,e];exact hx)
  ·have hk':(k==NameKind.free)=false:=by simpa using hk
   obtain ⟨cl,h1,h2,h3,h4⟩:=Zdb env f hf r acc (fun y hy=>hn y (List.mem_cons_of_mem _ hy)) ha
   refine ⟨cl,?_,h2,fun y hy hyf=>?_,h4⟩
   ·rw [hk',if_neg Bool.false_ne_true]
    exact h1
   ·rcases List.mem_cons.mp hy with e | hy
    ·subst e
     exact absurd hyf hk
    ·exact h3 y hy hyf
theorem Zge {scope:Scope}{env:Env} (h:∀y∈scope.names,y.2 = .free -> ∃c,env.cells.lookup y.1=some c):
  ∃cl,closureFor scope env=pure cl/\(∀x c,cl.lookup x=some c->env.cells.lookup x=some c)/\(∀y∈scope.names,y.2 = .free -> ∃c,cl.lookup y.1=some c):=by
 obtain ⟨cl,h1,h2,h3,_⟩:=Zdb env (fun x r=>match x with
  | (n,k)=>if (k==NameKind.free)=true then (do let a <- cellOf env n;pure (ForInStep.yield ((n,a)::r))) else pure (ForInStep.yield r)) (fun _ _ _=>rfl) scope.names [] h (fun x c q=>by simp at q)
 refine ⟨cl,?_,h2,h3⟩
 unfold closureFor
 refine Eq.trans ?_ h1
 have e:∀(m:Sem (List (Str×Addr))),(m >>= fun r=>(pure r >>= fun r=>pure r))=m:=fun m=>by simp only [pure_bind,bind_pure]
 exact e _
def ZaB (n:Nat) (fi:List Nat) (σ:St):St:=List.replicate n none++fi.map fun i=>σ.getD i none
def Wn:TT:=fun _ H Q=>Q true H
def PTs (X:Cx) (ifs:List Expr) (t:TT):Prop:=
 ∀(pins:List (Addr×Obj)) (s:Shared) (σ:St) (H:Hp) (Q:Bool->Hp->Prop),Inv X pins σ H s->t σ H Q ->
  wpAny (model X.prog X.w) X.A (forIn ifs true fun c r=>if r=true then do let ok <- isTrue c X.env (eval c X.env);pure (ForInStep.yield ok) else pure (ForInStep.yield r)) (TP X pins σ Q) X.xe s
theorem Z0 {X:Cx}:PTs X [] Wn:=fun pins s σ H Q I h=>wpAny_tests_nil ⟨H,I,h⟩
theorem ZdD {X:Cx}{c:Expr}{t:TT} (h:PT X c t):PTs X [c] t:=fun pins s σ H Q I q=>wpAny_tests_one (h pins s σ H Q I q)
structure ZO (N:List Str) (osc scope:Scope) (Ls Fs:List Str) (fi:List Nat):Prop where
 kind:scope.kind = .function
 cells:∀y∈scope.names,y.2 ≠ .cell
 names:∀y∈scope.names,y.2 = .local->scope.names.lookup y.1=some .local
 fre:∀x∈Fs,scope.names.lookup x=some .free
 all:∀y∈scope.names,y.2 = .free->osc.names.lookup y.1=some .cell∨osc.names.lookup y.1=some .free
 ix:fi.map (fun i=>N[i]?)=Fs.map some
def blk (X:Cx) (scope:Scope) (N:List Str) (cl:List (Str×Addr)) (C:Addr) (s3:Shared) (H3:Hp) (ex:List Addr):Cx:=
 { X with N:=N,s₀:=s3,H₀:=H3,env:=compEnvC scope cl C X.env,outer:=X.stack,stack:=X.stack,ex:=ex,fn:=fun _=>false,pn:=[],xe:=fun _ _=>False }
theorem UZ {env:Env}:∀{names:List (Str×NameKind)}{x:Str},(∀y∈names,y.2 ≠ .cell) ->
    ((names.map fun (n,k)=>if (k==NameKind.free&&env.scope.kind == .function&&env.kindOf n==some .cell) then (n,NameKind.cell) else (n,k)).lookup x=some .cell ∨
     (names.map fun (n,k)=>if (k==NameKind.free&&env.scope.kind == .function&&env.kindOf n==some .cell) then (n,NameKind.cell) else (n,k)).lookup x=some .free) -> ∃y∈names,y.1=x/\y.2 = .free
  | [],_,_,h=>by simp at h
  | (n,k)::r,x,hc,h=>by
    have ih:=@UZ env r x (fun y hy=>hc y (List.mem_cons_of_mem _ hy))
    cases hx:x==n with
    | true=>
      have e:x=n:=by simpa using hx
      subst e
      by_cases hb:(k==NameKind.free&&env.scope.kind == .function&&env.kindOf x==some .cell)=true
      · have:k = .free:=by
          simp only [Bool.and_eq_true,beq_iff_eq] at hb
          exact hb.1.1
        exact ⟨(x,k),List.mem_cons_self,rfl,this⟩
      · simp only [List.map_cons,if_neg hb,List.lookup_cons,hx] at h
        rcases h with h | h
        · exact absurd (Option.some.inj h) (hc (x,k) List.mem_cons_self)
        · exact ⟨(x,k),List.mem_cons_self,rfl,Option.some.inj h⟩
    | false=>
      have h':((r.map fun (n,k)=>if (k==NameKind.free&&env.scope.kind == .function&&env.kindOf n==some .cell) then (n,NameKind.cell) else (n,k)).lookup x=some .cell ∨
        (r.map fun (n,k)=>if (k==NameKind.free&&env.scope.kind == .function&&env.kindOf n==some .cell) then (n,NameKind.cell) else (n,k)).lookup x=some .free):=by
        by_cases hb:(k==NameKind.free&&env.scope.kind == .function&&env.kindOf n==some .cell)=true
        · simpa only [List.map_cons,if_pos hb,List.lookup_cons,hx] using h
        · simpa only [List.map_cons,if_neg hb,List.lookup_cons,hx] using h
      obtain ⟨y,hy,z⟩:=ih h'
      exact ⟨y,List.mem_cons_of_mem _ hy,z⟩
theorem UP {env:Env}{x:Str}:∀{names:List (Str×NameKind)},names.lookup x=some .free ->
    ((names.map fun (n,k)=>if (k==NameKind.free&&env.scope.kind == .function&&env.kindOf n==some .cell) then (n,NameKind.cell) else (n,k)).lookup x=some .cell ∨
     (names.map fun (n,k)=>if (k==NameKind.free&&env.scope.kind == .function&&env.kindOf n==some .cell) then (n,NameKind.cell) else (n,k)).lookup x=some .free)
  | [],h=>by simp at h
  | (n,k)::r,h=>by
    cases hx:x==n with
    | true=>
      have e:x=n:=by simpa using hx
      subst e
      rw [List.lookup_cons,hx] at h
      have hk:k = .free:=Option.some.inj h
      subst hk
      by_cases hb:(NameKind.free==NameKind.free&&env.scope.kind == .function&&env.kindOf x==some .cell)=true
      · left;simp only [List.map_cons,if_pos hb,List.lookup_cons,hx]
      · right;simp only [List.map_cons,if_neg hb,List.lookup_cons,hx]
    | false=>
      rw [List.lookup_cons,hx] at h
      have ih:=@UP env x r h
      by_cases hb:(k==NameKind.free&&env.scope.kind == .function&&env.kindOf n==some .cell)=true
      · simpa only [List.map_cons,if_pos hb,List.lookup_cons,hx] using ih
      · simpa only [List.map_cons,if_neg hb,List.lookup_cons,hx] using ih
theorem aLt {h:Heap}{b:Addr}{o:Obj} (e:h.get? b=some o):@LT.lt Nat _ b h.objs.size:=Heap.lt_size e
def LcW (J:It) (σ:St) (g:TG) (tc:TT) (te:TE) (H:Hp) (Q:VK):Prop:=
 ∃W:Nat->Nat->List V->Hp->Prop,(∃m,W 0 m [] H) /\ ∀i m ys H,W i m ys H ->
  (J.stop i H/\ys.length<=sizeLine /\ ∀D,H D=none->Q (.ref D) (upd H D (.lst ys))) ∨
  (J.go i H/\ys.length<=sizeLine /\ ∃N:List V->Hp->Prop,(∀ys' H',N ys' H' -> ∃m',m'<m/\W (i+1) m' ys' H') /\ ∀x H',J.yld i H x H'->g x σ H' fun σ2 H2=>
   tc σ2 H2 fun b H3=>if b=true then te σ2 H3 fun y H4=>N (ys ++ [y]) H4 else N ys H3)
def tLc (n:Nat) (fi:List Nat) (wi:TI) (g:TG) (tc:TT) (te:TE):TE:=fun σ H Q=>wi σ H fun J H1=>LcW J (ZaB n fi σ) g tc te H1 Q
section
variable {X:Cx}{pins:List (Addr×Obj)} {σ:St}{tg elt iter:Expr}{ifs:List Expr}{scope:Scope}{pos:Pos}{Ls Fs:List Str}{fi:List Nat}{g:TG}{tc:TT}{te:TE}
theorem Zej {H2:Hp}{s2:Shared}{it:Addr}{fp:List Addr}{tn:Nat->Heap->Prop}{J:It}{cl:List (Str×Addr)}{Q:VK}{E:Value->Shared->Prop}{RR:Value->Addr->Result->Shared->Prop}
  (S:ZO X.N X.env.scope scope Ls Fs fi) (hc:X.calm=true)
  (hb:∀C s3 H3 ex,PG (blk X scope (Ls++Fs) cl C s3 H3 ex) tg g/\PTs (blk X scope (Ls++Fs) cl C s3 H3 ex) ifs tc/\PE (blk X scope (Ls++Fs) cl C s3 H3 ex) elt te)
  (hcl1:∀x c,cl.lookup x=some c->X.env.cells.lookup x=some c) (hcl2:∀y∈scope.names,y.2 = .free -> ∃c,cl.lookup y.1=some c)
  (I2:Inv X pins σ H2 s2) (T:Turn X.prog X.w X.K tg J fp it tn) (st2:tn 0 s2.heap) (f2:∀b∈fp,Zcl X pins H2 b)
  (hW:∃W:Nat->Nat->List V->Hp->Prop,(∃m,W 0 m [] H2) /\ ∀i m ys H,W i m ys H ->
   (J.stop i H/\ys.length<=sizeLine /\ ∀D,H D=none->Q (.ref D) (upd H D (.lst ys))) ∨
   (J.go i H/\ys.length<=sizeLine /\ ∃N:List V->Hp->Prop,(∀ys' H',N ys' H' -> ∃m',m'<m/\W (i+1) m' ys' H') /\ ∀x H',J.yld i H x H'->g x (ZaB Ls.length fi σ) H' fun σ2 H2=>
    tc σ2 H2 fun b H3=>if b=true then te σ2 H3 fun y H4=>N (ys ++ [y]) H4 else N ys H3))
  (fin:∀D C H' s' m,Inv X pins σ H' s'->Q (.ref D) H'->s'.heap.Ns C m->Zcl X pins H' C->RR (.ref D) C (.ok .next) s'):
  wpAny (model X.prog X.w) X.A (newList []) (fun acc s₃=>wpAny (model X.prog X.w) X.A (newFunctionEnv scope X.env.globals cl [] X.env.qual none .none (some X.env)) (fun cenv s₄=>
   codeAny (model X.prog X.w) X.A (.compStart (.ListComp elt [⟨tg,iter,ifs,0⟩] scope pos) 0 (.ref it) acc { cenv with scope:=relabel scope X.env }) (RR acc cenv.locals) s₄) E s₃) E s2:=by
 refine wpAny_newObj_type (wpAny_newFunctionEnv S.cells (by intro y hy;simp at hy) (fun h₁ hns₁ hsb₁=>?_) S.kind)
 dsimp only at hns₁ hsb₁ ⊢
 generalize hH3:s2.heap.push { cls:=.type "list", dict:=none,data:=.seq ([]:List Value).toArray } = h3 at hns₁ hsb₁ ⊢
 generalize hC:h3.objs.size=C at hns₁ hsb₁ ⊢
 generalize hD:s2.heap.objs.size=D
 have hCD:C=D+1:=by rw [<- hC,<- hH3,Heap.size_push,hD]
 have k23:∀b o,s2.heap.get? b=some o->h3.get? b=some o:=fun b o e=>by rw [<- hH3];exact Heap.get?_push_of_some _ e
 have k34:∀b o,h3.get? b=some o->h₁.get? b=some o:=fun b o e=>hsb₁.extBut b o (Nat.ne_of_lt (by have:=aLt e;lia)) (Heap.get?_push_of_some _ e)
 have hDo:h3.get? D=some { cls:=.type "list", data:=.seq ([]:List Value).toArray }:=by rw [<- hH3,<- hD];exact Heap.get?_push_size _ rfl
 obtain ⟨W,⟨m0,w0⟩,turn⟩:=hW
 have I3:Inv X pins σ H2 { s2 with heap:=h3 }:=I2.kept (t':=s2.toks) k23
 have frD:H2 D=none:=by rw [<- hD];exact I2.fresh
 have frC:H2 C=none:=I2.hok.fresh (by lia)
 have DL:D≠X.env.locals:=Nat.ne_of_gt (by have:@LT.lt Nat _ X.env.locals s2.heap.objs.size:=I2.lt;lia)
 have CL:C≠X.env.locals:=Nat.ne_of_gt (by have:@LT.lt Nat _ X.env.locals s2.heap.objs.size:=I2.lt;lia)
 have cellLt:∀x c,X.env.cells.lookup x=some c -> @LT.lt Nat _ c D:=fun x c e=>by
  obtain ⟨v,q⟩:=I2.cell x c e
  have:@LT.lt Nat _ c s2.heap.objs.size:=q.lt
  lia
 have fpLt:∀b∈fp,@LT.lt Nat _ b D:=fun b hb=>by
  obtain ⟨o,e,_⟩:=T.obj _ _ st2 b hb
  have:=aLt e
  lia
 have exLoc:∀b∈D::fp,b≠C/\(∀x c,X.env.cells.lookup x=some c->c≠b):=fun b hb=>by
  rcases List.mem_cons.mp hb with e | hb
  ·subst e
   exact ⟨Nat.ne_of_lt (by lia),fun x c e=>Nat.ne_of_lt (cellLt x c e)⟩
  ·exact ⟨Nat.ne_of_lt (by have:=fpLt b hb;lia),(f2 b hb).2.2.2.2.1⟩
 have ok':(blk X scope (Ls++Fs) cl C { s2 with heap:=h3 } H2 (D::fp)).Ok:=by
  refine ⟨I2.ok.mod,S.kind,I2.ok.glob,I2.ok.blt,?_,fun x y c e1 e2=>I2.ok.inj x y c (hcl1 x c e1) (hcl1 y c e2),fun x hx=>?_,fun x c hx=>absurd hx Bool.false_ne_true,I2.ok.hd,I2.ok.frames,.inl rfl,
   fun b hb=>⟨(exLoc b hb).1,fun x c e=>(exLoc b hb).2 x c (hcl1 x c e)⟩,I3.bs,Nat.le_trans I2.ok.bsz I3.sz,fun b o e hb=>?_,fun b hb=>?_,I3.stack,I3.stkFree⟩
  ·show h3.objs.size<=C
   lia
  ·obtain ⟨y,hy,e1,e2⟩:=UZ S.cells hx
   obtain ⟨c,q⟩:=hcl2 y hy e2
   exact ⟨c,e1 ▸ q⟩
  ·rcases List.mem_cons.mp hb with z | hb
   ·exact absurd z (Nat.ne_of_lt (by have:=aLt (I2.bk b o e);lia))
   ·rcases (f2 b hb).2.2.2.1 with z | z
    ·exact I2.ok.noex b o e z
    ·have h1:@LT.lt Nat _ b X.base.objs.size:=aLt e
     have h2:@LE.le Nat _ X.base.objs.size X.s₀.heap.objs.size:=I2.ok.bsz
     have h3:@LE.le Nat _ X.s₀.heap.objs.size b:=z
     lia
  ·intro hz
   have hz':=I2.stkSub b hz
   rcases List.mem_cons.mp hb with e | hb
   ·subst e
    rcases List.mem_cons.mp hz' with z | z
    ·exact DL z
    ·exact I2.nofs (by lia) z
   ·rcases List.mem_cons.mp hz' with z | z
    ·exact (f2 b hb).2.1 z
    ·exact (f2 b hb).2.2.1 z
 obtain ⟨m2,hn2,hl2⟩:=id I2.loc
 have cap:∀(i:Nat) (x:Str) (v:V),(Ls++Fs)[i]? = some x->(ZaB Ls.length fi σ)[i]? = some (some v) -> ∃u c,RelV v u/\((relabel scope X.env).names.lookup x=some .cell∨(relabel scope X.env).names.lookup x=some .free) /\
   cl.lookup x=some c/\X.env.cells.lookup x=some c/\s2.heap.IsCell c (some u):=by
  intro i x v e1 e2
  unfold ZaB at e2
  by_cases hi:i<Ls.length
  ·rw [List.getElem?_append_left (by simpa using hi),List.getElem?_replicate,if_pos hi] at e2
   cases e2
  ·have hi':Ls.length<=i:=Nat.le_of_not_lt hi
   rw [List.getElem?_append_right hi'] at e1
   rw [List.getElem?_append_right (by simpa using hi'),List.length_replicate,List.getElem?_map] at e2
   cases e3:fi[i-Ls.length]? with
   | none=>rw [e3] at e2;cases e2
   | some j=>
    rw [e3] at e2
    have e4:σ.getD j none=some v:=Option.some.inj e2
    have e5:X.N[j]? = some x:=by
     have q:=congrArg (fun l=>l[i-Ls.length]?) S.ix
     simp only [List.getElem?_map,e3,e1,Option.map_some] at q
     exact Option.some.inj q
    have e6:σ[j]? = some (some v):=by
     rw [List.getD_eq_getElem?_getD] at e4
     cases e7:σ[j]? with
     | none=>rw [e7] at e4;cases e4
     | some z=>rw [e7] at e4;exact congrArg some e4
    have fx:=S.fre x (List.mem_of_getElem? e1)
    have al:=S.all (x,.free) (PySem.mem_of_lookup fx) rfl
    have vis:Vis X.env.scope x:=by
     rcases al with z | z
     ·exact .inr (.inl z)
     ·exact .inr (.inr z)
    obtain ⟨u,ru,lk⟩:=hl2 j x v e5 e6 vis
    rcases lk with ⟨k,_⟩ | ⟨k,c,ec,hcell⟩
    ·have k':X.env.scope.names.lookup x=some .local:=k
     rcases al with z | z
     ·rw [show X.env.scope.names.lookup x=some .cell from z] at k';cases k'
     ·rw [show X.env.scope.names.lookup x=some .free from z] at k';cases k'
    ·obtain ⟨c',ec'⟩:=hcl2 (x,.free) (PySem.mem_of_lookup fx) rfl
     have:c'=c:=Option.some.inj ((hcl1 x c' ec').symm.trans ec)
     subst this
     exact ⟨u,c',ru,UP fx,ec',ec,hcell⟩
 have capLen:(ZaB Ls.length fi σ).length=(Ls++Fs).length:=by
  unfold ZaB
  have q:=congrArg List.length S.ix
  simp only [List.length_map] at q
  rw [List.length_append,List.length_replicate,List.length_map,List.length_append,q]
 have re:∀{ps:List (Addr×Obj)} {σ':St}{H':Hp}{s':Shared},Inv (blk X scope (Ls++Fs) cl C { s2 with heap:=h3 } H2 (D::fp)) ps σ' H' s'->Inv (blk X scope (Ls++Fs) cl C { s2 with heap:=h3 } H2 (D::fp)) ps (ZaB Ls.length fi σ) H' s':=by
  intro ps σ' H' s' J'
  refine ⟨J'.ok,J'.os,J'.bare,J'.base,?_,J'.cell,J'.free,J'.freeC,J'.pin,J'.hok,capLen⟩
  obtain ⟨m,hn,_⟩:=J'.loc
  refine ⟨m,hn,fun i x v e1 e2 _=>?_⟩
  obtain ⟨u,c,ru,kk,ec,ec2,o,ho,hd⟩:=cap i x v e1 e2
  obtain ⟨sl,q⟩:=J'.base.any (k23 c o ho) (I2.freeC x c ec2) fun z=>(exLoc c z).2 x c ec2 rfl
  exact ⟨u,ru,.inr ⟨kk,c,ec,_,q,hd⟩⟩
 have I4:Inv (blk X scope (Ls++Fs) cl C { s2 with heap:=h3 } H2 (D::fp)) [(D,{ cls:=.type "list", data:=.seq ([]:List Value).toArray })] (ZaB Ls.length fi σ) H2 { s2 with heap:=h₁,toks:=s2.toks+([]:List (Str×Value)).length }:=by
  refine ⟨ok',rfl,I2.bare,Un.kept k34,⟨_,hns₁,fun i x v e1 e2 _=>?_⟩,fun x c e=>?_,frC,fun x c e=>I2.freeC x c (hcl1 x c e),fun p hp=>?_,I2.hok.kept fun b o e=>k34 b o (k23 b o e),capLen⟩
  ·obtain ⟨u,c,ru,kk,ec,ec2,o,ho,hd⟩:=cap i x v e1 e2
   exact ⟨u,ru,.inr ⟨kk,c,ec,o,k34 c o (k23 c o ho),hd⟩⟩
  ·obtain ⟨v,o,ho,hd⟩:=I2.cell x c (hcl1 x c e)
   exact ⟨v,o,k34 c o (k23 c o ho),hd⟩
  ·have hp':p=(D,{ cls:=.type "list", data:=.seq ([]:List Value).toArray }):=by
    have:p∈([]:List (Addr×Obj)) ++ [(D,{ cls:=.type "list", data:=.seq ([]:List Value).toArray })]:=hp
    simpa using this
   subst hp'
   refine ⟨k34 D _ hDo,frD,Nat.ne_of_lt (show @LT.lt Nat _ D C by lia),fun z=>?_,fun v z=>by cases z⟩
   rcases List.mem_cons.mp (I2.stkSub D z) with z | z
   ·exact DL z
   ·exact I2.nofs (by lia) z
 obtain ⟨hg,ht,he⟩:=hb C { s2 with heap:=h3 } H2 (D::fp)
 have back:∀{ps:List (Addr×Obj)} {σ':St}{H':Hp}{s':Shared}{ys:List V}{its:List Value}{n:Nat},Inv (blk X scope (Ls++Fs) cl C { s2 with heap:=h3 } H2 (D::fp)) ps σ' H' s'->s'.heap.get? D=some { cls:=.type "list", data:=.seq its.toArray n } ->
   H' D=none->Vals ys its->ys.length<=sizeLine->Inv X pins σ (upd H' D (.lst ys)) s'/\Zcl X pins (upd H' D (.lst ys)) C:=by
  intro ps σ' H' s' ys its n J' hDs hDn rv hz
  have neD:∀b o,s2.heap.get? b=some o->b≠D:=fun b o e=>Nat.ne_of_lt (by have:=aLt e;lia)
  have nex:∀b,b∉fp->b≠D->b∉D::fp:=fun b h1 h2 z=>(List.mem_cons.mp z).elim h2 h1
  have U:Un (JI X.stack) fp H2 (upd H' D (.lst ys)) s2.heap s'.heap:=by
   refine ⟨fun b o e n hb hx=>J'.base.keep b o (k23 b o e) n hb (nex b hx (neD b o e)),fun b o e n hb hx=>J'.base.slot b o (k23 b o e) n hb (nex b hx (neD b o e)),fun b o e n hx=>?_,fun b o e hx=>J'.base.there b o (k23 b o e) (nex b hx (neD b o e)),fun b xs e=>?_,fun b o u e=>?_,fun b ps e=>?_⟩
   ·rw [Zi (neD b o e)]
    exact J'.base.free b o (k23 b o e) n (nex b hx (neD b o e))
   ·rw [Zi (Zg e frD)]
    exact J'.base.tups b xs e
   ·rw [Zi (Zg e frD)]
    exact J'.base.frzs b o u e
   ·obtain ⟨more,q⟩:=J'.base.tbls b ps e
    exact ⟨more,by rw [Zi (Zg e frD)];exact q⟩
  have hok':Gj X.prog X.w (upd H' D (.lst ys)) s'.heap:=fun b u q=>by
   by_cases hbD:b=D
   ·subst hbD
    rw [Zb] at q
    cases q
    exact ⟨hz,its,n,rv,hDs⟩
   ·rw [Zi hbD] at q
    exact (J'.hok b u q).stay (fun c v _ r=>r) (fun c r=>by rw [Zi (Zg r hDn)];exact r) fun c xs r=>by rw [Zi (Zg r hDn)];exact r
  refine ⟨I2.call' J'.os U hok' J'.bare fun b hb=>⟨(f2 b hb).2.2.2.1,(f2 b hb).2.1,(f2 b hb).2.2.2.2.1,(f2 b hb).2.2.2.2.2⟩,?_⟩
  refine ⟨by rw [Zi (Nat.ne_of_gt (by lia))];exact J'.free,CL,I2.nofs (by lia),.inr (by have:=I2.sz;lia),fun x c e=>Nat.ne_of_lt (by have:=cellLt x c e;lia),fun p hp=>?_⟩
  have:=aLt (I2.pin p hp).1
  exact Nat.ne_of_lt (by lia)
 have loop:codeAny (model X.prog X.w) X.A (.compLoop (.ListComp elt [⟨tg,iter,ifs,0⟩] scope pos) 0 (.ref it) (.ref D) (compEnvC scope cl C X.env)) (RR (.ref D) C) { s2 with heap:=h₁,toks:=s2.toks+([]:List (Str×Value)).length }:=by
  refine ZgC (fun n s'=>∃(i:Nat) (ys:List V) (H':Hp) (its:List Value) (k:Nat),Inv (blk X scope (Ls++Fs) cl C { s2 with heap:=h3 } H2 (D::fp)) [(D,{ cls:=.type "list", data:=.seq its.toArray k })] (ZaB Ls.length fi σ) H' s' /\
   Vals ys its/\tn i s'.heap/\(∀b∈fp,H' b=none)/\W i n ys H') ?_ m0 ⟨0,[],H2,[],0,I4,.nil,T.keep _ _ _ st2 fun b _ o e=>k34 b o (k23 b o e),fun b hb=>(f2 b hb).1,w0⟩
  rintro n s5 ⟨i,ys,H5,its,k,I5,rv,st5,fr5,w5⟩
  have stat:∀{H':Hp}{its':List Value}{k':Nat},(∀b∈fp,H' b=none) -> ∀b∈fp,Zcl (blk X scope (Ls++Fs) cl C { s2 with heap:=h3 } H2 (D::fp)) [(D,{ cls:=.type "list", data:=.seq its'.toArray k' })] H' b:=fun hn b hb=>by
   refine ⟨hn b hb,(exLoc b (List.mem_cons_of_mem _ hb)).1,fun z=>ok'.exfs b (List.mem_cons_of_mem _ hb) z,.inl (List.mem_cons_of_mem _ hb),fun x c e=>(exLoc b (List.mem_cons_of_mem _ hb)).2 x c (hcl1 x c e),fun p hp=>?_⟩
   have hp':p=_:=List.mem_singleton.mp hp
   rw [hp']
   have:=fpLt b hb
   show D≠b
   exact Nat.ne_of_gt this
  have pinD:=I5.pin (D,{ cls:=.type "list", data:=.seq its.toArray k }) (List.mem_singleton.mpr rfl)
  rcases turn i n ys H5 w5 with ⟨stop,hz,qn⟩ | ⟨go,hz,N,hN,step⟩
  ·refine wpAny_mono (T.done (blk X scope (Ls++Fs) cl C { s2 with heap:=h3 } H2 (D::fp)) rfl rfl rfl hc i _ s5 _ H5 _ I5 (stat fr5) st5 stop) (fun r s6 ⟨hr,I6⟩=>?_) fun _ _ h=>h
   subst hr
   have pin6:=I6.pin (D,{ cls:=.type "list", data:=.seq its.toArray k }) (List.mem_singleton.mpr rfl)
   obtain ⟨b1,b2⟩:=back I6 pin6.1 pin6.2.1 rv hz
   obtain ⟨m,hn,_⟩:=I6.loc
   exact fin D C _ s6 m b1 (qn D pin6.2.1) hn b2
  ·refine wpAny_mono (T.item (blk X scope (Ls++Fs) cl C { s2 with heap:=h3 } H2 (D::fp)) rfl rfl rfl hc i _ s5 _ H5 _ I5 (stat fr5) st5 go) (fun r s6 ⟨u,hr,h6⟩=>?_) fun _ _ h=>h
   subst hr
   refine wpAny_mono h6 (fun _ s7 ⟨x,H7,I7,r7,y7,st7,fr7⟩=>?_) fun _ _ h=>h
   have I7':=I7.pinned (stat fr7) (T.obj _ _ st7)
   refine wpAny_mono (hg _ s7 _ H7 x u _ I7' r7 (step x H7 y7)) (fun _ s8 ⟨σ8,H8,I8,q8⟩=>?_) fun _ _ h=>h
   refine wpAny_mono (ht _ s8 σ8 H8 _ I8 q8) (fun ok s9 ⟨H9,I9,q9⟩=>?_) fun _ _ h=>h
   have keepT:∀{σ':St}{H':Hp}{s':Shared},Inv (blk X scope (Ls++Fs) cl C { s2 with heap:=h3 } H2 (D::fp)) ([(D,{ cls:=.type "list", data:=.seq its.toArray k })]++Zb2 fp s7.heap) σ' H' s'->tn (i+1) s'.heap /\ ∀b∈fp,H' b=none:=by
    intro σ' H' s' J'
    refine ⟨T.keep _ _ _ st7 fun b hb o e=>(J'.pin (b,o) (List.mem_append_right _ (List.mem_append_right _ (Gn hb e)))).1,fun b hb=>?_⟩
    obtain ⟨o,e,d⟩:=T.obj _ _ st7 b hb
    exact (J'.pin (b,o) (List.mem_append_right _ (List.mem_append_right _ (Gn hb e)))).2.1
   cases ok with
   | false=>
    rw [if_neg Bool.false_ne_true] at q9 ⊢
    obtain ⟨m',hm,w'⟩:=hN _ _ q9
    exact ⟨m',hm,i+1,ys,H9,its,k,re I9.unpinned,rv,(keepT I9).1,(keepT I9).2,w'⟩
   | true=>
    rw [if_pos rfl] at q9 ⊢
    refine wpAny_mono (he _ s9 σ8 H9 _ I9 q9) (fun v s10 ⟨y,H10,I10,r10,q10⟩=>?_) fun _ _ h=>h
    obtain ⟨m',hm,w'⟩:=hN _ _ q10
    obtain ⟨k10,f10⟩:=keepT I10
    have I11:Inv (blk X scope (Ls++Fs) cl C { s2 with heap:=h3 } H2 (D::fp)) [(D,{ cls:=.type "list", data:=.seq its.toArray k })] (ZaB Ls.length fi σ) H10 s10:=re I10.unpinned
    have pin11:=I11.pin (D,{ cls:=.type "list", data:=.seq its.toArray k }) (List.mem_singleton.mpr rfl)
    refine wpAny_list_append_plain ⟨k,pin11.1⟩ (fun h' hp' sb=>?_) (by rw [List.size_toArray,<- rv.length];exact hz)
    obtain ⟨k',hk'⟩:=hp'
    have e1:its.toArray.push v=(its ++ [v]).toArray:=by simp
    rw [e1] at hk'
    have I12:Inv (blk X scope (Ls++Fs) cl C { s2 with heap:=h3 } H2 (D::fp)) [] (ZaB Ls.length fi σ) H10 { s10 with heap:=h',toks:=s10.toks }:=
     (I11.pins_of (pins':=[]) fun p hp=>(nomatch hp)).turned (it:=D) (fun b o hb e=>(sb.2 b hb).trans e) pin11.2.1 pin11.2.2.1 (.inl List.mem_cons_self) (fun x c e=>(exLoc D List.mem_cons_self).2 x c (hcl1 x c e)) fun p hp=>(nomatch hp)
    have I13:Inv (blk X scope (Ls++Fs) cl C { s2 with heap:=h3 } H2 (D::fp)) [(D,{ cls:=.type "list", data:=.seq (its ++ [v]).toArray k' })] (ZaB Ls.length fi σ) H10 { s10 with heap:=h',toks:=s10.toks }:=I12.pins_of fun p hp=>by
     have hp':p=_:=List.mem_singleton.mp hp
     subst hp'
     exact ⟨hk',pin11.2.1,pin11.2.2.1,pin11.2.2.2.1,fun v z=>by cases z⟩
    refine ⟨m',hm,i+1,ys ++ [y],H10,its ++ [v],k',I13,rv.append (.cons r10 .nil),?_,f10,w'⟩
    exact T.keep _ _ _ k10 fun b hb o e=>(sb.2 b (Nat.ne_of_lt (fpLt b hb))).trans e
 exact codeAny_compStart_list loop (T.self _ 0 _ _ _ (T.keep _ _ _ st2 fun b _ o e=>k34 b o (k23 b o e)) loop)
theorem Wt {wi:TI} (S:ZO X.N X.env.scope scope Ls Fs fi) (hc:X.calm=true) (hi:PI X tg iter wi)
  (hb:∀cl C s3 H3 ex,PG (blk X scope (Ls++Fs) cl C s3 H3 ex) tg g/\PTs (blk X scope (Ls++Fs) cl C s3 H3 ex) ifs tc/\PE (blk X scope (Ls++Fs) cl C s3 H3 ex) elt te)
  (hs:∀x,foldedSetIterable iter X.env x=pure x:=by intro _;rfl):PE X (.ListComp elt [⟨tg,iter,ifs,0⟩] scope pos) (tLc Ls.length fi wi g tc te):=by
 intro pins s σ H Q I h
 rw [eval_ListComp]
 obtain ⟨cl,hcl,hcl1,hcl2⟩:=Zge (scope:=scope) (env:=X.env) fun y hy hf=>I.ok.has y.1 (S.all y hy hf)
 refine wpAny_comprehension_free (use:=none) rfl hs hcl S.kind S.names (wpAny_mono (hi pins s σ H _ I h) (fun v s1 h1=>wpAny_mono h1 (fun itv s2 h2=>?_) fun _ _ e=>e) fun _ _ e=>e)
 obtain ⟨it,fp,tn,J,H2,e,I2,T,st2,f2,hW⟩:=h2
 subst e
 refine Zej (RR:=fun acc C=>compPost (model X.prog X.w) X.A X.xe none (EP X pins σ Q) acc C) S hc (hb cl) hcl1 hcl2 I2 T st2 f2 hW fun D C H' s' m I' q hn f=>?_
 obtain ⟨f0,f1,f2,f3,f4,f5⟩:=f
 exact ⟨m,hn,fun h' hs'=>⟨.ref D,H',I'.turned (it:=C) (t':=s'.toks) (fun b o hb e=>(hs'.2 b hb).trans e) f0 f1 f3 f4 f5,rfl,q⟩⟩
theorem U0 {wi:TI}{i:Nat}{x:Str}{pos' spos:Pos} (hN:X.N.Nodup) (hi':X.N[i]? = some x) (hx:Loc X.env.scope x) (S:ZO X.N X.env.scope scope Ls Fs fi) (hc:X.calm=true) (hi:PI X tg iter wi)
  (hb:∀cl C s3 H3 ex,PG (blk X scope (Ls++Fs) cl C s3 H3 ex) tg g/\PTs (blk X scope (Ls++Fs) cl C s3 H3 ex) ifs tc/\PE (blk X scope (Ls++Fs) cl C s3 H3 ex) elt te)
  (hsw:swapsWith (.ListComp elt [⟨tg,iter,ifs,0⟩] scope pos) (some (.Name x pos')) spos.line X.env=pure true:=by rfl)
  (hs:∀x,foldedSetIterable iter X.env x=pure x:=by intro _;rfl) (hf:X.fn x=true∨X.env.scope.names.lookup x=some .local:=by first | exact .inl rfl | exact .inr rfl | assumption):
  PS X (.Assign [.Name x pos'] (.ListComp elt [⟨tg,iter,ifs,0⟩] scope pos) spos) (Zh6 (tLc Ls.length fi wi g tc te) (JD i)):=by
 intro pins s σ H D' I h
 rw [exec_Assign_Name_used _ _ _ _ hsw]
 obtain ⟨cl,hcl,hcl1,hcl2⟩:=Zge (scope:=scope) (env:=X.env) fun y hy hf=>I.ok.has y.1 (S.all y hy hf)
 refine wpAny_bind (wpAny_standAt (wpAny_bind ?_))
 show wpAny _ X.A (do let _ <- comprehension (.ListComp elt [⟨tg,iter,ifs,0⟩] scope pos) scope X.env _ (newList []) false (eval iter X.env) (some (assign (.Name x pos') X.env))) _ _ s
 refine wpAny_bind (wpAny_mono (wpAny_comprehension_free (use:=some (assign (.Name x pos') X.env)) (Q:=fun _ s'=>SP X pins D' .next s') rfl hs hcl S.kind S.names
  (wpAny_mono (hi pins s σ H _ I h) (fun v s1 h1=>wpAny_mono h1 (fun itv s2 h2=>?_) fun _ _ e=>e) fun _ _ e=>e)) (fun _ s' hq=>wpAny_pure (wpAny_pure hq)) fun _ _ e=>e)
 obtain ⟨it,fp,tn,J,H2,e,I2,T,st2,f2,hW⟩:=h2
 subst e
 refine Zej (RR:=fun acc C=>compPost (model X.prog X.w) X.A X.xe (some (assign (.Name x pos') X.env)) (fun _ s'=>SP X pins D' .next s') acc C) (Q:=fun x H1=>JD i x σ H1 D'.nx) S hc (hb cl) hcl1 hcl2 I2 T st2 f2 hW fun D C H' s' m I' q hn f=>?_
 obtain ⟨f0,f1,f2,f3,f4,f5⟩:=f
 show wpAny _ X.A (assign (.Name x pos') X.env (.ref D)) _ _ _
 refine wpAny_assign_Name (ZcF I' hN hi' hx (v:=.ref D) rfl (fun s'' I'' hch=>?_) hf)
 obtain ⟨a,sb,ha⟩:=hch
 have hCa:C≠a:=by
  rcases ha with z | z
  ·rw [z];exact f1
  ·exact (f4 x a z).symm
 exact ⟨m,hn.sameBut sb hCa,fun h' hs'=>⟨_,H',I''.turned (it:=C) (t':=s''.toks) (fun b o hb e=>(hs'.2 b hb).trans e) f0 f1 f3 f4 f5,q⟩⟩
end
end L2
namespace L2
open PySem PySem.Spec PyProof.Rows PyProof.V
def Ite (K:PySem.W.Frag) (a:Addr):It:=
 ⟨fun i H=>∃xs x,Zo K H a xs/\xs[i]? = some x,fun i H v H'=>∃p x,v = .ref p/\H p=none/\H'=upd H p (.tup [.int i,x]) /\ ∀xs,Zo K H a xs->xs[i]? = some x,fun i H=>∃xs,Zo K H a xs/\xs.length<=i⟩
theorem ZgV {P:Program}{w:World}{K:PySem.W.Frag}{es:List Expr}{k:Nat}{pos:Pos} (a e it:Addr) (hei:e≠it):
  Turn P w K (.Tuple es k pos) (Ite K a) [e,it] e (fun i h=>(∃old,IsEnum h e it i old)/\h.IsListIter it a i) where
 mem:=by simp
 obj:=fun i h st b hb=>by
  obtain ⟨⟨old,he⟩,o,ho,c,d⟩:=st
  rcases List.mem_cons.mp hb with z | z
  ·subst z
   exact ⟨_,he,fun v z=>by
    have z':Data.fields _=Data.cell v:=z
    cases z'⟩
  ·have z':b=it:=by simpa using z
   subst z'
   exact ⟨o,ho,fun v z=>by rw [d] at z;cases z⟩
 keep:=fun i h h' st k=>by
  obtain ⟨⟨old,he⟩,hi⟩:=st
  exact ⟨⟨old,k e (by simp) _ he⟩,hi.at fun o x=>k it (by simp) o x⟩
 item:=by
  intro X hP hw hK hc i pins s σ H E I hf st hg
  subst hP hw hK
  obtain ⟨xs,x,hq,hx⟩:=hg
  obtain ⟨its,rv,p,hz⟩:=I.list hq
  obtain ⟨u,hu,ru⟩:=rv.get hx
  obtain ⟨⟨old,he⟩,hi⟩:=st
  obtain ⟨e0,e1,e2,e3,e4,e5⟩:=hf e (by simp)
  obtain ⟨f0,f1,f2,f3,f4,f5⟩:=hf it (by simp)
  refine wpAny_pyNext_enum_item he hi p.isList (x:=u) (by simpa using hu) hei fun h' ho hit ht hsz kk=>⟨_,rfl,?_⟩
  refine wpAny_letOwnedTupleGo_enum (s:={ s with heap:=h',toks:=s.toks+1 }) ho fun h'' he'' hs''=>?_
  have Tn:@LT.lt Nat _ e s.heap.objs.size:=aLt he
  have kk2:∀b o,b≠e->b≠it->s.heap.get? b=some o->h''.get? b=some o:=fun b o h1 h2 q=>(hs''.2 b h1).trans (kk b o h1 h2 q)
  have nne:∀b u,H b=some u->b≠e/\b≠it:=fun b u q=>⟨fun z=>by (rw [z,e0] at q;cases q),fun z=>by (rw [z,f0] at q;cases q)⟩
  have fr:H s.heap.objs.size=none:=I.hok.fresh (Nat.le_refl _)
  have hT:h''.get? s.heap.objs.size=some { cls:=.type "tuple", data:=.seq #[.int i s.toks,u] }:=(hs''.2 _ (Nat.ne_of_gt Tn)).trans ht
  have nT:∀b o,s.heap.get? b=some o->b≠s.heap.objs.size:=fun b o q=>Nat.ne_of_lt (aLt q)
  have ok':Gj X.prog X.w (upd H s.heap.objs.size (.tup [.int i,x])) h'':=fun b o q=>by
   by_cases hb:b=s.heap.objs.size
   ·subst hb
    rw [Zb] at q
    cases q
    exact ⟨show 2<=sizeLine by decide,[.int i s.toks,u],.cons ⟨_,rfl⟩ (.cons ru .nil),⟨_,hT,rfl,_,rfl⟩⟩
   ·rw [Zi hb] at q
    refine (I.hok b o q).stay (fun c v hc r=>?_) (fun c r=>by rw [Zi (Zg r fr)];exact r) fun c xs r=>by rw [Zi (Zg r fr)];exact r
    rcases hc with z | z
    ·subst z
     exact kk2 c v (nne c o q).1 (nne c o q).2 r
    ·exact kk2 c v (nne c _ z).1 (nne c _ z).2 r
  have I1:Inv X pins σ (upd H s.heap.objs.size (.tup [.int i,x])) { s with heap:=h'',gens:=s.gens,drawn:=s.drawn,toks:=s.toks+1 }:=by
   refine I.step (ch:=[e,it]) (fun b hb=>?_) (fun b o _ _ hc q _=>kk2 b o (fun z=>hc (by simp [z])) (fun z=>hc (by simp [z])) q) (fun b o _ _ hc q _=>⟨o.slots,kk2 b o (fun z=>hc (by simp [z])) (fun z=>hc (by simp [z])) q⟩)
    (fun b o _ q n=>by rw [Zi (nT b o q)];exact n) (fun b o hc q=>⟨o,kk2 b o (fun z=>hc (by simp [z])) (fun z=>hc (by simp [z])) q⟩) (fun b xs q=>by rw [Zi (Zg q fr)];exact q) (fun b o u q=>by rw [Zi (Zg q fr)];exact q)
    (fun b ps q=>⟨#[],by rw [Zi (Zg q fr),q];simp⟩) (fun m hm=>?_) ok' I.bare
   ·rcases List.mem_cons.mp hb with z | z
    ·subst z;exact ⟨e3,e1,e4,e5⟩
    ·have z':b=it:=by simpa using z
     subst z';exact ⟨f3,f1,f4,f5⟩
   ·obtain ⟨o,es,ep,ho,r⟩:=hm
    exact ⟨o,es,ep,kk2 _ o (Ne.symm e1) (Ne.symm f1) ho,r⟩
  refine ⟨.ref s.heap.objs.size,_,I1,rfl,⟨s.heap.objs.size,x,rfl,fr,rfl,fun ys hy=>by rw [I.list_inj hy hq];exact hx⟩,⟨⟨_,by simpa using he''⟩,hit.at fun o q=>(hs''.2 it (Ne.symm hei)).trans q⟩,fun b hb=>?_⟩
  have hbo:∃o,s.heap.get? b=some o:=by
   rcases List.mem_cons.mp hb with z | z
   ·subst z;exact ⟨_,he⟩
   ·have z':b=it:=by simpa using z
    subst z'
    obtain ⟨o,ho,_⟩:=hi
    exact ⟨o,ho⟩
  obtain ⟨o,hbo⟩:=hbo
  rw [Zi (nT b o hbo)]
  exact (hf b hb).1
 done:=by
  intro X hP hw hK hc i pins s σ H E I hf st hg
  subst hP hw hK
  obtain ⟨xs,hq,hx⟩:=hg
  obtain ⟨its,rv,p,hz⟩:=I.list hq
  obtain ⟨⟨old,he⟩,hi⟩:=st
  obtain ⟨f0,f1,f2,f3,f4,f5⟩:=hf it (by simp)
  have hl:=rv.length
  exact wpAny_pyNext_enum_end (I.ok.hd hc) he hi p.isList (by simp;lia) fun h' eb=>⟨rfl,I.turned (t':=s.toks) (fun b o hb e=>eb b o hb e) f0 f1 f3 f4 f5⟩
 self:=fun _ _ _ _ _ st h=>by
  obtain ⟨⟨old,he⟩,_⟩:=st
  exact wpAny_pyIter_enum he h
section
variable {X:Cx}
def Zkm (K:PySem.W.Frag) (ta:TA):TI:=fun σ H R=>ta σ H fun vs H1=>∃a,vs = [.ref a]/\(∃xs,Zo K H1 a xs)/\R (Ite K a) H1
theorem Zjl {a:Expr}{ta:TA}{p pos tpos:Pos}{es:List Expr}{k:Nat} (hg:Gl X "enumerate") (hm:X.mg "enumerate" = none) (ha:PA X [a] ta) (hs:starEach [a] X.env = [(false,eval a X.env)]:=by rfl):
  PI X (.Tuple es k tpos) (.Call (.Name "enumerate" p) [a] [] pos) (Zkm X.K ta):=by
 intro pins s σ H R I h
 refine Call_ (Gq I hg hm boot_enumerate (PyProof.Rows.callWith_type1 (YJ (ha pos pins s σ H _ I h) fun us s1 ⟨vs,H1,I1,r1,q1⟩=>?_) hs rfl))
 obtain ⟨l,e,⟨xs,hq⟩,q⟩:=q1
 subst e
 cases r1 with
 | cons r rr=>
  cases rr
  cases r
  obtain ⟨its,rv,pl,hz⟩:=I1.list hq
  refine call_enumerate_list pl.isList fun h' he hi hsz kk=>?_
  have I2:Inv X pins σ H1 { s1 with heap:=h' }:=I1.kept (t':=s1.toks) kk
  refine wpAny_pyIter_enum (s:={ s1 with heap:=h' }) he ?_
  refine ⟨_,[s1.heap.objs.size+1,s1.heap.objs.size],_,_,H1,rfl,I2,ZgV l _ _ (Nat.succ_ne_self _),⟨⟨_,he⟩,hi⟩,fun b hb=>?_,q⟩
  have hb':s1.heap.objs.size<=b:=by
   rcases List.mem_cons.mp hb with z | z
   ·subst z;exact Nat.le_succ _
   ·have z':b=s1.heap.objs.size:=by simpa using z
    subst z';exact Nat.le_refl _
  exact I1.fpOk hb' (I1.hok.fresh hb')
end
section
variable {X:Cx}
theorem WZ:∀{ns:List Int}{vs:List Value},Vals (ns.map V.int) vs->IntsAre vs ns
 | [],_,r=>by cases r;exact .nil
 | n::ns,_,r=>by
  cases r with
  | cons r rr=>
   obtain ⟨t,rfl⟩:=r
   exact .cons n t (WZ rr)
def ZiK (K:PySem.W.Frag):V->List V->Hp->VK->Prop:=fun x vs H Q=>∃(l:Addr) (xs:List V) (y:V),x = .ref l/\vs = [y]/\Zo K H l xs/\Wv y=true/\xs.all Wv=true/\Q (.int (xs.countP fun z=>eqV z y)) H
theorem ZbB {x:V}:∀{xs:List V}{us:List Value},Vals xs us->xs.all Wv=true->us.countP (eqU x)=xs.countP fun y=>eqV y x
 | _,_,.nil,_=>rfl
 | _,_,.cons r rr,h=>by
  rw [List.all_cons,Bool.and_eq_true] at h
  rw [List.countP_cons,List.countP_cons,ZbB rr h.2,Ze5 r h.1]
theorem Zg9:MtM X "list.count" (ZiK X.K):=by
 intro pins s σ H x vs v us Q I rx rv h
 obtain ⟨l,xs,y,rfl,rfl,hq,fy,fx,q⟩:=h
 cases rx
 obtain ⟨u,rfl,ru⟩:=rv.one
 obtain ⟨its,r,pl,hz⟩:=I.list hq
 obtain ⟨⟨c,dd,dt,sl⟩,ho,hc,n,hd⟩:=pl.isList
 simp only at hc hd
 subst hc hd
 refine call_meets F.slot_list_count ⟨_,ho,rfl⟩ F.entry_list_count (F.args_list_count_2 _ _) (SeqAt.list_countAt l its.toArray n dd sl u (eqU y)) ⟨ho,fun w hw=>Zaf ru fy r fx w (by simpa using hw),?_⟩
 refine ⟨.int _,H,I.tok _,⟨_,rfl⟩,?_⟩
 rw [show its.toArray.toList=its by simp,ZbB r fx]
 exact q
end
inductive Eqv (K:PySem.W.Frag) (H:Hp):Nat->V->V->Prop
 | flat {n:Nat}{x:V}:Wv x=true->Eqv K H n x x
 | same {n:Nat}{a:Addr}:Eqv K H n (.ref a) (.ref a)
 | lst {n:Nat}{a b:Addr}{xs ys:List V}:Zo K H a xs->Zo K H b ys->xs.length=ys.length->(∀(i:Nat) (x y:V),xs[i]? = some x->ys[i]? = some y->Eqv K H n x y)->Eqv K H (n+1) (.ref a) (.ref b)
 | tup {n:Nat}{a b:Addr}{xs ys:List V}:JH K H a xs->JH K H b ys->xs.length=ys.length->(∀(i:Nat) (x y:V),xs[i]? = some x->ys[i]? = some y->Eqv K H n x y)->Eqv K H (n+1) (.ref a) (.ref b)
section
variable {X:Cx}
theorem Zk {K:PySem.W.Frag} (h:X.K=K):IxR X (Zms K):=h ▸ Zi2
theorem YH {K:PySem.W.Frag} (h:X.K=K):IxR X (ZmA K):=h ▸ ZlJ
theorem YN {K:PySem.W.Frag} (h:X.K=K):SlR X (ZmC K):=h ▸ Zji
theorem ZcR {K:PySem.W.Frag} (h:X.K=K):MtM X "list.count" (ZiK K):=h ▸ Zg9
theorem Yk {K:PySem.W.Frag} (h:X.K=K):Wl X (.builtin "len") (fun xs H Q=>∃p ys,xs = [.ref p]/\(Zo K H p ys∨JH K H p ys)/\Q (.int ys.length) H):=h ▸ Zdw
theorem UN {K:PySem.W.Frag} (h:X.K=K):Wl X (.type "list") (fun xs H Q=>∃p ys,xs = [.ref p]/\(Zo K H p ys∨JH K H p ys) /\ ∀l,H l=none->Q (.ref l) (upd H l (.lst ys))):=h ▸ Zdt
theorem Yq {K:PySem.W.Frag}{es:List Expr}{k:Nat}{t:TGs}{n:Nat}{pos:Pos} (hk:X.K=K) (hc:X.calm=true) (h:PGs X es t) (hn:(assignEach es X.env).length=n:=by rfl) (hst:(assignEach es X.env).findIdx? (·.1)=none:=by rfl):PG X (.Tuple es k pos) (Zml K n t):=hk ▸ ZkQ hc h hn hst
theorem YO {K:PySem.W.Frag}{T:String}{name:Str}{r:V->List V->Hp->VK->Prop}{o e:Expr}{es:List Expr}{to:TE}{t:TA}{apos pos:Pos} (hk:X.K=K) (h:PE X (.Call (.Attribute o name apos) (e::es) [] pos) (tBM X.K T r to t)):PE X (.Call (.Attribute o name apos) (e::es) [] pos) (tBM K T r to t):=hk ▸ h
theorem ZT {K:PySem.W.Frag}{l tg:Expr}{tl:TE} (hk:X.K=K) (hl:PE X l tl):PI X tg l (Zky K tl):=hk ▸ Zj2 hl
theorem WN {K:PySem.W.Frag}{a:Expr}{ta:TA}{p pos tpos:Pos}{es:List Expr}{k:Nat} (hk:X.K=K) (hg:Gl X "enumerate") (hm:X.mg "enumerate" = none) (ha:PA X [a] ta) (hs:starEach [a] X.env = [(false,eval a X.env)]:=by rfl):
  PI X (.Tuple es k tpos) (.Call (.Name "enumerate" p) [a] [] pos) (Zkm K ta):=hk ▸ Zjl hg hm ha hs
end
section
variable {g:TG}{tc:TT}{te:TE} {σ:St}{H:Hp}{Q:VK}{K:PySem.W.Frag}{a:Addr}{xs:List V}
theorem Zb5 {J:It}{n:Nat} (hn:n<=sizeLine) (Pv:Nat->List V->Hp->Prop) (h0:Pv 0 [] H) (hlen:∀i ys H,Pv i ys H->ys.length<=i) (go:∀i ys H,i<n->Pv i ys H->J.go i H) (stop:∀ys H,Pv n ys H->J.stop n H)
  (hs:∀i ys H,i<n->Pv i ys H -> ∀x H',J.yld i H x H'->g x σ H' fun σ2 H2=>tc σ2 H2 fun b H3=>if b=true then te σ2 H3 fun y H4=>Pv (i+1) (ys ++ [y]) H4 else Pv (i+1) ys H3)
  (hd:∀ys H,Pv n ys H -> ∀D,H D=none->Q (.ref D) (upd H D (.lst ys))):LcW J σ g tc te H Q:=by
 unfold LcW
 refine ⟨fun i m ys H=>m=n-i/\i<=n/\Pv i ys H,⟨n,by simp,Nat.zero_le _,h0⟩,?_⟩
 rintro i m ys H ⟨rfl,hi,p⟩
 have hy:=hlen i ys H p
 by_cases hlt:i<n
 ·exact .inr ⟨go i ys H hlt p,by lia,Pv (i+1),fun ys' H' h2=>⟨n-(i+1),by lia,rfl,hlt,h2⟩,fun x H' y=>hs i ys H hlt p x H' y⟩
 ·have e:i=n:=by lia
  subst e
  exact .inl ⟨stop ys H p,by lia,hd ys H p⟩
theorem YV (hn:xs.length<=sizeLine) (Pv:Nat->List V->Hp->Prop) (h0:Pv 0 [] H) (hlen:∀i ys H,Pv i ys H->ys.length<=i) (hS:∀i ys H,Pv i ys H->Zo K H a xs)
  (hs:∀i x ys H,xs[i]? = some x->Pv i ys H->g x σ H fun σ2 H2=>tc σ2 H2 fun b H3=>if b=true then te σ2 H3 fun y H4=>Pv (i+1) (ys ++ [y]) H4 else Pv (i+1) ys H3)
  (hd:∀ys H,Pv xs.length ys H -> ∀D,H D=none->Q (.ref D) (upd H D (.lst ys))):LcW (Itl K a) σ g tc te H Q:=
 Zb5 hn Pv h0 hlen (fun i ys H hi p=>⟨xs,xs[i],hS i ys H p,by simp [hi]⟩) (fun ys H p=>⟨xs,hS _ ys H p,Nat.le_refl _⟩) (fun i ys H hi p x H' y=>by
  obtain ⟨e,y⟩:=y
  subst e
  exact hs i x ys _ (y xs (hS i ys _ p)) p) hd
theorem Zb7 {lo:Int}{n:Nat} (hn:n<=sizeLine) (Pv:Nat->List V->Hp->Prop) (h0:Pv 0 [] H) (hlen:∀i ys H,Pv i ys H->ys.length<=i)
  (hs:∀i ys H,i<n->Pv i ys H->g (.int (lo+i)) σ H fun σ2 H2=>tc σ2 H2 fun b H3=>if b=true then te σ2 H3 fun y H4=>Pv (i+1) (ys ++ [y]) H4 else Pv (i+1) ys H3)
  (hd:∀ys H,Pv n ys H -> ∀D,H D=none->Q (.ref D) (upd H D (.lst ys))):LcW (Itr lo n) σ g tc te H Q:=
 Zb5 hn Pv h0 hlen (fun i ys H hi p=>hi) (fun ys H p=>Nat.le_refl _) (fun i ys H hi p x H' y=>by
  obtain ⟨e,y⟩:=y
  subst e y
  exact hs i ys _ hi p) hd
theorem Zif (hn:xs.length<=sizeLine) (Pv:Nat->List V->Hp->Prop) (h0:Pv 0 [] H) (hlen:∀i ys H,Pv i ys H->ys.length<=i) (hS:∀i ys H,Pv i ys H->Zo K H a xs)
  (hs:∀i x p ys H,xs[i]? = some x->Pv i ys H->H p=none->g (.ref p) σ (upd H p (.tup [.int i,x])) fun σ2 H2=>tc σ2 H2 fun b H3=>if b=true then te σ2 H3 fun y H4=>Pv (i+1) (ys ++ [y]) H4 else Pv (i+1) ys H3)
  (hd:∀ys H,Pv xs.length ys H -> ∀D,H D=none->Q (.ref D) (upd H D (.lst ys))):LcW (Ite K a) σ g tc te H Q:=
 Zb5 hn Pv h0 hlen (fun i ys H hi p=>⟨xs,xs[i],hS i ys H p,by simp [hi]⟩) (fun ys H p=>⟨xs,hS _ ys H p,Nat.le_refl _⟩) (fun i ys H hi p x H' y=>by
  obtain ⟨q,z,e1,e2,e3,y⟩:=y
  subst e1 e3
  exact hs i z q ys _ (y xs (hS i ys _ p)) p e2) hd
end
def Yu (N:List Str) (osc scope:Scope) (Fs:List Str) (fi:List Nat):Bool:=
 (scope.kind == .function)&&scope.names.all (fun y=>y.2 != .cell)&&scope.names.all (fun y=>y.2 != .local||scope.names.lookup y.1==some .local)&&Fs.all (fun x=>scope.names.lookup x==some .free) &&
  scope.names.all (fun y=>y.2 != .free||osc.names.lookup y.1==some .cell||osc.names.lookup y.1==some .free)&&(fi.map (fun i=>N[i]?)==Fs.map some)
theorem ZO.of {N:List Str}{osc scope:Scope}{Ls Fs:List Str}{fi:List Nat} (h:Yu N osc scope Fs fi=true):ZO N osc scope Ls Fs fi:=by
 simp only [Yu,Bool.and_eq_true,List.all_eq_true,Bool.or_eq_true,bne_iff_ne,beq_iff_eq] at h
 obtain ⟨⟨⟨⟨⟨h1,h2⟩,h3⟩,h4⟩,h5⟩,h6⟩:=h
 refine ⟨h1,h2,fun y hy hl=>(h3 y hy).elim (fun z=>absurd hl z) id,h4,fun y hy hf=>?_,h6⟩
 rcases h5 y hy with (z | z) | z
 ·exact absurd hf z
 ·exact .inl z
 ·exact .inr z
def JV (P:Program) (w:World) (K:PySem.W.Frag) (mg:Str->Option Value) (base:Heap) (k:Nat) (x:Str) (ps:List Str) (sp:Sp):Prop:=
 ∃(f:Addr) (fd:FuncData),Yj P w K mg base GV k f fd ps sp/\mg x=some (.ref f)/\PySem.W.keepIn K (.ref f)=true/\Binds K fd ps []
theorem Zz {X:Cx}{j k:Nat}{x:Str}{ps:List Str}{sp:Sp}{p pos:Pos}{e:Expr}{es:List Expr}{t:TA} (h:JV X.prog X.w X.K X.mg X.base j x ps sp) (hr:JE k X.A) (ha:PA X (e::es) t) (hj:j<=k:=by decide) (hg:Gl X x:=by rfl) (hdb:(x==("__debug__" : Str))=false:=by decide)
  (he:starEach (e::es) X.env=(false,eval e X.env)::starEach es X.env:=by rfl) (hpl:(backTo pos (starEach es X.env)).any (·.1)=false:=by rfl):PE X (.Call (.Name x p) (e::es) [] pos) (ZiJ sp [] E0 t):=by
 obtain ⟨f,fd,G,hm,hk,hb⟩:=h
 exact ZfQ G (hr.mono hj) hg hm hk hb .nil ZhC ha hdb he hpl
def Jo (b:Addr) (H H':Hp):Prop:=∀c o,H c=some o->c≠b->H' c=some o
theorem Jo.refl (b:Addr) (H:Hp):Jo b H H:=fun _ _ h _=>h
theorem Jo.trans {b:Addr}{H H1 H2:Hp} (x:Jo b H H1) (y:Jo b H1 H2):Jo b H H2:=fun c o h n=>y c o (x c o h n) n
theorem Zf.frm {b:Addr}{H H':Hp} (x:Zf H H'):Jo b H H':=fun c o h _=>x c o h
theorem Zf.laid {H:Hp}{p:Addr}{o:HO} (h:H p=none):Zf H (upd H p o):=fun c u e=>by rw [Zi (Zg e h)];exact e
theorem Zf.step {H H':Hp}{p:Addr}{o:HO} (s:Zf H H') (h:H' p=none):Zf H (upd H' p o):=s.trans (.laid h)
theorem Jo.upd {b:Addr}{H:Hp}{o:HO}:Jo b H (upd H b o):=fun c u e n=>by rw [Zi n];exact e
theorem Jo.new {b p:Addr}{H H':Hp}{o:HO} (s:Jo b H H') (h:H' p=none):Jo b H (L2.upd H' p o):=s.trans (Zf.laid h).frm
theorem Zf.put {H H':Hp}{p:Addr}{o:HO} (s:Zf H H') (h:H p=none):Zf H (upd H' p o):=fun c u e=>by rw [Zi (Zg e h)];exact s c u e
def Bag (H:Hp) (b:Addr):Prop:=∃g r:Int,0<=g/\H b=some (.lst [.int g,.int r])
theorem Jo.free {b:Addr}{H H':Hp} (f:Jo b H H') (hb:Bag H' b) {p:Addr} (h:H' p=none):H p=none:=by
 cases q:H p with
 | none=>rfl
 | some o=>
  by_cases e:p=b
  ·subst e
   obtain ⟨g,r,_,z⟩:=hb
   rw [h] at z;cases z
  ·rw [f p o q e] at h;cases h
def ZD (H:Hp) (xs:List V) (ls:List (Str×Int)):Prop:=Paired (fun x (p:Str×Int)=>∃t,x=V.ref t/\H t=some (.tup [.str p.1,.int p.2])) xs ls
theorem ZD.mono {H H':Hp} (h:∀t p,H t=some (.tup p)->H' t=some (.tup p)):∀{xs:List V}{ls:List (Str×Int)},ZD H xs ls->ZD H' xs ls
 | _,_,.nil=>.nil
 | _,_,.cons ⟨t,e,q⟩ r=>.cons ⟨t,e,h t _ q⟩ (ZD.mono h r)
theorem ZD.same {H H':Hp} (s:Zf H H') {xs:List V}{ls:List (Str×Int)} (h:ZD H xs ls):ZD H' xs ls:=h.mono fun t p e=>s t _ e
theorem ZD.frm {b:Addr}{H H':Hp} (s:Jo b H H') (hb:Bag H b) {xs:List V}{ls:List (Str×Int)} (h:ZD H xs ls):ZD H' xs ls:=h.mono fun t p e=>s t _ e (fun z=>by
 obtain ⟨g,r,_,q⟩:=hb
 rw [z,q] at e;cases e)
theorem ZD.len {H:Hp}{xs:List V}{ls:List (Str×Int)} (h:ZD H xs ls):xs.length=ls.length:=Paired.length h
theorem ZD.get {H:Hp}:∀{xs:List V}{ls:List (Str×Int)}{i:Nat}{x:V},ZD H xs ls->xs[i]? = some x -> ∃p t,ls[i]? = some p/\x = .ref t/\H t=some (.tup [.str p.1,.int p.2])
 | _,_,_,_,.nil,e=>by simp at e
 | _,_,0,_,.cons ⟨t,e1,q⟩ _,e=>by simp at e;subst e;exact ⟨_,t,rfl,e1,q⟩
 | _,_,i+1,x,.cons _ r,e=>by
  obtain ⟨p,t,h1,h2⟩:=ZD.get (i:=i) (x:=x) r (by simpa using e)
  exact ⟨p,t,by simpa using h1,h2⟩
theorem ZD.snoc {H:Hp}{xs:List V}{ls:List (Str×Int)}{t:Addr}{x:Str}{k:Int} (h:ZD H xs ls) (e:H t=some (.tup [.str x,.int k])):ZD H (xs ++ [.ref t]) (ls ++ [(x,k)]):=Paired.snoc h ⟨t,rfl,e⟩
theorem ZD.append {H:Hp}:∀{xs ys:List V}{ls ms:List (Str×Int)},ZD H xs ls->ZD H ys ms->ZD H (xs++ys) (ls++ms)
 | _,_,_,_,.nil,s=>s
 | _,_,_,_,.cons r t,s=>.cons r (ZD.append t s)
inductive Wk:List (Str×Int)->Int->Prop
 | nil:Wk [] 0
 | born {ls:List (Str×Int)}{n k:Int}:Wk ls n->0<=k->k<=n->Wk (ls ++ [((("born" : Str),k):Str×Int)]) (n+2)
 | cross {ls:List (Str×Int)}{n k:Int}:Wk ls n->0<=k->k+1<n->Wk (ls ++ [((("cross" : Str),k):Str×Int)]) n
 | fin {ls:List (Str×Int)}{n k:Int}:Wk ls n->0<=k->k+1<n->Wk (ls ++ [((("end" : Str),k):Str×Int)]) (n-2)
def Kd (x:Str):Prop:=x = "born" ∨ x = "cross" ∨ x = "end"
theorem Wk.kd {ls:List (Str×Int)}{n:Int} (h:Wk ls n):∀p∈ls,Kd p.1:=by
 induction h with
 | nil=>intro p hp;cases hp
 | born _ _ _ ih=>intro p hp;rcases List.mem_append.mp hp with z | z;exact ih p z;rw [List.mem_singleton.mp z];exact .inl rfl
 | cross _ _ _ ih=>intro p hp;rcases List.mem_append.mp hp with z | z;exact ih p z;rw [List.mem_singleton.mp z];exact .inr (.inl rfl)
 | fin _ _ _ ih=>intro p hp;rcases List.mem_append.mp hp with z | z;exact ih p z;rw [List.mem_singleton.mp z];exact .inr (.inr rfl)
def Drw (H:Hp) (l:Addr) (ls:List (Str×Int)):Prop:=∃xs,H l=some (.lst xs)/\ZD H xs ls/\Wk ls 0/\ls.length<=60
def Ev (t:TT) (σ:St) (H:Hp) (β:Bool):Prop:=∀Q:Bool->Hp->Prop,Q β H->t σ H Q
theorem ZcV {t u:TT} {σ:St}{H:Hp} {β γ:Bool} (h1:Ev t σ H β) (h2:β = true->Ev u σ H γ):Ev (Zmu t u) σ H (β && γ):=fun Q q=>h1 _ (by
 cases β with
 | true=>rw [if_pos rfl];exact h2 rfl _ q
 | false=>rw [if_neg Bool.false_ne_true];exact q)
theorem ZmJ {t u:TT} {σ:St}{H:Hp} {β γ:Bool} (h1:Ev t σ H β) (h2:β = false->Ev u σ H γ):Ev (tOr t u) σ H (β || γ):=fun Q q=>h1 _ (by
 cases β with
 | true=>rw [if_pos rfl];exact q
 | false=>rw [if_neg Bool.false_ne_true];exact h2 rfl _ q)
theorem Zmp {t:TT} {σ:St}{H:Hp} {β:Bool}{T U:Hp->Prop} (h:Ev t σ H β) (h1:β = true->T H) (h2:β = false->U H):t σ H fun b H1=>if b=true then T H1 else U H1:=h _ (by
 cases β with
 | true=>rw [if_pos rfl];exact h1 rfl
 | false=>rw [if_neg Bool.false_ne_true];exact h2 rfl)
theorem Zfj {tc:TT}{t u:TS}{D:Ends} {σ:St}{H:Hp} {β:Bool} (h:Ev tc σ H β) (h1:β = true->t D σ H) (h2:β = false->u D σ H):ZgN tc t u D σ H:=Zmp h h1 h2
theorem lcT {σ:St}{H:Hp}{A B:Hp->Prop} (h:A H):Wn σ H fun b H3=>if b=true then A H3 else B H3:=by
 show if true=true then A H else B H
 exact GA h
theorem Wd {H H1 H2:Hp}{b l t:Addr}{xs:List V}{ls:List (Str×Int)} (x:Str) (k:Int) (f0:Jo b H H1) (hb1:Bag H1 b) (hl:H1 l=some (.lst xs)) (hL:ZD H1 xs ls) (hlb:l≠b) (hlf:H l=none) (f2:Jo b H1 H2) (bag2:Bag H2 b) (ht:H2 t=none):
  (upd H2 t (.tup [.str x,.int k])) l=some (.lst xs)/\Bag (upd (upd H2 t (.tup [.str x,.int k])) l (.lst (xs ++ [.ref t]))) b/\Jo b H (upd (upd H2 t (.tup [.str x,.int k])) l (.lst (xs ++ [.ref t]))) /\
   (upd (upd H2 t (.tup [.str x,.int k])) l (.lst (xs ++ [.ref t]))) l=some (.lst (xs ++ [.ref t]))/\ZD (upd (upd H2 t (.tup [.str x,.int k])) l (.lst (xs ++ [.ref t]))) (xs ++ [.ref t]) (ls ++ [(x,k)]):=by
 have hl2:H2 l=some (.lst xs):=f2 l _ hl hlb
 have hlt:l≠t:=Zg hl2 ht
 have hbt:b≠t:=by
  obtain ⟨g,r,_,e⟩:=bag2
  exact Zg e ht
 refine ⟨by rw [Zi hlt];exact hl2,?_,fun c o e n=>?_,Zb,?_⟩
 ·obtain ⟨g,r,h0,e⟩:=bag2
  exact ⟨g,r,h0,by rw [Zi (Ne.symm hlb),Zi hbt];exact e⟩
 ·have e2:=f2 c o (f0 c o e n) n
  rw [Zi (Zg e hlf),Zi (Zg e2 ht)]
  exact e2
 ·refine ZD.snoc ?_ (by rw [Zi (Ne.symm hlt)];exact Zb)
  refine (hL.frm f2 hb1).mono fun t' p e=>?_
  rw [Zi (Zgm e hl2 (by intro z;cases z)),Zi (Zg e ht)]
  exact e
theorem lcG {i:Nat}{v:V} {σ:St}{H:Hp}{A B:St->Hp->Prop} (h:A (σ.set i (some v)) H):JD i v σ H fun σ2 H2=>Wn σ2 H2 fun b H3=>if b=true then A σ2 H3 else B σ2 H3:=by
 show if true=true then A (σ.set i (some v)) H else B (σ.set i (some v)) H
 exact GA h
def isK (ls:List (Str×Int)) (pr:Str->Bool) (i:Nat):Bool:=((ls[i]?).map fun q=>pr q.1)==some true
def Ym (ls:List (Str×Int)) (pr:Str->Bool) (n:Nat):List Int:=(List.range n).filterMap fun i=>if isK ls pr i=true then some (i:Int) else none
theorem Jc (ls:List (Str×Int)) (pr:Str->Bool) (n:Nat):Ym ls pr (n+1)=Ym ls pr n++(if isK ls pr n=true then [(n:Int)] else []):=by
 unfold Ym
 rw [List.range_succ,List.filterMap_append]
 by_cases h:isK ls pr n=true<;>simp [h]
theorem Zez {ls:List (Str×Int)}{pr:Str->Bool}{n:Nat}{q:Str×Int} (h:ls[n]? = some q) (hp:pr q.1=true):(Ym ls pr n).map V.int ++ [V.int n]=(Ym ls pr (n+1)).map V.int:=by
 have:isK ls pr n=true:=by unfold isK;rw [h];simp [hp]
 rw [Jc,this]
 simp
theorem ZfT {ls:List (Str×Int)}{pr:Str->Bool}{n:Nat}{q:Str×Int} (h:ls[n]? = some q) (hp:pr q.1=false):(Ym ls pr n).map V.int=(Ym ls pr (n+1)).map V.int:=by
 have:isK ls pr n=false:=by unfold isK;rw [h];simp [hp]
 rw [Jc,this]
 simp
theorem Wc (ls:List (Str×Int)) (pr:Str->Bool) (n:Nat):(Ym ls pr n).length<=n:=by
 unfold Ym
 exact Nat.le_trans (List.length_filterMap_le _ _) (by simp)
theorem Zj7 (ls:List (Str×Int)) (pr:Str->Bool) (n:Nat):∀x∈Ym ls pr n,x<(n:Int):=by
 intro x hx
 unfold Ym at hx
 obtain ⟨i,hi,e⟩:=List.mem_filterMap.mp hx
 have hi':=List.mem_range.mp hi
 by_cases h:isK ls pr i=true
 ·rw [if_pos h] at e;have:=Option.some.inj e;lia
 ·rw [if_neg h] at e;cases e
theorem ZbW:∀{a b:List Int},a.Perm b->a.Pairwise (· <= ·)->b.Pairwise (· <= ·)->a=b
 | [],b,p,_,_=>(List.nil_perm.mp p).symm
 | x::a,[],p,_,_=>absurd p.length_eq (by simp)
 | x::a,y::b,p,ha,hb=>by
  have hx:x∈y::b:=p.mem_iff.mp List.mem_cons_self
  have hy:y∈x::a:=p.mem_iff.mpr List.mem_cons_self
  have h1:y<=x:=by
   rcases List.mem_cons.mp hx with e | h
   ·lia
   ·exact (List.pairwise_cons.mp hb).1 x h
  have h2:x<=y:=by
   rcases List.mem_cons.mp hy with e | h
   ·lia
   ·exact (List.pairwise_cons.mp ha).1 y h
  have e:x=y:=by lia
  subst e
  rw [ZbW (List.perm_cons x |>.mp p) (List.pairwise_cons.mp ha).2 (List.pairwise_cons.mp hb).2]
def ZcY (x:Str):Int:=if x = "born" then 2 else if x = "end" then -2 else 0
def Yw (ls:List (Str×Int)):Int:=(ls.map fun p=>ZcY p.1).sum
theorem JY (ls:List (Str×Int)) (p:Str×Int):Yw (ls ++ [p])=Yw ls+ZcY p.1:=by
 unfold Yw
 simp
theorem Zlf {xs:List V}{t:Nat} (h:t<=xs.length):UU xs none (some (t:Int))=xs.take t:=by
 have e1:HT.sIx xs.length 0 none=0:=by unfold HT.sIx;rfl
 have e2:HT.sIx xs.length xs.length (some (t:Int))=t:=by
  have h0:¬((t:Int)<0):=by lia
  unfold HT.sIx
  simp [h0]
  lia
 unfold UU
 rw [e1,e2]
 simp
theorem ZcH (ns:List Int):(ns.map V.int).all Wv=true:=by
 rw [List.all_eq_true]
 intro x hx
 obtain ⟨n,_,rfl⟩:=List.mem_map.mp hx
 rfl
section
variable {X:Cx}
theorem Zex {v:Value}{a:Int} (h:IsPart v (some a)):RelV (.int a) v:=by
 cases h with
 | int _ t=>exact ⟨t,rfl⟩
def Znq (to:TE) (tl th:TO):TG:=fun v σ H Q=>to σ H fun x H1=>tl σ H1 fun lo H2=>th σ H2 fun hi H3=>∃(l b:Addr) (xs ys:List V) (a c:Int),x = .ref l/\v = .ref b/\lo=some a/\hi=some c/\H3 l=some (.lst xs)/\H3 b=some (.lst ys)/\l≠b /\
 0<=a/\a<=c/\c<=xs.length/\xs.length+ys.length<=sizeLine/\Q σ (upd H3 l (.lst (xs.take a.toNat++ys++xs.drop c.toNat)))
theorem Ziz {o:Expr}{lo hi:Option Expr}{to:TE}{tl th:TO}{p2 pos:Pos} (ho:PE X o to) (hl:PO X lo tl) (hu:PO X hi th):PG X (.Subscript o (.Slice lo hi none p2) pos) (Znq to tl th):=by
 intro pins s σ H v u Q I r h
 show wpAny _ _ (do
   let ov <- holding [u] (eval o X.env)
   let iv <- holding [u,ov] (eval (.Slice lo hi none p2) X.env)
   standAt pos
   holding [u,ov,iv] (setItem ov iv u)
   release [iv,u,ov] []) _ _ s
 refine wpAny_bind (wpAny_holding (YJ (ho pins s σ H _ I h) fun ov s1 ⟨x,H1,I1,r1,q1⟩=>?_))
 refine wpAny_bind (wpAny_holding (wpAny_Slice (YJ (hl pins s1 σ H1 _ I1 q1) fun vl s2 ⟨l',H2,I2,pl,q2⟩=>YJ (hu pins s2 σ H2 _ I2 q2) fun vu s3 ⟨u',H3,I3,pu,q3⟩=>?_)))
 rw [evalPart_none]
 refine wpAny_pure ?_
 have I4:Inv X pins σ H3 { s3 with heap:=s3.heap.push { cls:=.type "slice", data:=.fields #[vl,vu,.none] } }:=I3.kept (t':=s3.toks) fun b ob q=>Heap.get?_push_of_some _ q
 obtain ⟨l,b,xs,ys,a,c,rfl,rfl,rfl,rfl,hx,hy,hne,h0,hac,hc,hz,q⟩:=q3
 cases r1
 cases r
 refine wpAny_bind (wpAny_standAt (wpAny_bind (wpAny_holding (ZgM I4 hx hy hne (Heap.IsSliceOf.new ..) (Zex pl) (Zex pu) h0 hac hc hz fun s5 I5=>?_))))
 exact wpAny_release ⟨σ,_,I5,q⟩
def ZjF:V->List V->Hp->VK->Prop:=fun x vs H Q=>∃(l:Addr) (xs:List V) (i:Int) (y:V),x = .ref l/\vs = [.int i,y]/\H l=some (.lst xs)/\0<=i/\i<=xs.length/\xs.length<sizeLine/\xs.length<2 ^ 62/\Q .non (upd H l (.lst (xs.take i.toNat++y::xs.drop i.toNat)))
theorem Zcz:MtM X "list.insert" ZjF:=by
 intro pins s σ H x vs v us Q I rx rv h
 obtain ⟨l,xs,i,y,rfl,rfl,hH,h0,h1,hz,hb,q⟩:=h
 cases rx
 obtain ⟨u1,u,rfl,ri,ru⟩:=rv.two
 obtain ⟨t,rfl⟩:=ri
 obtain ⟨z,its,n,r,hl,e⟩:=I.lstM hH
 have hfit:¬(!Builtin.List.listFitsIndex i)=true:=by
  unfold Builtin.List.listFitsIndex
  simp
  lia
 refine call_meets F.slot_list_insert ⟨_,e,rfl⟩ F.entry_list_insert (F.args_list_insert_3 _ _ _) (AutoSeq1.list_insert_list_int_val_1 l its.toArray n i t u hfit (by rw [List.size_toArray];lia)) ⟨e,?_⟩
 refine ⟨.non,_,I.lset (its':=its.take i.toNat++u::its.drop i.toNat) hH e ?_ (Vals.append (r.take _) (.cons ru (r.drop _))) ?_,rfl,q⟩
 ·have hi:¬i<0:=by lia
  have hm:min i.toNat its.toArray.size=i.toNat:=by rw [List.size_toArray];lia
  simp only [if_neg hi,hm]
  simp
  rw [List.take_of_length_le (by simp)]
 ·rw [List.length_append,List.length_cons,List.length_take,List.length_drop]
  lia
end
section
variable {prog:Program}{w:World}{A:Around}{E:Value->Shared->Prop}{s:Shared}
end
section
variable {X:Cx}
end
theorem Zbi {K:PySem.W.Frag}{a:Addr}{xs:List V}{g:TG}{tb:TS}{D:Ends} {σ:St}{H:Hp} (Pv:Nat->St->Hp->Prop) (h0:Pv 0 σ H) (hl:∀i σ H,i<=xs.length->Pv i σ H->Zo K H a xs)
  (hs:∀i x p σ H,xs[i]? = some x->Pv i σ H->H p=none->g (.ref p) σ (upd H p (.tup [.int i,x])) fun σ2 H2=>tb { D with nx:=Pv (i+1),ct:=Pv (i+1),bk:=D.nx } σ2 H2) (hd:∀ σ H,Pv xs.length σ H->D.nx σ H):
  ∃W:Nat->Nat->St->Hp->Prop,(∃m,W 0 m σ H) /\ ∀i m σ H,W i m σ H ->
   ((Ite K a).stop i H/\D.nx σ H)∨((Ite K a).go i H /\ ∃N:St->Hp->Prop,(∀ σ' H',N σ' H' -> ∃m',m'<m/\W (i+1) m' σ' H') /\ ∀x H',(Ite K a).yld i H x H'->g x σ H' fun σ2 H2=>tb { D with nx:=N,ct:=N,bk:=D.nx } σ2 H2):=by
 refine ⟨fun i m σ H=>m=xs.length-i/\i<=xs.length/\Pv i σ H,⟨xs.length,by simp,Nat.zero_le _,h0⟩,?_⟩
 rintro i m σ H ⟨rfl,hi,p⟩
 have q:=hl i σ H hi p
 by_cases hlt:i<xs.length
 ·refine .inr ⟨⟨xs,xs[i],q,by simp [hlt]⟩,Pv (i+1),fun σ' H' p'=>⟨xs.length-(i+1),by lia,rfl,hlt,p'⟩,fun x H' y=>?_⟩
  obtain ⟨r,z,e1,e2,e3,y⟩:=y
  subst e1 e3
  exact hs i z r σ _ (y xs q) p e2
 ·have e:i=xs.length:=by lia
  subst e
  exact .inl ⟨⟨xs,q,Nat.le_refl _⟩,hd σ H p⟩
def swp (r:List Int) (k:Nat):List Int:=(r.set k (r.getD (k+1) 0)).set (k+1) (r.getD k 0)
def stp (s:List Int×Int) (p:Str×Int):List Int×Int:=
 if p.1 = "born" then (s.1.take p.2.toNat ++ [s.2,s.2+1]++s.1.drop p.2.toNat,s.2+2) else if p.1 = "cross" then (swp s.1 p.2.toNat,s.2) else (s.1.take p.2.toNat++s.1.drop (p.2.toNat+2),s.2)
def rb (ls:List (Str×Int)):List Int×Int:=ls.foldl stp ([],0)
theorem YS (ls:List (Str×Int)) (p:Str×Int):rb (ls ++ [p])=stp (rb ls) p:=by
 unfold rb
 rw [List.foldl_append]
 rfl
theorem J3 {s:List Int×Int}{k:Int}:stp s ("born", k)=(s.1.take k.toNat ++ [s.2,s.2+1]++s.1.drop k.toNat,s.2+2):=if_pos rfl
theorem nb1:¬(("cross" : Str) = "born"):=by decide +kernel
theorem nb2:¬(("end" : Str) = "born"):=by decide +kernel
theorem nb3:¬(("end" : Str) = "cross"):=by decide +kernel
theorem Jt {s:List Int×Int}{k:Int}:stp s ("cross", k)=(swp s.1 k.toNat,s.2):=(if_neg nb1).trans (if_pos rfl)
theorem W5 {s:List Int×Int}{k:Int}:stp s ("end", k)=(s.1.take k.toNat++s.1.drop (k.toNat+2),s.2):=(if_neg nb2).trans (if_neg nb3)
theorem GD {ls:List (Str×Int)}{n:Int} (h:Wk ls n):((rb ls).1.length:Int)=n:=by
 induction h with
 | nil=>rfl
 | born h h0 h1 ih=>
  rw [YS,J3]
  simp only [List.length_append,List.length_take,List.length_drop,List.length_cons,List.length_nil]
  lia
 | cross h h0 h1 ih=>
  rw [YS,Jt]
  simp only [swp,List.length_set]
  exact ih
 | fin h h0 h1 ih=>
  rw [YS,W5]
  simp only [List.length_append,List.length_take,List.length_drop]
  lia
theorem Zbz {α:Type}{a b:List α}{x y:α} (h:a ++ [x]=b ++ [y]):a=b/\x=y:=by
 have h1:=List.append_inj' h rfl
 exact ⟨h1.1,by simpa using h1.2⟩
theorem ZkM {l:List (Str×Int)}{p:Str×Int}{m:Int} (h:Wk (l ++ [p]) m):∃n,Wk l n/\((p.1 = "born" /\ 0<=p.2/\p.2<=n)∨(p.1 = "cross" /\ 0<=p.2/\p.2+1<n)∨(p.1 = "end" /\ 0<=p.2/\p.2+1<n)):=by
 generalize hq:l ++ [p]=q at h
 cases h with
 | nil=>exact absurd hq (by simp)
 | born h h0 h1=>obtain ⟨rfl,rfl⟩:=Zbz hq;exact ⟨_,h,.inl ⟨rfl,h0,h1⟩⟩
 | cross h h0 h1=>obtain ⟨rfl,rfl⟩:=Zbz hq;exact ⟨_,h,.inr (.inl ⟨rfl,h0,h1⟩)⟩
 | fin h h0 h1=>obtain ⟨rfl,rfl⟩:=Zbz hq;exact ⟨_,h,.inr (.inr ⟨rfl,h0,h1⟩)⟩
theorem Jh {ls:List (Str×Int)}{n:Int} (h:Wk ls n):∀i,∃m,Wk (ls.take i) m:=by
 induction h with
 | nil=>intro i;exact ⟨0,by simpa using Wk.nil⟩
 | @born l n k h h0 h1 ih=>
  intro i
  by_cases hi:i<=l.length
  ·rw [List.take_append_of_le_length hi];exact ih i
  ·rw [List.take_of_length_le (by rw [List.length_append,List.length_singleton];lia)];exact ⟨_,Wk.born h h0 h1⟩
 | @cross l n k h h0 h1 ih=>
  intro i
  by_cases hi:i<=l.length
  ·rw [List.take_append_of_le_length hi];exact ih i
  ·rw [List.take_of_length_le (by rw [List.length_append,List.length_singleton];lia)];exact ⟨_,Wk.cross h h0 h1⟩
 | @fin l n k h h0 h1 ih=>
  intro i
  by_cases hi:i<=l.length
  ·rw [List.take_append_of_le_length hi];exact ih i
  ·rw [List.take_of_length_le (by rw [List.length_append,List.length_singleton];lia)];exact ⟨_,Wk.fin h h0 h1⟩
theorem ZdQ {ls:List (Str×Int)}{n:Int} (h:Wk ls n) {i:Nat}{p:Str×Int} (hp:ls[i]? = some p):
  ls.take (i+1)=ls.take i ++ [p]/\((p.1 = "born" /\ 0<=p.2/\p.2<=((rb (ls.take i)).1.length:Int))∨(p.1 = "cross" /\ 0<=p.2/\p.2+1<((rb (ls.take i)).1.length:Int))∨(p.1 = "end" /\ 0<=p.2/\p.2+1<((rb (ls.take i)).1.length:Int))):=by
 have e:ls.take (i+1)=ls.take i ++ [p]:=by rw [List.take_add_one,hp];rfl
 refine ⟨e,?_⟩
 obtain ⟨m,hm⟩:=Jh h (i+1)
 rw [e] at hm
 obtain ⟨n',hn,c⟩:=ZkM hm
 rw [GD hn]
 exact c
def Yp (H:Hp) (xs:List V) (rs:List (List Int)):Prop:=Paired (fun x (r:List Int)=>∃t,x=V.ref t/\H t=some (.lst (r.map V.int))) xs rs
theorem Yp.mono {H H':Hp} (h:∀t o,V.ref t∈xs->H t=some o->H' t=some o) {rs:List (List Int)} (r:Yp H xs rs):Yp H' xs rs:=by
 unfold Yp at *
 induction r with
 | nil=>exact .nil
 | cons a t ih=>
  obtain ⟨q,e,hq⟩:=a
  subst e
  exact .cons ⟨q,rfl,h q _ List.mem_cons_self hq⟩ (ih fun t o ht=>h t o (List.mem_cons_of_mem _ ht))
def rowsOf (ls:List (Str×Int)) (i:Nat):List (List Int):=(List.range i).map fun j=>(rb (ls.take j)).1
theorem ZaM (ls:List (Str×Int)) (i:Nat):rowsOf ls (i+1)=rowsOf ls i ++ [(rb (ls.take i)).1]:=by
 unfold rowsOf
 rw [List.range_succ,List.map_append]
 rfl
theorem Yp.mem {H:Hp}{xs:List V}{rs:List (List Int)} (r:Yp H xs rs) {t:Addr} (h:V.ref t∈xs):∃q:List Int,H t=some (.lst (q.map V.int)):=by
 unfold Yp at r
 induction r with
 | nil=>cases h
 | cons a _ ih=>
  obtain ⟨q,e,hq⟩:=a
  rcases List.mem_cons.mp h with z | z
  ·rw [e] at z
   have:t=q:=V.ref.inj z
   subst this
   exact ⟨_,hq⟩
  ·exact ih z
theorem Yp.last {H:Hp}{rs:List (List Int)}{r:List Int}:∀{xs:List V} , Yp H xs (rs ++ [r]) -> ∃ys t,xs=ys ++ [V.ref t]/\H t=some (.lst (r.map V.int)):=by
 induction rs with
 | nil=>
  intro xs h
  cases h with
  | cons a b=>
   cases b
   obtain ⟨t,e,q⟩:=a
   exact ⟨[],t,by rw [e];rfl,q⟩
 | cons q rs ih=>
  intro xs h
  cases h with
  | @cons x _ l _ a b=>
   obtain ⟨ys,t,e,q⟩:=ih b
   exact ⟨x::ys,t,by rw [e];rfl,q⟩
theorem Yp.snoc {H:Hp}{xs:List V}{rs:List (List Int)}{t:Addr}{r:List Int} (h:Yp H xs rs) (e:H t=some (.lst (r.map V.int))):Yp H (xs ++ [.ref t]) (rs ++ [r]):=Paired.snoc h ⟨t,rfl,e⟩
theorem Yp.len {H:Hp}{xs:List V}{rs:List (List Int)} (h:Yp H xs rs):xs.length=rs.length:=Paired.length h
theorem ZaA {H H' G:Hp}{R w:Addr}{ys:List V}{ls:List (Str×Int)}{i:Nat} (hR:H R=none) (sm:Zf H H') (rv:Yp H' ys (rowsOf ls (i+1))) (ap:∀t,V.ref t∈ys->H t=none/\t≠R) (nd:ys.Nodup) (hw:H' w=none) (hwR:w≠R)
  (k:∀c o,H' c=some o->c≠R->G c=some o) (gw:G w=some (.lst ((rb (ls.take (i+1))).1.map V.int))):
  Zf H G/\Yp G (ys ++ [.ref w]) (rowsOf ls (i+2))/\(∀t,V.ref t∈ys ++ [V.ref w]->H t=none/\t≠R)/\(ys ++ [V.ref w]).Nodup:=by
 refine ⟨fun c o e=>k c o (sm c o e) (Zg e hR),?_,fun t ht=>?_,?_⟩
 ·rw [ZaM]
  exact Yp.snoc (rv.mono fun t o ht e=>k t o e (ap t ht).2) gw
 ·rcases List.mem_append.mp ht with z | z
  ·exact ap t z
  ·have:t=w:=V.ref.inj (List.mem_singleton.mp z)
   subst this
   exact ⟨sm.free hw,hwR⟩
 ·rw [List.nodup_append]
  refine ⟨nd,by simp,fun a ha b hb=>?_⟩
  rw [List.mem_singleton.mp hb]
  intro z
  subst z
  obtain ⟨q,e⟩:=rv.mem ha
  rw [hw] at e
  cases e
theorem Zc8 {ls:List (Str×Int)}{n:Int} (h:Wk ls n):n<=2*(ls.length:Int):=by
 induction h with
 | nil=>decide
 | born _ _ _ ih=>rw [List.length_append,List.length_singleton];lia
 | cross _ _ _ ih=>rw [List.length_append,List.length_singleton];lia
 | fin _ _ _ ih=>rw [List.length_append,List.length_singleton];lia
theorem Za3 {n j:Nat} (h:j<n):ixN n (j:Int)=some j:=by
 unfold ixN
 rw [if_pos (by lia),if_pos (by lia)]
 simp
theorem Zjo (r:List Int) (k:Nat):((r.map V.int).set k (V.int (r.getD (k+1) 0))).set (k+1) (V.int (r.getD k 0))=(swp r k).map V.int:=by
 unfold swp
 rw [List.map_set,List.map_set]
theorem map_getD (r:List Int) {k:Nat} (h:k<r.length):(r.map V.int)[k]? = some (V.int (r.getD k 0)):=by
 rw [List.getElem?_map]
 simp [h]
def Zao:Sp:=fun vs H Q _=>∃(l:Addr) (xs:List V) (ls:List (Str×Int)),vs = [.ref l]/\H l=some (.lst xs)/\ZD H xs ls/\ls.length<=60/\Wk ls 0 /\ ∀(p:Addr) (H':Hp) (ys:List V),H p=none->Zf H H'->H' p=some (.lst ys)->Yp H' ys (rowsOf ls (ls.length+1))->(∀t,V.ref t∈ys->H t=none/\t≠p)->ys.Nodup->Q (.ref p) H'
theorem Zj6 {α:Type} (r:List α) (k:Nat) (x y:α) (h:k<=r.length):(r.take k++y::r.drop k).take k++x::(r.take k++y::r.drop k).drop k=r.take k ++ [x,y]++r.drop k:=by
 have hl:(r.take k).length=k:=by rw [List.length_take];lia
 have e1:(r.take k++y::r.drop k).take k=r.take k:=by
  have:=List.take_left' (l₂:=y::r.drop k) hl
  exact this
 have e2:(r.take k++y::r.drop k).drop k=y::r.drop k:=List.drop_left' hl
 rw [e1,e2]
 simp
theorem Zkb {α:Type} (r:List α) (k:Nat):(r.eraseIdx k).eraseIdx k=r.take k++r.drop (k+2):=by
 induction r generalizing k with
 | nil=>simp
 | cons x r ih=>
  cases k with
  | zero=>cases r<;>simp
  | succ k=>
   rw [List.eraseIdx_cons_succ,List.eraseIdx_cons_succ,ih]
   simp
theorem ZcL {n j:Nat} (h:j<n):seqIndex? (j:Int) n=some j:=by
 unfold seqIndex?
 have h0:¬((j:Int)<0):=by lia
 simp [h0,h]
section
variable {κ:Type} [DecidableEq κ]
def Yy (kvs:List (κ × V)) (k:κ):Option V:=(kvs.find? fun kv=>decide (kv.1=k)).map (·.2)
def putK (kvs:List (κ × V)) (k:κ) (v:V):List (κ × V):=
 if (kvs.any fun kv=>decide (kv.1=k))=true then kvs.map (fun kv=>if kv.1=k then (kv.1,v) else kv) else kvs ++ [(k,v)]
def Zb1 (kvs:List (κ × V)) (k:κ):List (κ × V):=kvs.filter fun kv=>decide (kv.1≠k)
theorem Yd {p:κ × V}{r:List (κ × V)}{k:κ} (e:p.1=k):Yy (p::r) k=some p.2:=by simp [Yy,List.find?_cons,e]
theorem Ye {p:κ × V}{r:List (κ × V)}{k:κ} (e:¬p.1=k):Yy (p::r) k=Yy r k:=by simp [Yy,List.find?_cons,e]
theorem WO (k:κ):∀kvs:List (κ × V),(kvs.any fun kv=>decide (kv.1=k))=(Yy kvs k).isSome
 | []=>rfl
 | p::r=>by
  rw [List.any_cons]
  by_cases e:p.1=k
  ·simp only [Yd e,decide_eq_true e,Bool.true_or,Option.isSome_some]
  ·rw [Ye e,decide_eq_false e,Bool.false_or];exact WO k r
theorem ZdU (k j:κ) (y:V):∀kvs:List (κ × V),Yy (kvs.map fun kv=>if kv.1=k then (kv.1,y) else kv) j=(Yy kvs j).map fun x=>if j=k then y else x
 | []=>rfl
 | p::r=>by
  have ih:=ZdU k j y r
  rw [List.map_cons]
  by_cases h:p.1=k
  ·rw [if_pos h]
   by_cases e:p.1=j
   ·rw [Yd (p:=(p.1,y)) e,Yd e,Option.map_some,if_pos (e.symm.trans h)]
   ·rw [Ye (p:=(p.1,y)) e,Ye e,ih]
  ·rw [if_neg h]
   by_cases e:p.1=j
   ·rw [Yd (p:=p) e,Yd e,Option.map_some,if_neg (fun z=>h (e.trans z))]
   ·rw [Ye (p:=p) e,Ye e,ih]
theorem Zcy (k j:κ) (y:V):∀kvs:List (κ × V),Yy kvs k=none->Yy (kvs ++ [(k,y)]) j=if j=k then some y else Yy kvs j
 | [],_=>by
  by_cases e:k=j
  ·rw [if_pos e.symm];exact Yd (p:=(k,y)) e
  ·rw [if_neg (fun z=>e z.symm)];exact Ye (p:=(k,y)) e
 | p::r,hn=>by
  rw [List.cons_append]
  have hk:¬p.1=k:=fun z=>by rw [Yd z] at hn;cases hn
  rw [Ye hk] at hn
  have ih:=Zcy k j y r hn
  by_cases e:p.1=j
  ·rw [Yd e,Yd e,if_neg (fun z=>hk (e.trans z))]
  ·rw [Ye e,Ye e,ih]
theorem Zeq (kvs:List (κ × V)) (k j:κ) (y:V):Yy (putK kvs k y) j=if j=k then some y else Yy kvs j:=by
 unfold putK
 by_cases a:(kvs.any fun kv=>decide (kv.1=k))=true
 ·rw [if_pos a,ZdU]
  rw [WO] at a
  by_cases e:j=k
  ·obtain ⟨x,hx⟩:=Option.isSome_iff_exists.mp a
   rw [if_pos e,e,hx,Option.map_some,if_pos rfl]
  ·rw [if_neg e]
   cases Yy kvs j with
   | none=>rfl
   | some x=>rw [Option.map_some,if_neg e]
 ·rw [if_neg a]
  refine Zcy k j y kvs ?_
  rw [WO] at a
  cases q:Yy kvs k with
  | none=>rfl
  | some x=>rw [q] at a;exact (a rfl).elim
theorem JA (kvs:List (κ × V)) (k:κ) (v:V):(putK kvs k v).length<=kvs.length+1:=by
 unfold putK
 split
 ·rw [List.length_map];lia
 ·rw [List.length_append,List.length_cons,List.length_nil];lia
theorem U7 {kvs:List (κ × V)}{k:κ} (v:V) (h:Yy kvs k=none):putK kvs k v=kvs ++ [(k,v)]:=by
 unfold putK
 rw [WO,h]
 exact if_neg (by decide)
theorem UW.isSome_eq {o:Option V}{u:Option Value} (r:UW o u):o.isSome=u.isSome:=by
 cases o with
 | none=>cases u with
  | none=>rfl
  | some _=>exact (show False from r).elim
 | some _=>cases u with
  | none=>exact (show False from r).elim
  | some _=>rfl
theorem KV.val {kvs:List (κ × V)}{vs:List (κ × Value)} (r:KV kvs vs) (k:κ):UW (Yy kvs k) (valueAt vs k):=by
 unfold KV at r
 induction r with
 | nil=>exact True.intro
 | @cons p q ps qs h t ih=>
  obtain ⟨h1,h2⟩:=h
  by_cases e:p.1=k
  ·have e':q.1=k:=h1.symm.trans e
   have b:valueAt (q::qs) k=some q.2:=by simp [valueAt,List.find?_cons,e']
   rw [Yd e,b];exact h2
  ·have e':¬q.1=k:=fun z=>e (h1.trans z)
   have b:valueAt (q::qs) k=valueAt qs k:=by simp [valueAt,List.find?_cons,e']
   rw [Ye e,b];exact ih
theorem KV.any {kvs:List (κ × V)}{vs:List (κ × Value)} (r:KV kvs vs) (k:κ):(kvs.any fun kv=>decide (kv.1=k))=vs.any fun kv=>decide (kv.1=k):=by
 unfold KV at r
 induction r with
 | nil=>rfl
 | cons h t ih=>rw [List.any_cons,List.any_cons,ih,h.1]
theorem KV.repl {kvs:List (κ × V)}{vs:List (κ × Value)} (r:KV kvs vs) (k:κ) {y:V}{u:Value} (ry:RelV y u):
  KV (kvs.map fun kv=>if kv.1=k then (kv.1,y) else kv) (vs.map fun kv=>if kv.1=k then (kv.1,u) else kv):=by
 unfold KV at r ⊢
 induction r with
 | nil=>exact .nil
 | @cons p q ps qs h t ih=>
  rw [List.map_cons,List.map_cons]
  refine .cons ?_ ih
  obtain ⟨h1,h2⟩:=h
  by_cases e:p.1=k
  ·rw [if_pos e,if_pos (h1.symm.trans e)];exact ⟨h1,ry⟩
  ·rw [if_neg e,if_neg (fun z=>e (h1.trans z))];exact ⟨h1,h2⟩
theorem KV.put {kvs:List (κ × V)}{vs:List (κ × Value)} (r:KV kvs vs) (k:κ) {y:V}{u:Value} (ry:RelV y u):KV (putK kvs k y) (stored vs k u):=by
 unfold putK stored
 rw [r.any k]
 by_cases e:(vs.any fun kv=>decide (kv.1=k))=true
 ·rw [if_pos e,if_pos e];exact r.repl k ry
 ·rw [if_neg e,if_neg e];exact Paired.snoc r ⟨rfl,ry⟩
theorem KV.length {kvs:List (κ × V)}{vs:List (κ × Value)} (r:KV kvs vs):kvs.length=vs.length:=Paired.length r
theorem Zh0 (kvs:List (κ × V)) (k:κ):(Zb1 kvs k).length<=kvs.length:=List.length_filter_le _ _
end
theorem Zd4 {P:Program}{w:World}{k:Key}{u:Value} (r:RelV (kV k) u):(ZQ P w).is k u=true:=by
 cases k with
 | inl i=>obtain ⟨t,e⟩:=(show ∃t,u=Value.int i t from r);subst e;exact ZdI P w i t
 | inr x=>obtain ⟨t,e⟩:=(show ∃t,u=Value.str x t from r);subst e;exact ZdR P w x t
theorem Zcq {P:Program}{w:World}:∀{ks:List Key}{us:List Value},Vals (ks.map kV) us->ItemsAre (ZQ P w) ks us
 | [],_,r=>by rw [List.map_nil] at r;cases r;exact .nil
 | k::ks,_,r=>by
  rw [List.map_cons] at r
  cases r with
  | cons h t=>exact .cons (Zd4 h) (Zcq t)
abbrev KT (H:Hp):List (List Key×V)->List (List Key×Addr×Value)->Prop:=Paired fun p q=>p.1=q.1/\H q.2.1=some (.tup (p.1.map kV))/\RelV p.2 q.2.2
theorem KT.val {H:Hp}{kvs:List (List Key×V)}{xs:List (List Key×Addr×Value)} (r:KT H kvs xs) (k:List Key):UW (Yy kvs k) ((atKey xs k).map (·.2)):=by
 induction r with
 | nil=>exact True.intro
 | @cons p q ps qs h t ih=>
  obtain ⟨h1,_,h2⟩:=h
  by_cases e:p.1=k
  ·have e':q.1=k:=h1.symm.trans e
   have b:atKey (q::qs) k=some q.2:=by simp [atKey,List.find?_cons,e']
   rw [Yd e,b];exact h2
  ·have e':¬q.1=k:=fun z=>e (h1.trans z)
   have b:atKey (q::qs) k=atKey qs k:=by simp [atKey,List.find?_cons,e']
   rw [Ye e,b];exact ih
theorem KT.repl {H:Hp}{kvs:List (List Key×V)}{xs:List (List Key×Addr×Value)} (r:KT H kvs xs) (k:List Key) {y:V}{u:Value} (ry:RelV y u):
  KT H (kvs.map fun kv=>if kv.1=k then (kv.1,y) else kv) (xs.map (putAt k u)):=by
 induction r with
 | nil=>exact .nil
 | @cons p q ps qs h t ih=>
  rw [List.map_cons,List.map_cons]
  refine .cons ?_ ih
  obtain ⟨h1,h2,h3⟩:=h
  unfold putAt
  by_cases e:p.1=k
  ·rw [if_pos e,if_pos (h1.symm.trans e)];exact ⟨h1,h2,ry⟩
  ·rw [if_neg e,if_neg (fun z=>e (h1.trans z))];exact ⟨h1,h2,h3⟩
theorem KT.put {H:Hp}{kvs:List (List Key×V)}{xs:List (List Key×Addr×Value)} (r:KT H kvs xs) (k:List Key) {b:Addr}{y:V}{u:Value} (hb:H b=some (.tup (k.map kV))) (ry:RelV y u):
  KT H (putK kvs k y) (storedH xs k b u):=by
 have e:(kvs.any fun kv=>decide (kv.1=k))=(atKey xs k).isSome:=by
  rw [WO,(r.val k).isSome_eq,Option.isSome_map]
 unfold putK storedH
 rw [e]
 by_cases q:(atKey xs k).isSome=true
 ·rw [if_pos q,if_pos q];exact r.repl k ry
 ·rw [if_neg q,if_neg q];exact Paired.snoc r ⟨rfl,hb,ry⟩
theorem KT.keeps {H H':Hp}{kvs:List (List Key×V)}{xs:List (List Key×Addr×Value)} (r:KT H kvs xs) (ht:∀b ys,H b=some (.tup ys)->H' b=some (.tup ys)):KT H' kvs xs:=
 Paired.mapP r fun _ _ z=>⟨z.1,ht _ _ z.2.1,z.2.2⟩
section
variable {P:Program}{w:World}{H:Hp}{h:Heap}{a:Addr}
theorem Zku {u:HO} (ok:Gj P w H h) (e:Rd H a u):Yo P w H h a u:=e.ok ok
theorem ZfE {kvs:List (Key×V)} (ok:Gj P w H h) (e:Rd H a (.dK kvs)):kvs.length<=sizeLine/\(a==sysModules)=false /\ ∃vs,KV kvs vs/\h.DictOf (ZQ P w) a vs:=
 show Yo P w H h a (.dK kvs) from Zku ok e
theorem Zg5 {kvs:List (Key×V)} (ok:Gj P w H h) (e:H a=some (.dK kvs)):kvs.length<=sizeLine/\(a==sysModules)=false /\ ∃vs,KV kvs vs/\h.DictOf (ZQ P w) a vs:=ZfE ok (.inl e)
theorem ZbI {ks:List Key} (ok:Gj P w H h) (e:H a=some (.tup (ks.map kV))):(tupleKind (ZQ P w)).is h ks a:=by
 obtain ⟨_,its,r,o,h1,h2,n,h3⟩:=(show Yo P w H h a (.tup (ks.map kV)) from ok a _ e)
 exact ⟨o,its.toArray,n,h1,h2,h3,by simpa using Zcq r⟩
theorem ZfK {kvs:List (List Key×V)} (ok:Gj P w H h) (e:Rd H a (.dT kvs)):kvs.length<=sizeLine/\(a==sysModules)=false /\
  ∃xs,KT H kvs xs/\h.DictOfH (tupleKind (ZQ P w)) a xs:=by
 obtain ⟨z,y,xs,r,o,es,ep,h1,h2,h3,h4,h5⟩:=(show Yo P w H h a (.dT kvs) from Zku ok e)
 refine ⟨z,y,xs,r,o,es,ep,h1,h2,h3,h4,fun x hx=>?_,h5⟩
 have all:∀{l:List (List Key×V)}{m:List (List Key×Addr×Value)},KT H l m -> ∀x∈m,(tupleKind (ZQ P w)).is h x.1 x.2.1:=by
  intro l m q
  induction q with
  | nil=>intro x hx;exact nomatch hx
  | @cons p q ps qs hq t ih=>
   intro x hx
   rcases List.mem_cons.mp hx with e | hx
   ·subst e
    exact ZbI ok (by rw [<- hq.1];exact hq.2.1)
   ·exact ih x hx
 exact all r x hx
theorem Zhw {kvs:List (List Key×V)} (ok:Gj P w H h) (e:H a=some (.dT kvs)):kvs.length<=sizeLine/\(a==sysModules)=false /\
  ∃xs,KT H kvs xs/\h.DictOfH (tupleKind (ZQ P w)) a xs:=ZfK ok (.inl e)
end
def WG (H:Hp) (a:Addr) (y:V) (r:Option V):Prop:=
 (∃kvs k,Rd H a (.dK kvs)/\y=kV k/\r=Yy kvs k) ∨ ∃kvs k b,Rd H a (.dT kvs)/\y = .ref b/\H b=some (.tup (k.map kV))/\r=Yy kvs k
def ZbX (H:Hp) (a:Addr) (y v:V) (H':Hp):Prop:=
 (∃kvs k,H a=some (.dK kvs)/\y=kV k/\kvs.length<sizeLine/\H'=upd H a (.dK (putK kvs k v))) ∨
 ∃kvs k b,H a=some (.dT kvs)/\y = .ref b/\H b=some (.tup (k.map kV))/\kvs.length<sizeLine/\H'=upd H a (.dT (putK kvs k v))
theorem WG.k {H:Hp}{a:Addr}{kvs:List (Key×V)}{k:Key} (e:H a=some (.dK kvs)):WG H a (kV k) (Yy kvs k):=.inl ⟨kvs,k,.inl e,rfl,rfl⟩
theorem WG.t {H:Hp}{a b:Addr}{kvs:List (List Key×V)}{k:List Key} (e:H a=some (.dT kvs)) (eb:H b=some (.tup (k.map kV))):WG H a (.ref b) (Yy kvs k):=.inr ⟨kvs,k,b,.inl e,rfl,eb,rfl⟩
theorem ZbX.k {H:Hp}{a:Addr}{kvs:List (Key×V)}{k:Key}{v:V} (e:H a=some (.dK kvs)) (hl:kvs.length<sizeLine):ZbX H a (kV k) v (upd H a (.dK (putK kvs k v))):=.inl ⟨kvs,k,e,rfl,hl,rfl⟩
theorem ZbX.t {H:Hp}{a b:Addr}{kvs:List (List Key×V)}{k:List Key}{v:V} (e:H a=some (.dT kvs)) (eb:H b=some (.tup (k.map kV))) (hl:kvs.length<sizeLine):
  ZbX H a (.ref b) v (upd H a (.dT (putK kvs k v))):=.inr ⟨kvs,k,b,e,rfl,eb,hl,rfl⟩
section
variable {X:Cx}{pins:List (Addr×Obj)} {σ:St}{H:Hp}{s:Shared}{a:Addr}{y v:V}{u r:Value}{o:Option V}{A:Around}{E:Value->Shared->Prop}
theorem Inv.big (I:Inv X pins σ H s):sysModules<s.heap.objs.size:=by
 have h:mainGlobals<s.heap.objs.size:=(I.mod.glob.keeps I.bk).lt
 exact Nat.lt_trans (by decide) h
theorem ZgY {Q:Value->Shared->Prop} (hu:A.units+1<cLine) (I:Inv X pins σ H s) (g:WG H a y (some v)) (ry:RelV y u) (h:∀w' s',Inv X pins σ H s'->RelV v w'->Q w' s'):
  wpAny (model X.prog X.w) A (getItem (.ref a) u) Q E s:=by
 rcases g with ⟨kvs,k,e,ey,l⟩ | ⟨kvs,k,b,e,ey,eb,l⟩
 ·subst ey
  obtain ⟨z,hd,vs,rel,dd⟩:=ZfE I.hok e
  obtain ⟨w',hw,rw'⟩:=UW.some_of (v:=v) (o:=valueAt vs k) (by rw [l];exact rel.val k)
  exact wpAny_getItem_of (Zd4 ry) dd.mapOf hw (h w' _ (I.tok _) rw')
 ·subst ey
  cases (show u=Value.ref b from ry)
  obtain ⟨z,hd,xs,rel,dd⟩:=ZfK I.hok e
  obtain ⟨w',hw,rw'⟩:=UW.some_of (v:=v) (o:=(atKey xs k).map (·.2)) (by rw [l];exact rel.val k)
  obtain ⟨p,hp,hp2⟩:=Option.map_eq_some_iff.mp hw
  refine wpAny_getItem_heap (tupleKind_room_in1 hu) (ZbI I.hok eb) dd hp ?_
  rw [hp2]
  exact h w' _ (I.tok _) rw'
theorem Zna {Q:Value->Shared->Prop} (hu:A.units+1<cLine) (I:Inv X pins σ H s) (g:WG H a y o) (ry:RelV y u) (h:∀s',Inv X pins σ H s'->Q (.bool o.isSome) s'):
  wpAny (model X.prog X.w) A (compareOp .In u (.ref a)) Q E s:=by
 rcases g with ⟨kvs,k,e,ey,l⟩ | ⟨kvs,k,b,e,ey,eb,l⟩
 ·subst ey
  obtain ⟨z,hd,vs,rel,dd⟩:=ZfE I.hok e
  refine wpAny_in_of (Zd4 ry) hd dd.mapOf ?_
  rw [<- (rel.val k).isSome_eq,<- l]
  exact h _ (I.tok _)
 ·subst ey
  cases (show u=Value.ref b from ry)
  obtain ⟨z,hd,xs,rel,dd⟩:=ZfK I.hok e
  refine wpAny_in_heap (tupleKind_room_in1 hu) (ZbI I.hok eb) hd dd ?_
  have q:=(rel.val k).isSome_eq
  rw [Option.isSome_map] at q
  rw [<- q,<- l]
  exact h _ (I.tok _)
theorem Za8 {h':Heap}{t':Nat}{ob:HO} (I:Inv X pins σ H s) (mu:Mut (H a)) (hs:Heap.SameBut a s.heap h') (he:∃q,h'.get? a=some q) (new:Yo X.prog X.w (upd H a ob) h' a ob):
  Inv X pins σ (upd H a ob) { s with heap:=h',toks:=t' }:=
 I.write (x:=a) (e:=a) mu (.inl rfl) (fun b q hb z=>(hs.2 b hb).trans z) he new
theorem ZeI {P:Program}{w:World}{H':Hp}{h':Heap}{kvs:List (Key×V)}{vs:List (Key×Value)} (z:kvs.length<=sizeLine) (hd:(a==sysModules)=false) (rel:KV kvs vs) (dd:h'.DictOf (ZQ P w) a vs):
  Yo P w H' h' a (.dK kvs):=⟨z,hd,vs,rel,dd⟩
theorem Zg3 {H':Hp}{Q:Unit->Shared->Prop} (hu:A.units+1<cLine) (I:Inv X pins σ H s) (g:ZbX H a y v H') (ry:RelV y u) (rv:RelV v r) (h:∀s',Inv X pins σ H' s'->Q () s'):
  wpAny (model X.prog X.w) A (setItem (.ref a) u r) Q E s:=by
 rcases g with ⟨kvs,k,e,ey,l,eH⟩ | ⟨kvs,k,b,e,ey,eb,l,eH⟩
 ·subst ey eH
  obtain ⟨z,hd,vs,rel,dd⟩:=Zg5 I.hok e
  have hz:vs.length<=sizeLine:=by rw [<- rel.length];exact z
  have hl:(putK kvs k v).length<=sizeLine:=by have:=JA kvs k v;lia
  refine wpAny_setItem_pairs (hsz:=hz) (Zd4 ry) dd fun h' dd' hs=>h _ ?_
  have he:∃q,h'.get? a=some q:=let ⟨q,_,_,hq,_⟩:=dd';⟨q,hq⟩
  exact Za8 I (by rw [e];exact True.intro) hs he (ZeI hl hd (rel.put k rv) dd')
 ·subst ey eH
  cases (show u=Value.ref b from ry)
  obtain ⟨z,hd,xs,rel,dd⟩:=Zhw I.hok e
  have hz:xs.length<=sizeLine:=by rw [<- Paired.length rel];exact z
  have hl:(putK kvs k v).length<=sizeLine:=by have:=JA kvs k v;lia
  refine wpAny_setItem_heap (hsz:=hz) (tupleKind_room_in1 hu) (ZbI I.hok eb) dd fun h' dd' hs=>h _ ?_
  obtain ⟨q,es,ep,hq,h2,h3,h4,_,h5⟩:=dd'
  refine Za8 I (by rw [e];exact True.intro) hs ⟨q,hq⟩ ⟨hl,hd,_,(rel.put k eb rv).keeps fun c ys ec=>?_,q,es,ep,hq,h2,h3,h4,h5⟩
  rw [Zi (Zgm ec e (fun z=>nomatch z))]
  exact ec
end
section
variable {X:Cx}{pins:List (Addr×Obj)} {σ:St}{H:Hp}{s:Shared}{a:Addr}{kvs:List (Key×V)}{k:Key}{u:Value}{A:Around}{E:Value->Shared->Prop}
end
theorem Zd8 {X:Cx}{pins:List (Addr×Obj)} {σ:St}{H:Hp}{s:Shared}{a:Addr}{y:V}{o:Option V} (I:Inv X pins σ H s) (g:WG H a y o):s.TypeIs (.ref a) "dict" := by
 rcases g with ⟨kvs,k,e,_,_⟩ | ⟨kvs,k,b,e,_,_,_⟩
 ·obtain ⟨_,_,vs,_,dd⟩:=ZfE I.hok e
  exact dd.typeIs
 ·obtain ⟨_,_,xs,_,dd⟩:=ZfK I.hok e
  exact dd.typeIs
def Zhx (ty td:TE):TE:=fun σ H Q=>ty σ H fun y H1=>td σ H1 fun x H2=>∃a o,x = .ref a/\WG H2 a y o/\Q (.bl o.isSome) H2
section
variable {X:Cx}{o i e value:Expr}{pos pos' tpos:Pos}{td ty tv:TE}
theorem ZbF (hu:X.A.units+1<cLine) (hi:PE X i ty) (ho:PE X o td):PC X .In i o (Zhx ty td):=by
 intro pins s σ H Q I h
 refine YJ (hi pins s σ H _ I h) fun iv s1 ⟨y,H1,I1,ry,q1⟩=>YJ (ho pins s1 σ H1 _ I1 q1) fun u s2 ⟨x,H2,I2,rx,a,ov,ex,g,q2⟩=>?_
 subst ex
 obtain rfl:u=Value.ref a:=rx
 exact Zna hu I2 g ry fun s3 I3=>⟨.bl ov.isSome,H2,I3,rfl,q2⟩
end
theorem ZdZ {P:Program}{w:World}{H:Hp} (h:Heap) (hb:sysModules<h.objs.size):Yo P w H (h.push { cls:=.type "dict", data:=.dict #[] }) h.objs.size (.dK []):=
 ⟨Nat.zero_le _,beq_eq_false_iff_ne.mpr (Ne.symm (Nat.ne_of_lt hb)),[],.nil,Heap.DictOf.new h⟩
theorem Zhi {P:Program}{w:World}{H:Hp} (h:Heap) (hb:sysModules<h.objs.size):Yo P w H (h.push { cls:=.type "dict", data:=.dict #[] }) h.objs.size (.dT []):=
 ⟨Nat.zero_le _,beq_eq_false_iff_ne.mpr (Ne.symm (Nat.ne_of_lt hb)),[],.nil,_,#[],0,Heap.get?_push_size _ rfl,⟨rfl,rfl,rfl⟩,rfl,rfl,List.nodup_nil⟩
def ZkF:TE:=fun _ H Q=>∀p,H p=none->Q (.ref p) (upd H p (.dK []))
def ZlD:TE:=fun _ H Q=>∀p,H p=none->Q (.ref p) (upd H p (.dT []))
section
variable {X:Cx}{pos:Pos}
theorem Zit:PE X (.Dict [] [] pos) ZkF:=fun pins s σ H Q I h=>
 wpAny_Dict_empty ⟨.ref s.heap.objs.size,_,I.laid (a:=s.heap.objs.size) (o:=.dK []) (t':=s.toks) (fun _ _ q=>Heap.get?_push_of_some _ q) (Nat.le_refl _) (ZdZ s.heap I.big),rfl,h _ (I.hok.fresh (Nat.le_refl _))⟩
theorem Zep:PE X (.Dict [] [] pos) ZlD:=fun pins s σ H Q I h=>
 wpAny_Dict_empty ⟨.ref s.heap.objs.size,_,I.laid (a:=s.heap.objs.size) (o:=.dT []) (t':=s.toks) (fun _ _ q=>Heap.get?_push_of_some _ q) (Nat.le_refl _) (Zhi s.heap I.big),rfl,h _ (I.hok.fresh (Nat.le_refl _))⟩
end
theorem Yo.there {P:Program}{w:World}{H:Hp}{h:Heap}{a:Addr}{o:HO} (x:Yo P w H h a o):∃ob,h.get? a=some ob:=by
 cases o with
 | lst xs=>obtain ⟨_,_,_,_,e⟩:=x;exact ⟨_,e⟩
 | tup xs=>obtain ⟨_,_,_,_,e,_⟩:=x;exact ⟨_,e⟩
 | dK kvs=>obtain ⟨_,_,_,_,o,_,_,e,_⟩:=x;exact ⟨_,e⟩
 | dT kvs=>obtain ⟨_,_,_,_,o,_,_,e,_⟩:=x;exact ⟨_,e⟩
 | set S n=>obtain ⟨o,_,_,_,e,_⟩:=x;exact ⟨_,e⟩
 | ins C dx fs=>obtain ⟨_,_,_,e,_⟩:=x;exact ⟨_,e⟩
 | own y=>obtain ⟨_,e⟩:=x;exact ⟨_,e⟩
 | xd fs=>obtain ⟨_,⟨_,_,_,e,_⟩,_⟩:=x;exact ⟨_,e⟩
 | rng lo hi=>obtain ⟨_,_,_,e⟩:=x;exact ⟨_,e⟩
 | frz ob u=>obtain ⟨e,_⟩:=x;exact ⟨_,e⟩
 | tbl ps=>exact ⟨_,x⟩
 | met f y=>exact ⟨_,x⟩
 | ext φ=>obtain ⟨_,⟨_,e⟩,_⟩:=x;exact ⟨_,e⟩
theorem Zhb {h:Heap}{a:Addr}{m m':Str->Option Value} (x:h.Ns a m) (y:h.Ns a m'):m=m':=by
 obtain ⟨o,es,ep,ho,hd,_,hm⟩:=x
 obtain ⟨o',es',ep',ho',hd',_,hm'⟩:=y
 rw [ho] at ho'
 cases ho'
 rw [hd] at hd'
 cases hd'
 exact funext fun n=>(hm n).symm.trans (hm' n)
section
variable {X:Cx}{pins:List (Addr×Obj)} {σ:St}{H:Hp}{s:Shared}
theorem Inv.laidN {h':Heap}{D:Addr}{o:HO}{t':Nat}{m:Str->Option Value} (I:Inv X pins σ H s) (F:Fr X.base X.env.locals s.heap m) (F':Fr X.base X.env.locals h' m)
  (N':News X.base X.env.locals h' (Jy X.base s.heap X.env.locals)) (hD:s.heap.get? D=none) (hn:H D=none) (new:Yo X.prog X.w (upd H D o) h' D o):Inv X pins σ (upd H D o) { s with heap:=h',toks:=t' }:=by
 have kp:∀b u,b≠X.env.locals->s.heap.get? b=some u->h'.get? b=some u:=fun b u hb e=>by
  cases q:X.base.get? b with
  | some v=>
   have e1:=F'.keep b v q
   have e2:=F.keep b v q
   rw [e] at e2
   cases e2
   exact e1
  | none=>exact (N' (b,u) (JF hb q e)).1
 have neL:∀b u,H b=some u->b≠X.env.locals:=fun b u e z=>by rw [z,I.free] at e;cases e
 refine I.step (g':=s.gens) (d':=s.drawn) (ch:=[]) (fun _ z=>nomatch z) (fun b ob hb _ _ e _=>kp b ob hb e) (fun b ob hb _ _ e _=>⟨ob.slots,kp b ob hb e⟩) (fun b ob _ e n=>?_) (fun b ob _ e=>?_) (fun b xs e=>?_) (fun b ob u e=>?_) (fun b ps e=>⟨#[],?_⟩) (fun m' hm=>?_) (fun b u e=>?_) I.bare
 ·rw [Zi (fun z=>by subst z;rw [hD] at e;cases e)]
  exact n
 ·by_cases hb:b=X.env.locals
  ·subst hb
   obtain ⟨ob',_,_,z,_⟩:=F'.ns
   exact ⟨ob',z⟩
  ·exact ⟨ob,kp b ob hb e⟩
 ·rw [Zi (Zg e hn)];exact e
 ·rw [Zi (Zg e hn)];exact e
 ·rw [Zi (Zg e hn),e];simp
 ·rw [Zhb hm F.ns];exact F'.ns
 ·by_cases hb:b=D
  ·subst hb;rw [Zb] at e;cases e;exact new
  ·rw [Zi hb] at e
   refine (I.hok b u e).stay (fun c v hc q=>kp c v ?_ q) (fun c q=>by rw [Zi (Zg q hn)];exact q) fun c xs q=>by rw [Zi (Zg q hn)];exact q
   rcases hc with z | z
   ·subst z;exact neL _ u e
   ·exact neL c _ z
end
section
variable {X:Cx}
theorem Zdr (hc:X.calm=true):Wl X (.builtin "sorted") (fun xs H Q=>∃(p:Addr) (kvs:List (Key×V)) (ns:List Int),xs = [.ref p]/\H p=some (.dK kvs)/\kvs.map (·.1)=ns.map Sum.inl/\ns.length<64 /\
  ∀(l:Addr) (ns':List Int),H l=none->ns'.Perm ns->ns'.Pairwise (· <= ·)->Q (.ref l) (upd H l (.lst (ns'.map V.int)))):=by
 intro pins s σ H xs us Q I r h
 obtain ⟨p,kvs,ns,rfl,hp,hk,h64,q⟩:=h
 obtain ⟨u,rfl,ru⟩:=r.one
 cases ru
 obtain ⟨z,hsm,vs,rel,ob,es,ep,hd⟩:=Zg5 I.hok hp
 obtain ⟨m,fr⟩:=I.fr
 have lv:kvs.length=vs.length:=Paired.length rel
 have ln:kvs.length=ns.length:=by simpa using congrArg List.length hk
 refine W.kdu_sorted (W.kdl_dict (knd:=ZQ X.prog X.w) (kvs:=vs) (ep:=ep) hsm) (I.ok.hd hc) fr (news:=Jy X.base s.heap X.env.locals) Zby ⟨ob,es,hd⟩ (by lia) fun D h' tk ws fr' nw' lt' hlen hP=>?_
 have ia:IntsAre ws ns:=by
  have key:∀(ws:List Value) (ns:List Int),ws.length=ns.length->(∀(j:Nat) (v:Value) (n:Int),ws[j]? = some v->ns[j]? = some n -> ∃t,v = .int n t)->IntsAre ws ns:=by
   intro ws
   induction ws with
   | nil=>intro ns hl _;cases ns with
    | nil=>exact .nil
    | cons _ _=>cases hl
   | cons w ws ih=>
    intro ns hl h
    cases ns with
    | nil=>cases hl
    | cons n ns=>
     obtain ⟨t,rfl⟩:=h 0 w n rfl rfl
     exact .cons n t (ih ns (by simpa using hl) fun j v n' e1 e2=>h (j+1) v n' (by simpa using e1) (by simpa using e2))
  refine key ws ns (by lia) fun j v n e1 e2=>?_
  obtain ⟨k,x,e3,e4⟩:=hP j v e1
  have e5:(kvs.map (·.1))[j]? = some k:=by
   have hj:j<kvs.length:=by have:=(List.getElem?_eq_some_iff.mp e3).1;lia
   have key:∀(kvs:List (Key×V)) (vs:List (Key×Value)),KV kvs vs -> ∀j:Nat,(kvs.map (·.1))[j]? = (vs.map (·.1))[j]?:=by
    intro kvs vs rel
    unfold KV at rel
    induction rel with
    | nil=>intro j;rfl
    | cons a _ ih=>
     intro j
     cases j with
     | zero=>simp [a.1]
     | succ j=>simpa using ih j
   rw [key kvs vs rel j,List.getElem?_map,e3]
   rfl
  rw [hk,List.getElem?_map,e2] at e5
  cases e5
  rcases Z8 (k:=Sum.inl n) (v:=v) e4 with ⟨i,t,z1,z2⟩ | ⟨x',t,z1,z2⟩
  ·cases z1;exact ⟨t,z2⟩
  ·cases z1
 refine W.ksk_lsort (vs:=ws) (its:=ws.toArray) (n:=0) fr' nw' (news':=fun o=>(D,o)::Jy X.base s.heap X.env.locals) (fun o=>.head fun q hq=>Nat.ne_of_lt (lt' q hq)) rfl ia h64 fun vs' ns' c h'' fr'' nw'' ia' hl' perm pw _=>?_
 have hD:s.heap.get? D=none:=by
  have nb:X.base.get? D=none:=(nw' (D,W.listOf ws.toArray 0) List.mem_cons_self).2.2
  have nL:D≠X.env.locals:=(nw' (D,W.listOf ws.toArray 0) List.mem_cons_self).2.1
  cases e:s.heap.get? D with
  | none=>rfl
  | some o=>exact absurd (lt' (D,o) (JF nL nb e)) (Nat.lt_irrefl _)
 have fresh:H D=none:=by
  cases e:H D with
  | none=>rfl
  | some o=>
   obtain ⟨ob,e2⟩:=(I.hok D o e).there
   rw [hD] at e2
   cases e2
 have I2:=I.laidN (o:=.lst (ns'.map V.int)) (D:=D) (h':=h'') (t':=tk) fr fr'' (fun q hq=>nw'' q (List.mem_cons_of_mem _ hq)) hD fresh ⟨by
  rw [List.length_map,hl']
  lia,vs',c,ZaE ia',(nw'' _ List.mem_cons_self).1⟩
 exact ⟨.ref D,_,I2,rfl,q D ns' fresh perm pw⟩
def Zj5:R2:=fun x y H Q=>∃a v,x = .ref a/\WG H a y (some v)/\Q v H
theorem JT (hu:X.A.units+1<cLine):IxR X Zj5:=by
 intro value slice pins s σ H x y v u Q I rx ry h hs
 obtain ⟨a,w,rfl,g,q⟩:=h
 cases rx
 exact tail_any (ops:=[.ref a,u]) (Zd8 I g) PySem.F.slot_dict_getitem.lookup (ZgY hu I g ry fun w' s3 I3 rw'=>⟨w,H,I3,rw',q⟩) hs
def Zhv:V->V->V->Hp->(Hp->Prop)->Prop:=fun o i v H Q=>∃a H',o = .ref a/\ZbX H a i v H'/\Q H'
theorem set_dict (hu:X.A.units+1<cLine):ZlT X Zhv:=by
 intro pins s σ H o i v ov iv u Q I ro ri rv h
 obtain ⟨a,H',rfl,g,q⟩:=h
 cases ro
 exact Zg3 hu I g ri rv fun s' I'=>⟨H',I',q⟩
def Zmn (K:PySem.W.Frag) (n:Nat) (t:TGs):TG:=fun v σ H Q=>∃a xs,v = .ref a/\Zo K H a xs/\xs.length=n/\t xs σ H Q
theorem Zk7 {es:List Expr}{k:Nat}{t:TGs}{n:Nat}{pos:Pos} (hc:X.calm=true) (h:PGs X es t)
  (hn:(assignEach es X.env).length=n:=by rfl) (hst:(assignEach es X.env).findIdx? (·.1)=none:=by rfl):PG X (.Tuple es k pos) (Zmn X.K n t):=by
 intro pins s σ H v u Q I r hw
 obtain ⟨a,xs,e1,hq,hl,hw⟩:=hw
 subst e1
 cases r
 obtain ⟨its,rv,p,hz⟩:=I.list hq
 rw [arm_assign_Tuple]
 refine wpAny_bind (wpAny_standAt ?_)
 unfold unpack
 rw [hst]
 refine wpAny_bind (wpAny_holding ?_)
 have e:(assignEach es X.env).length=its.toArray.size:=by rw [hn,<- hl,rv.length];simp
 rw [e]
 refine W.kun_itemsOf (I.ok.hd hc) p.isList fun h' hx=>?_
 have I1:Inv X pins σ H { s with heap:=h' }:=I.kept (t':=s.toks) fun b o e=>hx b o (Nat.ne_of_lt (Heap.lt_size e)) e
 exact h pins _ σ H xs _ Q I1 (by simpa using rv) hw
theorem Zda {K:PySem.W.Frag}{es:List Expr}{k:Nat}{t:TGs}{n:Nat}{pos:Pos} (hk:X.K=K) (hc:X.calm=true) (h:PGs X es t)
  (hn:(assignEach es X.env).length=n:=by rfl) (hst:(assignEach es X.env).findIdx? (·.1)=none:=by rfl):PG X (.Tuple es k pos) (Zmn K n t):=hk ▸ Zk7 hc h hn hst
end
section
variable {X:Cx}
end
def bw (x:Int):Int:=if x % 2=0 then x+1 else x-1
theorem ZaQ (x:Int):bw (bw x)=x:=by unfold bw;split<;>split<;>lia
theorem Zmy (x:Int):bw x≠x:=by unfold bw;split<;>lia
structure Jf (m:Int->Int) (N:Int):Prop where
 lo:∀x,0<=x->x<N->0<=m x
 hi:∀x,0<=x->x<N->m x<N
 inv:∀x,0<=x->x<N->m (m x)=x
 ne:∀x,0<=x->x<N->m x≠x
 ev:N % 2=0
theorem Ziq {N x:Int} (e:N % 2=0) (h0:0<=x) (h1:x<N):0<=bw x/\bw x<N:=by unfold bw;split<;>lia
def gt (m:Int->Int) (f:Int):Nat->Int
 | 0=>f
 | i+1=>bw (m (gt m f i))
def Wq (m:Int->Int) (f:Int):Nat->List Int
 | 0=>[]
 | i+1=>Wq m f i ++ [gt m f i,m (gt m f i)]
theorem Gx (m:Int->Int) (f:Int):∀i,(Wq m f i).length=2*i
 | 0=>rfl
 | i+1=>by
  simp only [Wq,List.length_append,Gx m f i,List.length_cons,List.length_nil]
  lia
theorem Yz {m:Int->Int}{f x:Int}:∀{i:Nat},x∈Wq m f i ↔ ∃j,j<i/\(x=gt m f j∨x=m (gt m f j))
 | 0=>by simp [Wq]
 | i+1=>by
  simp only [Wq,List.mem_append,Yz (i:=i),List.mem_cons,List.not_mem_nil,or_false]
  constructor
  ·rintro (⟨j,h,e⟩ | h)
   ·exact ⟨j,by lia,e⟩
   ·exact ⟨i,by lia,h⟩
  ·rintro ⟨j,h,e⟩
   by_cases hj:j=i
   ·subst hj;exact .inr e
   ·exact .inl ⟨j,by lia,e⟩
section
variable {m:Int->Int}{N f:Int}
theorem Yn (M:Jf m N) (h0:0<=f) (h1:f<N):∀i,0<=gt m f i/\gt m f i<N
 | 0=>⟨h0,h1⟩
 | i+1=>by
  obtain ⟨a,b⟩:=Yn M h0 h1 i
  exact Ziq M.ev (M.lo _ a b) (M.hi _ a b)
theorem ZiI (M:Jf m N) (h0:0<=f) (h1:f<N):∀d j,gt m f (j+d)≠m (gt m f j)
 | 0,j=>fun e=>M.ne _ (Yn M h0 h1 j).1 (Yn M h0 h1 j).2 e.symm
 | 1,j=>Zmy _
 | d+2,j=>fun e=>by
  refine ZiI M h0 h1 d (j+1) ?_
  have e1:bw (m (gt m f (j+d+1)))=m (gt m f j):=e
  have e2:m (gt m f (j+d+1))=bw (m (gt m f j)):=by rw [<- e1,ZaQ]
  have e3:gt m f (j+1)=m (gt m f (j+d+1)):=e2.symm
  have dm:=Yn M h0 h1 (j+d+1)
  rw [e3,M.inv _ dm.1 dm.2]
  congr 1
  lia
theorem ZfL (M:Jf m N) (h0:0<=f) (h1:f<N) (i j:Nat):gt m f i≠m (gt m f j):=by
 by_cases h:j<=i
 ·have:=ZiI M h0 h1 (i-j) j
  rwa [show j+(i-j)=i by lia] at this
 ·intro e
  refine ZiI M h0 h1 (j-i) i ?_
  rw [show i+(j-i)=j by lia,e]
  exact (M.inv _ (Yn M h0 h1 j).1 (Yn M h0 h1 j).2).symm
theorem ZkE (M:Jf m N) {x y:Int} (hx:0<=x/\x<N) (hy:0<=y/\y<N) (e:m x=m y):x=y:=by
 rw [<- M.inv x hx.1 hx.2,e,M.inv y hy.1 hy.2]
theorem Zgl (M:Jf m N) (h0:0<=f) (h1:f<N):∀j d,gt m f (j+d)=gt m f j->gt m f d=f
 | 0,d,e=>by simpa [gt] using e
 | j+1,d,e=>by
  refine Zgl M h0 h1 j d (ZkE M (Yn M h0 h1 _) (Yn M h0 h1 _) ?_)
  have e1:bw (m (gt m f (j+d)))=bw (m (gt m f j)):=by
   have:j+1+d=j+d+1:=by lia
   rw [this] at e
   exact e
  rw [<- ZaQ (m (gt m f (j+d))),e1,ZaQ]
theorem Zdq (M:Jf m N) (h0:0<=f) (h1:f<N) {i j:Nat} (hj:j<i) (e:gt m f i=gt m f j):gt m f (i-j)=f:=by
 refine Zgl M h0 h1 j (i-j) ?_
 rw [show j+(i-j)=i by lia]
 exact e
theorem ZaC (M:Jf m N) (h0:0<=f) (h1:f<N):∀i,(∀j,1<=j->j<i->gt m f j≠f)->(Wq m f i).Nodup
 | 0,_=>by simp [Wq]
 | i+1,h=>by
  have ih:=ZaC M h0 h1 i fun j a b=>h j a (by lia)
  show (Wq m f i ++ [gt m f i,m (gt m f i)]).Nodup
  rw [List.nodup_append]
  refine ⟨ih,by simp [ZfL M h0 h1 i i],fun a ha b hb=>?_⟩
  obtain ⟨j,hj,e⟩:=Yz.mp ha
  have hb:b=gt m f i∨b=m (gt m f i):=by simpa using hb
  intro z
  subst z
  rcases e with e | e<;>rcases hb with z | z
  ·exact h (i-j) (by lia) (by lia) (Zdq M h0 h1 hj (z.symm.trans e))
  ·exact ZfL M h0 h1 j i (e.symm.trans z)
  ·exact ZfL M h0 h1 i j (z.symm.trans e)
  ·exact h (i-j) (by lia) (by lia) (Zdq M h0 h1 hj (ZkE M (Yn M h0 h1 _) (Yn M h0 h1 _) (z.symm.trans e)))
theorem ZfS (M:Jf m N) (h0:0<=f) (h1:f<N) {i:Nat}{x:Int} (hx:x∈Wq m f i):0<=x/\x<N:=by
 obtain ⟨j,_,e | e⟩:=Yz.mp hx
 ·rw [e];exact Yn M h0 h1 j
 ·rw [e];exact ⟨M.lo _ (Yn M h0 h1 j).1 (Yn M h0 h1 j).2,M.hi _ (Yn M h0 h1 j).1 (Yn M h0 h1 j).2⟩
theorem Wx:∀(n:Nat) (l:List Int),l.Nodup->(∀x∈l,0<=x/\x<(n:Int))->l.length<=n
 | 0,l,_,h=>by
  cases l with
  | nil=>simp
  | cons x _=>have:=h x List.mem_cons_self;lia
 | n+1,l,nd,h=>by
  by_cases hn:(n:Int)∈l
  ·have h1:=Wx n (l.erase (n:Int)) (nd.erase _) fun x hx=>by
    have h2:=(nd.mem_erase_iff).mp hx
    have:=h x h2.2
    have:=h2.1
    lia
   rw [List.length_erase_of_mem hn] at h1
   lia
  ·have h1:=Wx n l nd fun x hx=>by
    have:=h x hx
    have h3:x≠(n:Int):=fun z=>hn (z ▸ hx)
    lia
   lia
theorem ZaH (M:Jf m N) (h0:0<=f) (h1:f<N) {i:Nat} (h:∀j,1<=j->j<i->gt m f j≠f):2*(i:Int)<=N:=by
 have:=Wx N.toNat (Wq m f i) (ZaC M h0 h1 i h) fun x hx=>by
  have:=ZfS M h0 h1 hx
  lia
 rw [Gx] at this
 lia
theorem ZhI (M:Jf m N) (h0:0<=f) (h1:f<N) {i:Nat} (h:∀j,1<=j->j<i->gt m f j≠f):gt m f i∈Wq m f i ↔ (1<=i/\gt m f i=f):=by
 constructor
 ·intro hx
  obtain ⟨j,hj,e | e⟩:=Yz.mp hx
  ·have:=Zdq M h0 h1 hj e
   by_cases z:j=0
   ·subst z;exact ⟨by lia,this⟩
   ·exact absurd this (h (i-j) (by lia) (by lia))
  ·exact absurd e (ZfL M h0 h1 i j)
 ·rintro ⟨a,e⟩
  exact Yz.mpr ⟨0,by lia,.inl e⟩
end
def YM (m:Int->Int) (f:Int) (T:List Int):Prop:=∃L,1<=L/\gt m f L=f/\(∀j,1<=j->j<L->gt m f j≠f)/\T=Wq m f L
theorem YM.uniq {m:Int->Int}{f:Int}{T T':List Int} (a:YM m f T) (b:YM m f T'):T=T':=by
 obtain ⟨L,h1,e1,n1,rfl⟩:=a
 obtain ⟨L',h2,e2,n2,rfl⟩:=b
 have:L=L':=by
  rcases Nat.lt_trichotomy L L' with z | z | z
  ·exact absurd e1 (n2 L h1 z)
  ·exact z
  ·exact absurd e2 (n1 L' h2 z)
 rw [this]
theorem YM.self {m:Int->Int}{f:Int}{T:List Int} (a:YM m f T):f∈T:=by
 obtain ⟨L,h1,e1,n1,rfl⟩:=a
 exact Yz.mpr ⟨0,by lia,.inl rfl⟩
theorem YM.dom {m:Int->Int}{N f:Int}{T:List Int} (M:Jf m N) (h0:0<=f) (h1:f<N) (a:YM m f T):∀x∈T,0<=x/\x<N:=by
 obtain ⟨L,_,_,_,rfl⟩:=a
 exact fun x hx=>ZfS M h0 h1 hx
theorem YM.nodup {m:Int->Int}{N f:Int}{T:List Int} (M:Jf m N) (h0:0<=f) (h1:f<N) (a:YM m f T):T.Nodup:=by
 obtain ⟨L,_,_,n,rfl⟩:=a
 exact ZaC M h0 h1 L n
theorem YM.len {m:Int->Int}{N f:Int}{T:List Int} (M:Jf m N) (h0:0<=f) (h1:f<N) (a:YM m f T):(T.length:Int)<=N:=by
 obtain ⟨L,_,_,n,rfl⟩:=a
 have:=ZaH M h0 h1 n
 rw [Gx]
 lia
theorem YM.closed {m:Int->Int}{N f:Int}{T:List Int} (M:Jf m N) (h0:0<=f) (h1:f<N) (a:YM m f T):∀x∈T,m x∈T/\bw x∈T:=by
 obtain ⟨L,hL,eL,n,rfl⟩:=a
 intro x hx
 obtain ⟨j,hj,e | e⟩:=Yz.mp hx
 ·subst e
  refine ⟨Yz.mpr ⟨j,hj,.inr rfl⟩,?_⟩
  cases j with
  | zero=>
   refine Yz.mpr ⟨L-1,by lia,.inr ?_⟩
   have:gt m f (L-1+1)=f:=by rw [show L-1+1=L by lia];exact eL
   have e2:bw (m (gt m f (L-1)))=f:=this
   show bw f=_
   rw [<- e2,ZaQ,e2]
  | succ j=>exact Yz.mpr ⟨j,by lia,.inr (ZaQ _)⟩
 ·subst e
  refine ⟨?_,?_⟩
  ·rw [M.inv _ (Yn M h0 h1 j).1 (Yn M h0 h1 j).2]
   exact Yz.mpr ⟨j,hj,.inl rfl⟩
  ·by_cases z:j+1=L
   ·refine Yz.mpr ⟨0,by lia,.inl ?_⟩
    show gt m f (j+1)=f
    rw [z,eL]
   ·exact Yz.mpr ⟨j+1,by lia,.inl rfl⟩
theorem Zas {m:Int->Int}{N f:Int} (M:Jf m N) (h0:0<=f) (h1:f<N) {S:List Int} (cl:∀x∈S,m x∈S/\bw x∈S) (hf:f∉S):∀i,gt m f i∉S/\m (gt m f i)∉S
 | 0=>⟨hf,fun h=>hf (by
  have:m (m f)∈S:=(cl _ h).1
  rwa [M.inv _ h0 h1] at this)⟩
 | i+1=>by
  have ih:=Zas M h0 h1 cl hf i
  have a:gt m f (i+1)∉S:=fun h=>ih.2 (by
   have:=(cl _ h).2
   rwa [show bw (gt m f (i+1))=m (gt m f i) from ZaQ _] at this)
  refine ⟨a,fun h=>a ?_⟩
  have:=(cl _ h).1
  rwa [M.inv _ (Yn M h0 h1 (i+1)).1 (Yn M h0 h1 (i+1)).2] at this
inductive Ul (m:Int->Int):Nat->List (List Int)->Prop
 | nil:Ul m 0 []
 | add {i:Nat}{ts:List (List Int)}{T:List Int}:Ul m i ts->(i:Int)∉ts.flatten->YM m (i:Int) T->Ul m (i+1) (ts ++ [T])
 | skip {i:Nat}{ts:List (List Int)}:Ul m i ts->(i:Int)∈ts.flatten->Ul m (i+1) ts
theorem Ul.uniq {m:Int->Int}{i:Nat}{ts:List (List Int)} (a:Ul m i ts):∀{ts':List (List Int)},Ul m i ts'->ts=ts':=by
 induction a with
 | nil=>intro ts' b;cases b;rfl
 | add a h t ih=>
  intro ts' b
  cases b with
  | add b h' t'=>rw [ih b,t.uniq t']
  | skip b h'=>rw [ih b] at h;exact absurd h' h
 | skip a h ih=>
  intro ts' b
  cases b with
  | add b h' t'=>rw [ih b] at h;exact absurd h h'
  | skip b h'=>exact ih b
theorem Ul.mem {m:Int->Int}{i:Nat}{ts:List (List Int)} (a:Ul m i ts):∀j:Nat,j<i->(j:Int)∈ts.flatten:=by
 induction a with
 | nil=>intro j hj;lia
 | @add i ts T a h t ih=>
  intro j hj
  rw [List.flatten_append,List.mem_append]
  by_cases e:j=i
  ·subst e;exact .inr (by simpa using t.self)
  ·exact .inl (ih j (by lia))
 | @skip i ts a h ih=>
  intro j hj
  by_cases e:j=i
  ·subst e;exact h
  ·exact ih j (by lia)
theorem Ul.good {m:Int->Int}{N:Int} (M:Jf m N) {i:Nat}{ts:List (List Int)} (a:Ul m i ts) (hi:(i:Int)<=N):ts.flatten.Nodup/\(∀x∈ts.flatten,0<=x/\x<N)/\(∀x∈ts.flatten,m x∈ts.flatten/\bw x∈ts.flatten):=by
 induction a with
 | nil=>simp
 | @add i ts T a h t ih=>
  obtain ⟨n,d,c⟩:=ih (by lia)
  have h0:(0:Int)<=(i:Int):=by lia
  have h1:(i:Int)<N:=by lia
  rw [List.flatten_append]
  have e:[T].flatten=T:=by simp
  rw [e]
  refine ⟨?_,fun x hx=>?_,fun x hx=>?_⟩
  ·rw [List.nodup_append]
   refine ⟨n,t.nodup M h0 h1,fun a ha b hb z=>?_⟩
   subst z
   obtain ⟨L,_,_,_,rfl⟩:=t
   obtain ⟨j,_,e | e⟩:=Yz.mp hb
   ·exact (Zas M h0 h1 c h j).1 (e ▸ ha)
   ·exact (Zas M h0 h1 c h j).2 (e ▸ ha)
  ·rcases List.mem_append.mp hx with z | z
   ·exact d x z
   ·exact t.dom M h0 h1 x z
  ·rw [List.mem_append,List.mem_append]
   rcases List.mem_append.mp hx with z | z
   ·exact ⟨.inl (c x z).1,.inl (c x z).2⟩
   ·exact ⟨.inr (t.closed M h0 h1 x z).1,.inr (t.closed M h0 h1 x z).2⟩
 | skip a h ih=>exact ih (by lia)
theorem Ul.jump {m:Int->Int}{ts:List (List Int)}{i:Nat} (a:Ul m i ts):∀d:Nat,(∀j:Nat,i<=j->j<i+d->(j:Int)∈ts.flatten)->Ul m (i+d) ts
 | 0,_=>a
 | d+1,h=>by
  have:=Ul.jump a d fun j x y=>h j x (by lia)
  exact Ul.skip this (h (i+d) (by lia) (by lia))
theorem Ul.len {m:Int->Int}{N:Int} (M:Jf m N) {i:Nat}{ts:List (List Int)} (a:Ul m i ts) (hi:(i:Int)<=N):ts.length<=i:=by
 induction a with
 | nil=>simp
 | add a h t ih=>have:=ih (by lia);simp;lia
 | skip a h ih=>have:=ih (by lia);lia
def rowAt (ls:List (Str×Int)) (t:Nat):List Int:=(rb (ls.take t)).1
def Y9 (ls:List (Str×Int)) (t:Nat):Int×Int:=((rowAt ls t).getD ((ls.getD t ("", 0)).2.toNat) 0,(rowAt ls t).getD ((ls.getD t ("", 0)).2.toNat+1) 0)
def GC:Str->Bool:=fun x=>decide (x = "end")
def Y3 (ls:List (Str×Int)) (i:Nat):List (Int×Int):=(Ym ls GC i).map fun t=>Y9 ls t.toNat
def Zy (ps:List (Int×Int)):List Int:=ps.flatMap fun p=>[p.1,p.2]
theorem Jk (a b:List (Int×Int)):Zy (a++b)=Zy a++Zy b:=by simp [Zy]
theorem WR (ps:List (Int×Int)):(Zy ps).length=2*ps.length:=by
 induction ps with
 | nil=>rfl
 | cons p r ih=>
  have:Zy (p::r) = [p.1,p.2]++Zy r:=by simp [Zy]
  rw [this,List.length_append,ih]
  simp
  lia
theorem J0 (ls:List (Str×Int)) (i:Nat):Y3 ls (i+1)=Y3 ls i++(if isK ls GC i=true then [Y9 ls i] else []):=by
 unfold Y3
 rw [Jc,List.map_append]
 by_cases h:isK ls GC i=true<;>simp [h]
def GB (n:Nat):List Int:=(List.range n).map fun (x:Nat)=>(x:Int)
theorem Ziw (n:Nat):GB (n+2)=GB n ++ [(n:Int),(n:Int)+1]:=by
 unfold GB
 rw [List.range_succ,List.range_succ]
 simp
theorem YE {n:Nat}{x:Int}:x∈GB n ↔ 0<=x/\x<(n:Int):=by
 unfold GB
 rw [List.mem_map]
 constructor
 ·rintro ⟨a,h,rfl⟩
  have:=List.mem_range.mp h
  lia
 ·rintro ⟨h0,h1⟩
  exact ⟨x.toNat,List.mem_range.mpr (by lia),by lia⟩
theorem We (n:Nat):(GB n).Nodup:=by
 unfold GB
 rw [List.nodup_iff_pairwise_ne,List.pairwise_map]
 exact (List.nodup_iff_pairwise_ne.mp List.nodup_range).imp fun h e=>h (by lia)
theorem WJ (n:Nat):(GB n).length=n:=by simp [GB]
theorem Zj4 (r:List Int) (k:Nat) (h:k+1<r.length):r=r.take k ++ [r.getD k 0,r.getD (k+1) 0]++r.drop (k+2):=by
 have e1:r.drop k=r[k]::r.drop (k+1):=List.drop_eq_getElem_cons (by lia)
 have e2:r.drop (k+1)=r[k+1]::r.drop (k+2):=List.drop_eq_getElem_cons h
 have e:r.take k++r.drop k=r:=List.take_append_drop k r
 rw [e1,e2] at e
 have h1:r.getD k 0=r[k]:=by simp [show k<r.length by lia]
 have h2:r.getD (k+1) 0=r[k+1]:=by simp [h]
 rw [h1,h2]
 simpa using e.symm
theorem ZjL (r:List Int) (k:Nat) (h:k+1<r.length):swp r k=r.take k ++ [r.getD (k+1) 0,r.getD k 0]++r.drop (k+2):=by
 have hl:(r.take k).length=k:=by rw [List.length_take];lia
 unfold swp
 generalize ha:r.getD k 0=a
 generalize hb:r.getD (k+1) 0=b
 have e:=Zj4 r k h
 rw [ha,hb] at e
 generalize r.take k=p at e hl ⊢
 generalize r.drop (k+2)=q at e ⊢
 subst e
 rw [List.append_assoc,List.set_append_right _ _ (by lia),hl,List.set_append_right _ _ (by lia),hl]
 simp
theorem Uk {ls:List (Str×Int)} (hW:Wk ls 0):∀i,i<=ls.length->0<=(rb (ls.take i)).2/\(rb (ls.take i)).2 % 2=0/\(rowAt ls i++Zy (Y3 ls i)).Perm (GB (rb (ls.take i)).2.toNat)
 | 0,_=>by
  refine ⟨Int.le_refl _,rfl,?_⟩
  exact List.Perm.refl _
 | i+1,hi=>by
  obtain ⟨ih0,ih1,ih⟩:=Uk hW i (by lia)
  have hq:ls[i]? = some ls[i]:=by simp [show i<ls.length by lia]
  obtain ⟨tk,c⟩:=ZdQ hW hq
  have gd:ls.getD i ("", 0)=ls[i]:=by simp [show i<ls.length by lia]
  unfold rowAt at ih ⊢
  generalize hp:ls[i]=p at *
  obtain ⟨px,pk⟩:=p
  rw [tk,YS,J0]
  have kk:∀pr:Str->Bool,isK ls pr i=pr px:=fun pr=>by
   unfold isK
   rw [hq]
   cases h:pr px<;>simp [h]
  rw [kk]
  rcases c with ⟨e,b0,b1⟩ | ⟨e,b0,b1⟩ | ⟨e,b0,b1⟩
  ·have e:px = "born" := e
   subst e
   rw [J3]
   have hf:GC "born" = false:=by unfold GC;decide +kernel
   rw [hf]
   simp only [Bool.false_eq_true,if_false,List.append_nil]
   generalize hr:rb (ls.take i)=s at *
   obtain ⟨r,b⟩:=s
   refine ⟨by lia,by lia,?_⟩
   have e2:(b+2).toNat=b.toNat+2:=by lia
   rw [e2,Ziw]
   have e3:((b.toNat:Nat):Int)=b:=by lia
   rw [e3]
   have p1:(r.take pk.toNat ++ [b,b+1]++r.drop pk.toNat).Perm (r ++ [b,b+1]):=by
    rw [List.append_assoc]
    refine (List.Perm.append_left _ List.perm_append_comm).trans ?_
    rw [<- List.append_assoc,List.take_append_drop]
   refine (p1.append_right _).trans ?_
   rw [List.append_assoc]
   refine (List.Perm.append_left _ List.perm_append_comm).trans ?_
   rw [<- List.append_assoc]
   exact ih.append_right _
  ·have e:px = "cross" := e
   subst e
   rw [Jt]
   have hf:GC "cross" = false:=by unfold GC;decide +kernel
   rw [hf]
   simp only [Bool.false_eq_true,if_false,List.append_nil]
   refine ⟨ih0,ih1,?_⟩
   have hk:pk.toNat+1<(rb (ls.take i)).1.length:=by
    have b1:pk+1<_:=b1
    have b0:0<=pk:=b0
    lia
   refine List.Perm.trans ?_ ih
   refine List.Perm.append_right _ ?_
   rw [ZjL _ _ hk]
   conv=>rhs;rw [Zj4 _ _ hk]
   exact List.Perm.append_right _ (List.Perm.append_left _ (List.Perm.swap _ _ _))
  ·have e:px = "end" := e
   subst e
   rw [W5]
   have hf:GC "end" = true:=by unfold GC;simp
   rw [hf]
   simp only [if_true]
   refine ⟨ih0,ih1,?_⟩
   have hk:pk.toNat+1<(rb (ls.take i)).1.length:=by
    have b1:pk+1<_:=b1
    have b0:0<=pk:=b0
    lia
   refine List.Perm.trans ?_ ih
   rw [Jk]
   have pr:Zy [Y9 ls i] = [(rb (ls.take i)).1.getD pk.toNat 0,(rb (ls.take i)).1.getD (pk.toNat+1) 0]:=by
    unfold Y9 rowAt
    rw [gd]
    simp [Zy]
   rw [pr]
   conv=>rhs;rw [Zj4 _ _ hk]
   generalize (rb (ls.take i)).1.take pk.toNat=A
   generalize (rb (ls.take i)).1.drop (pk.toNat+2)=B
   generalize [(rb (ls.take i)).1.getD pk.toNat 0,(rb (ls.take i)).1.getD (pk.toNat+1) 0]=C
   generalize Zy (Y3 ls i)=F
   rw [List.append_assoc,List.append_assoc,List.append_assoc]
   refine List.Perm.append_left _ ?_
   rw [<- List.append_assoc]
   exact List.perm_append_comm
def JK (ls:List (Str×Int)):List (Int×Int):=Y3 ls ls.length
def JL (ls:List (Str×Int)):Nat:=2*(JK ls).length
theorem WM {ls:List (Str×Int)} (hW:Wk ls 0):(Zy (JK ls)).Perm (GB (JL ls)):=by
 obtain ⟨h0,h1,h2⟩:=Uk hW ls.length (Nat.le_refl _)
 have e:rowAt ls ls.length = []:=by
  unfold rowAt
  rw [List.take_of_length_le (Nat.le_refl _)]
  have:=GD hW
  exact List.length_eq_zero_iff.mp (by lia)
 rw [e,List.nil_append] at h2
 have hl:=h2.length_eq
 rw [WJ,WR] at hl
 show (Zy (Y3 ls ls.length)).Perm (GB (2*(Y3 ls ls.length).length))
 rw [hl]
 exact h2
def Je:List (Int×Int)->Int->Int
 | [],_=>0
 | p::r,x=>if x=p.1 then p.2 else if x=p.2 then p.1 else Je r x
theorem Zb4:∀{ps:List (Int×Int)}{u l:Int},(Zy ps).Nodup->(u,l)∈ps->Je ps u=l/\Je ps l=u
 | [],_,_,_,h=>by cases h
 | p::r,u,l,nd,h=>by
  have e:Zy (p::r)=p.1::p.2::Zy r:=by simp [Zy]
  rw [e] at nd
  obtain ⟨n1,nd2⟩:=List.nodup_cons.mp nd
  obtain ⟨n2,nd3⟩:=List.nodup_cons.mp nd2
  rcases List.mem_cons.mp h with z | z
  ·subst z
   refine ⟨by simp [Je],?_⟩
   have:l≠u:=fun z=>n1 (by simp [z])
   simp [Je,this]
  ·have m1:u∈Zy r:=List.mem_flatMap.mpr ⟨(u,l),z,by simp⟩
   have m2:l∈Zy r:=List.mem_flatMap.mpr ⟨(u,l),z,by simp⟩
   have ih:=Zb4 nd3 z
   have a1:u≠p.1:=fun z=>n1 (List.mem_cons_of_mem _ (z ▸ m1))
   have a2:u≠p.2:=fun z=>n2 (z ▸ m1)
   have a3:l≠p.1:=fun z=>n1 (List.mem_cons_of_mem _ (z ▸ m2))
   have a4:l≠p.2:=fun z=>n2 (z ▸ m2)
   simp only [Je,a1,a2,a3,a4,if_false]
   exact ih
theorem UG {ps:List (Int×Int)} (nd:(Zy ps).Nodup) {u l:Int} (h:(u,l)∈ps):u≠l:=by
 induction ps with
 | nil=>cases h
 | cons p r ih=>
  have e:Zy (p::r)=p.1::p.2::Zy r:=by simp [Zy]
  rw [e] at nd
  obtain ⟨n1,nd2⟩:=List.nodup_cons.mp nd
  obtain ⟨n2,nd3⟩:=List.nodup_cons.mp nd2
  rcases List.mem_cons.mp h with z | z
  ·subst z;intro z;exact n1 (by simp [z])
  ·exact ih nd3 z
theorem WX {ls:List (Str×Int)} (hW:Wk ls 0):Jf (Je (JK ls)) (JL ls):=by
 have pm:=WM hW
 have nd:(Zy (JK ls)).Nodup:=pm.nodup_iff.mpr (We _)
 have get:∀x:Int,0<=x->x<(JL ls:Int) -> ∃u l,(u,l)∈JK ls/\(x=u∨x=l):=fun x h0 h1=>by
  have:x∈Zy (JK ls):=pm.mem_iff.mpr (YE.mpr ⟨h0,h1⟩)
  obtain ⟨p,hp,hx⟩:=List.mem_flatMap.mp this
  exact ⟨p.1,p.2,hp,by simpa using hx⟩
 have dom:∀u l,(u,l)∈JK ls->(0<=u/\u<(JL ls:Int))/\(0<=l/\l<(JL ls:Int)):=fun u l h=>
  ⟨YE.mp (pm.mem_iff.mp (List.mem_flatMap.mpr ⟨(u,l),h,by simp⟩)),YE.mp (pm.mem_iff.mp (List.mem_flatMap.mpr ⟨(u,l),h,by simp⟩))⟩
 refine ⟨fun x h0 h1=>?_,fun x h0 h1=>?_,fun x h0 h1=>?_,fun x h0 h1=>?_,by unfold JL;lia⟩
 all_goals
  obtain ⟨u,l,hm,rfl | rfl⟩:=get x h0 h1
  all_goals
   obtain ⟨a,b⟩:=Zb4 nd hm
   obtain ⟨d1,d2⟩:=dom _ _ hm
   have ne:=UG nd hm
   first
    | (rw [a];exact d2.1)
    | (rw [b];exact d1.1)
    | (rw [a];exact d2.2)
    | (rw [b];exact d1.2)
    | (rw [a,b])
    | (rw [b,a])
    | (rw [a];exact Ne.symm ne)
    | (rw [b];exact ne)
section
variable {X:Cx}
def Zg6 (K:PySem.W.Frag):R2:=fun x y H Q=>∃(p q:Addr) (xs:List V),x = .ref p/\y = .ref q/\Zo K H p xs/\Zo K H q []/\Q (.bl (!xs.isEmpty)) H
theorem ZhX (hu:X.A.units+64<cLine):OpR X (compareOp .NotEq) (Zg6 X.K):=by
 intro pins s σ H x y v u Q I rx ry h
 obtain ⟨p,q,xs,rfl,rfl,hp,hq,hQ⟩:=h
 cases rx
 cases ry
 obtain ⟨its,r1,p1,_⟩:=I.list hp
 obtain ⟨its2,r2,p2,_⟩:=I.list hq
 have l1:=r1.length
 have l2:=r2.length
 cases xs with
 | nil=>
  refine SeqAt.RcNeAt.lists (e:=fun _=>true) p1.isList p2.isList (by simp only [List.size_toArray];lia) (by lia) (fun j h1 h2=>?_) X.prog X.w _ _ ⟨.bl false,H,I,?_,hQ⟩
  ·rw [List.size_toArray] at h1
   have:its.length=0:=by simpa using l1.symm
   lia
  ·show Value.bool _=Value.bool false
   simp
 | cons z zs=>
  refine SeqAt.RcNeAt.lists_lengths p1.isList p2.isList (by simp only [List.size_toArray];rw [bne_iff_ne];simp at l1 l2;lia) (by lia) X.prog X.w _ _ ⟨.bl true,H,I,rfl,hQ⟩
theorem ZgJ {K:PySem.W.Frag} (h:X.K=K) (hu:X.A.units+64<cLine):OpR X (compareOp .NotEq) (Zg6 K):=h ▸ ZhX hu
theorem Ut {K:PySem.W.Frag} (h:X.K=K):OpR X (compareOp .NotIn) (rIn K true):=h ▸ Zdx
end
theorem Zee {x:Int}{ns:List Int}:inV (.int x) (ns.map V.int)=decide (x∈ns):=by
 unfold inV
 induction ns with
 | nil=>simp
 | cons n ns ih=>
  rw [List.map_cons,List.any_cons,ih]
  have e:eqV (V.int n) (V.int x)=decide (n=x):=by
   unfold eqV
   by_cases h:n=x<;>simp [h]
  rw [e,<- Bool.decide_or]
  exact decide_eq_decide.mpr (by rw [List.mem_cons];exact ⟨fun h=>h.imp Eq.symm id,fun h=>h.imp Eq.symm id⟩)
theorem Yp.at {H:Hp}:∀{xs:List V}{rs:List (List Int)}{i:Nat}{r:List Int},Yp H xs rs->rs[i]? = some r -> ∃p,xs[i]? = some (.ref p)/\H p=some (.lst (r.map V.int))
 | _,_,_,_,.nil,e=>by simp at e
 | _,_,0,_,.cons ⟨t,e1,q⟩ _,e=>by simp at e;subst e;exact ⟨t,by simp [e1],q⟩
 | _,_,i+1,r,.cons _ rr,e=>by
  obtain ⟨p,h1,h2⟩:=Yp.at (i:=i) (r:=r) rr (by simpa using e)
  exact ⟨p,by simpa using h1,h2⟩
theorem Yp.atX {H:Hp}:∀{xs:List V}{rs:List (List Int)}{i:Nat}{x:V},Yp H xs rs->xs[i]? = some x -> ∃(p:Addr) (r:List Int),rs[i]? = some r/\x = .ref p/\H p=some (.lst (r.map V.int))
 | _,_,_,_,.nil,e=>by simp at e
 | _,_,0,_,.cons ⟨t,e1,q⟩ _,e=>by simp at e;subst e;exact ⟨t,_,rfl,e1,q⟩
 | _,_,i+1,x,.cons _ r,e=>by
  obtain ⟨p,q,h1,h2⟩:=Yp.atX (i:=i) (x:=x) r (by simpa using e)
  exact ⟨p,q,by simpa using h1,h2⟩
theorem Yp.same {H H':Hp} (s:Zf H H') {xs:List V}{rs:List (List Int)} (h:Yp H xs rs):Yp H' xs rs:=h.mono fun t o _ e=>s t o e
theorem Um (ls:List (Str×Int)) {i n:Nat} (h:i<n):(rowsOf ls n)[i]? = some (rowAt ls i):=by
 unfold rowsOf rowAt
 rw [List.getElem?_map]
 simp [h]
theorem Zco {ls:List (Str×Int)} (hW:Wk ls 0) {t:Nat}{q:Str×Int} (hq:ls[t]? = some q) (hb:q.1 ≠ "born"):0<=q.2/\q.2.toNat+1<(rowAt ls t).length/\Y9 ls t=((rowAt ls t).getD q.2.toNat 0,(rowAt ls t).getD (q.2.toNat+1) 0):=by
 obtain ⟨_,c⟩:=ZdQ hW hq
 have gd:ls.getD t ("", 0)=q:=by simp [hq]
 have e:Y9 ls t=((rowAt ls t).getD q.2.toNat 0,(rowAt ls t).getD (q.2.toNat+1) 0):=by unfold Y9;rw [gd]
 rcases c with ⟨z,_⟩ | ⟨_,b0,b1⟩ | ⟨_,b0,b1⟩
 ·exact absurd z hb
 ·exact ⟨b0,by unfold rowAt;lia,e⟩
 ·exact ⟨b0,by unfold rowAt;lia,e⟩
theorem ZgB {ls:List (Str×Int)} (hW:Wk ls 0) (hl:ls.length<=60) (t:Nat):(rowAt ls t).length<=120:=by
 obtain ⟨m,hm⟩:=Jh hW t
 have z1:=GD hm
 have z2:=Zc8 hm
 rw [List.length_take] at z2
 unfold rowAt
 lia
theorem Uz {ns:List Int}{i:Nat}{x:V} (h:(ns.map V.int)[i]? = some x):∃t,ns[i]? = some t/\x=V.int t:=by
 rw [List.getElem?_map] at h
 cases e:ns[i]? with
 | none=>rw [e] at h;cases h
 | some z=>rw [e] at h;exact ⟨z,rfl,(Option.some.inj h).symm⟩
theorem Wz {α β:Type}{ns:List α}{i:Nat}{t:α} (f:α -> β) (h:ns[i]? = some t):(ns.take (i+1)).map f=(ns.take i).map f ++ [f t]:=by
 rw [List.take_add_one,h]
 simp
theorem ZcG {ls:List (Str×Int)} (hl:ls.length<=60):JL ls<=120:=by
 unfold JL JK Y3
 rw [List.length_map]
 have:=Wc ls GC ls.length
 lia
section
variable {X:Cx}{pins:List (Addr×Obj)} {σ:St}{H:Hp}{s:Shared}
theorem Inv.keptN {h':Heap}{t':Nat}{m:Str->Option Value} (I:Inv X pins σ H s) (F:Fr X.base X.env.locals s.heap m) (F':Fr X.base X.env.locals h' m)
  (N':News X.base X.env.locals h' (Jy X.base s.heap X.env.locals)):Inv X pins σ H { s with heap:=h',toks:=t' }:=by
 have kp:∀b u,b≠X.env.locals->s.heap.get? b=some u->h'.get? b=some u:=fun b u hb e=>by
  cases q:X.base.get? b with
  | some v=>
   have e1:=F'.keep b v q
   have e2:=F.keep b v q
   rw [e] at e2
   cases e2
   exact e1
  | none=>exact (N' (b,u) (JF hb q e)).1
 have neL:∀b u,H b=some u->b≠X.env.locals:=fun b u e z=>by rw [z,I.free] at e;cases e
 refine I.step (g':=s.gens) (d':=s.drawn) (ch:=[]) (fun _ z=>nomatch z) (fun b ob hb _ _ e _=>kp b ob hb e) (fun b ob hb _ _ e _=>⟨ob.slots,kp b ob hb e⟩) (fun b ob _ e n=>n) (fun b ob _ e=>?_) (fun b xs e=>e) (fun b ob u e=>e) (fun b ps e=>⟨#[],by rw [e];simp⟩) (fun m' hm=>?_) (fun b u e=>?_) I.bare
 ·by_cases hb:b=X.env.locals
  ·subst hb
   obtain ⟨ob',_,_,z,_⟩:=F'.ns
   exact ⟨ob',z⟩
  ·exact ⟨ob,kp b ob hb e⟩
 ·rw [Zhb hm F.ns];exact F'.ns
 ·refine (I.hok b u e).stay (fun c v hc q=>kp c v ?_ q) (fun c q=>q) fun c xs q=>q
  rcases hc with z | z
  ·subst z;exact neL _ u e
  ·exact neL c _ z
end
section
variable {X:Cx}
theorem Ziv (hc:X.calm=true):Wl X (.builtin "sum") (fun xs H Q=>∃(p:Addr) (ns:List Int),xs = [.ref p]/\Zo X.K H p (ns.map V.int)/\Q (.int ns.sum) H):=by
 intro pins s σ H xs us Q I r h
 obtain ⟨p,ns,rfl,hq,q⟩:=h
 obtain ⟨u,rfl,ru⟩:=r.one
 cases ru
 obtain ⟨its,rv,pl,hz⟩:=I.list hq
 obtain ⟨m,fr⟩:=I.fr
 refine LSm.sum_ints fr (news:=Jy X.base s.heap X.env.locals) Zby (I.ok.hd hc) pl.isList (WZ rv) fun h' tk t' fr' nw'=>?_
 exact ⟨.int ns.sum,H,I.keptN fr fr' nw',⟨t',rfl⟩,q⟩
theorem Zan {K:PySem.W.Frag} (h:X.K=K) (hc:X.calm=true):Wl X (.builtin "sum") (fun xs H Q=>∃(p:Addr) (ns:List Int),xs = [.ref p]/\Zo K H p (ns.map V.int)/\Q (.int ns.sum) H):=h ▸ Ziv hc
end
end L2
namespace L2
open PySem PySem.Spec PyProof.Rows PyProof.V
def Itz (K:PySem.W.Frag) (a b:Addr):It:=
  ⟨fun i H=>∃xs ys x y,Zo K H a xs/\Zo K H b ys/\xs[i]? = some x/\ys[i]? = some y,
   fun i H v H'=>∃p x y,v = .ref p/\H p=none/\H'=upd H p (.tup [x,y])/\(∀xs,Zo K H a xs->xs[i]? = some x)/\(∀ys,Zo K H b ys->ys[i]? = some y),
   fun i H=>∃xs ys,Zo K H a xs/\Zo K H b ys/\(xs.length<=i∨ys.length<=i)⟩
theorem ZhE {P:Program}{w:World}{K:PySem.W.Frag}{es:List Expr}{k:Nat}{pos:Pos} (a b z TI TO i1 i2:Addr) (ap:ZipApart z TI TO i1 i2 a b):
  Turn P w K (.Tuple es k pos) (Itz K a b) [z,TI,TO,i1,i2] z (fun i h=>IsZip h z TI TO .none/\IsPair h TI (.ref i1) (.ref i2)/\(∃u v,IsPair h TO u v)/\h.IsListIter i1 a i/\h.IsListIter i2 b i) where
 mem:=by simp
 obj:=fun i h st c hc=>by
  obtain ⟨h1,h2,⟨u,v,h3⟩,⟨o1,ho1,c1,d1⟩,⟨o2,ho2,c2,d2⟩⟩:=st
  simp only [List.mem_cons,List.not_mem_nil,or_false] at hc
  rcases hc with e | e | e | e | e
  ·subst e;exact ⟨_,h1,fun v z=>by have z':Data.fields _=Data.cell v:=z;cases z'⟩
  ·subst e;exact ⟨_,h2,fun v z=>by have z':Data.seq _ _=Data.cell v:=z;cases z'⟩
  ·subst e;exact ⟨_,h3,fun v z=>by have z':Data.seq _ _=Data.cell v:=z;cases z'⟩
  ·subst e;exact ⟨o1,ho1,fun v z=>by rw [d1] at z;cases z⟩
  ·subst e;exact ⟨o2,ho2,fun v z=>by rw [d2] at z;cases z⟩
 keep:=fun i h h' st k=>by
  obtain ⟨h1,h2,⟨u,v,h3⟩,h4,h5⟩:=st
  exact ⟨k z (by simp) _ h1,k TI (by simp) _ h2,⟨u,v,k TO (by simp) _ h3⟩,h4.at fun o x=>k i1 (by simp) o x,h5.at fun o x=>k i2 (by simp) o x⟩
 item:=by
  intro X hP hw hK hc i pins s σ H E I hf st hg
  subst hP hw hK
  obtain ⟨xs,ys,x,y,hq1,hq2,hx,hy⟩:=hg
  obtain ⟨its1,rv1,p1,hz1⟩:=I.list hq1
  obtain ⟨its2,rv2,p2,hz2⟩:=I.list hq2
  obtain ⟨u,hu,ru⟩:=rv1.get hx
  obtain ⟨v,hv,rv⟩:=rv2.get hy
  obtain ⟨h1,h2,⟨oa,ob,h3⟩,h4,h5⟩:=st
  refine wpAny_pyNext_zip_item ap h1 h2 h3 h4 h5 p1.isList p2.isList (x:=u) (y:=v) (by simpa using hu) (by simpa using hv) fun h' g1 g2 g3 g4 g5 hsz kk=>⟨_,rfl,?_⟩
  refine wpAny_letOwnedTupleGo_zip (s:={ s with heap:=h' }) g1 fun h'' e1 hs''=>?_
  have lt:∀c ∈ [z,TI,TO,i1,i2],@LT.lt Nat _ c s.heap.objs.size:=fun c hc=>by
   simp only [List.mem_cons,List.not_mem_nil,or_false] at hc
   rcases hc with e | e | e | e | e
   ·subst e;exact aLt h1
   ·subst e;exact aLt h2
   ·subst e;exact aLt h3
   ·subst e;obtain ⟨o,ho,_⟩:=h4;exact aLt ho
   ·subst e;obtain ⟨o,ho,_⟩:=h5;exact aLt ho
  have kk2:∀c o,c≠z->c≠TO->c≠i1->c≠i2->s.heap.get? c=some o->h''.get? c=some o:=fun c o n1 n2 n3 n4 q=>(hs''.2 c n1).trans (kk c o n1 n2 n3 n4 q)
  have nne:∀c o,H c=some o->c≠z/\c≠TO/\c≠i1/\c≠i2:=fun c o q=>by
   refine ⟨fun e=>?_,fun e=>?_,fun e=>?_,fun e=>?_⟩
   ·rw [e,(hf z (by simp)).1] at q;cases q
   ·rw [e,(hf TO (by simp)).1] at q;cases q
   ·rw [e,(hf i1 (by simp)).1] at q;cases q
   ·rw [e,(hf i2 (by simp)).1] at q;cases q
  have fr:H s.heap.objs.size=none:=I.hok.fresh (Nat.le_refl _)
  have hT:h''.get? s.heap.objs.size=some { cls:=.type "tuple", data:=.seq #[u,v] }:=(hs''.2 _ (Nat.ne_of_gt (lt z (by simp)))).trans g5
  have nT:∀c o,s.heap.get? c=some o->c≠s.heap.objs.size:=fun c o q=>Nat.ne_of_lt (aLt q)
  have ok':Gj X.prog X.w (upd H s.heap.objs.size (.tup [x,y])) h'':=fun c o q=>by
   by_cases hb:c=s.heap.objs.size
   ·subst hb
    rw [Zb] at q
    cases q
    exact ⟨show 2<=sizeLine by decide,[u,v],.cons ru (.cons rv .nil),⟨_,hT,rfl,_,rfl⟩⟩
   ·rw [Zi hb] at q
    refine (I.hok c o q).stay (fun d v hd r=>?_) (fun d r=>by rw [Zi (Zg r fr)];exact r) fun d xs r=>by rw [Zi (Zg r fr)];exact r
    rcases hd with e | e
    ·subst e
     obtain ⟨n1,n2,n3,n4⟩:=nne d o q
     exact kk2 d v n1 n2 n3 n4 r
    ·obtain ⟨n1,n2,n3,n4⟩:=nne d _ e
     exact kk2 d v n1 n2 n3 n4 r
  have notin:∀c,c ∉ [z,TI,TO,i1,i2]->c≠z/\c≠TO/\c≠i1/\c≠i2:=fun c hc=>by
   simp only [List.mem_cons,List.not_mem_nil,or_false,not_or] at hc
   exact ⟨hc.1,hc.2.2.1,hc.2.2.2.1,hc.2.2.2.2⟩
  have I1:Inv X pins σ (upd H s.heap.objs.size (.tup [x,y])) { s with heap:=h'',gens:=s.gens,drawn:=s.drawn,toks:=s.toks }:=by
   refine I.step (ch:=[z,TI,TO,i1,i2]) (fun c hc=>?_) (fun c o _ _ hc q _=>?_) (fun c o _ _ hc q _=>⟨o.slots,?_⟩)
    (fun c o _ q n=>by rw [Zi (nT c o q)];exact n) (fun c o hc q=>⟨o,?_⟩) (fun c xs q=>by rw [Zi (Zg q fr)];exact q) (fun c o u q=>by rw [Zi (Zg q fr)];exact q)
    (fun c ps q=>⟨#[],by rw [Zi (Zg q fr),q];simp⟩) (fun m hm=>?_) ok' I.bare
   ·obtain ⟨f0,f1,f2,f3,f4,f5⟩:=hf c hc
    exact ⟨f3,f1,f4,f5⟩
   ·obtain ⟨n1,n2,n3,n4⟩:=notin c hc;exact kk2 c o n1 n2 n3 n4 q
   ·obtain ⟨n1,n2,n3,n4⟩:=notin c hc;exact kk2 c o n1 n2 n3 n4 q
   ·obtain ⟨n1,n2,n3,n4⟩:=notin c hc;exact kk2 c o n1 n2 n3 n4 q
   ·obtain ⟨o,es,ep,ho,r⟩:=hm
    exact ⟨o,es,ep,kk2 _ o (Ne.symm (hf z (by simp)).2.1) (Ne.symm (hf TO (by simp)).2.1) (Ne.symm (hf i1 (by simp)).2.1) (Ne.symm (hf i2 (by simp)).2.1) ho,r⟩
  refine ⟨.ref s.heap.objs.size,_,I1,rfl,⟨s.heap.objs.size,x,y,rfl,fr,rfl,fun zs hz=>by rw [I.list_inj hz hq1];exact hx,fun zs hz=>by rw [I.list_inj hz hq2];exact hy⟩,
   ⟨e1,kk2 TI _ ap.TIz ap.TITO ap.TIi1 ap.TIi2 h2,⟨u,v,(hs''.2 TO ap.TOz).trans g2⟩,g3.at fun o q=>(hs''.2 i1 ap.i1z).trans q,g4.at fun o q=>(hs''.2 i2 ap.i2z).trans q⟩,fun c hc=>?_⟩
  rw [Zi (Nat.ne_of_lt (lt c hc))]
  exact (hf c hc).1
 done:=by
  intro X hP hw hK hc i pins s σ H E I hf st hg
  subst hP hw hK
  obtain ⟨xs,ys,hq1,hq2,hx⟩:=hg
  obtain ⟨its1,rv1,p1,hz1⟩:=I.list hq1
  obtain ⟨its2,rv2,p2,hz2⟩:=I.list hq2
  obtain ⟨h1,h2,⟨oa,ob,h3⟩,h4,h5⟩:=st
  have l1:=rv1.length
  have l2:=rv2.length
  refine wpAny_pyNext_zip_end (I.ok.hd hc) ap h1 h2 h3 h4 h5 p1.isList p2.isList (by rcases hx with e | e;exact .inl (by simp;lia);exact .inr (by simp;lia)) fun h' kk=>⟨rfl,?_⟩
  have nne:∀c o,H c=some o->c≠z/\c≠TO/\c≠i1/\c≠i2:=fun c o q=>by
   refine ⟨fun e=>?_,fun e=>?_,fun e=>?_,fun e=>?_⟩
   ·rw [e,(hf z (by simp)).1] at q;cases q
   ·rw [e,(hf TO (by simp)).1] at q;cases q
   ·rw [e,(hf i1 (by simp)).1] at q;cases q
   ·rw [e,(hf i2 (by simp)).1] at q;cases q
  have notin:∀c,c ∉ [z,TI,TO,i1,i2]->c≠z/\c≠TO/\c≠i1/\c≠i2:=fun c hc=>by
   simp only [List.mem_cons,List.not_mem_nil,or_false,not_or] at hc
   exact ⟨hc.1,hc.2.2.1,hc.2.2.2.1,hc.2.2.2.2⟩
  have ok':Gj X.prog X.w H h':=fun c o q=>by
   refine (I.hok c o q).stay (fun d v hd r=>?_) (fun d r=>r) fun d xs r=>r
   rcases hd with e | e
   ·subst e
    obtain ⟨n1,n2,n3,n4⟩:=nne d o q
    exact kk d v n1 n2 n3 n4 r
   ·obtain ⟨n1,n2,n3,n4⟩:=nne d _ e
    exact kk d v n1 n2 n3 n4 r
  refine I.step (g':=s.gens) (d':=s.drawn) (t':=s.toks) (ch:=[z,TI,TO,i1,i2]) (fun c hc=>?_) (fun c o _ _ hc q _=>?_) (fun c o _ _ hc q _=>⟨o.slots,?_⟩)
    (fun c o _ q n=>n) (fun c o hc q=>⟨o,?_⟩) (fun c xs q=>q) (fun c o u q=>q) (fun c ps q=>⟨#[],by rw [q];simp⟩) (fun m hm=>?_) ok' I.bare
  ·obtain ⟨f0,f1,f2,f3,f4,f5⟩:=hf c hc
   exact ⟨f3,f1,f4,f5⟩
  ·obtain ⟨n1,n2,n3,n4⟩:=notin c hc;exact kk c o n1 n2 n3 n4 q
  ·obtain ⟨n1,n2,n3,n4⟩:=notin c hc;exact kk c o n1 n2 n3 n4 q
  ·obtain ⟨n1,n2,n3,n4⟩:=notin c hc;exact kk c o n1 n2 n3 n4 q
  ·obtain ⟨o,es,ep,ho,r⟩:=hm
   exact ⟨o,es,ep,kk _ o (Ne.symm (hf z (by simp)).2.1) (Ne.symm (hf TO (by simp)).2.1) (Ne.symm (hf i1 (by simp)).2.1) (Ne.symm (hf i2 (by simp)).2.1) ho,r⟩
 self:=fun _ _ _ _ _ st h=>wpAny_pyIter_zip st.1 h
section
variable {X:Cx}
def Zl7 (K:PySem.W.Frag) (ta:TA):TI:=fun σ H R=>ta σ H fun vs H1=>∃a b,vs = [.ref a,.ref b]/\(∃xs,Zo K H1 a xs)/\(∃ys,Zo K H1 b ys)/\R (Itz K a b) H1
theorem Zll {a b:Expr}{ta:TA}{p pos tpos:Pos}{es:List Expr}{k:Nat} (hg:Gl X "zip") (hm:X.mg "zip" = none) (ha:PA X [a,b] ta) (hs:starEach [a,b] X.env = [(false,eval a X.env),(false,eval b X.env)]:=by rfl) (hs2:starEach [b] X.env = [(false,eval b X.env)]:=by rfl):
  PI X (.Tuple es k tpos) (.Call (.Name "zip" p) [a,b] [] pos) (Zl7 X.K ta):=by
 intro pins s σ H R I h
 refine Call_ (Gq I hg hm boot_zip (PyProof.Rows.callWith_type1 (YJ (ha pos pins s σ H _ I h) fun us s1 ⟨vs,H1,I1,r1,q1⟩=>?_) (by rw [hs,hs2]) (by rw [hs2];rfl)))
 obtain ⟨l1,l2,e,⟨xs,hq1⟩,⟨ys,hq2⟩,q⟩:=q1
 subst e
 obtain ⟨u,v,rfl,ru,rv⟩:=r1.two
 cases ru
 cases rv
 obtain ⟨its1,rv1,p1,hz1⟩:=I1.list hq1
 obtain ⟨its2,rv2,p2,hz2⟩:=I1.list hq2
 have L1:@LT.lt Nat _ l1 s1.heap.objs.size:=by obtain ⟨o,ho,_⟩:=p1.isList;exact aLt ho
 have L2:@LT.lt Nat _ l2 s1.heap.objs.size:=by obtain ⟨o,ho,_⟩:=p2.isList;exact aLt ho
 refine call_zip_2 p1.isList p2.isList fun h' g1 g2 g3 g4 g5 hsz kk=>?_
 have I2:Inv X pins σ H1 { s1 with heap:=h' }:=I1.kept (t':=s1.toks) kk
 refine wpAny_pyIter_zip (s:={ s1 with heap:=h' }) g1 ?_
 have ap:ZipApart (s1.heap.objs.size+4) (s1.heap.objs.size+2) (s1.heap.objs.size+3) s1.heap.objs.size (s1.heap.objs.size+1) l1 l2:=by
  constructor<;>(intro e;have e':@Eq Nat _ _:=e;lia)
 refine ⟨_,[s1.heap.objs.size+4,s1.heap.objs.size+2,s1.heap.objs.size+3,s1.heap.objs.size,s1.heap.objs.size+1],_,_,H1,rfl,I2,ZhE l1 l2 _ _ _ _ _ ap,⟨g1,g2,⟨_,_,g3⟩,g4,g5⟩,fun c hc=>?_,q⟩
 have hb':@LE.le Nat _ s1.heap.objs.size c:=by
  simp only [List.mem_cons,List.not_mem_nil,or_false] at hc
  rcases hc with e | e | e | e | e<;>(subst e;first | exact Nat.le_refl _ | exact Nat.le_add_right _ _)
 exact I1.fpOk hb' (I1.hok.fresh hb')
theorem Zdd {K:PySem.W.Frag}{a b:Expr}{ta:TA}{p pos tpos:Pos}{es:List Expr}{k:Nat} (hk:X.K=K) (hg:Gl X "zip") (hm:X.mg "zip" = none) (ha:PA X [a,b] ta) (hs:starEach [a,b] X.env = [(false,eval a X.env),(false,eval b X.env)]:=by rfl) (hs2:starEach [b] X.env = [(false,eval b X.env)]:=by rfl):
  PI X (.Tuple es k tpos) (.Call (.Name "zip" p) [a,b] [] pos) (Zl7 K ta):=hk ▸ Zll hg hm ha hs hs2
theorem ZlK {K:PySem.W.Frag}{a b:Addr}{xs ys:List V}{g:TG}{tc:TT}{te:TE} {σ:St}{H:Hp}{Q:VK} (hn:xs.length<=sizeLine) (hl:xs.length<=ys.length) (Pv:Nat->List V->Hp->Prop) (h0:Pv 0 [] H) (hlen:∀i zs H,Pv i zs H->zs.length<=i) (hS:∀i zs H,Pv i zs H->Zo K H a xs/\Zo K H b ys)
  (hs:∀i x y p zs H,xs[i]? = some x->ys[i]? = some y->Pv i zs H->H p=none->g (.ref p) σ (upd H p (.tup [x,y])) fun σ2 H2=>tc σ2 H2 fun b H3=>if b=true then te σ2 H3 fun y H4=>Pv (i+1) (zs ++ [y]) H4 else Pv (i+1) zs H3)
  (hd:∀zs H,Pv xs.length zs H -> ∀D,H D=none->Q (.ref D) (upd H D (.lst zs))):LcW (Itz K a b) σ g tc te H Q:=
 Zb5 hn Pv h0 hlen (fun i zs H hi p=>⟨xs,ys,xs[i],ys[i]'(by lia),(hS i zs H p).1,(hS i zs H p).2,by simp [hi],by simp [show i<ys.length by lia]⟩) (fun zs H p=>⟨xs,ys,(hS _ zs H p).1,(hS _ zs H p).2,.inl (Nat.le_refl _)⟩) (fun i zs H hi p x H' y=>by
  obtain ⟨q,u,v,e1,e2,e3,y1,y2⟩:=y
  subst e1 e3
  exact hs i u v q zs _ (y1 xs (hS i zs _ p).1) (y2 ys (hS i zs _ p).2) p e2) hd
end
end L2
namespace L2
open PySem PySem.Spec PyProof.Rows PyProof.V
section
variable {X:Cx}
end
section
variable {X:Cx}
end
end L2
namespace L2
open PySem PySem.Spec PyProof.Rows PyProof.V
section
variable {prog:Program}{w:World}{A:Around}{E:Value->Shared->Prop}{s:Shared}
end
section
variable {X:Cx}
end
inductive Sim (H:Hp):V->Prop
 | non:Sim H .non
 | bl (b:Bool):Sim H (.bl b)
 | int (i:Int):Sim H (.int i)
 | str (x:Str):Sim H (.str x)
 | lst {a:Addr}{xs:List V} (e:H a=some (.lst xs)):Sim H (.ref a)
 | tup {a:Addr}{xs:List V} (e:H a=some (.tup xs)):Sim H (.ref a)
def isStr:V->Bool
 | .str _=>true
 | _=>false
def isIn:V->Bool
 | .int _=>true
 | _=>false
inductive Zdj (H:Hp):V->Option (Str×Int)->Prop
 | yes {a:Addr}{x:Str}{k:Int} (e:H a=some (.tup [.str x,.int k])):Zdj H (.ref a) (some (x,k))
 | non:Zdj H .non none
 | bl (b:Bool):Zdj H (.bl b) none
 | int (i:Int):Zdj H (.int i) none
 | str (x:Str):Zdj H (.str x) none
 | lst {a:Addr}{xs:List V} (e:H a=some (.lst xs)):Zdj H (.ref a) none
 | len {a:Addr}{xs:List V} (e:H a=some (.tup xs)) (n:xs.length≠2):Zdj H (.ref a) none
 | fst {a:Addr}{u w:V} (e:H a=some (.tup [u,w])) (s:Sim H u) (n:isStr u=false):Zdj H (.ref a) none
 | snd {a:Addr}{x:Str}{w:V} (e:H a=some (.tup [.str x,w])) (s:Sim H w) (n:isIn w=false):Zdj H (.ref a) none
section
variable {env:Env}{r:List Expr}
end
section
variable {X:Cx}{e a b:Expr}{es:List Expr}{te ta tb:TE}{t:TA}{pos:Pos}{st:Stmt}{rest:List Stmt}{ts us:TS}
structure PEc (X:Cx) (e:Expr) (t:TE):Prop where
 out:PE X e t
structure PAc (X:Cx) (es:List Expr) (t:TA):Prop where
 out:PA X es t
structure PSc (X:Cx) (st:Stmt) (t:TS):Prop where
 out:PS X st t
structure ZnH (X:Cx) (st:List Stmt) (t:TS):Prop where
 out:PSs X st t
end
inductive Lit
 | non | bl (b:Bool) | int (i:Int) | str (x:Str) | tup (l:List Lit) | lst (l:List Lit)
mutual
inductive ZdH (H:Hp):V->Lit->Prop
 | non:ZdH H .non .non
 | bl (b:Bool):ZdH H (.bl b) (.bl b)
 | int (i:Int):ZdH H (.int i) (.int i)
 | str (x:Str):ZdH H (.str x) (.str x)
 | tup {a:Addr}{xs:List V}{l:List Lit} (e:H a=some (.tup xs)) (r:Zct H xs l):ZdH H (.ref a) (.tup l)
 | lst {a:Addr}{xs:List V}{l:List Lit} (e:H a=some (.lst xs)) (r:Zct H xs l):ZdH H (.ref a) (.lst l)
inductive Zct (H:Hp):List V->List Lit->Prop
 | nil:Zct H [] []
 | cons {v:V}{vs:List V}{l:Lit}{ls:List Lit} (a:ZdH H v l) (r:Zct H vs ls):Zct H (v::vs) (l::ls)
end
section
variable {X:Cx}{G:St->Hp->Prop}{e a b:Expr}{es:List Expr}{pos:Pos}{l:Lit}{ls la lb:List Lit}
def tL (G:St->Hp->Prop) (l:Lit):TE:=fun σ H Q=>G σ H /\ ∀v H',Zf H H'->ZdH H' v l->Q v H'
def tLs (G:St->Hp->Prop) (l:List Lit):TA:=fun σ H Q=>G σ H /\ ∀v H',Zf H H'->Zct H' v l->Q v H'
structure PL (X:Cx) (G:St->Hp->Prop) (e:Expr) (l:Lit):Prop where
 out:PE X e (tL G l)
structure PLs (X:Cx) (G:St->Hp->Prop) (es:List Expr) (l:List Lit):Prop where
 out:PA X es (tLs G l)
end
section
variable {X:Cx}{G:St->Hp->Prop}{es:List Expr}{pos:Pos}{ls:List Lit}
end
section
variable {X:Cx}{st:Stmt}{rest:List Stmt}{t u:TS}
end
def Exc (h:Heap) (a T:Addr) (C:Value):Prop:=
 ∃oe vs oT ts,h.get? a=some oe/\oe.cls=C/\oe.data = .fields vs/\vs[1]? = some (.ref T)/\h.get? T=some oT/\oT.data = .fields ts/\ts[3]? = some .none/\T≠a
theorem Exc.ne_dict {h:Heap}{a T b:Addr}{C:Value}{o:Obj} (x:Exc h a T C) (e:h.get? b=some o) (d:∀vs,o.data ≠ .fields vs):b≠a/\b≠T:=by
 obtain ⟨oe,vs,oT,ts,p1,_,p3,_,p5,p6,_,_⟩:=x
 refine ⟨fun z=>?_,fun z=>?_⟩
 ·rw [z,p1] at e;cases e;exact d _ p3
 ·rw [z,p5] at e;cases e;exact d _ p6
theorem Zfu (l:List Env):∀env∈l,∀b,env.frame=some b->b∈JI l:=fun env he b hb=>List.mem_filterMap.mpr ⟨env,he,hb⟩
section
variable {M:Model}{A:Around}{E:Value->Shared->Prop}{s:Shared}{env:Env}{outer:List Env}{L a T:Addr}{C:Value}{base h:Heap}{Q:Unit->Shared->Prop}
theorem Zfi {args:List Value} (hfr:A.frames=some (env::outer)) (hf:env.frame=some L) (hl:h.FunFrames base (env::outer)) (hx:Heap.MadeExcOf h s.heap a C args)
  (hQ:∀h' T,(∀b o,h.get? b=some o->b∉JI (env::outer)->h'.get? b=some o)->(∀b o,h.get? b=some o->b∈JI (env::outer) -> ∃sl,h'.get? b=some { o with slots:=sl }) ->
   Exc h' a T C->h.get? a=none->h.get? T=none->Q () { s with heap:=h' }):wpAny M A (leaving env (.ref a)) Q E s:=by
 have hin:=Zfu (env::outer)
 refine wpAny_leaves_madeW (base:=PySem.W.hideAll h (JI (env::outer))) hfr hf (fun b o q=>PySem.W.of_hideAll _ q) (PySem.W.funFrames_hide hl hin) hx fun h' t fl _ _ up=>?_
 obtain ⟨st,ea,ff,oe,vs,T,oT,ts,p1,⟨p2,_⟩,p3,p4,p5,p6,p7,p8,p9⟩:=fl
 have slot:∀b o,h.get? b=some o->b∈JI (env::outer) -> ∃sl,h'.get? b=some { o with slots:=sl }:=fun b o e hb=>by
  obtain ⟨_,o',e',d⟩:=hl.mem hb
  rw [e] at e'
  cases e'
  exact up b o (hx.keeps b o e) d
 refine hQ h' T (fun b o e n=>st b o (PySem.W.hideAll_get _ e n)) slot ⟨oe,vs,oT,ts,p1,p2,p3,p4,p7,p8,p9,p6⟩ hx.new ?_
 cases q:h.get? T with
 | none=>rfl
 | some o=>
  exfalso
  by_cases hb:T∈JI (env::outer)
  ·obtain ⟨_,o',e',d⟩:=hl.mem hb
   obtain ⟨sl,z⟩:=slot T o' e' hb
   rw [z] at p7
   cases p7
   exact d _ p8
  ·rw [PySem.W.hideAll_get _ q hb] at p5
   cases p5
theorem ZiP (hfr:A.frames=some (env::outer)) (hf:env.frame=some L) (hl:s.heap.FunFrames base (env::outer)) (hx:Exc s.heap a T C)
  (hQ:∀h' T',(∀b o,s.heap.get? b=some o->b∉JI (env::outer)->b≠a->b≠T->h'.get? b=some o)->(∀b o,s.heap.get? b=some o->b∈JI (env::outer) -> ∃sl,h'.get? b=some { o with slots:=sl }) ->
   Exc h' a T' C->(T'=T∨s.heap.get? T'=none)->Q () { s with heap:=h' }):wpAny M A (leaving env (.ref a)) Q E s:=by
 have hin:∀e∈env::outer,∀b,e.frame=some b->b∈a::T::JI (env::outer):=fun e he b hb=>List.mem_cons_of_mem _ (List.mem_cons_of_mem _ (Zfu _ e he b hb))
 obtain ⟨oe,vs,oT,ts,p1,p2,p3,p4,p5,p6,p7,p8⟩:=id hx
 have hsz:0<vs.size:=Nat.lt_of_le_of_lt (Nat.zero_le _) (Array.getElem?_eq_some_iff.mp p4).1
 have none_a:(PySem.W.hideAll s.heap (a::T::JI (env::outer))).get? a=none:=PySem.W.hideAll_none _ (List.mem_cons_self)
 have none_T:(PySem.W.hideAll s.heap (a::T::JI (env::outer))).get? T=none:=PySem.W.hideAll_none _ (List.mem_cons_of_mem _ List.mem_cons_self)
 refine wpAny_leaves_onW (base:=PySem.W.hideAll s.heap (a::T::JI (env::outer))) (a0:=vs[0]) hfr hf
  ⟨fun b o q=>PySem.W.of_hideAll _ q,none_a,PySem.W.funFrames_hide hl hin,oe,vs,T,oT,ts,p1,⟨p2,Array.getElem?_eq_getElem hsz⟩,p3,p4,none_T,p8,p5,p6,p7⟩ fun h' fl up=>?_
 obtain ⟨st,ea,ff,oe',vs',T',oT',ts',q1,⟨q2,_⟩,q3,q4,q5,q6,q7,q8,q9⟩:=fl
 have slot:∀b o,s.heap.get? b=some o->b∈JI (env::outer) -> ∃sl,h'.get? b=some { o with slots:=sl }:=fun b o e hb=>by
  obtain ⟨_,o',e',d⟩:=hl.mem hb
  rw [e] at e'
  cases e'
  exact up b o e d
 refine hQ h' T' (fun b o e n na nT=>st b o (PySem.W.hideAll_get _ e fun z=>?_)) slot ⟨oe',vs',oT',ts',q1,q2,q3,q4,q7,q8,q9,q6⟩ ?_
 ·rcases List.mem_cons.mp z with z | z
  ·exact na z
  ·rcases List.mem_cons.mp z with z | z
   ·exact nT z
   ·exact n z
 ·by_cases z:T'=T
  ·exact .inl z
  ·right
   cases q:s.heap.get? T' with
   | none=>rfl
   | some o=>
    exfalso
    by_cases hb:T'∈JI (env::outer)
    ·obtain ⟨_,o',e',d⟩:=hl.mem hb
     obtain ⟨sl,w⟩:=slot T' o' e' hb
     rw [w] at q7
     cases q7
     exact d _ q8
    ·rw [PySem.W.hideAll_get _ q fun y=>?_] at q5
     ·cases q5
     ·rcases List.mem_cons.mp y with y | y
      ·exact q6 y
      ·rcases List.mem_cons.mp y with y | y
       ·exact z y
       ·exact hb y
end
def CX1 (P:Program) (w:World):CXT:=fun outer H s E e s'=>∃(a T C:Addr) (H':Hp),e = .ref a/\s'.os=s.os/\AllBare s'.gens/\Un (JI outer) [] H H' s.heap s'.heap/\Gj P w H' s'.heap /\
 Exc s'.heap a T (.ref C)/\s.heap.get? a=none/\s.heap.get? T=none/\H' a=none/\H' T=none/\E (.ref C) none H'
section
variable {P:Program}{w:World}{K:PySem.W.Frag}{mg:Str->Option Value}{base:Heap}{N:List Str}{qual:Str}{scope:Scope}{f:Addr}{cd:Value}{A:Around}{outer:List Env}{s₀ s:Shared}{H₀ H:Hp}{E:XK}{CX:CXT}{pins:List (Addr×Obj)} {σ:L2.St}
theorem Zcc {h:Heap}{b:Addr}{o:HO} (ok:Gj P w H h) (e:H b=some o):∃ob,h.get? b=some ob:=(ok b o e).there
theorem YU {h:Heap}{b:Addr} (ok:Gj P w H h) (e:h.get? b=none):H b=none:=by
 cases q:H b with
 | none=>rfl
 | some o=>
  obtain ⟨ob,z⟩:=Zcc ok q
  rw [e] at z
  cases z
theorem Zcr {a T:Addr}{h':Heap} (I:Inv (JS CX P w K mg base N qual scope f cd A outer s₀ H₀ E) pins σ H s)
  (na:H a=none/\s₀.heap.get? a=none) (nT:H T=none/\s₀.heap.get? T=none)
  (keep:∀b o,s.heap.get? b=some o->b∉JI (JS CX P w K mg base N qual scope f cd A outer s₀ H₀ E).stack->b≠a->b≠T->h'.get? b=some o)
  (slot:∀b o,s.heap.get? b=some o->b∈JI (JS CX P w K mg base N qual scope f cd A outer s₀ H₀ E).stack -> ∃sl,h'.get? b=some { o with slots:=sl }):
  Un (JI outer) [] H₀ H s₀.heap h'/\Gj P w H h':=by
 have B:Un (JI outer) [] H₀ H s₀.heap s.heap:=I.base
 have neL:∀b o,s₀.heap.get? b=some o->b∉JI outer->b∉JI (JS CX P w K mg base N qual scope f cd A outer s₀ H₀ E).stack:=fun b o e nb hb=>by
  rcases List.mem_cons.mp (I.stkSub b hb) with z | z
  ·exact absurd (Nat.lt_of_lt_of_le (Heap.lt_size e) I.ok.above) (by rw [z];exact Nat.lt_irrefl _)
  ·exact nb z
 have nea:∀b o,s₀.heap.get? b=some o->b≠a/\b≠T:=fun b o e=>⟨(fun z=>by rw [z,na.2] at e;cases e),(fun z=>by rw [z,nT.2] at e;cases e)⟩
 have any:∀b o,s.heap.get? b=some o->b≠a->b≠T -> ∃o',h'.get? b=some o':=fun b o e z1 z2=>by
  by_cases hb:b∈JI (JS CX P w K mg base N qual scope f cd A outer s₀ H₀ E).stack
  ·obtain ⟨sl,q⟩:=slot b o e hb
   exact ⟨_,q⟩
  ·exact ⟨o,keep b o e hb z1 z2⟩
 refine ⟨⟨fun b o e n hb hx=>keep b o (B.keep b o e n hb hx) (neL b o e hb) (nea b o e).1 (nea b o e).2,fun b o e n hb hx=>?_,B.free,fun b o e hx=>?_,B.tups,B.frzs,B.tbls⟩,fun b u e=>?_⟩
 ·obtain ⟨sl,q⟩:=B.slot b o e n hb hx
  obtain ⟨sl',q'⟩:=slot b _ q (by
   show b∈JI (envOfC qual scope s₀.heap.objs.size f cd::outer)
   unfold JI
   rw [List.filterMap_cons]
   exact List.mem_cons_of_mem _ hb)
  exact ⟨sl',q'⟩
 ·obtain ⟨o',q⟩:=B.there b o e hx
  exact any b o' q (nea b o e).1 (nea b o e).2
 ·refine (I.hok b u e).stay (fun c v hc q=>?_) (fun _ q=>q) fun _ _ q=>q
  have hH:H c≠none:=by
   rcases hc with rfl | z
   ·rw [e];exact fun z=>nomatch z
   ·rw [z];exact fun z=>nomatch z
  exact keep c v q (fun z=>hH (I.stkFree c z)) (fun z=>hH (by rw [z];exact na.1)) (fun z=>hH (by rw [z];exact nT.1))
theorem Jj {b:Addr} (I:Inv (JS CX P w K mg base N qual scope f cd A outer s₀ H₀ E) pins σ H s) (e:s.heap.get? b=none):s₀.heap.get? b=none:=by
 cases q:s₀.heap.get? b with
 | none=>rfl
 | some o=>
  obtain ⟨o',z⟩:=I.base.there b o q (fun y=>nomatch y)
  rw [e] at z
  cases z
theorem ZjN {a C:Addr}{args:List Value}{h':Heap}{tk:Nat} (I:Inv (JS (CX1 P w) P w K mg base N qual scope f cd A outer s₀ H₀ E) pins σ H s) (hx:Heap.MadeExcOf s.heap h' a (.ref C) args) (hE:E (.ref C) none H):
  (JS (CX1 P w) P w K mg base N qual scope f cd A outer s₀ H₀ E).xe (.ref a) { s with heap:=h',toks:=tk }:=by
 refine Zfi (L:=s₀.heap.objs.size) I.ok.frames rfl I.stack (s:={ s with heap:=h',toks:=tk }) hx fun h2 T keep slot ex na nT=>?_
 obtain ⟨u,ok⟩:=Zcr I ⟨YU I.hok na,Jj I na⟩ ⟨YU I.hok nT,Jj I nT⟩ (fun b o e n _ _=>keep b o e n) slot
 exact ⟨a,T,C,H,rfl,I.os,I.bare,u,ok,ex,Jj I na,Jj I nT,YU I.hok na,YU I.hok nT,hE⟩
theorem ZhJ:Passes (CX1 P w) (JS (CX1 P w) P w K mg base N qual scope f cd A outer s₀ H₀ E) E:=by
 intro pins σ H s e s' I c
 obtain ⟨a,T,C,H',rfl,os,bare,un,ok,ex,na,nT,ha,hT,hE⟩:=c
 have I':Inv (JS (CX1 P w) P w K mg base N qual scope f cd A outer s₀ H₀ E) pins σ H' s':=I.call' os un ok bare (fun b z=>nomatch z)
 refine ZiP (L:=s₀.heap.objs.size) I'.ok.frames rfl I'.stack ex fun h2 T' keep slot ex' oT=>?_
 obtain ⟨u,ok'⟩:=Zcr I' ⟨ha,Jj I na⟩ ⟨hT,Jj I nT⟩ keep slot
 refine ⟨a,T',C,H',rfl,I'.os,I'.bare,u,ok',ex',Jj I na,?_,ha,?_,hE⟩
 ·rcases oT with z | z
  ·rw [z];exact Jj I nT
  ·exact Jj I' z
 ·rcases oT with z | z
  ·rw [z];exact hT
  ·exact YU I'.hok z
end
theorem Zim {K:PySem.W.Frag}{C:Addr}{bmB:List Value}{newId:String}{h:Heap} (KI:K.In h) (hq:PySem.W.excIn K C bmB newId=true):
  ∃bm N nm qn bs hd sn sub ab col dd k0 k1 k2 k3 k5 mN,h.get? C=some (excClassObj nm qn C N bs bm hd sn sub ab col dd k0 k1 k2 k3 k5 newId)/\h.Ns N mN/\mN "__init__" = none/\OwnTail h bmB bm:=by
 unfold PySem.W.excIn at hq
 split at hq
 ·rename_i dd dat slots hob
  split at hq
  ·rename_i C2 tail k0 k1 k2 k3 nid k5 hmro hsl
   simp only [Bool.and_eq_true,Bool.not_eq_true',beq_iff_eq] at hq
   obtain ⟨⟨⟨⟨⟨e1,e2⟩,e3⟩,e4⟩,e5⟩,e6⟩:=hq
   subst e1
   subst e2
   obtain ⟨nm,bs,mro,ns,qn,hd,sn,sub,ab,col,del⟩:=dat
   simp only at hmro e3 e5 e6
   subst hmro
   subst e3
   obtain ⟨sl⟩:=slots
   simp only at hsl
   subst hsl
   exact ⟨tail,ns,nm,qn,bs,hd,sn,sub,ab,col,dd,k0,k1,k2,k3,k5,_,KI _ _ hob,.of_isNs (PySem.W.isNs_of_in KI e5),PySem.W.nsMap_none_of_in KI e5 e6,PySem.W.tail_of_in KI e4⟩
  ·exact nomatch hq
 ·exact nomatch hq
def bmV:List Value:=[.type "ValueError", .type "Exception", .type "BaseException", .type "object"]
def ZlC (C:Addr) (E:XK) (ta:TA):TS:=fun _ σ H=>ta σ H fun vs H1=>vs.length<=sizeLine/\E (.ref C) none H1
section
variable {P:Program}{w:World}{K:PySem.W.Frag}{mg:Str->Option Value}{base:Heap}{N:List Str}{qual:Str}{scope:Scope}{f:Addr}{cd:Value}{A:Around}{outer:List Env}{s₀:Shared}{H₀:Hp}{E:XK}
theorem Ziy {x:Str}{C:Addr}{e:Expr}{es:List Expr}{ta:TA}{np cpos pos:Pos} (hg:Gl (JS (CX1 P w) P w K mg base N qual scope f cd A outer s₀ H₀ E) x) (hm:mg x=some (.ref C)) (hc:PySem.W.excIn K C bmV "ValueError.__new__" = true)
  (ha:PA (JS (CX1 P w) P w K mg base N qual scope f cd A outer s₀ H₀ E) (e::es) ta)
  (he:starEach (e::es) (JS (CX1 P w) P w K mg base N qual scope f cd A outer s₀ H₀ E).env=(false,eval e (JS (CX1 P w) P w K mg base N qual scope f cd A outer s₀ H₀ E).env)::starEach es (JS (CX1 P w) P w K mg base N qual scope f cd A outer s₀ H₀ E).env:=by rfl)
  (hp:(backTo cpos (starEach es (JS (CX1 P w) P w K mg base N qual scope f cd A outer s₀ H₀ E).env)).any (·.1)=false:=by rfl) (hd:(x==("__debug__" : Str))=false:=by decide):
  PS (JS (CX1 P w) P w K mg base N qual scope f cd A outer s₀ H₀ E) (.Raise (some (.Call (.Name x np) (e::es) [] cpos)) none pos) (ZlC C E ta):=by
 intro pins s σ H D I h
 obtain ⟨bm,NN,nm,qn,bs,hdc,sn,sub,ab,col,dd,k0,k1,k2,k3,k5,mN,hC,hN,hni,T⟩:=Zim I.mod.kin hc
 have hb:bmV.contains (.type "BaseException")=true:=PySem.F.excBase_ValueError.hasBase
 refine wpAny_Raise_call_subT (C:=C) (nm:=nm) (q:=qn) (N:=NN) (bs:=bs) (bm:=bm) (bmB:=bmV) (hdct:=hdc) (sn:=sn) (sub:=sub) (ab:=ab) (col:=col) (dd:=dd) (k0:=k0) (k1:=k1) (k2:=k2) (k3:=k3) (k5:=k5)
  (newId := "ValueError.__new__") PySem.F.excBase_ValueError (mN:=mN) (T.hasType hb) (I.ok.hd rfl) (by rw [he];show (false||(backTo cpos (starEach es _)).any (·.1))=false;rw [hp];rfl) hni (Ud I hg hm ⟨rfl,?_⟩ hd)
 have hz:=ha cpos pins s σ H _ I h
 rw [he] at hz ⊢
 refine Calls.evalArgs_plain (wpAny_mono hz (fun us s2 ⟨vs,H2,I2,rv,hl,hE⟩=>?_) fun _ _ y=>y)
 refine ⟨rfl,by rw [<- rv.length];exact hl,I2.bk _ _ hC,hN.keeps I2.bk,T.keeps I2.bk,fun h' a mk=>?_⟩
 exact ZjN (tk:=s2.toks) I2 mk hE
end
structure Znv (M:Model) (h:Heap) (C:Addr):Prop where
 ga:PySem.W.Looks M h (typeLookup (.ref C) "__getattribute__") (some (.builtin "BaseException.__getattribute__"))
 ca:PySem.W.Looks M h (typeLookup (.ref C) "__class__") (some (.builtin "object.__class__"))
 ob:PySem.W.Looks M h (isSubtype (.ref C) (.type "object")) true
 be:PySem.W.Looks M h (isSubtype (.ref C) (.type "BaseException")) true
 gn:PySem.W.Looks M h (typeLookup (.ref C) "__getattr__") none
section
variable {prog:Program}{w:World}{A:Around}{E:Value->Shared->Prop}{h:Heap}{g:Array GenState}{d:Drawn}{t:Nat}{os:OsState}{a C:Addr}{o:Obj}
end
section
variable {M:Model}{A:Around}{E:Value->Shared->Prop}{h:Heap}{g:Array GenState}{d:Drawn}{t:Nat}{os:OsState}
variable {nm q nmD qD:Str}{C N D ND:Addr}{bs bm bsD bmD:List Value}{hdct hdD:Bool}{sn snD:List Str}{sub subD:List Value}{ab abD:Bool}{col colD:Option Bool}{dd ddD:Option Addr}{k0 k1 k2 k3 k5 j0 j1 j2 j3 j5:Option Value}{newId newD:String}
theorem ZgT {e:Addr}{oe:Obj}{Q:Bool->Shared->Prop} (hD:h.get? D=some (excClassObj nmD qD D ND bsD bmD hdD snD subD abD colD ddD j0 j1 j2 j3 j5 newD)) (he:h.get? e=some oe) (hcls:oe.cls = .ref C)
  (hbD:bmD.contains (.type "BaseException")=true) (hsub:PySem.W.Looks M h (isSubtype (.ref C) (.ref D)) true) (hq:Q true ⟨h,g,d,t,os⟩):wpAny M A (excMatches (.ref e) (.ref D)) Q E ⟨h,g,d,t,os⟩:=by
 have hcB:(Value.ref D::bmD).contains (.type "BaseException")=true:=by rw [List.contains_cons,hbD,Bool.or_true]
 have f:=tc_notTuple
 unfold excMatches
 repeat (first | (with_reducible refine wpAny_loadPart_at he ?_;rw [hcls]) | with_reducible refine wpAny_loadPart_at hD ?_ | (with_reducible refine wpAny_isSubtype_exc hD ?_;rw [hcB]) | with_reducible refine hsub.at ?_ | wp_step)
 exact hq
end
abbrev Cx.nailed (X:Cx) (pins:List (Addr×Obj)):Cx:={ X with pn:=X.pn++pins }
theorem Cx.Ok.nailed {X:Cx} (ok:X.Ok) (pins:List (Addr×Obj)):(X.nailed pins).Ok:=
 ⟨ok.mod,ok.kind,ok.glob,ok.blt,ok.above,ok.inj,ok.has,ok.cab,ok.hd,ok.frames,ok.stk,ok.exf,ok.bs,ok.bsz,ok.noex,ok.exfs,ok.funs,ok.frf⟩
theorem Cx.Ok.unnailed {X:Cx}{pins:List (Addr×Obj)} (ok:(X.nailed pins).Ok):X.Ok:=
 ⟨ok.mod,ok.kind,ok.glob,ok.blt,ok.above,ok.inj,ok.has,ok.cab,ok.hd,ok.frames,ok.stk,ok.exf,ok.bs,ok.bsz,ok.noex,ok.exfs,ok.funs,ok.frf⟩
section
variable {X:Cx}{pins ps:List (Addr×Obj)} {σ:L2.St}{H:Hp}{s:Shared}
theorem Inv.nail (I:Inv X pins σ H s):Inv (X.nailed pins) [] σ H s:=⟨I.ok.nailed pins,I.os,I.bare,I.base,I.loc,I.cell,I.free,I.freeC,fun p hp=>I.pin p (by simpa using hp),I.hok,I.len⟩
theorem Inv.unnail (I:Inv (X.nailed pins) ps σ H s):Inv X pins σ H s:=⟨I.ok.unnailed,I.os,I.bare,I.base,I.loc,I.cell,I.free,I.freeC,fun p hp=>I.pin p (List.mem_append_left _ hp),I.hok,I.len⟩
theorem Inv.left {a T:Addr}{h':Heap} (I:Inv X pins σ H s) (hex:X.ex = []) (na:H a=none/\X.s₀.heap.get? a=none) (nT:H T=none/\X.s₀.heap.get? T=none)
  (np:∀p∈X.pn++pins,p.1≠a/\p.1≠T) (xc:∃C,Exc s.heap a T C)
  (keep:∀b o,s.heap.get? b=some o->b∉JI X.stack->b≠a->b≠T->h'.get? b=some o) (slot:∀b o,s.heap.get? b=some o->b∈JI X.stack -> ∃sl,h'.get? b=some { o with slots:=sl }):
  Inv X pins σ H { s with heap:=h' }:=by
 obtain ⟨C0,xc⟩:=xc
 have up:∀b o,s.heap.get? b=some o->b≠a->b≠T -> ∃sl,h'.get? b=some { o with slots:=sl }:=fun b o e z1 z2=>by
  by_cases hb:b∈JI X.stack
  ·exact slot b o e hb
  ·exact ⟨o.slots,keep b o e hb z1 z2⟩
 have neL:∀b o,X.s₀.heap.get? b=some o->b∉X.fs->b∉JI X.stack:=fun b o e nb hb=>by
  rcases List.mem_cons.mp (I.stkSub b hb) with z | z
  ·exact absurd (Nat.lt_of_lt_of_le (Heap.lt_size e) I.ok.above) (by rw [z];exact Nat.lt_irrefl _)
  ·exact nb z
 have nea:∀b o,X.s₀.heap.get? b=some o->b≠a/\b≠T:=fun b o e=>⟨(fun z=>by rw [z,na.2] at e;cases e),(fun z=>by rw [z,nT.2] at e;cases e)⟩
 have cellK:∀c v,s.heap.IsCell c v->h'.IsCell c v:=fun c v ⟨o,e,dt⟩=>by
  have n:=xc.ne_dict e (fun vs z=>by rw [dt] at z;cases z)
  obtain ⟨sl,e'⟩:=up c o e n.1 n.2
  exact ⟨_,e',dt⟩
 refine ⟨I.ok,I.os,I.bare,⟨fun b o e n hb hx=>?_,fun b o e n hb hx=>?_,I.base.free,fun b o e hx=>?_,I.base.tups,I.base.frzs,I.base.tbls⟩,?_,fun x c e=>?_,I.free,I.freeC,fun p hp=>?_,fun b u e=>?_,I.len⟩
 ·exact keep b o (I.base.keep b o e n hb hx) (neL b o e hb) (nea b o e).1 (nea b o e).2
 ·obtain ⟨sl,e1⟩:=I.base.slot b o e n hb hx
  obtain ⟨sl',e2⟩:=up b _ e1 (nea b o e).1 (nea b o e).2
  exact ⟨sl',e2⟩
 ·obtain ⟨o',e1⟩:=I.base.there b o e hx
  obtain ⟨sl,e2⟩:=up b o' e1 (nea b o e).1 (nea b o e).2
  exact ⟨_,e2⟩
 ·obtain ⟨m,⟨o,es,ep,ho,hd,r⟩,hl⟩:=I.loc
  have n:=xc.ne_dict ho (fun vs z=>by rw [hd] at z;cases z)
  obtain ⟨sl,e'⟩:=up _ o ho n.1 n.2
  refine ⟨m,⟨_,es,ep,e',hd,r⟩,fun i x v e1 e2 e3=>?_⟩
  obtain ⟨u,rv,l⟩:=hl i x v e1 e2 e3
  refine ⟨u,rv,?_⟩
  rcases l with l | ⟨k,c,e,z⟩
  ·exact .inl l
  ·exact .inr ⟨k,c,e,cellK c _ z⟩
 ·obtain ⟨v,z⟩:=I.cell x c e
  exact ⟨v,cellK c v z⟩
 ·obtain ⟨e,n,ne,nf,dd⟩:=I.pin p hp
  have nst:p.1∉JI X.stack:=fun hb=>by
   rcases List.mem_cons.mp (I.stkSub _ hb) with z | z
   ·exact ne z
   ·exact nf z
  exact ⟨keep p.1 p.2 e nst (np p hp).1 (np p hp).2,n,ne,nf,dd⟩
 ·refine (I.hok b u e).stay (fun c v hc q=>?_) (fun _ q=>q) fun _ _ q=>q
  have hH:H c≠none:=by
   rcases hc with rfl | z
   ·rw [e];exact fun z=>nomatch z
   ·rw [z];exact fun z=>nomatch z
  exact keep c v q (fun z=>hH (I.stkFree c z)) (fun z=>hH (by rw [z];exact na.1)) (fun z=>hH (by rw [z];exact nT.1))
theorem looked {M:Model}{E:Value->Shared->Prop}{a T:Addr}{C:Value}{env:Env}{outer:List Env}{L:Addr}{base:Heap}{A:Around}{Q:Unit->Shared->Prop} (hfr:A.frames=some (env::outer)) (hf:env.frame=some L) (hl:s.heap.FunFrames base (env::outer)) (hx:Exc s.heap a T C)
  (hQ:∀h' T',(∀b o,s.heap.get? b=some o->b∉JI (env::outer)->b≠a->b≠T->h'.get? b=some o)->(∀b o,s.heap.get? b=some o->b∈JI (env::outer) -> ∃sl,h'.get? b=some { o with slots:=sl }) ->
   Exc h' a T' C->(T'=T∨s.heap.get? T'=none)->Q () { s with heap:=h' }):wpAny M A (noteFrame (.ref a) env) (fun _ s₂=>wpAny M A (setFlight (.ref a) none) Q E s₂) E s:=by
 have hin:∀e∈env::outer,∀b,e.frame=some b->b∈a::T::JI (env::outer):=fun e he b hb=>List.mem_cons_of_mem _ (List.mem_cons_of_mem _ (Zfu _ e he b hb))
 obtain ⟨oe,vs,oT,ts,p1,p2,p3,p4,p5,p6,p7,p8⟩:=id hx
 have hsz:0<vs.size:=Nat.lt_of_le_of_lt (Nat.zero_le _) (Array.getElem?_eq_some_iff.mp p4).1
 have none_a:(PySem.W.hideAll s.heap (a::T::JI (env::outer))).get? a=none:=PySem.W.hideAll_none _ (List.mem_cons_self)
 have none_T:(PySem.W.hideAll s.heap (a::T::JI (env::outer))).get? T=none:=PySem.W.hideAll_none _ (List.mem_cons_of_mem _ List.mem_cons_self)
 refine wpAny_looks_onW (base:=PySem.W.hideAll s.heap (a::T::JI (env::outer))) (a0:=vs[0]) hfr hf
  ⟨fun b o q=>PySem.W.of_hideAll _ q,none_a,PySem.W.funFrames_hide hl hin,oe,vs,T,oT,ts,p1,⟨p2,Array.getElem?_eq_getElem hsz⟩,p3,p4,none_T,p8,p5,p6,p7⟩ fun h1 held up1=>?_
 refine wpAny_landsW (s:={ s with heap:=h1 }) held fun h' fl up2=>?_
 have up:=up1.trans up2
 obtain ⟨st,ea,ff,oe',vs',T',oT',ts',q1,⟨q2,_⟩,q3,q4,q5,q6,q7,q8,q9⟩:=fl
 have slot:∀b o,s.heap.get? b=some o->b∈JI (env::outer) -> ∃sl,h'.get? b=some { o with slots:=sl }:=fun b o e hb=>by
  obtain ⟨_,o',e',d⟩:=hl.mem hb
  rw [e] at e'
  cases e'
  exact up b o e d
 refine hQ h' T' (fun b o e n na nT=>st b o (PySem.W.hideAll_get _ e fun z=>?_)) slot ⟨oe',vs',oT',ts',q1,q2,q3,q4,q7,q8,q9,q6⟩ ?_
 ·rcases List.mem_cons.mp z with z | z
  ·exact na z
  ·rcases List.mem_cons.mp z with z | z
   ·exact nT z
   ·exact n z
 ·by_cases z:T'=T
  ·exact .inl z
  ·right
   cases q:s.heap.get? T' with
   | none=>rfl
   | some o=>
    exfalso
    by_cases hb:T'∈JI (env::outer)
    ·obtain ⟨_,o',e',d⟩:=hl.mem hb
     obtain ⟨sl,w⟩:=slot T' o' e' hb
     rw [w] at q7
     cases q7
     exact d _ q8
    ·rw [PySem.W.hideAll_get _ q fun y=>?_] at q5
     ·cases q5
     ·rcases List.mem_cons.mp y with y | y
      ·exact q6 y
      ·rcases List.mem_cons.mp y with y | y
       ·exact z y
       ·exact hb y
theorem landed {M:Model}{A:Around}{E:Value->Shared->Prop}{a T:Addr}{C:Value}{Q:Unit->Shared->Prop} (hx:Exc s.heap a T C) (hQ:∀h',(∀b o,s.heap.get? b=some o->b≠a->b≠T->h'.get? b=some o)->(∃T',Exc h' a T' C/\(T'=T∨s.heap.get? T'=none))->Q () { s with heap:=h' }):
  wpAny M A (setFlight (.ref a) none) Q E s:=by
 obtain ⟨oe,vs,oT,ts,p1,p2,p3,p4,p5,p6,p7,p8⟩:=id hx
 have hsz:0<vs.size:=Nat.lt_of_le_of_lt (Nat.zero_le _) (Array.getElem?_eq_some_iff.mp p4).1
 have none_T:(PySem.W.hideAll s.heap [a,T]).get? T=none:=PySem.W.hideAll_none _ (List.mem_cons_of_mem _ List.mem_cons_self)
 refine wpAny_setFlight_noneW (base:=PySem.W.hideAll s.heap [a,T]) (l:=[]) (a0:=vs[0]) (fl:=.none) (fun b o q=>PySem.W.of_hideAll _ q) trivial ⟨oe,vs,T,oT,ts,p1,⟨p2,Array.getElem?_eq_getElem hsz⟩,p3,p4,none_T,p8,p5,p6,p7⟩ fun h' st _ tr _=>?_
 obtain ⟨oe',vs',T',oT',ts',q1,⟨q2,_⟩,q3,q4,q5,q6,q7,q8,q9⟩:=tr
 refine hQ h' (fun b o e na nT=>st b o (PySem.W.hideAll_get _ e fun z=>?_)) ⟨T',⟨oe',vs',oT',ts',q1,q2,q3,q4,q7,q8,q9,q6⟩,?_⟩
 ·rcases List.mem_cons.mp z with z | z
  ·exact na z
  ·exact nT (List.mem_singleton.mp z)
 ·by_cases z:T'=T
  ·exact .inl z
  ·right
   cases q:s.heap.get? T' with
   | none=>rfl
   | some o=>
    exfalso
    rw [PySem.W.hideAll_get _ q fun y=>?_] at q5
    ·cases q5
    ·rcases List.mem_cons.mp y with y | y
     ·exact q6 y
     ·exact z (List.mem_singleton.mp y)
end
section
variable {X:Cx}{pins:List (Addr×Obj)} {σ:L2.St}{H:Hp}{s:Shared}{R:Addr->Hp->Prop}
abbrev Cx.suite (X:Cx) (pins:List (Addr×Obj)) (a:Addr):Cx:={ X with pn:=X.pn++pins,A:=X.A.mark (some (.ref a)),calm:=false,xe:=fun _ _=>False }
theorem Cx.Ok.suite {X:Cx} (ok:X.Ok) (pins:List (Addr×Obj)) (a:Addr):(X.suite pins a).Ok:=
 ⟨ok.mod,ok.kind,ok.glob,ok.blt,ok.above,ok.inj,ok.has,ok.cab,(fun z=>nomatch z),ok.frames,ok.stk,ok.exf,ok.bs,ok.bsz,ok.noex,ok.exfs,ok.funs,ok.frf⟩
theorem Inv.suite (I:Inv (X.nailed pins) [] σ H s) (ok:X.Ok) (a:Addr):Inv (X.suite pins a) [] σ H s:=⟨ok.suite pins a,I.os,I.bare,I.base,I.loc,I.cell,I.free,I.freeC,I.pin,I.hok,I.len⟩
theorem Inv.unsuite {a:Addr}{ps:List (Addr×Obj)} (I:Inv (X.suite pins a) ps σ H s) (ok:X.Ok):Inv X pins σ H s:=⟨ok,I.os,I.bare,I.base,I.loc,I.cell,I.free,I.freeC,fun p hp=>I.pin p (List.mem_append_left _ hp),I.hok,I.len⟩
end
section
variable {P:Program}{w:World}{K:PySem.W.Frag}{mg:Str->Option Value}{base:Heap}
theorem Y8.okX {x qual:Str}{st:Stmt}{f:Addr}{fd:FuncData}{N ps:List Str}{k:Nat}{sp:Sp} (F:Y8 K x qual st f fd) (S:ZF N ps (Zl st)) (len:∀vs H Q E,sp vs H Q E->vs.length=ps.length)
  (hbody:∀(cdv:Value) (A:Around) (outer:List Env) (s:Shared) (H:Hp) (vs:List V) (Q:VK) (E:XK),JE k (A.deeper (envOfC qual (Zl st) s.heap.objs.size f cdv))->sp vs H Q E ->
   ∃t,PSs (JS (CX1 P w) P w K mg base N qual (Zl st) f cdv A outer s H E) (Gw st) t/\t { nx:=fun _ H'=>Q .non H',rt:=Q } (start N vs) H):Yj P w K mg base (CX1 P w) (k+1) f fd ps sp:=by
 obtain ⟨oc,od,kV,doc,pm,an,cdv,ct,osl,rfl,lk,hcd⟩:=F.ex
 exact Zkq lk hcd S len fun A outer s H vs Q E hr hsp=>hbody cdv A outer s H vs Q E hr hsp
def Za0 (P:Program) (w:World) (K:PySem.W.Frag) (mg:Str->Option Value) (base:Heap) (k:Nat) (x:Str) (ps:List Str) (sp:Sp):Prop:=
 ∃(f:Addr) (fd:FuncData),Yj P w K mg base (CX1 P w) k f fd ps sp/\mg x=some (.ref f)/\PySem.W.keepIn K (.ref f)=true/\Binds K fd ps []
theorem U5 {X:Cx}{k:Nat}{x:Str}{ps:List Str}{sp:Sp}{p pos:Pos}{e:Expr}{es:List Expr}{t:TA}{E:XK} (h:Za0 X.prog X.w X.K X.mg X.base k x ps sp) (hr:JE k X.A) (hx:Passes (CX1 X.prog X.w) X E) (ha:PA X (e::es) t) (hg:Gl X x:=by rfl) (hdb:(x==("__debug__" : Str))=false:=by decide)
  (he:starEach (e::es) X.env=(false,eval e X.env)::starEach es X.env:=by rfl) (hpl:(backTo pos (starEach es X.env)).any (·.1)=false:=by rfl):PE X (.Call (.Name x p) (e::es) [] pos) (ZiJ sp [] E t):=by
 obtain ⟨f,fd,G,hm,hk,hb⟩:=h
 exact ZfQ G hr hg hm hk hb .nil hx ha hdb he hpl
structure Zmw (k:Nat) (A:Around):Prop where
 dp:A.depth+3*k+5<recursionLimit
 un:A.units+16*k+200<cLine
structure ZnB (P:Program) (w:World) (K:PySem.W.Frag) (mg:Str->Option Value) (base:Heap) (k:Nat) (f:Addr) (fd:FuncData) (ps:List Str) (sp:Sp):Prop where
 len:∀vs H Q E,sp vs H Q E->vs.length=ps.length
 run:∀(A:Around) (outer:List Env) (s:Shared) (H:Hp) (args:Args) (us:List Value) (vs:List V) (Q:VK),Zmw k A->ZhY P w K mg base A outer s H->BindsTo s fd args (ps.zip us)->Vals vs us->sp vs H Q E0 ->
  codeAny (model P w) A (.call (.ref f) args) (CR GV outer P w H s Q E0) s
end
structure ZnM (K:PySem.W.Frag) (C:Addr):Prop where
 ga:PySem.W.findIn K (.ref C) "__getattribute__" = some (some (.builtin "BaseException.__getattribute__"))
 gn:PySem.W.findIn K (.ref C) "__getattr__" = some none
 ca:PySem.W.findIn K (.ref C) "__class__" = some (some (.builtin "object.__class__"))
 ob:PySem.W.mroIn K C (.type "object")=some true
 be:PySem.W.mroIn K C (.type "BaseException")=some true
 cl:(PySem.W.clsIn K C).isSome=true
def Zfz:List (TE×TE)->St->Hp->(List (V×V)->Hp->Prop)->Prop
 | [],_,H,Q=>Q [] H
 | (tk,tv)::r,σ,H,Q=>tk σ H fun x H1=>tv σ H1 fun y H2=>Zfz r σ H2 fun ps H3=>Q ((x,y)::ps) H3
abbrev VV:List (V×V)->List (Value×Value)->Prop:=Paired fun p q=>RelV p.1 q.1/\RelV p.2 q.2
def PPs (X:Cx) (pos:Pos) (keys:List (Option Expr)) (values:List Expr) (trs:List (TE×TE)):Prop:=
 ∀(pins:List (Addr×Obj)) (s:Shared) (σ:St) (H:Hp) (Q:List (V×V)->Hp->Prop),Inv X pins σ H s->Zfz trs σ H Q ->
  wpAny (model X.prog X.w) X.A (evalPairs (pairTrees keys values X.env pos)) (fun vs s'=>∃ps H',Inv X pins σ H' s'/\VV ps vs/\Q ps H') X.xe s
theorem Zkd {X:Cx}{pos:Pos}:PPs X pos [] [] []:=fun pins s σ H Q I h=>pairTrees_nil_walk ⟨[],H,I,.nil,h⟩
theorem ZdL {X:Cx}{pos:Pos}{k v:Expr}{ks:List (Option Expr)}{vs:List Expr}{tk tv:TE}{trs:List (TE×TE)} (hk:PE X k tk) (hv:PE X v tv) (hr:PPs X pos ks vs trs):
  PPs X pos (some k::ks) (v::vs) ((tk,tv)::trs):=fun pins s σ H Q I h=>
 pairTrees_cons_walk (YJ (hk pins s σ H _ I h) fun u s1 ⟨x,H1,I1,rx,q1⟩=>YJ (hv pins s1 σ H1 _ I1 q1) fun w2 s2 ⟨y,H2,I2,ry,q2⟩=>
  YJ (hr pins s2 σ H2 _ I2 q2) fun ws s3 ⟨ps,H3,I3,rel,q3⟩=>⟨(x,y)::ps,H3,I3,.cons ⟨rx,ry⟩ rel,q3⟩)
def Zar (kvs more:List (Key×V)):List (Key×V):=more.foldl (fun acc kv=>putK acc kv.1 kv.2) kvs
theorem KV.merge:∀{more:List (Key×V)}{rs:List (Key×Value)}{kvs:List (Key×V)}{vs:List (Key×Value)},KV more rs->KV kvs vs->KV (Zar kvs more) (merged vs rs):=by
 intro more rs kvs vs r
 unfold KV at r
 induction r generalizing kvs vs with
 | nil=>intro q;exact q
 | @cons p q ps qs h t ih=>
  intro r0
  have e:KV (putK kvs p.1 p.2) (stored vs q.1 q.2):=by
   have:=r0.put p.1 h.2
   rw [<- h.1];exact this
  exact ih e
theorem Ux:∀(more kvs:List (Key×V)),(Zar kvs more).length<=kvs.length+more.length
 | [],kvs=>by show kvs.length<=kvs.length+0;lia
 | p::r,kvs=>by
  have h1:=Ux r (putK kvs p.1 p.2)
  have h2:=JA kvs p.1 p.2
  show (Zar (putK kvs p.1 p.2) r).length<=_
  rw [List.length_cons];lia
theorem ZbH {P:Program}{w:World}:∀{kvs:List (Key×V)}{ws:List (Value×Value)},VV (kvs.map fun kv=>(kV kv.1,kv.2)) ws -> ∃rs,Carries (ZQ P w) ws rs/\KV kvs rs
 | [],_,r=>by rw [List.map_nil] at r;cases r;exact ⟨[],True.intro,.nil⟩
 | p::kvs,_,r=>by
  rw [List.map_cons] at r
  cases r with
  | @cons a b as bs h t=>
   obtain ⟨rs,c,q⟩:=ZbH (P:=P) (w:=w) t
   obtain ⟨b1,b2⟩:=b
   exact ⟨(p.1,b2)::rs,⟨Zd4 h.1,rfl,c⟩,.cons ⟨rfl,h.2⟩ q⟩
def Zmj (trs:List (TE×TE)):TE:=fun σ H Q=>∀p,H p=none->Zfz trs σ (upd H p (.dK [])) fun ps H2=>H2 p=some (.dK []) /\ ∃kvs:List (Key×V),ps=kvs.map (fun kv=>(kV kv.1,kv.2))/\kvs.length<=15/\Q (.ref p) (upd H2 p (.dK (Zar [] kvs)))
theorem Zka {X:Cx}{pos:Pos}{keys:List (Option Expr)}{values:List Expr}{trs:List (TE×TE)} (h:PPs X pos keys values trs) (hall:keys.all (·.isSome)=true) (hl:keys.length=values.length) (h0:keys ≠ [])
  (h15:keys.length<=15):PE X (.Dict keys values pos) (Zmj trs):=by
 intro pins s σ H Q I q
 have hn:=I.hok.fresh (Nat.le_refl s.heap.objs.size)
 have I1:=I.laid (a:=s.heap.objs.size) (o:=.dK []) (h':=s.heap.push { cls:=.type "dict", data:=.dict #[] }) (t':=s.toks) (fun _ _ q=>Heap.get?_push_of_some _ q) (Nat.le_refl _) (ZdZ s.heap I.big)
 refine wpAny_Dict_walk (knd:=ZQ X.prog X.w) hall hl h0 h15 (YJ (h pins _ σ _ _ I1 (q _ hn)) fun ws s2 ⟨ps,H2,I2,rel,e,kvs,ep,lk,q2⟩=>?_)
 subst ep
 obtain ⟨rs,c,rk⟩:=ZbH (P:=X.prog) (w:=X.w) rel
 obtain ⟨z,hd,vs0,r0,dd⟩:=Zg5 I2.hok e
 cases r0
 refine ⟨rs,c,dd,fun h' dd' hs=>⟨.ref s.heap.objs.size,_,?_,rfl,q2⟩⟩
 have hz:(Zar [] kvs).length<=sizeLine:=by
  have h1:=Ux kvs []
  rw [List.length_nil] at h1
  rw [sizeLine_eq];lia
 have he:∃q,h'.get? s.heap.objs.size=some q:=let ⟨q,_,_,hq,_⟩:=dd';⟨q,hq⟩
 exact Za8 I2 (by rw [e];exact True.intro) hs he (ZeI hz hd (rk.merge .nil) dd')
def ZiH (lo:Int) (n:Nat):It:=⟨fun i _=>i<n,fun i H x H'=>H'=H/\x = .int (lo+i*2),fun i _=>n<=i⟩
theorem Zek {P:Program}{w:World}{K:PySem.W.Frag}{tg:Expr} (it:Addr) (lo:Int) (n:Nat):Turn P w K tg (ZiH lo n) [it] it (fun i h=>IsRangeIter h it (lo+(i:Nat)*2) ((n:Int)-(i:Nat)) 2) where
 mem:=by simp
 obj:=fun i h st b hb=>by
  have e:b=it:=by simpa using hb
  subst e
  exact ⟨_,st,fun v z=>by
   have z':Data.fields _=Data.cell v:=z
   cases z'⟩
 keep:=fun i h h' st k=>k it (by simp) _ st
 item:=by
  intro X hP hw hK hc i pins s σ H E I hf st hg
  subst hP hw hK
  obtain ⟨f0,f1,f2,f3,f4,f5⟩:=hf it (by simp)
  have W:=Walks.range (prog:=X.prog) (w:=X.w) (I.ok.hd hc) it lo 2 n
  refine W.item i s _ _ hg st fun v h' tk hv st' kk=>?_
  obtain ⟨t,rfl⟩:=hv
  have I1:Inv X pins σ H { s with heap:=h',toks:=tk }:=I.turned (fun b o hb e=>kk b o (by simpa using hb) e) f0 f1 f3 f4 f5
  exact ⟨_,rfl,Zf6 (s:={ s with heap:=h',toks:=tk }) (n := "range_iterator") st' rfl rfl (by decide) ⟨.int (lo+i*2),H,I1,⟨t,rfl⟩,⟨rfl,rfl⟩,st',fun b hb=>(hf b hb).1⟩⟩
 done:=by
  intro X hP hw hK hc i pins s σ H E I hf st hg
  subst hP hw hK
  obtain ⟨f0,f1,f2,f3,f4,f5⟩:=hf it (by simp)
  exact wpAny_pyNext_range_end (I.ok.hd hc) st (by have:n<=i:=hg;lia) fun h' eb=>⟨rfl,I.turned (t':=s.toks) (fun b o hb e=>eb b o hb e) f0 f1 f3 f4 f5⟩
 self:=fun _ _ _ _ _ st h=>wpAny_pyIter_rangeiter st h
section
variable {X:Cx}{tg:Expr}
def Zmh (ta:TA):TI:=fun σ H R=>ta σ H fun vs H1=>∃n:Nat,vs = [.int 0,.int (2*n),.int 2]/\n<100000/\R (ZiH 0 n) H1
theorem ZeE (n:Nat):Builtin.Range.rangeSize 0 (2*(n:Int)) 2=n:=by
 unfold Builtin.Range.rangeSize
 rw [if_pos (by decide)]
 split<;>lia
theorem Wi {i:Int} (h0 : -1<=i) (h1:i<1000000):Builtin.Range.rangeFitsLong i=true:=by
 unfold Builtin.Range.rangeFitsLong
 rw [Bool.and_eq_true]
 exact ⟨decide_eq_true (by lia),decide_eq_true (by lia)⟩
theorem ZgL {n:Nat} (h:n<100000):Builtin.Range.small 0 (2*(n:Int)) 2=true:=by
 unfold Builtin.Range.small
 rw [ZeE]
 rw [if_pos (by decide),Wi (i:=0) (by lia) (by lia),Wi (i:=2*(n:Int)) (by lia) (by lia),Wi (i:=2) (by lia) (by lia),Wi (i:=(n:Int)) (by lia) (by lia),Wi (i:=2*(n:Int)+(2-1)) (by lia) (by lia)]
 simp
theorem ZgI {a b c:Expr}{ta:TA}{p pos:Pos} (hg:Gl X "range") (hm:X.mg "range" = none) (ha:PA X [a,b,c] ta) (hs:starEach [a,b,c] X.env = [(false,eval a X.env),(false,eval b X.env),(false,eval c X.env)]:=by rfl) (hs2:starEach [b,c] X.env = [(false,eval b X.env),(false,eval c X.env)]:=by rfl):
  PI X tg (.Call (.Name "range" p) [a,b,c] [] pos) (Zmh ta):=by
 intro pins s σ H R I h
 refine Call_ (Gq I hg hm boot_range (PyProof.Rows.callWith_type1 (YJ (ha pos pins s σ H _ I h) fun us s1 ⟨vs,H1,I1,r1,q1⟩=>?_) (by rw [hs,hs2]) (by rw [hs2];rfl)))
 obtain ⟨n,e,hn,q⟩:=q1
 subst e
 cases r1 with
 | cons r rr=>
  cases rr with
  | cons r' rr=>
   cases rr with
   | cons r2 rr=>
    cases rr
    obtain ⟨t,rfl⟩:=r
    obtain ⟨t',rfl⟩:=r'
    obtain ⟨t2,rfl⟩:=r2
    refine call_range_3 (by decide) ?_ (Or.inl (PyProof.noPylong_small (by lia)))
    refine wpAny_pyIter_range (IsRange.new ..) (ZgL hn) ?_
    have I2:Inv X pins σ H1 { s1 with heap:=s1.heap.push { cls:=.type "range", data:=.fields #[.int 0 t,.int (2*(n:Int)) t',.int 2 t2] } }:=I1.kept (t':=s1.toks) fun b o e=>Heap.get?_push_of_some _ e
    refine ⟨(s1.heap.push { cls:=.type "range", data:=.fields #[.int 0 t,.int (2*(n:Int)) t',.int 2 t2] }).objs.size,[(s1.heap.push { cls:=.type "range", data:=.fields #[.int 0 t,.int (2*(n:Int)) t',.int 2 t2] }).objs.size],_,_,H1,rfl,
     I2.kept (t':=s1.toks) fun b o e=>Heap.get?_push_of_some _ e,Zek _ 0 n,?_,fun b hb=>?_,q⟩
    ·have e1:(0:Int)+((0:Nat):Int)*2=0:=by simp
     have e2:((n:Nat):Int)-((0:Nat):Int)=Builtin.Range.rangeSize 0 (2*(n:Int)) 2:=by rw [ZeE];simp
     show IsRangeIter _ _ ((0:Int)+((0:Nat):Int)*2) (((n:Nat):Int)-((0:Nat):Int)) 2
     rw [e1,e2]
     exact Heap.get?_push_size _ rfl
    ·have e:b=(s1.heap.push { cls:=.type "range", data:=.fields #[.int 0 t,.int (2*(n:Int)) t',.int 2 t2] }).objs.size:=by simpa using hb
     subst e
     exact I2.fpOk (Nat.le_refl _) (I2.hok.fresh (Nat.le_refl _))
end
theorem Zfl {lo:Int}{n:Nat}{g:TG}{tb:TS}{D:Ends} {σ:L2.St}{H:Hp} (Pv:Nat->L2.St->Hp->Prop) (h0:Pv 0 σ H)
  (hs:∀i σ H,i<n->Pv i σ H->g (.int (lo+i*2)) σ H fun σ2 H2=>tb { D with nx:=Pv (i+1),ct:=Pv (i+1),bk:=D.nx } σ2 H2) (hd:∀ σ H,Pv n σ H->D.nx σ H):
  ∃W:Nat->Nat->L2.St->Hp->Prop,(∃m,W 0 m σ H) /\ ∀i m σ H,W i m σ H ->
   ((ZiH lo n).stop i H/\D.nx σ H)∨((ZiH lo n).go i H /\ ∃N:L2.St->Hp->Prop,(∀ σ' H',N σ' H' -> ∃m',m'<m/\W (i+1) m' σ' H') /\ ∀x H',(ZiH lo n).yld i H x H'->g x σ H' fun σ2 H2=>tb { D with nx:=N,ct:=N,bk:=D.nx } σ2 H2):=by
 refine ⟨fun i m σ H=>m=n-i/\i<=n/\Pv i σ H,⟨n,by simp,Nat.zero_le _,h0⟩,?_⟩
 rintro i m σ H ⟨rfl,hi,p⟩
 by_cases hlt:i<n
 ·refine .inr ⟨hlt,Pv (i+1),fun σ' H' p'=>⟨n-(i+1),by lia,rfl,hlt,p'⟩,fun x H' y=>?_⟩
  obtain ⟨rfl,rfl⟩:=y
  exact hs i σ _ hlt p
 ·exact .inl ⟨by show n<=i;lia,hd σ H ((show i=n by lia) ▸ p)⟩
theorem ZfX {K:PySem.W.Frag}{a b:Addr}{xs ys:List V}{g:TG}{tb:TS}{D:Ends} {σ:L2.St}{H:Hp} (hl:xs.length=ys.length) (Pv:Nat->L2.St->Hp->Prop) (h0:Pv 0 σ H) (hS:∀i σ H,Pv i σ H->Zo K H a xs/\Zo K H b ys)
  (hs:∀i x y p σ H,xs[i]? = some x->ys[i]? = some y->Pv i σ H->H p=none->g (.ref p) σ (upd H p (.tup [x,y])) fun σ2 H2=>tb { D with nx:=Pv (i+1),ct:=Pv (i+1),bk:=D.nx } σ2 H2) (hd:∀ σ H,Pv xs.length σ H->D.nx σ H):
  ∃W:Nat->Nat->L2.St->Hp->Prop,(∃m,W 0 m σ H) /\ ∀i m σ H,W i m σ H ->
   ((Itz K a b).stop i H/\D.nx σ H)∨((Itz K a b).go i H /\ ∃N:L2.St->Hp->Prop,(∀ σ' H',N σ' H' -> ∃m',m'<m/\W (i+1) m' σ' H') /\ ∀x H',(Itz K a b).yld i H x H'->g x σ H' fun σ2 H2=>tb { D with nx:=N,ct:=N,bk:=D.nx } σ2 H2):=by
 refine ⟨fun i m σ H=>m=xs.length-i/\i<=xs.length/\Pv i σ H,⟨xs.length,by simp,Nat.zero_le _,h0⟩,?_⟩
 rintro i m σ H ⟨rfl,hi,p⟩
 obtain ⟨s1,s2⟩:=hS i σ H p
 by_cases hlt:i<xs.length
 ·refine .inr ⟨⟨xs,ys,xs[i],ys[i]'(by lia),s1,s2,by simp [hlt],by simp [show i<ys.length by lia]⟩,Pv (i+1),fun σ' H' p'=>⟨xs.length-(i+1),by lia,rfl,hlt,p'⟩,fun x H' y=>?_⟩
  obtain ⟨q,u,v,e1,e2,e3,y1,y2⟩:=y
  subst e1 e3
  exact hs i u v q σ _ (y1 xs s1) (y2 ys s2) p e2
 ·exact .inl ⟨⟨xs,ys,s1,s2,.inl (by lia)⟩,hd σ H ((show i=xs.length by lia) ▸ p)⟩
end L2
namespace L2
open PySem PySem.Spec PyProof.Rows PyProof.V
section
variable {X:Cx}
end
def ZlE (b:Nat->Bool):List Nat:=(bif b 0 then [0] else [])++((bif b 1 then [1] else [])++((bif b 2 then [2] else [])++(bif b 3 then [3] else [])))
def Zm1 (b:Nat->Bool) (led:Bool) (f m:Nat):SetTable:={ mask:=7,place:=(ZlE b).toArray,dummies:=#[],finger:=f,led:=led,moves:=m,plain:=true }
def EK:Int×Value->Nat->Prop:=fun e k=>e.1=hashInt (k:Int) /\ ∃t,e.2 = .int (k:Int) t
def SO (w:World) (a:Addr) (b:Nat->Bool) (ep:Nat) (es:Array (Int×Value)) (h:Heap):Prop:=
 ∃o led f m,h.get? a=some o/\o.ExactSet/\o.data = .set es ep (Zm1 b led f m)/\(w.params.followText "set-order" = true∨led=true)/\Paired EK es.toList (ZlE b)
section
variable {prog:Program}{w:World}{A:Around}{E:Value->Shared->Prop}{s:Shared}{a:Addr}{b:Nat->Bool}{ep:Nat}{es:Array (Int×Value)}
def Znp (prog:Program) (w:World) (u:Nat) (S:Addr) (J:Nat->Heap->Prop) (i:Nat) (v:Value):Prop:=
 ∀(A:Around) (E:Value->Shared->Prop) (s:Shared) (Q:Bool->Shared->Prop),A.units<=u->J i s.heap ->
  (∀b h' tk,s.toks<=tk->J (i+1) h'->Heap.SameBut S s.heap h'->Q b { s with heap:=h',toks:=tk })->wpAny (model prog w) A (setAdd S v) Q E s
theorem grow {R:Result->Shared->Prop}{I:Addr}{fp wr:List Addr}{G:Array GenState->Array GenState->Prop}{n:Nat}{P:Nat->Value->Prop}{St:Nat->Shared->Prop}
  (W:WalksS prog w A.in1 I fp wr G n P St) {S:Addr} (hS:S∉fp) {J:Nat->Heap->Prop} (jk:∀i h h',J i h->(∀c o,c∉wr->h.get? c=some o->h'.get? c=some o)->J i h') (ja:∀i v,P i v->Znp prog w A.in1.units S J i v):
  ∀(k i:Nat) (s:Shared),i+k=n->St i s->J i s.heap->(∀s',Moved (S::wr) G s s'->J n s'.heap->R (.ok (.ret .none)) s')->codeAny (model prog w) A (.builtin "set.update.loop" ⟨[.ref S,.ref I],[]⟩) R s:=by
 have sub:∀c∈wr,c∈S::wr:=fun c hc=>.tail _ hc
 intro k
 induction k with
 | zero=>
  rintro i s e st j hR
  obtain rfl:i=n:=e
  refine codeAny_builtin F.entry_set_update_loop ?_
  rw [Around.under_plainId F.plain_set_update_loop _]
  wp_walk using W.done s _ _ st
  intro s' m
  wp_walk
  exact hR s' (m.mono sub) (jk _ _ _ j m.heap)
 | succ k ih=>
  rintro i s rfl st j hR
  refine codeAny_builtin F.entry_set_update_loop ?_
  rw [Around.under_plainId F.plain_set_update_loop _]
  wp_walk using W.item i s _ _ (by lia) st
  intro v s' p st' m
  have j':=jk _ _ s'.heap j m.heap
  refine wpAny_bind (wpAny_holding (ja i v p _ _ s' _ (Nat.le_refl _) j' fun b h' tk le j2 sb=>?_))
  wp_walk
  refine ⟨plainId_quiet F.plain_set_update_loop _,ih (i+1) _ (by lia) (W.frame _ s' _ _ st' le fun c hc o e=>(sb.2 c fun z=>hS (z ▸ hc)).trans e) j2 fun s2 m2 j3=>hR s2 (Moved.trans W.gtrans ((m.mono sub).then_heap le fun c o hc e=>(sb.2 c fun z=>hc (z ▸ .head _)).trans e) m2) j3⟩
end
def Zne (w:World) (a:Addr) (ep:Nat) (es:Array (Int×Value)):Array (Int×Value):=if w.params.followText "set-order" = true then pickOrder (w.params.setOrder a ep) es else es
section
variable {prog:Program}{w:World}{A:Around}{E:Value->Shared->Prop}{s:Shared}{a it:Addr}{b:Nat->Bool}{ep i:Nat}{es:Array (Int×Value)}
end
section
variable {prog:Program}{w:World}{A:Around}{E:Value->Shared->Prop}{s:Shared}{a it:Addr}{b:Nat->Bool}{ep i:Nat}{es:Array (Int×Value)}
structure Wlk (prog:Program) (w:World) (a:Addr) (ep:Nat) (es:Array (Int×Value)) (f:Nat->Nat) (C:Heap->Prop):Prop where
 there:∀{h},C h -> ∃o t,h.get? a=some o/\o.ExactSet/\o.data = .set es ep t/\t.fits es.size=true/\t.plain=true
 kept:∀{h h'},C h->(∀o,h.get? a=some o->h'.get? a=some o)->C h'
 first:f 0=0
 next:∀{A E s i}{Q:Option (Value×Nat)->Shared->Prop},C s.heap->i<=es.size->Q (((Zne w a ep es)[i]?).map fun e=>(e.2,f (i+1))) s->wpAny (model prog w) A (setNext a (f i) i ep) Q E s
section
variable {f:Nat->Nat}{C:Heap->Prop} (N:Wlk prog w a ep es f C)
include N
end
end
def ZnU (w:World) (a:Addr) (ks:List Nat):HO:=.ext fun h=>∃b ep es,ZlE b=ks/\SO w a b ep es h
section
variable {X:Cx}
end
def Zkc:Bool->Keyed->Array Keyed->Nat->Nat->Nat->StateT SortSt Sem (Option Nat):=sortPriv% PySem.Builtin.gallop
def Zin:Array Keyed->Array Keyed->StateT SortSt Sem (Array Keyed):=sortPriv% PySem.Builtin.mergeLo
def Ziu:Array Keyed->Array Keyed->StateT SortSt Sem (Array Keyed):=sortPriv% PySem.Builtin.mergeHi
def Zd6:Nat->StateT SortSt Sem Bool:=sortPriv% PySem.Builtin.mergeAt
structure Wo (lt:Keyed->Keyed->Bool):Prop where
 irr:∀p,lt p p=false
 asym:∀p q,lt p q=true->lt q p=false
 neg:∀p q r,lt p r=true->lt p q=true∨lt q r=true
theorem Wo.leT {lt : Keyed -> Keyed -> Bool} (C : Wo lt) {p q r : Keyed} (h1 : lt q p = false) (h2 : lt r q = false) : lt r p = false := by
  cases h : lt r p with
  | false => rfl
  | true => rcases C.neg r q p h with z | z
            · rw [z] at h2; cases h2
            · rw [z] at h1; cases h1
theorem Wo.flip {lt:Keyed->Keyed->Bool} (C:Wo lt):Wo (fun x y=>lt y x):=⟨fun p=>C.irr p,fun p q h=>C.asym q p h,fun p q r h=>(C.neg r q p h).symm⟩
structure Cmp (prog:Program) (w:World) (A:Around) (E:Value->Shared->Prop) (s:Shared) (kd:SortKind) (D:Keyed->Prop) (lt:Keyed->Keyed->Bool):Prop where
 cmp:∀(p q:Keyed) (st:SortSt) (Q:Option Bool->SortSt->Prop),D p->D q->kindOf st=kd->Q (some (lt p q)) st->wpS (model prog w) A E s (lt' p q) Q st
 wo:Wo lt
section
variable {prog:Program}{w:World}{A:Around}{E:Value->Shared->Prop}{s:Shared}{kd:SortKind}{D:Keyed->Prop}{lt:Keyed->Keyed->Bool}
def UL (lt:Keyed->Keyed->Bool) (left:Bool) (key:Keyed) (arr:Array Keyed) (base i:Nat):Bool:=match arr[base+i]? with
 | some x=>if left=true then lt x key else !lt key x
 | none=>false
theorem ZbS (C:Cmp prog w A E s kd D lt) {left:Bool}{key:Keyed}{arr:Array Keyed}{base i:Nat}{st:SortSt}{Q:Option Bool->SortSt->Prop} (hk:D key) (hx:∃x,arr[base+i]? = some x/\D x) (hs:kindOf st=kd)
  (h:Q (some (UL lt left key arr base i)) st):wpS (model prog w) A E s (elem' arr (base+i) >>= fun x=>if left=true then lt' x key else (lt' key x >>= fun r=>pure (r.map fun x=>!x))) Q st:=by
 obtain ⟨x,e,d⟩:=hx
 unfold UL at h
 rw [e] at h
 rw [elem'_eq,e]
 refine wpS_bind (wpS_pure ?_)
 cases left with
 | true=>rw [if_pos rfl];exact C.cmp x key st Q d hk hs (by simpa using h)
 | false=>
  rw [if_neg (by simp)]
  exact wpS_bind (C.cmp key x st _ hk d hs (wpS_pure (by simpa using h)))
theorem Zeo {n:Nat}{st:SortSt}{Q:Option Nat->SortSt->Prop}{body:Nat->Option (Option Nat)×Nat×Nat->StateT SortSt Sem (ForInStep (Option (Option Nat)×Nat×Nat))}{rest:Option (Option Nat)×Nat×Nat->StateT SortSt Sem (Option Nat)} (f:Nat->Bool)
  (mono:∀i j,i<=j->j<n->f j=true->f i=true)
  (hb1:∀x lo hi (R:ForInStep (Option (Option Nat)×Nat×Nat)->SortSt->Prop),lo>=hi->R (.done (none,lo,hi)) st->wpS (model prog w) A E s (body x (none,lo,hi)) R st)
  (hb2:∀x lo hi (R:ForInStep (Option (Option Nat)×Nat×Nat)->SortSt->Prop),lo<hi->hi<=n->R (.yield (if f (lo+(hi-lo) / 2)=true then (none,lo+(hi-lo) / 2+1,hi) else (none,lo,lo+(hi-lo) / 2))) st->wpS (model prog w) A E s (body x (none,lo,hi)) R st)
  (hr:∀lo hi,Q (some hi) st->wpS (model prog w) A E s (rest (none,lo,hi)) Q st)
  (h:∀k,k<=n->(∀i,i<k->f i=true)->(∀i,k<=i->i<n->f i=false)->Q (some k) st)
  (lo hi:Nat) (h1:lo<=hi) (h2:hi<=n) (h3:∀i,i<lo->f i=true) (h4:∀i,hi<=i->i<n->f i=false):wpS (model prog w) A E s (forIn [:n] (none,lo,hi) body >>= rest) Q st:=by
 refine wpS_bind (wpS_mono (wpS_forRange (I:=fun x c st'=>st'=st /\ ∃lo hi,c=(none,lo,hi)/\lo<=hi/\hi<=n/\hi-lo<=n-x/\(∀i,i<lo->f i=true) /\ ∀i,hi<=i->i<n->f i=false)
  (Q:=fun c st'=>st'=st /\ ∃lo hi,c=(none,lo,hi)/\lo=hi/\hi<=n/\(∀i,i<lo->f i=true) /\ ∀i,hi<=i->i<n->f i=false) ?_ ?_ ⟨rfl,lo,hi,rfl,h1,h2,by lia,h3,h4⟩) ?_)
 ·rintro x c st' _ hxn ⟨rfl,lo,hi,rfl,g1,g2,g3,g4,g5⟩
  by_cases hge:lo>=hi
  ·exact hb1 x lo hi _ hge ⟨rfl,lo,hi,rfl,by lia,g2,g4,g5⟩
  ·refine hb2 x lo hi _ (by lia) g2 ?_
   cases e:f (lo+(hi-lo) / 2) with
   | true=>exact ⟨rfl,_,hi,rfl,by lia,g2,by lia,fun i hi'=>mono i _ (by lia) (by lia) e,g5⟩
   | false=>
    refine ⟨rfl,lo,_,rfl,by lia,by lia,by lia,g4,fun i h1 h2=>?_⟩
    cases z:f i with
    | false=>rfl
    | true=>rw [mono _ i h1 h2 z] at e;cases e
 ·rintro c st' ⟨rfl,lo,hi,rfl,g1,g2,g3,g4,g5⟩
  exact ⟨rfl,lo,hi,rfl,by lia,g2,g4,g5⟩
 ·rintro c st' ⟨rfl,lo,hi,rfl,rfl,g2,g4,g5⟩
  exact hr lo lo (h lo g2 g4 g5)
theorem Jd (C:Cmp prog w A E s kd D lt) {left:Bool}{key:Keyed}{arr:Array Keyed}{base n hint:Nat}{st:SortSt}{Q:Option Nat->SortSt->Prop} (hk:D key) (hx:∀i,i<n -> ∃x,arr[base+i]? = some x/\D x) (hh:hint<n) (hs:kindOf st=kd)
  (mono:∀i j,i<=j->j<n->UL lt left key arr base j=true->UL lt left key arr base i=true)
  (h:∀k,k<=n->(∀i,i<k->UL lt left key arr base i=true)->(∀i,k<=i->i<n->UL lt left key arr base i=false)->Q (some k) st):
  wpS (model prog w) A E s (Zkc left key arr base n hint) Q st:=by
 have monoF:∀i j,i<=j->j<n->UL lt left key arr base i=false->UL lt left key arr base j=false:=fun i j hij hj z=>by
  cases e:UL lt left key arr base j with
  | false=>rfl
  | true=>rw [mono i j hij hj e] at z;cases z
 refine wpS_bind (ZbS C hk (hx hint hh) hs ?_)
 cases hr:UL lt left key arr base hint with
 | true=>
  dsimp only
  rw [if_pos rfl]
  refine wpS_bind (wpS_mono (wpS_forRange (I:=fun x c st'=>st'=st /\ ∃lo of,c=(none,lo,of)/\lo<of/\lo<n-hint/\x<of/\UL lt left key arr base (hint+lo)=true)
   (Q:=fun c st'=>st'=st /\ ∃lo of,c=(none,lo,of)/\lo<of/\lo<n-hint/\UL lt left key arr base (hint+lo)=true/\(of<n-hint->UL lt left key arr base (hint+of)=false)) ?_ ?_ ⟨rfl,0,1,rfl,by lia,by lia,by lia,hr⟩) ?_)
  ·rintro x c st' _ hxn ⟨rfl,lo,of,rfl,g1,g2,g3,g4⟩
   dsimp only
   by_cases hge:of>=n-hint
   ·rw [if_pos hge]
    exact wpS_pure ⟨rfl,lo,of,rfl,g1,g2,g4,fun z=>by lia⟩
   ·rw [if_neg hge]
    refine wpS_bind (ZbS C hk (hx (hint+of) (by lia)) hs ?_)
    cases e:UL lt left key arr base (hint+of) with
    | true=>exact wpS_pure ⟨rfl,of,_,rfl,by lia,by lia,by lia,e⟩
    | false=>exact wpS_pure ⟨rfl,lo,of,rfl,g1,g2,g4,fun _=>e⟩
  ·rintro c st' ⟨rfl,lo,of,rfl,g1,g2,g3,g4⟩
   exact ⟨rfl,lo,of,rfl,g1,g2,g4,fun z=>by lia⟩
  ·rintro c st' ⟨rfl,lo,of,rfl,g1,g2,g4,g5⟩
   dsimp only
   refine Zeo (UL lt left key arr base) mono (fun x lo hi R hge hR=>?_) (fun x lo hi R hlt hn hR=>?_) (fun lo hi hq=>wpS_pure hq) h _ _ ?_ ?_ ?_ ?_
   ·dsimp only
    rw [if_pos hge]
    exact wpS_pure hR
   ·dsimp only
    rw [if_neg (by lia)]
    refine wpS_bind (ZbS C hk (hx _ (by lia)) hs ?_)
    cases e:UL lt left key arr base (lo+(hi-lo) / 2) with
    | true=>rw [e,if_pos rfl] at hR;exact wpS_pure hR
    | false=>rw [e,if_neg (by simp)] at hR;exact wpS_pure hR
   ·lia
   ·lia
   ·exact fun i hi=>mono i (hint+lo) (by lia) (by lia) g4
   ·intro i h1 h2
    by_cases z:of<n-hint
    ·exact monoF (hint+of) i (by lia) h2 (g5 z)
    ·lia
 | false=>
  dsimp only
  rw [if_neg (by simp)]
  refine wpS_bind (wpS_mono (wpS_forRange (I:=fun x c st'=>st'=st /\ ∃lo of,c=(none,lo,of)/\lo<of/\lo<hint+1/\x<of/\UL lt left key arr base (hint-lo)=false)
   (Q:=fun c st'=>st'=st /\ ∃lo of,c=(none,lo,of)/\lo<of/\lo<hint+1/\UL lt left key arr base (hint-lo)=false/\(of<hint+1->UL lt left key arr base (hint-of)=true)) ?_ ?_ ⟨rfl,0,1,rfl,by lia,by lia,by lia,hr⟩) ?_)
  ·rintro x c st' _ hxn ⟨rfl,lo,of,rfl,g1,g2,g3,g4⟩
   dsimp only
   by_cases hge:of>=hint+1
   ·rw [if_pos hge]
    exact wpS_pure ⟨rfl,lo,of,rfl,g1,g2,g4,fun z=>by lia⟩
   ·rw [if_neg hge]
    refine wpS_bind (ZbS C hk (hx (hint-of) (by lia)) hs ?_)
    cases e:UL lt left key arr base (hint-of) with
    | true=>exact wpS_pure ⟨rfl,lo,of,rfl,g1,g2,g4,fun _=>e⟩
    | false=>exact wpS_pure ⟨rfl,of,_,rfl,by lia,by lia,by lia,e⟩
  ·rintro c st' ⟨rfl,lo,of,rfl,g1,g2,g3,g4⟩
   exact ⟨rfl,lo,of,rfl,g1,g2,g4,fun z=>by lia⟩
  ·rintro c st' ⟨rfl,lo,of,rfl,g1,g2,g4,g5⟩
   dsimp only
   refine Zeo (UL lt left key arr base) mono (fun x lo hi R hge hR=>?_) (fun x lo hi R hlt hn hR=>?_) (fun lo hi hq=>wpS_pure hq) h _ _ ?_ ?_ ?_ ?_
   ·dsimp only
    rw [if_pos hge]
    exact wpS_pure hR
   ·dsimp only
    rw [if_neg (by lia)]
    refine wpS_bind (ZbS C hk (hx _ (by lia)) hs ?_)
    cases e:UL lt left key arr base (lo+(hi-lo) / 2) with
    | true=>rw [e,if_pos rfl] at hR;exact wpS_pure hR
    | false=>rw [e,if_neg (by simp)] at hR;exact wpS_pure hR
   ·lia
   ·lia
   ·intro i hi
    by_cases z:of<hint+1
    ·exact mono i (hint-of) (by lia) (by lia) (g5 z)
    ·lia
   ·exact fun i h1 h2=>monoF (hint-lo) i (by lia) h2 g4
end
section
variable {prog:Program}{w:World}{A:Around}{E:Value->Shared->Prop}{s:Shared}{kd:SortKind}{D:Keyed->Prop}{lt:Keyed->Keyed->Bool}
def JX (lt:Keyed->Keyed->Bool) (l:List Keyed):Prop:=l.Pairwise fun p q=>lt q p=false
theorem Ub (C:Wo lt) {l:List Keyed} (h:JX lt l) {i j:Nat}{p q:Keyed} (hi:l[i]? = some p) (hj:l[j]? = some q) (hij:i<=j):lt q p=false:=by
 obtain ⟨h1,rfl⟩:=List.getElem?_eq_some_iff.mp hi
 obtain ⟨h2,rfl⟩:=List.getElem?_eq_some_iff.mp hj
 rcases Nat.lt_or_ge i j with z | z
 ·exact List.pairwise_iff_getElem.mp h i j h1 h2 z
 ·obtain rfl:i=j:=by lia
  exact C.irr _
theorem Z9 {arr:Array Keyed}{i:Nat}{x:Keyed}{st:SortSt}{Q:Keyed->SortSt->Prop}{M:Model} (e:arr[i]? = some x) (h:Q x st):wpS M A E s (elem' arr i) Q st:=by
 rw [elem'_eq,e];exact wpS_pure h
def Eqg (st st':SortSt):Prop:=kindOf st'=kindOf st/\arrOf st'=arrOf st/\pendingOf st'=pendingOf st/\failedOf st'=failedOf st
theorem Eqg.refl (st:SortSt):Eqg st st:=⟨rfl,rfl,rfl,rfl⟩
structure Mg (lt:Keyed->Keyed->Bool) (a b out:List Keyed) (ia ib:Nat):Prop where
 srt:JX lt out
 pm:(out++(a.drop ia++b.drop ib)).Perm (a++b)
 le:∀p∈out,∀q∈a.drop ia++b.drop ib,lt q p=false
theorem drop_cons {l:List Keyed}{i:Nat}{x:Keyed} (e:l[i]? = some x):l.drop i=x::l.drop (i+1):=by
 obtain ⟨h,rfl⟩:=List.getElem?_eq_some_iff.mp e
 exact List.drop_eq_getElem_cons h
theorem Jm {l:List Keyed} (h:JX lt l) (i:Nat):JX lt (l.drop i):=List.Pairwise.sublist (List.drop_sublist _ _) h
theorem Zbr {l:List Keyed}{x:Keyed} (h:JX lt l) (hx:∀p∈l,lt x p=false):JX lt (l ++ [x]):=by
 refine List.pairwise_append.mpr ⟨h,List.pairwise_singleton _ _,fun p hp q hq=>?_⟩
 rw [List.mem_singleton.mp hq];exact hx p hp
theorem Mg.takeA (C:Wo lt) {a b out:List Keyed}{ia ib:Nat} (g:Mg lt a b out ia ib) (sa:JX lt a) (sb:JX lt b) {x:Keyed} (e:a[ia]? = some x) (h:∀y,b[ib]? = some y->lt y x=false):Mg lt a b (out ++ [x]) (ia+1) ib:=by
 have da:=drop_cons e
 have xin:x∈a.drop ia++b.drop ib:=by rw [da];simp
 refine ⟨Zbr g.srt fun p hp=>g.le p hp x xin,?_,fun p hp q hq=>?_⟩
 ·have:=g.pm
  rw [da] at this
  simpa using this
 ·rcases List.mem_append.mp hp with hp | hp
  ·refine g.le p hp q ?_
   rw [da]
   rcases List.mem_append.mp hq with z | z
   ·exact List.mem_append_left _ (List.mem_cons_of_mem _ z)
   ·exact List.mem_append_right _ z
  ·rw [List.mem_singleton.mp hp]
   rcases List.mem_append.mp hq with z | z
   ·have:=Jm sa ia
    rw [da] at this
    exact (List.pairwise_cons.mp this).1 q z
   ·cases hb:b[ib]? with
    | none=>rw [List.drop_eq_nil_of_le (List.getElem?_eq_none_iff.mp hb)] at z;cases z
    | some y=>
     have hy:=h y hb
     have db:=drop_cons hb
     rw [db] at z
     rcases List.mem_cons.mp z with rfl | z
     ·exact hy
     ·have sb':=Jm sb ib
      rw [db] at sb'
      exact C.leT hy ((List.pairwise_cons.mp sb').1 q z)
theorem Mg.takeB (C:Wo lt) {a b out:List Keyed}{ia ib:Nat} (g:Mg lt a b out ia ib) (sa:JX lt a) (sb:JX lt b) {x:Keyed} (e:b[ib]? = some x) (h:∀y,a[ia]? = some y->lt y x=false):Mg lt a b (out ++ [x]) ia (ib+1):=by
 have db:=drop_cons e
 have xin:x∈a.drop ia++b.drop ib:=by rw [db];simp
 refine ⟨Zbr g.srt fun p hp=>g.le p hp x xin,?_,fun p hp q hq=>?_⟩
 ·refine List.Perm.trans ?_ g.pm
  rw [db,List.append_assoc]
  refine List.Perm.append_left _ ?_
  exact (List.perm_middle (a:=x) (l₁:=a.drop ia) (l₂:=b.drop (ib+1))).symm
 ·rcases List.mem_append.mp hp with hp | hp
  ·refine g.le p hp q ?_
   rw [db]
   rcases List.mem_append.mp hq with z | z
   ·exact List.mem_append_left _ z
   ·exact List.mem_append_right _ (List.mem_cons_of_mem _ z)
  ·rw [List.mem_singleton.mp hp]
   rcases List.mem_append.mp hq with z | z
   ·cases ha:a[ia]? with
    | none=>rw [List.drop_eq_nil_of_le (List.getElem?_eq_none_iff.mp ha)] at z;cases z
    | some y=>
     have hy:=h y ha
     have da:=drop_cons ha
     rw [da] at z
     rcases List.mem_cons.mp z with rfl | z
     ·exact hy
     ·have sa':=Jm sa ia
      rw [da] at sa'
      exact C.leT hy ((List.pairwise_cons.mp sa').1 q z)
   ·have:=Jm sb ib
    rw [db] at this
    exact (List.pairwise_cons.mp this).1 q z
theorem ZeF {l:List Keyed}{i k:Nat}{x:Keyed} (e:l[i+k]? = some x):(l.drop i).take (k+1)=(l.drop i).take k ++ [x]:=by
 rw [List.take_add_one,List.getElem?_drop,e];rfl
theorem Mg.takeAs (C:Wo lt) {a b:List Keyed} (sa:JX lt a) (sb:JX lt b) {ia ib:Nat}{out:List Keyed} (g:Mg lt a b out ia ib):∀k,ia+k<=a.length->(∀i,i<k -> ∀x y,a[ia+i]? = some x->b[ib]? = some y->lt y x=false)->Mg lt a b (out++(a.drop ia).take k) (ia+k) ib
 | 0,_,_=>by simpa using g
 | k+1,hk,h=>by
  have ih:=Mg.takeAs C sa sb g k (by lia) fun i hi=>h i (by lia)
  obtain ⟨x,hx⟩:∃x,a[ia+k]? = some x:=⟨a[ia+k]'(by lia),List.getElem?_eq_getElem (by lia)⟩
  have:=ih.takeA C sa sb hx fun y hy=>h k (by lia) x y hx hy
  rw [ZeF hx,<- List.append_assoc]
  exact this
theorem Mg.takeBs (C:Wo lt) {a b:List Keyed} (sa:JX lt a) (sb:JX lt b) {ia ib:Nat}{out:List Keyed} (g:Mg lt a b out ia ib):∀k,ib+k<=b.length->(∀i,i<k -> ∀x y,b[ib+i]? = some x->a[ia]? = some y->lt y x=false)->Mg lt a b (out++(b.drop ib).take k) ia (ib+k)
 | 0,_,_=>by simpa using g
 | k+1,hk,h=>by
  have ih:=Mg.takeBs C sa sb g k (by lia) fun i hi=>h i (by lia)
  obtain ⟨x,hx⟩:∃x,b[ib+k]? = some x:=⟨b[ib+k]'(by lia),List.getElem?_eq_getElem (by lia)⟩
  have:=ih.takeB C sa sb hx fun y hy=>h k (by lia) x y hx hy
  rw [ZeF hx,<- List.append_assoc]
  exact this
def Mgd (lt:Keyed->Keyed->Bool) (a b r:List Keyed):Prop:=JX lt r/\r.Perm (a++b)
theorem Mg.done {a b out:List Keyed}{ia ib:Nat} (g:Mg lt a b out ia ib) (sa:JX lt a) (sb:JX lt b) (h:a.length<=ia∨b.length<=ib):Mgd lt a b (out++a.drop ia++b.drop ib):=by
 refine ⟨?_,by rw [List.append_assoc];exact g.pm⟩
 rw [List.append_assoc]
 refine List.pairwise_append.mpr ⟨g.srt,?_,fun p hp q hq=>g.le p hp q hq⟩
 rcases h with h | h
 ·rw [List.drop_eq_nil_of_le h,List.nil_append];exact Jm sb ib
 ·rw [List.drop_eq_nil_of_le h,List.append_nil];exact Jm sa ia
theorem Mg.lastA {a b out:List Keyed}{ia ib:Nat} (g:Mg lt a b out ia ib) (sb:JX lt b) (h:ia+1=a.length) (hl:∀x,a[ia]? = some x -> ∀y∈b,lt x y=false):Mgd lt a b (out++b.drop ib++a.drop ia):=by
 obtain ⟨x,hx⟩:∃x,a[ia]? = some x:=⟨a[ia]'(by lia),List.getElem?_eq_getElem (by lia)⟩
 have da:a.drop ia = [x]:=by rw [drop_cons hx,List.drop_eq_nil_of_le (by lia)]
 refine ⟨?_,?_⟩
 ·rw [List.append_assoc,da]
  refine List.pairwise_append.mpr ⟨g.srt,Zbr (Jm sb ib) fun p hp=>hl x hx p (List.mem_of_mem_drop hp),fun p hp q hq=>g.le p hp q ?_⟩
  rw [da]
  rcases List.mem_append.mp hq with z | z
  ·exact List.mem_append_right _ z
  ·exact List.mem_append_left _ z
 ·rw [List.append_assoc]
  exact (List.Perm.append_left _ List.perm_append_comm).trans g.pm
end
section
variable {prog:Program}{w:World}{A:Around}{E:Value->Shared->Prop}{s:Shared}{kd:SortKind}{D:Keyed->Prop}{lt:Keyed->Keyed->Bool}
theorem Ju {l:Array Keyed}{i k:Nat}:(l.extract i (i+k)).toList=(l.toList.drop i).take k:=by
 rw [Array.toList_extract,List.extract_eq_take_drop];congr 1;lia
theorem Yl {l:Array Keyed}{i:Nat}:(l.extract i).toList=l.toList.drop i:=by
 rw [Array.toList_extract,List.extract_eq_take_drop]
 exact List.take_of_length_le (by simp)
theorem Jq {key:Keyed}{arr:Array Keyed}{base i:Nat}{x:Keyed} (e:arr.toList[base+i]? = some x):UL lt false key arr base i = !lt key x:=by
 unfold UL;rw [<- Array.getElem?_toList,e];simp
theorem YK {key:Keyed}{arr:Array Keyed}{base i:Nat}{x:Keyed} (e:arr.toList[base+i]? = some x):UL lt true key arr base i=lt x key:=by
 unfold UL;rw [<- Array.getElem?_toList,e];simp
theorem WQ (C:Cmp prog w A E s kd D lt) {left:Bool}{key:Keyed}{arr:Array Keyed}{base n:Nat} (hs:JX lt arr.toList) (hn:base+n<=arr.toList.length):
  ∀i j,i<=j->j<n->UL lt left key arr base j=true->UL lt left key arr base i=true:=fun i j hij hj h=>by
 have ei:arr.toList[base+i]? = some (arr.toList[base+i]'(by lia)):=List.getElem?_eq_getElem (by lia)
 have ej:arr.toList[base+j]? = some (arr.toList[base+j]'(by lia)):=List.getElem?_eq_getElem (by lia)
 have le:=Ub C.wo hs ei ej (by lia)
 cases left with
 | true=>
  rw [YK ej] at h
  rw [YK ei]
  rcases C.wo.neg _ (arr.toList[base+i]'(by lia)) _ h with z | z
  ·rw [z] at le;cases le
  ·exact z
 | false=>
  rw [Jq ej] at h
  rw [Jq ei]
  cases z:lt key (arr.toList[base+i]'(by lia)) with
  | false=>rfl
  | true=>
   rcases C.wo.neg _ (arr.toList[base+j]'(by lia)) _ z with y | y
   ·rw [y] at h;cases h
   ·rw [y] at le;cases le
section
variable {β:Type}{st:SortSt}{Q:β -> SortSt->Prop}{M:Model}
theorem ZN {c:Bool}{X Y:StateT SortSt Sem β} (h1:c=true->wpS M A E s X Q st) (h2:c=false->wpS M A E s Y Q st):wpS M A E s (if c=true then X else Y) Q st:=by
 cases c with
 | true=>exact h1 rfl
 | false=>exact h2 rfl
theorem Jr {k n:Nat}{X Y:StateT SortSt Sem β} (h1:k>n->wpS M A E s X Q st) (h2:k<=n->wpS M A E s Y Q st):wpS M A E s (if k>n then X else Y) Q st:=by
 by_cases h:k>n
 ·rw [if_pos h];exact h1 h
 ·rw [if_neg h];exact h2 (by lia)
end
theorem ZY {m n:Nat} (h:(m==n)=false):m≠n:=fun e=>by rw [e] at h;simp at h
theorem Ze2 (C:Cmp prog w A E s kd D lt) {a b:Array Keyed}{st:SortSt}{Q:Array Keyed->SortSt->Prop} (hda:∀x∈a.toList,D x) (hdb:∀x∈b.toList,D x) (sa:JX lt a.toList) (sb:JX lt b.toList) (hs:kindOf st=kd)
  (na:0<a.toList.length) (nb:0<b.toList.length) (hf:∀x y,a.toList[0]? = some x->b.toList[0]? = some y->lt x y=false) (hl:∀x,a.toList[a.toList.length-1]? = some x -> ∀y∈b.toList,lt x y=false)
  (h:∀r st',Mgd lt a.toList b.toList r.toList->Eqg st st'->Q r st'):wpS (model prog w) A E s (Zin a b) Q st:=by
 have za:a.size=a.toList.length:=by simp
 have zb:b.size=b.toList.length:=by simp
 have ea:∀i,i<a.toList.length -> ∃x,a[i]? = some x/\D x/\a.toList[i]? = some x:=fun i hi=>⟨a.toList[i],by rw [<- Array.getElem?_toList];exact List.getElem?_eq_getElem hi,hda _ (List.getElem_mem hi),List.getElem?_eq_getElem hi⟩
 have eb:∀i,i<b.toList.length -> ∃x,b[i]? = some x/\D x/\b.toList[i]? = some x:=fun i hi=>⟨b.toList[i],by rw [<- Array.getElem?_toList];exact List.getElem?_eq_getElem hi,hdb _ (List.getElem_mem hi),List.getElem?_eq_getElem hi⟩
 refine wpS_bind (wpS_lift (wpAny_rule ⟨rfl,?_⟩))
 obtain ⟨b0,hb0,db0,lb0⟩:=eb 0 nb
 obtain ⟨a0,ha0,da0,la0⟩:=ea 0 na
 refine wpS_bind (Z9 hb0 ?_)
 have g0:Mg lt a.toList b.toList [b0] 0 1:=by
  have g:Mg lt a.toList b.toList [] 0 0:=⟨.nil,by simp,fun p hp=>(by cases hp)⟩
  exact g.takeB C.wo sa sb lb0 fun y hy=>hf y b0 hy lb0
 show wpS _ _ _ _ (if (1==b.size)=true then _ else if (0+1==a.size)=true then _ else _) _ _
 by_cases c1:(1==b.size)=true
 ·rw [if_pos c1]
  refine wpS_pure (h _ st ?_ (Eqg.refl st))
  simp only [Array.toList_append,Yl]
  exact g0.done sa sb (.inr (by rw [<- zb,<- eq_of_beq c1];exact Nat.le_refl _))
 rw [if_neg c1]
 by_cases c2:(0+1==a.size)=true
 ·rw [if_pos c2]
  refine wpS_pure (h _ st ?_ (Eqg.refl st))
  simp only [Array.toList_append,Yl]
  exact g0.lastA sb (by rw [<- za];exact eq_of_beq c2) fun x hx=>hl x (by rw [<- za,<- eq_of_beq c2];exact hx)
 rw [if_neg c2]
 have n1:1<b.toList.length:=by
  rcases Nat.lt_or_ge 1 b.toList.length with z | z
  ·exact z
  ·exact absurd (by rw [zb,show b.toList.length=1 by lia];rfl) c1
 have n2:1<a.toList.length:=by
  rcases Nat.lt_or_ge 1 a.toList.length with z | z
  ·exact z
  ·exact absurd (by rw [za,show a.toList.length=1 by lia];rfl) c2
 refine wpS_bind (wpS_get ?_)
 refine wpS_bind (wpS_mono (wpS_forRange (I:=fun x c st'=>∃(out:Array Keyed) (ia ib mg:Nat),c=(none,out,ia,ib,mg)/\Mg lt a.toList b.toList out.toList ia ib/\ia+1<a.toList.length/\ib<b.toList.length/\x<=ia+ib/\Eqg st st')
  (Q:=fun c st'=>∃r,c.1=some r/\Mgd lt a.toList b.toList r.toList/\Eqg st st') ?_ ?_ ⟨#[b0],0,1,_,rfl,g0,by lia,n1,by lia,Eqg.refl st⟩) ?_)
 ·rintro x c st1 _ hx ⟨out,ia,ib,mg,rfl,g,l1,l2,l3,q1⟩
  refine wpS_bind (wpS_mono (wpS_forRange (I:=fun y c st'=>st'=st1 /\ ∃(out:Array Keyed) (ia ib ac bc:Nat),c=(none,out,ia,ib,ac,bc)/\Mg lt a.toList b.toList out.toList ia ib/\ia+1<a.toList.length/\ib<b.toList.length/\x+y<=ia+ib)
   (Q:=fun c st'=>st'=st1/\((∃(out:Array Keyed) (ia ib ac bc:Nat),c=(none,out,ia,ib,ac,bc)/\Mg lt a.toList b.toList out.toList ia ib/\ia+1<a.toList.length/\ib<b.toList.length/\x+1<=ia+ib) ∨ ∃r,c.1=some r/\Mgd lt a.toList b.toList r.toList)) ?_ ?_ ⟨rfl,out,ia,ib,0,0,rfl,g,l1,l2,l3⟩) ?_)
  ·rintro y c st' _ hy ⟨rfl,out,ia,ib,ac,bc,rfl,g,l1,l2,l3⟩
   obtain ⟨xb,hb,db,lb⟩:=eb ib l2
   obtain ⟨xa,ha,da,la⟩:=ea ia (by lia)
   refine wpS_bind (Z9 hb (wpS_bind (Z9 ha (wpS_bind (C.cmp xb xa _ _ db da (q1.1.trans hs) ?_)))))
   cases e:lt xb xa with
   | true=>
    refine wpS_bind (Z9 hb ?_)
    have g':=g.takeB C.wo sa sb lb fun y hy=>by rw [la] at hy;cases hy;exact C.wo.asym _ _ e
    dsimp only
    by_cases c3:(ib+1==b.size)=true
    ·rw [if_pos c3]
     refine wpS_pure ⟨rfl,.inr ⟨_,rfl,?_⟩⟩
     simp only [Array.toList_append,Array.toList_push,Yl]
     exact g'.done sa sb (.inr (by rw [<- zb,<- eq_of_beq c3];exact Nat.le_refl _))
    ·rw [if_neg c3]
     have c4:ib+1<b.toList.length:=by
      rcases Nat.lt_or_ge (ib+1) b.toList.length with z | z
      ·exact z
      ·exact absurd (by rw [zb,show b.toList.length=ib+1 by lia];simp) c3
     split
     ·exact wpS_pure ⟨rfl,.inl ⟨_,_,_,_,_,rfl,by rw [Array.toList_push];exact g',l1,c4,by lia⟩⟩
     ·exact wpS_pure ⟨rfl,_,_,_,_,_,rfl,by rw [Array.toList_push];exact g',l1,c4,by lia⟩
   | false=>
    refine wpS_bind (Z9 ha ?_)
    have g':=g.takeA C.wo sa sb la fun y hy=>by rw [lb] at hy;cases hy;exact e
    dsimp only
    by_cases c3:(ia+1+1==a.size)=true
    ·rw [if_pos c3]
     refine wpS_pure ⟨rfl,.inr ⟨_,rfl,?_⟩⟩
     simp only [Array.toList_append,Array.toList_push,Yl]
     have c5:ia+1+1=a.toList.length:=by rw [<- za];exact eq_of_beq c3
     exact g'.lastA sb c5 fun x hx=>hl x (by rw [<- c5];exact hx)
    ·rw [if_neg c3]
     have c4:ia+1+1<a.toList.length:=by
      rcases Nat.lt_or_ge (ia+1+1) a.toList.length with z | z
      ·exact z
      ·exact absurd (by rw [za,show a.toList.length=ia+1+1 by lia];simp) c3
     split
     ·exact wpS_pure ⟨rfl,.inl ⟨_,_,_,_,_,rfl,by rw [Array.toList_push];exact g',c4,l2,by lia⟩⟩
     ·exact wpS_pure ⟨rfl,_,_,_,_,_,rfl,by rw [Array.toList_push];exact g',c4,l2,by lia⟩
  ·rintro c st' ⟨rfl,out,ia,ib,ac,bc,rfl,g,l1,l2,l3⟩
   lia
  ·rintro c st' ⟨rfl,⟨out,ia,ib,ac,bc,rfl,g,l1,l2,l3⟩ | ⟨r,hr,hm⟩⟩
   ·refine wpS_bind (wpS_lift (wpAny_rule ⟨rfl,?_⟩))
    refine wpS_bind (wpS_mono (wpS_forRange (I:=fun y c st'=>Eqg st st' /\ ∃(out:Array Keyed) (ia ib mg ac bc:Nat),c=(none,out,ia,ib,mg,ac,bc)/\Mg lt a.toList b.toList out.toList ia ib/\ia+1<a.toList.length/\ib<b.toList.length/\x+1+y<=ia+ib)
     (Q:=fun c st'=>Eqg st st'/\((∃(out:Array Keyed) (ia ib mg ac bc:Nat),c=(none,out,ia,ib,mg,ac,bc)/\Mg lt a.toList b.toList out.toList ia ib/\ia+1<a.toList.length/\ib<b.toList.length/\x+1<=ia+ib) ∨ ∃r,c.1=some r/\Mgd lt a.toList b.toList r.toList)) ?_ ?_ ⟨q1,out,ia,ib,_,ac,bc,rfl,g,l1,l2,l3⟩) ?_)
    ·rintro y c st2 _ hy ⟨q2,out,ia,ib,mg,ac,bc,rfl,g,l1,l2,l3⟩
     obtain ⟨xb,hb,db,lb⟩:=eb ib l2
     refine Jr (k:=mg) (n:=1) (fun _=>?_) (fun _=>?_)
     all_goals (
      refine wpS_bind (wpS_modify ?_)
      refine wpS_bind (Z9 hb ?_)
      refine wpS_bind (Jd (base:=ia) (n:=a.size-ia) (hint:=0) C db (fun i hi=>let ⟨x,h1,h2,_⟩:=ea (ia+i) (by lia);⟨x,h1,h2⟩) (by lia) (q2.1.trans hs) (WQ C sa (by lia)) fun k hk k1 k2=>?_)
      have f1:∀i,i<k -> ∀x y,a.toList[ia+i]? = some x->b.toList[ib]? = some y->lt y x=false:=fun i hi x y hx hy=>by
       have:=k1 i hi
       rw [Jq hx] at this
       rw [lb] at hy
       cases hy
       simpa using this
      have gk:=g.takeAs C.wo sa sb k (by lia) f1
      have m3:∀x,a.toList[ia+k]? = some x->lt xb x=true:=fun x hx=>by
       have:=k2 k (Nat.le_refl _) (by have:=(List.getElem?_eq_some_iff.mp hx).1;lia)
       rw [Jq hx] at this
       simpa using this
      refine Jr (k:=k) (n:=0) (fun k0=>?_) (fun k0=>?_)
      ·refine ZN (c:=(ia+k+1==a.size)) (fun c3=>?_) (fun c3=>ZN (c:=(ia+k==a.size)) (fun c4=>?_) (fun c4=>?_))
       ·refine wpS_pure ⟨q2,.inr ⟨_,rfl,?_⟩⟩
        have c3':ia+k+1=a.toList.length:=by rw [<- za];exact eq_of_beq c3
        have:=gk.lastA sb c3' fun x hx=>hl x (by rw [<- c3'];exact hx)
        simp only [Array.toList_append,Array.toList_push,Yl,Ju] at this ⊢
        exact this
       ·refine wpS_pure ⟨q2,.inr ⟨_,rfl,?_⟩⟩
        have:=gk.done sa sb (.inl (by rw [<- za,<- eq_of_beq c4];exact Nat.le_refl _))
        simp only [Array.toList_append,Array.toList_push,Yl,Ju] at this ⊢
        exact this
       ·have c3':=ZY c3
        have c4':=ZY c4
        have m4':=m3
        have g1:Mg lt a.toList b.toList (out++a.extract ia (ia+k)).toList (ia+k) ib:=by
         simp only [Array.toList_append,Array.toList_push,Yl,Ju] at gk ⊢
         exact gk
        refine wpS_bind (Z9 hb ?_)
        have g2:=g1.takeB C.wo sa sb lb fun y hy=>C.wo.asym _ _ (m4' y hy)
        refine ZN (c:=(ib+1==b.size)) (fun c5=>?_) (fun c5=>?_)
        ·refine wpS_pure ⟨q2,.inr ⟨_,rfl,?_⟩⟩
         have:=g2.done sa sb (.inr (by rw [<- zb,<- eq_of_beq c5];exact Nat.le_refl _))
         simp only [Array.toList_append,Array.toList_push,Yl,Ju] at this ⊢
         exact this
        ·have c6:=ZY c5
         obtain ⟨xa,ha,da,la⟩:=ea (ia+k) (by lia)
         refine wpS_bind (Z9 ha ?_)
         refine wpS_bind (Jd (left:=true) (base:=ib+1) (n:=b.size-(ib+1)) (hint:=0) C da (fun i hi=>let ⟨x,h1,h2,_⟩:=eb (ib+1+i) (by lia);⟨x,h1,h2⟩) (by lia) (q2.1.trans hs) (WQ C sb (by lia)) fun k' hk' k1' k2'=>?_)
         have f2:∀i,i<k' -> ∀x y,b.toList[ib+1+i]? = some x->a.toList[ia+k]? = some y->lt y x=false:=fun i hi x y hx hy=>by
          have:=k1' i hi
          rw [YK hx] at this
          rw [la] at hy
          cases hy
          exact C.wo.asym _ _ this
         have gk':=g2.takeBs C.wo sa sb k' (by lia) f2
         have m5:∀y,b.toList[ib+1+k']? = some y->lt y xa=false:=fun y hy=>by
          have:=k2' k' (Nat.le_refl _) (by have:=(List.getElem?_eq_some_iff.mp hy).1;lia)
          rw [YK hy] at this
          exact this
         refine Jr (k:=k') (n:=0) (fun k0'=>?_) (fun k0'=>?_)
         ·refine ZN (c:=(ib+1+k'==b.size)) (fun c9=>?_) (fun c9=>?_)
          ·refine wpS_pure ⟨q2,.inr ⟨_,rfl,?_⟩⟩
           have:=gk'.done sa sb (.inr (by rw [<- zb,<- eq_of_beq c9];exact Nat.le_refl _))
           simp only [Array.toList_append,Array.toList_push,Yl,Ju] at this ⊢
           exact this
          ·have c9':=ZY c9
           have m4:=m5
           have g3:Mg lt a.toList b.toList (((out++a.extract ia (ia+k)).push xb)++b.extract (ib+1) (ib+1+k')).toList (ia+k) (ib+1+k'):=by
            simp only [Array.toList_append,Array.toList_push,Yl,Ju] at gk' ⊢
            exact gk'
           refine wpS_bind (Z9 ha ?_)
           have g4:=g3.takeA C.wo sa sb la m4
           refine ZN (c:=((ia+k)+1+1==a.size)) (fun c7=>?_) (fun c7=>?_)
           ·refine wpS_pure ⟨q2,.inr ⟨_,rfl,?_⟩⟩
            have c8:(ia+k)+1+1=a.toList.length:=by rw [<- za];exact eq_of_beq c7
            have:=g4.lastA sb c8 fun x hx=>hl x (by rw [<- c8];exact hx)
            simp only [Array.toList_append,Array.toList_push,Yl,Ju] at this ⊢
            exact this
           ·have c8:=ZY c7
            refine ZN (fun _=>?_) (fun _=>?_)
            ·exact wpS_pure ⟨q2,.inl ⟨(((out++a.extract ia (ia+k)).push xb)++b.extract (ib+1) (ib+1+k')).push xa,(ia+k)+1,(ib+1+k'),_,_,_,rfl,by rw [Array.toList_push];exact g4,by lia,by lia,by lia⟩⟩
            ·exact wpS_pure ⟨q2,(((out++a.extract ia (ia+k)).push xb)++b.extract (ib+1) (ib+1+k')).push xa,(ia+k)+1,(ib+1+k'),_,_,_,rfl,by rw [Array.toList_push];exact g4,by lia,by lia,by lia⟩
         ·obtain rfl:k'=0:=by lia
          have m4:=m5
          have g3:Mg lt a.toList b.toList ((out++a.extract ia (ia+k)).push xb).toList (ia+k) (ib+1):=by
           rw [Array.toList_push]
           exact g2
          refine wpS_bind (Z9 ha ?_)
          have g4:=g3.takeA C.wo sa sb la m4
          refine ZN (c:=((ia+k)+1+1==a.size)) (fun c7=>?_) (fun c7=>?_)
          ·refine wpS_pure ⟨q2,.inr ⟨_,rfl,?_⟩⟩
           have c8:(ia+k)+1+1=a.toList.length:=by rw [<- za];exact eq_of_beq c7
           have:=g4.lastA sb c8 fun x hx=>hl x (by rw [<- c8];exact hx)
           simp only [Array.toList_append,Array.toList_push,Yl,Ju] at this ⊢
           exact this
          ·have c8:=ZY c7
           refine ZN (fun _=>?_) (fun _=>?_)
           ·exact wpS_pure ⟨q2,.inl ⟨((out++a.extract ia (ia+k)).push xb).push xa,(ia+k)+1,(ib+1),_,_,_,rfl,by rw [Array.toList_push];exact g4,by lia,by lia,by lia⟩⟩
           ·exact wpS_pure ⟨q2,((out++a.extract ia (ia+k)).push xb).push xa,(ia+k)+1,(ib+1),_,_,_,rfl,by rw [Array.toList_push];exact g4,by lia,by lia,by lia⟩
      ·obtain rfl:k=0:=by lia
       have m4':=m3
       have g1:=g
       refine wpS_bind (Z9 hb ?_)
       have g2:=g1.takeB C.wo sa sb lb fun y hy=>C.wo.asym _ _ (m4' y hy)
       refine ZN (c:=(ib+1==b.size)) (fun c5=>?_) (fun c5=>?_)
       ·refine wpS_pure ⟨q2,.inr ⟨_,rfl,?_⟩⟩
        have:=g2.done sa sb (.inr (by rw [<- zb,<- eq_of_beq c5];exact Nat.le_refl _))
        simp only [Array.toList_append,Array.toList_push,Yl,Ju] at this ⊢
        exact this
       ·have c6:=ZY c5
        obtain ⟨xa,ha,da,la⟩:=ea (ia) (by lia)
        refine wpS_bind (Z9 ha ?_)
        refine wpS_bind (Jd (left:=true) (base:=ib+1) (n:=b.size-(ib+1)) (hint:=0) C da (fun i hi=>let ⟨x,h1,h2,_⟩:=eb (ib+1+i) (by lia);⟨x,h1,h2⟩) (by lia) (q2.1.trans hs) (WQ C sb (by lia)) fun k' hk' k1' k2'=>?_)
        have f2:∀i,i<k' -> ∀x y,b.toList[ib+1+i]? = some x->a.toList[ia]? = some y->lt y x=false:=fun i hi x y hx hy=>by
         have:=k1' i hi
         rw [YK hx] at this
         rw [la] at hy
         cases hy
         exact C.wo.asym _ _ this
        have gk':=g2.takeBs C.wo sa sb k' (by lia) f2
        have m5:∀y,b.toList[ib+1+k']? = some y->lt y xa=false:=fun y hy=>by
         have:=k2' k' (Nat.le_refl _) (by have:=(List.getElem?_eq_some_iff.mp hy).1;lia)
         rw [YK hy] at this
         exact this
        refine Jr (k:=k') (n:=0) (fun k0'=>?_) (fun k0'=>?_)
        ·refine ZN (c:=(ib+1+k'==b.size)) (fun c9=>?_) (fun c9=>?_)
         ·refine wpS_pure ⟨q2,.inr ⟨_,rfl,?_⟩⟩
          have:=gk'.done sa sb (.inr (by rw [<- zb,<- eq_of_beq c9];exact Nat.le_refl _))
          simp only [Array.toList_append,Array.toList_push,Yl,Ju] at this ⊢
          exact this
         ·have c9':=ZY c9
          have m4:=m5
          have g3:Mg lt a.toList b.toList ((out.push xb)++b.extract (ib+1) (ib+1+k')).toList (ia) (ib+1+k'):=by
           simp only [Array.toList_append,Array.toList_push,Yl,Ju] at gk' ⊢
           exact gk'
          refine wpS_bind (Z9 ha ?_)
          have g4:=g3.takeA C.wo sa sb la m4
          refine ZN (c:=((ia)+1+1==a.size)) (fun c7=>?_) (fun c7=>?_)
          ·refine wpS_pure ⟨q2,.inr ⟨_,rfl,?_⟩⟩
           have c8:(ia)+1+1=a.toList.length:=by rw [<- za];exact eq_of_beq c7
           have:=g4.lastA sb c8 fun x hx=>hl x (by rw [<- c8];exact hx)
           simp only [Array.toList_append,Array.toList_push,Yl,Ju] at this ⊢
           exact this
          ·have c8:=ZY c7
           refine ZN (fun _=>?_) (fun _=>?_)
           ·exact wpS_pure ⟨q2,.inl ⟨((out.push xb)++b.extract (ib+1) (ib+1+k')).push xa,(ia)+1,(ib+1+k'),_,_,_,rfl,by rw [Array.toList_push];exact g4,by lia,by lia,by lia⟩⟩
           ·exact wpS_pure ⟨q2,((out.push xb)++b.extract (ib+1) (ib+1+k')).push xa,(ia)+1,(ib+1+k'),_,_,_,rfl,by rw [Array.toList_push];exact g4,by lia,by lia,by lia⟩
        ·obtain rfl:k'=0:=by lia
         have m4:=m5
         have g3:Mg lt a.toList b.toList (out.push xb).toList (ia) (ib+1):=by
          rw [Array.toList_push]
          exact g2
         refine wpS_bind (Z9 ha ?_)
         have g4:=g3.takeA C.wo sa sb la m4
         refine ZN (c:=((ia)+1+1==a.size)) (fun c7=>?_) (fun c7=>?_)
         ·refine wpS_pure ⟨q2,.inr ⟨_,rfl,?_⟩⟩
          have c8:(ia)+1+1=a.toList.length:=by rw [<- za];exact eq_of_beq c7
          have:=g4.lastA sb c8 fun x hx=>hl x (by rw [<- c8];exact hx)
          simp only [Array.toList_append,Array.toList_push,Yl,Ju] at this ⊢
          exact this
         ·have c8:=ZY c7
          refine ZN (fun _=>?_) (fun _=>?_)
          ·exact wpS_pure ⟨q2,.inl ⟨(out.push xb).push xa,(ia)+1,(ib+1),_,_,_,rfl,by rw [Array.toList_push];exact g4,by lia,by lia,by lia⟩⟩
          ·exact wpS_pure ⟨q2,(out.push xb).push xa,(ia)+1,(ib+1),_,_,_,rfl,by rw [Array.toList_push];exact g4,by lia,by lia,by lia⟩)
    ·rintro c st' ⟨q2,out,ia,ib,mg,ac,bc,rfl,g,l1,l2,l3⟩
     lia
    ·rintro c st' ⟨q2,⟨out,ia,ib,mg,ac,bc,rfl,g,l1,l2,l3⟩ | ⟨r,hr,hm⟩⟩
     ·exact wpS_bind (wpS_modify (wpS_pure ⟨_,_,_,_,rfl,g,l1,l2,l3,q2⟩))
     ·obtain ⟨c1,c2⟩:=c
      dsimp only at hr
      subst hr
      exact wpS_pure ⟨r,rfl,hm,q2⟩
   ·obtain ⟨c1,c2⟩:=c
    dsimp only at hr
    subst hr
    exact wpS_pure ⟨r,rfl,hm,q1⟩
 ·rintro c st' ⟨out,ia,ib,mg,rfl,g,l1,l2,l3,q1⟩
  lia
 ·rintro c st' ⟨r,hr,hm,q1⟩
  obtain ⟨c1,c2⟩:=c
  dsimp only at hr
  subst hr
  exact wpS_pure (h r st' hm q1)
end
section
variable {prog:Program}{w:World}{A:Around}{E:Value->Shared->Prop}{s:Shared}{kd:SortKind}{D:Keyed->Prop}{lt:Keyed->Keyed->Bool}
theorem Gv {l:List Keyed}{n:Nat} (h0:0<n) (h:n<=l.length):l.reverse[l.length-n]? = l[n-1]?:=by
 rw [List.getElem?_reverse (by lia)];congr 1;lia
theorem GY {l:List Keyed}{n:Nat} (h:n<=l.length):l.reverse.drop (l.length-n)=(l.take n).reverse:=by
 rw [List.drop_reverse];congr 2;lia
theorem ZdY {l:List Keyed}{n m:Nat} (h:n<=l.length) (hm:m<=n):(l.reverse.drop (l.length-n)).take (n-m)=((l.drop m).take (n-m)).reverse:=by
 rw [GY h,List.take_reverse,List.length_take,Nat.min_eq_left h,List.drop_take]
 congr 2
 ·lia
 ·congr 1;lia
theorem Zgn {a b r:List Keyed} (h:Mgd (fun x y=>lt y x) b.reverse a.reverse r):Mgd lt a b r.reverse:=by
 refine ⟨List.pairwise_reverse.mpr h.1,?_⟩
 refine (List.reverse_perm r).trans (h.2.trans ?_)
 refine ((List.reverse_perm b).append (List.reverse_perm a)).trans ?_
 exact List.perm_append_comm
def Mh (lt:Keyed->Keyed->Bool) (a b:List Keyed) (out:List Keyed) (na nb:Nat):Prop:=Mg (fun x y=>lt y x) b.reverse a.reverse out (b.length-nb) (a.length-na)
theorem Mh.done {a b out:List Keyed}{na nb:Nat} (g:Mh lt a b out na nb) (sa:JX lt a) (sb:JX lt b) (ha:na<=a.length) (hb:nb<=b.length) (h:na=0∨nb=0):Mgd lt a b (a.take na++b.take nb++out.reverse):=by
 have:=Zgn (Mg.done (lt:=fun x y=>lt y x) g (List.pairwise_reverse.mpr sb) (List.pairwise_reverse.mpr sa) (by rw [List.length_reverse,List.length_reverse];lia))
 rw [GY ha,GY hb] at this
 simpa using this
theorem Mh.firstB {a b out:List Keyed}{na nb:Nat} (g:Mh lt a b out na nb) (sa:JX lt a) (ha:na<=a.length) (hb:nb<=b.length) (h:nb=1) (hf:∀x,b[0]? = some x -> ∀y∈a,lt y x=false):Mgd lt a b (b.take nb++a.take na++out.reverse):=by
 have:=Zgn (Mg.lastA (lt:=fun x y=>lt y x) g (List.pairwise_reverse.mpr sa) (by rw [List.length_reverse];lia) fun x hx y hy=>by
  rw [Gv (by lia) hb,h] at hx
  exact hf x hx y (by simpa using hy))
 rw [GY ha,GY hb] at this
 simpa using this
theorem Mh.takeA (C:Wo lt) {a b out:List Keyed}{na nb:Nat} (g:Mh lt a b out na nb) (sa:JX lt a) (sb:JX lt b) (h0:0<na) (ha:na<=a.length) (hb:nb<=b.length) {x:Keyed} (e:a[na-1]? = some x) (h:0<nb -> ∀y,b[nb-1]? = some y->lt x y=false):Mh lt a b (out ++ [x]) (na-1) nb:=by
 have:=Mg.takeB (lt:=fun x y=>lt y x) C.flip g (List.pairwise_reverse.mpr sb) (List.pairwise_reverse.mpr sa) (x:=x) (by rw [Gv h0 ha];exact e) fun y hy=>by
  have hp:0<nb:=by
   have:=(List.getElem?_eq_some_iff.mp hy).1
   rw [List.length_reverse] at this
   lia
  rw [Gv hp hb] at hy
  exact h hp y hy
 unfold Mh
 rw [show a.length-(na-1)=a.length-na+1 by lia]
 exact this
theorem Mh.takeB (C:Wo lt) {a b out:List Keyed}{na nb:Nat} (g:Mh lt a b out na nb) (sa:JX lt a) (sb:JX lt b) (h0:0<nb) (ha:na<=a.length) (hb:nb<=b.length) {x:Keyed} (e:b[nb-1]? = some x) (h:0<na -> ∀y,a[na-1]? = some y->lt x y=false):Mh lt a b (out ++ [x]) na (nb-1):=by
 have:=Mg.takeA (lt:=fun x y=>lt y x) C.flip g (List.pairwise_reverse.mpr sb) (List.pairwise_reverse.mpr sa) (x:=x) (by rw [Gv h0 hb];exact e) fun y hy=>by
  have hp:0<na:=by
   have:=(List.getElem?_eq_some_iff.mp hy).1
   rw [List.length_reverse] at this
   lia
  rw [Gv hp ha] at hy
  exact h hp y hy
 unfold Mh
 rw [show b.length-(nb-1)=b.length-nb+1 by lia]
 exact this
theorem Mh.takeAs (C:Wo lt) {a b out:List Keyed}{na nb:Nat} (g:Mh lt a b out na nb) (sa:JX lt a) (sb:JX lt b) (ha:na<=a.length) (hb:nb<=b.length) {m:Nat} (hm:m<=na) (h:∀i,m<=i->i<na -> ∀x y,a[i]? = some x->b[nb-1]? = some y->lt x y=false):Mh lt a b (out++((a.drop m).take (na-m)).reverse) m nb:=by
 have:=Mg.takeBs (lt:=fun x y=>lt y x) C.flip (List.pairwise_reverse.mpr sb) (List.pairwise_reverse.mpr sa) g (na-m) (by rw [List.length_reverse];lia) fun i hi x y hx hy=>by
  have hp:0<nb:=by
   have:=(List.getElem?_eq_some_iff.mp hy).1
   rw [List.length_reverse] at this
   lia
  rw [Gv hp hb] at hy
  rw [show a.length-na+i=a.length-(na-i) by lia,Gv (by lia) (by lia)] at hx
  exact h (na-i-1) (by lia) (by lia) x y hx hy
 unfold Mh
 rw [ZdY ha hm] at this
 rw [show a.length-m=a.length-na+(na-m) by lia]
 exact this
theorem Mh.takeBs (C:Wo lt) {a b out:List Keyed}{na nb:Nat} (g:Mh lt a b out na nb) (sa:JX lt a) (sb:JX lt b) (ha:na<=a.length) (hb:nb<=b.length) {m:Nat} (hm:m<=nb) (h:∀i,m<=i->i<nb -> ∀x y,b[i]? = some x->a[na-1]? = some y->lt x y=false):Mh lt a b (out++((b.drop m).take (nb-m)).reverse) na m:=by
 have:=Mg.takeAs (lt:=fun x y=>lt y x) C.flip (List.pairwise_reverse.mpr sb) (List.pairwise_reverse.mpr sa) g (nb-m) (by rw [List.length_reverse];lia) fun i hi x y hx hy=>by
  have hp:0<na:=by
   have:=(List.getElem?_eq_some_iff.mp hy).1
   rw [List.length_reverse] at this
   lia
  rw [Gv hp ha] at hy
  rw [show b.length-nb+i=b.length-(nb-i) by lia,Gv (by lia) (by lia)] at hx
  exact h (nb-i-1) (by lia) (by lia) x y hx hy
 unfold Mh
 rw [ZdY hb hm] at this
 rw [show b.length-m=b.length-nb+(nb-m) by lia]
 exact this
theorem ZL {l:Array Keyed}{m n:Nat}:(l.extract m n).toList=(l.toList.drop m).take (n-m):=by
 rw [Array.toList_extract,List.extract_eq_take_drop]
theorem Jp {l:Array Keyed}{n:Nat}:(l.extract 0 n).toList=l.toList.take n:=by
 rw [Array.toList_extract,List.extract_eq_take_drop];simp
theorem Ze4 (C:Cmp prog w A E s kd D lt) {a b:Array Keyed}{st:SortSt}{Q:Array Keyed->SortSt->Prop} (hda:∀x∈a.toList,D x) (hdb:∀x∈b.toList,D x) (sa:JX lt a.toList) (sb:JX lt b.toList) (hs:kindOf st=kd)
  (na0:0<a.toList.length) (nb0:0<b.toList.length) (hf:∀x y,a.toList[0]? = some x->b.toList[0]? = some y->lt x y=false) (hl:∀x,a.toList[a.toList.length-1]? = some x -> ∀y∈b.toList,lt x y=false)
  (h:∀r st',Mgd lt a.toList b.toList r.toList->Eqg st st'->Q r st'):wpS (model prog w) A E s (Ziu a b) Q st:=by
 have za:a.size=a.toList.length:=by simp
 have zb:b.size=b.toList.length:=by simp
 have ea:∀i,i<a.toList.length -> ∃x,a[i]? = some x/\D x/\a.toList[i]? = some x:=fun i hi=>⟨a.toList[i],by rw [<- Array.getElem?_toList];exact List.getElem?_eq_getElem hi,hda _ (List.getElem_mem hi),List.getElem?_eq_getElem hi⟩
 have eb:∀i,i<b.toList.length -> ∃x,b[i]? = some x/\D x/\b.toList[i]? = some x:=fun i hi=>⟨b.toList[i],by rw [<- Array.getElem?_toList];exact List.getElem?_eq_getElem hi,hdb _ (List.getElem_mem hi),List.getElem?_eq_getElem hi⟩
 have hfb:∀x,b.toList[0]? = some x -> ∀y∈a.toList,lt y x=false:=fun x hx y hy=>by
  obtain ⟨i,hi,rfl⟩:=List.getElem_of_mem hy
  obtain ⟨a0,_,_,la0⟩:=ea 0 na0
  exact C.wo.leT (hf a0 x la0 hx) (Ub C.wo sa la0 (List.getElem?_eq_getElem hi) (Nat.zero_le _))
 refine wpS_bind (wpS_lift (wpAny_rule ⟨rfl,?_⟩))
 obtain ⟨x0,hx0,dx0,lx0⟩:=ea (a.size-1) (by lia)
 refine wpS_bind (Z9 hx0 ?_)
 have g0:Mh lt a.toList b.toList [x0] (a.size-1) b.size:=by
  have g:Mh lt a.toList b.toList [] a.toList.length b.toList.length:=⟨.nil,by
   simp only [Nat.sub_self,List.drop_zero,List.nil_append]
   exact List.Perm.refl _,fun p hp=>(by cases hp)⟩
  have:=g.takeA C.wo sa sb na0 (Nat.le_refl _) (Nat.le_refl _) (by rw [<- za];exact lx0) fun _ y hy=>hl x0 (by rw [<- za];exact lx0) y (List.mem_of_getElem? hy)
  rw [za,zb]
  exact this
 show wpS _ _ _ _ (if (a.size-1==0)=true then _ else if (b.size==1)=true then _ else _) _ _
 refine ZN (fun c1=>?_) (fun c1=>ZN (fun c2=>?_) (fun c2=>?_))
 ·refine wpS_pure (h _ st ?_ (Eqg.refl st))
  have:=g0.done sa sb (by lia) (by lia) (.inl (eq_of_beq c1))
  simp only [Array.toList_append,Array.toList_reverse,Jp] at this ⊢
  exact this
 ·refine wpS_pure (h _ st ?_ (Eqg.refl st))
  have:=g0.firstB sa (by lia) (by lia) (eq_of_beq c2) hfb
  simp only [Array.toList_append,Array.toList_reverse,Jp] at this ⊢
  exact this
 have c1':=ZY c1
 have c2':=ZY c2
 refine wpS_bind (wpS_get ?_)
 refine wpS_bind (wpS_mono (wpS_forRange (I:=fun x c st'=>∃(out:Array Keyed) (na nb mg:Nat),c=(none,na,nb,out,mg)/\Mh lt a.toList b.toList out.toList na nb/\0<na/\na<=a.toList.length/\1<nb/\nb<=b.toList.length/\x+na+nb<=a.size+b.size/\Eqg st st')
  (Q:=fun c st'=>∃r,c.1=some r/\Mgd lt a.toList b.toList r.toList/\Eqg st st') ?_ ?_ ⟨#[x0],a.size-1,b.size,_,rfl,g0,by lia,by lia,by lia,by lia,by lia,Eqg.refl st⟩) ?_)
 ·rintro x c st1 _ hx ⟨out,na,nb,mg,rfl,g,l1,l1',l2,l2',l3,q1⟩
  refine wpS_bind (wpS_mono (wpS_forRange (I:=fun y c st'=>st'=st1 /\ ∃(out:Array Keyed) (na nb ac bc:Nat),c=(none,na,nb,out,ac,bc)/\Mh lt a.toList b.toList out.toList na nb/\0<na/\na<=a.toList.length/\1<nb/\nb<=b.toList.length/\x+y+na+nb<=a.size+b.size)
   (Q:=fun c st'=>st'=st1/\((∃(out:Array Keyed) (na nb ac bc:Nat),c=(none,na,nb,out,ac,bc)/\Mh lt a.toList b.toList out.toList na nb/\0<na/\na<=a.toList.length/\1<nb/\nb<=b.toList.length/\x+1+na+nb<=a.size+b.size) ∨ ∃r,c.1=some r/\Mgd lt a.toList b.toList r.toList)) ?_ ?_ ⟨rfl,out,na,nb,0,0,rfl,g,l1,l1',l2,l2',l3⟩) ?_)
  ·rintro y c st' _ hy ⟨rfl,out,na,nb,ac,bc,rfl,g,l1,l1',l2,l2',l3⟩
   obtain ⟨xb,hb,db,lb⟩:=eb (nb-1) (by lia)
   obtain ⟨xa,ha,da,la⟩:=ea (na-1) (by lia)
   refine wpS_bind (Z9 hb (wpS_bind (Z9 ha (wpS_bind (C.cmp xb xa _ _ db da (q1.1.trans hs) ?_)))))
   cases e:lt xb xa with
   | true=>
    refine wpS_bind (Z9 ha ?_)
    have g':=g.takeA C.wo sa sb l1 l1' l2' la fun _ y hy=>by rw [lb] at hy;cases hy;exact C.wo.asym _ _ e
    refine ZN (c:=(na-1==0)) (fun c3=>?_) (fun c3=>?_)
    ·refine wpS_pure ⟨rfl,.inr ⟨_,rfl,?_⟩⟩
     have:=g'.done sa sb (by lia) l2' (.inl (eq_of_beq c3))
     simp only [Array.toList_append,Array.toList_push,Array.toList_reverse,Jp,ZL] at this ⊢
     exact this
    ·have c4:=ZY c3
     dsimp only
     split
     ·exact wpS_pure ⟨rfl,.inl ⟨out.push xa,na-1,nb,_,_,rfl,by rw [Array.toList_push];exact g',by lia,by lia,l2,l2',by lia⟩⟩
     ·exact wpS_pure ⟨rfl,out.push xa,na-1,nb,_,_,rfl,by rw [Array.toList_push];exact g',by lia,by lia,l2,l2',by lia⟩
   | false=>
    refine wpS_bind (Z9 hb ?_)
    have g':=g.takeB C.wo sa sb (by lia) l1' l2' lb fun _ y hy=>by rw [la] at hy;cases hy;exact e
    refine ZN (c:=(nb-1==1)) (fun c3=>?_) (fun c3=>?_)
    ·refine wpS_pure ⟨rfl,.inr ⟨_,rfl,?_⟩⟩
     have:=g'.firstB sa l1' (by lia) (eq_of_beq c3) hfb
     simp only [Array.toList_append,Array.toList_push,Array.toList_reverse,Jp,ZL] at this ⊢
     exact this
    ·have c4:=ZY c3
     dsimp only
     split
     ·exact wpS_pure ⟨rfl,.inl ⟨out.push xb,na,nb-1,_,_,rfl,by rw [Array.toList_push];exact g',l1,l1',by lia,by lia,by lia⟩⟩
     ·exact wpS_pure ⟨rfl,out.push xb,na,nb-1,_,_,rfl,by rw [Array.toList_push];exact g',l1,l1',by lia,by lia,by lia⟩
  ·rintro c st' ⟨rfl,out,na,nb,ac,bc,rfl,g,l1,l1',l2,l2',l3⟩
   lia
  ·rintro c st' ⟨rfl,⟨out,na,nb,ac,bc,rfl,g,l1,l1',l2,l2',l3⟩ | ⟨r,hr,hm⟩⟩
   ·refine wpS_bind (wpS_lift (wpAny_rule ⟨rfl,?_⟩))
    refine wpS_bind (wpS_mono (wpS_forRange (I:=fun y c st'=>Eqg st st' /\ ∃(out:Array Keyed) (na nb mg ac bc:Nat),c=(none,na,nb,out,mg,ac,bc)/\Mh lt a.toList b.toList out.toList na nb/\0<na/\na<=a.toList.length/\1<nb/\nb<=b.toList.length/\x+1+y+na+nb<=a.size+b.size)
     (Q:=fun c st'=>Eqg st st'/\((∃(out:Array Keyed) (na nb mg ac bc:Nat),c=(none,na,nb,out,mg,ac,bc)/\Mh lt a.toList b.toList out.toList na nb/\0<na/\na<=a.toList.length/\1<nb/\nb<=b.toList.length/\x+1+na+nb<=a.size+b.size) ∨ ∃r,c.1=some r/\Mgd lt a.toList b.toList r.toList)) ?_ ?_ ⟨q1,out,na,nb,_,ac,bc,rfl,g,l1,l1',l2,l2',l3⟩) ?_)
    ·rintro y c st2 _ hy ⟨q2,out,na,nb,mg,ac,bc,rfl,g,l1,l1',l2,l2',l3⟩
     obtain ⟨xb,hb,db,lb⟩:=eb (nb-1) (by lia)
     refine Jr (k:=mg) (n:=1) (fun _=>?_) (fun _=>?_)
     all_goals (
      refine wpS_bind (wpS_modify ?_)
      refine wpS_bind (Z9 hb ?_)
      refine wpS_bind (Jd (left:=false) (arr:=a) (base:=0) (n:=na) (hint:=na-1) C db (fun i hi=>let ⟨x,h1,h2,_⟩:=ea (0+i) (by lia);⟨x,h1,h2⟩) (by lia) (q2.1.trans hs) (WQ C sa (by lia)) fun k hk k1 k2=>?_)
      have gk:=g.takeAs C.wo sa sb (by lia) (by lia) (m:=k) (by lia) fun i h1 h2 x y hx hy=>by
       have:=k2 i h1 h2
       rw [Jq (by rw [Nat.zero_add];exact hx)] at this
       rw [lb] at hy
       cases hy
       exact C.wo.asym _ _ (by simpa using this)
      have m3:0<k -> ∀y,a.toList[k-1]? = some y->lt xb y=false:=fun hp y hy=>by
       have:=k1 (k-1) (by lia)
       rw [Jq (by rw [Nat.zero_add];exact hy)] at this
       simpa using this
      refine Jr (k:=na-k) (n:=0) (fun k0=>?_) (fun k0=>?_)
      ·refine ZN (c:=(k==0)) (fun c3=>?_) (fun c3=>?_)
       ·refine wpS_pure ⟨q2,.inr ⟨_,rfl,?_⟩⟩
        have:=gk.done sa sb (by lia) (by lia) (.inl (eq_of_beq c3))
        simp only [Array.toList_append,Array.toList_push,Array.toList_reverse,Jp,ZL] at this ⊢
        exact this
       ·have c3':=ZY c3
        have g1:Mh lt a.toList b.toList (out++(a.extract k na).reverse).toList k nb:=by
         simp only [Array.toList_append,Array.toList_push,Array.toList_reverse,Jp,ZL] at gk ⊢
         exact gk
        refine wpS_bind (Z9 hb ?_)
        have g2:=g1.takeB C.wo sa sb (by lia) (by lia) (by lia) lb m3
        refine ZN (c:=(nb-1==1)) (fun c5=>?_) (fun c5=>?_)
        ·refine wpS_pure ⟨q2,.inr ⟨_,rfl,?_⟩⟩
         have:=g2.firstB sa (by lia) (by lia) (eq_of_beq c5) hfb
         simp only [Array.toList_append,Array.toList_push,Array.toList_reverse,Jp,ZL] at this ⊢
         exact this
        ·have c6:=ZY c5
         obtain ⟨xa,ha,da,la⟩:=ea (k-1) (by lia)
         refine wpS_bind (Z9 ha ?_)
         refine wpS_bind (Jd (left:=true) (arr:=b) (base:=0) (n:=nb-1) (hint:=nb-1-1) C da (fun i hi=>let ⟨x,h1,h2,_⟩:=eb (0+i) (by lia);⟨x,h1,h2⟩) (by lia) (q2.1.trans hs) (WQ C sb (by lia)) fun k' hk' k1' k2'=>?_)
         have gk':=g2.takeBs C.wo sa sb (by lia) (by lia) (m:=k') (by lia) fun i h1 h2 x y hx hy=>by
          have:=k2' i h1 h2
          rw [YK (by rw [Nat.zero_add];exact hx)] at this
          rw [la] at hy
          cases hy
          exact this
         have m5:0<k' -> ∀y,b.toList[k'-1]? = some y->lt xa y=false:=fun hp y hy=>by
          have:=k1' (k'-1) (by lia)
          rw [YK (by rw [Nat.zero_add];exact hy)] at this
          exact C.wo.asym _ _ this
         refine Jr (k:=nb-1-k') (n:=0) (fun k0'=>?_) (fun k0'=>?_)
         ·refine ZN (c:=(k'==1)) (fun c9=>?_) (fun c9=>ZN (c:=(k'==0)) (fun c10=>?_) (fun c10=>?_))
          ·refine wpS_pure ⟨q2,.inr ⟨_,rfl,?_⟩⟩
           have:=gk'.firstB sa (by lia) (by lia) (eq_of_beq c9) hfb
           simp only [Array.toList_append,Array.toList_push,Array.toList_reverse,Jp,ZL] at this ⊢
           exact this
          ·refine wpS_pure ⟨q2,.inr ⟨_,rfl,?_⟩⟩
           have:=gk'.done sa sb (by lia) (by lia) (.inr (eq_of_beq c10))
           simp only [Array.toList_append,Array.toList_push,Array.toList_reverse,Jp,ZL] at this ⊢
           exact this
          ·have c9':=ZY c9
           have c10':=ZY c10
           have m4:=m5
           have g3:Mh lt a.toList b.toList (((out++(a.extract k na).reverse).push xb)++(b.extract k' (nb-1)).reverse).toList (k) k':=by
            simp only [Array.toList_append,Array.toList_push,Array.toList_reverse,Jp,ZL] at gk' ⊢
            exact gk'
           refine wpS_bind (Z9 ha ?_)
           have g4:=g3.takeA C.wo sa sb (by lia) (by lia) (by lia) la m4
           refine ZN (c:=((k)-1==0)) (fun c7=>?_) (fun c7=>?_)
           ·refine wpS_pure ⟨q2,.inr ⟨_,rfl,?_⟩⟩
            have:=g4.done sa sb (by lia) (by lia) (.inl (eq_of_beq c7))
            simp only [Array.toList_append,Array.toList_push,Array.toList_reverse,Jp,ZL] at this ⊢
            exact this
           ·have c8:=ZY c7
            refine ZN (fun _=>?_) (fun _=>?_)
            ·exact wpS_pure ⟨q2,.inl ⟨(((out++(a.extract k na).reverse).push xb)++(b.extract k' (nb-1)).reverse).push xa,(k)-1,k',_,_,_,rfl,by rw [Array.toList_push];exact g4,by lia,by lia,by lia,by lia,by lia⟩⟩
            ·exact wpS_pure ⟨q2,(((out++(a.extract k na).reverse).push xb)++(b.extract k' (nb-1)).reverse).push xa,(k)-1,k',_,_,_,rfl,by rw [Array.toList_push];exact g4,by lia,by lia,by lia,by lia,by lia⟩
         ·obtain rfl:k'=nb-1:=by lia
          have m4:=m5
          have g3:Mh lt a.toList b.toList ((out++(a.extract k na).reverse).push xb).toList (k) (nb-1):=by
           rw [Array.toList_push]
           exact g2
          refine wpS_bind (Z9 ha ?_)
          have g4:=g3.takeA C.wo sa sb (by lia) (by lia) (by lia) la m4
          refine ZN (c:=((k)-1==0)) (fun c7=>?_) (fun c7=>?_)
          ·refine wpS_pure ⟨q2,.inr ⟨_,rfl,?_⟩⟩
           have:=g4.done sa sb (by lia) (by lia) (.inl (eq_of_beq c7))
           simp only [Array.toList_append,Array.toList_push,Array.toList_reverse,Jp,ZL] at this ⊢
           exact this
          ·have c8:=ZY c7
           refine ZN (fun _=>?_) (fun _=>?_)
           ·exact wpS_pure ⟨q2,.inl ⟨((out++(a.extract k na).reverse).push xb).push xa,(k)-1,(nb-1),_,_,_,rfl,by rw [Array.toList_push];exact g4,by lia,by lia,by lia,by lia,by lia⟩⟩
           ·exact wpS_pure ⟨q2,((out++(a.extract k na).reverse).push xb).push xa,(k)-1,(nb-1),_,_,_,rfl,by rw [Array.toList_push];exact g4,by lia,by lia,by lia,by lia,by lia⟩
      ·obtain rfl:k=na:=by lia
       have g1:=g
       refine wpS_bind (Z9 hb ?_)
       have g2:=g1.takeB C.wo sa sb (by lia) (by lia) (by lia) lb m3
       refine ZN (c:=(nb-1==1)) (fun c5=>?_) (fun c5=>?_)
       ·refine wpS_pure ⟨q2,.inr ⟨_,rfl,?_⟩⟩
        have:=g2.firstB sa (by lia) (by lia) (eq_of_beq c5) hfb
        simp only [Array.toList_append,Array.toList_push,Array.toList_reverse,Jp,ZL] at this ⊢
        exact this
       ·have c6:=ZY c5
        obtain ⟨xa,ha,da,la⟩:=ea (k-1) (by lia)
        refine wpS_bind (Z9 ha ?_)
        refine wpS_bind (Jd (left:=true) (arr:=b) (base:=0) (n:=nb-1) (hint:=nb-1-1) C da (fun i hi=>let ⟨x,h1,h2,_⟩:=eb (0+i) (by lia);⟨x,h1,h2⟩) (by lia) (q2.1.trans hs) (WQ C sb (by lia)) fun k' hk' k1' k2'=>?_)
        have gk':=g2.takeBs C.wo sa sb (by lia) (by lia) (m:=k') (by lia) fun i h1 h2 x y hx hy=>by
         have:=k2' i h1 h2
         rw [YK (by rw [Nat.zero_add];exact hx)] at this
         rw [la] at hy
         cases hy
         exact this
        have m5:0<k' -> ∀y,b.toList[k'-1]? = some y->lt xa y=false:=fun hp y hy=>by
         have:=k1' (k'-1) (by lia)
         rw [YK (by rw [Nat.zero_add];exact hy)] at this
         exact C.wo.asym _ _ this
        refine Jr (k:=nb-1-k') (n:=0) (fun k0'=>?_) (fun k0'=>?_)
        ·refine ZN (c:=(k'==1)) (fun c9=>?_) (fun c9=>ZN (c:=(k'==0)) (fun c10=>?_) (fun c10=>?_))
         ·refine wpS_pure ⟨q2,.inr ⟨_,rfl,?_⟩⟩
          have:=gk'.firstB sa (by lia) (by lia) (eq_of_beq c9) hfb
          simp only [Array.toList_append,Array.toList_push,Array.toList_reverse,Jp,ZL] at this ⊢
          exact this
         ·refine wpS_pure ⟨q2,.inr ⟨_,rfl,?_⟩⟩
          have:=gk'.done sa sb (by lia) (by lia) (.inr (eq_of_beq c10))
          simp only [Array.toList_append,Array.toList_push,Array.toList_reverse,Jp,ZL] at this ⊢
          exact this
         ·have c9':=ZY c9
          have c10':=ZY c10
          have m4:=m5
          have g3:Mh lt a.toList b.toList ((out.push xb)++(b.extract k' (nb-1)).reverse).toList (k) k':=by
           simp only [Array.toList_append,Array.toList_push,Array.toList_reverse,Jp,ZL] at gk' ⊢
           exact gk'
          refine wpS_bind (Z9 ha ?_)
          have g4:=g3.takeA C.wo sa sb (by lia) (by lia) (by lia) la m4
          refine ZN (c:=((k)-1==0)) (fun c7=>?_) (fun c7=>?_)
          ·refine wpS_pure ⟨q2,.inr ⟨_,rfl,?_⟩⟩
           have:=g4.done sa sb (by lia) (by lia) (.inl (eq_of_beq c7))
           simp only [Array.toList_append,Array.toList_push,Array.toList_reverse,Jp,ZL] at this ⊢
           exact this
          ·have c8:=ZY c7
           refine ZN (fun _=>?_) (fun _=>?_)
           ·exact wpS_pure ⟨q2,.inl ⟨((out.push xb)++(b.extract k' (nb-1)).reverse).push xa,(k)-1,k',_,_,_,rfl,by rw [Array.toList_push];exact g4,by lia,by lia,by lia,by lia,by lia⟩⟩
           ·exact wpS_pure ⟨q2,((out.push xb)++(b.extract k' (nb-1)).reverse).push xa,(k)-1,k',_,_,_,rfl,by rw [Array.toList_push];exact g4,by lia,by lia,by lia,by lia,by lia⟩
        ·obtain rfl:k'=nb-1:=by lia
         have m4:=m5
         have g3:Mh lt a.toList b.toList (out.push xb).toList (k) (nb-1):=by
          rw [Array.toList_push]
          exact g2
         refine wpS_bind (Z9 ha ?_)
         have g4:=g3.takeA C.wo sa sb (by lia) (by lia) (by lia) la m4
         refine ZN (c:=((k)-1==0)) (fun c7=>?_) (fun c7=>?_)
         ·refine wpS_pure ⟨q2,.inr ⟨_,rfl,?_⟩⟩
          have:=g4.done sa sb (by lia) (by lia) (.inl (eq_of_beq c7))
          simp only [Array.toList_append,Array.toList_push,Array.toList_reverse,Jp,ZL] at this ⊢
          exact this
         ·have c8:=ZY c7
          refine ZN (fun _=>?_) (fun _=>?_)
          ·exact wpS_pure ⟨q2,.inl ⟨(out.push xb).push xa,(k)-1,(nb-1),_,_,_,rfl,by rw [Array.toList_push];exact g4,by lia,by lia,by lia,by lia,by lia⟩⟩
          ·exact wpS_pure ⟨q2,(out.push xb).push xa,(k)-1,(nb-1),_,_,_,rfl,by rw [Array.toList_push];exact g4,by lia,by lia,by lia,by lia,by lia⟩)
    ·rintro c st' ⟨q2,out,na,nb,mg,ac,bc,rfl,g,l1,l1',l2,l2',l3⟩
     lia
    ·rintro c st' ⟨q2,⟨out,na,nb,mg,ac,bc,rfl,g,l1,l1',l2,l2',l3⟩ | ⟨r,hr,hm⟩⟩
     ·exact wpS_bind (wpS_modify (wpS_pure ⟨out,na,nb,_,rfl,g,l1,l1',l2,l2',l3,q2⟩))
     ·obtain ⟨c1,c2⟩:=c
      dsimp only at hr
      subst hr
      exact wpS_pure ⟨r,rfl,hm,q2⟩
   ·obtain ⟨c1,c2⟩:=c
    dsimp only at hr
    subst hr
    exact wpS_pure ⟨r,rfl,hm,q1⟩
 ·rintro c st' ⟨out,na,nb,mg,rfl,g,l1,l1',l2,l2',l3,q1⟩
  lia
 ·rintro c st' ⟨r,hr,hm,q1⟩
  obtain ⟨c1,c2⟩:=c
  dsimp only at hr
  subst hr
  exact wpS_pure (h r st' hm q1)
end
def ZgK:Nat->Nat->StateT SortSt Sem (Option Nat):=sortPriv% PySem.Builtin.countRun
def Zd7:Nat->Nat->Nat->StateT SortSt Sem Bool:=sortPriv% PySem.Builtin.binarySort
def ZgR:StateT SortSt Sem Unit:=sortPriv% PySem.Builtin.sortRuns
theorem Zeb:∀(M:List Keyed) (n o:Nat) (arr:Array Keyed) (A B C:List Keyed),arr.toList=A++(B++C)->A.length=o+n->B.length=M.length ->
  ((M.zipIdx n).foldl (fun a x=>match x with | (p,j)=>a.setIfInBounds (o+j) p) arr).toList=A++(M++C)
 | [],n,o,arr,A,B,C,h,_,hb=>by
  obtain rfl:B = []:=List.length_eq_zero_iff.mp hb
  simpa using h
 | x::M,n,o,arr,A,[],C,h,_,hb=>by cases hb
 | x::M,n,o,arr,A,y::B,C,h,ha,hb=>by
  rw [List.zipIdx_cons,List.foldl_cons]
  have e:(arr.setIfInBounds (o+n) x).toList=(A ++ [x])++(B++C):=by
   rw [Array.toList_setIfInBounds,h,<- ha,List.set_append_right _ _ (Nat.le_refl _),Nat.sub_self]
   simp
  have:=Zeb M (n+1) o _ (A ++ [x]) B C e (by simp;lia) (by simpa using hb)
  rw [this]
  simp
section
variable {prog:Program}{w:World}{A:Around}{E:Value->Shared->Prop}{s:Shared}{kd:SortKind}{D:Keyed->Prop}{lt:Keyed->Keyed->Bool}
theorem ZjG {M:Model}{st st':SortSt}{Q:PUnit->SortSt->Prop} (h:Q ⟨⟩ st'):wpS M A E s (set st':StateT SortSt Sem PUnit) Q st:=by
 unfold wpS;rw [StateT.run_set];exact wpAny_pure ⟨rfl,h⟩
theorem Ui {left:Bool}{key:Keyed}{arr:Array Keyed}{base i:Nat}{x:Keyed} (e:arr.toList[base+i]? = some x):UL lt left key arr base i=if left=true then lt x key else !lt key x:=by
 cases left with
 | true=>rw [YK e];rfl
 | false=>rw [Jq e];rfl
theorem ZcO (C:Wo lt) {left:Bool}{key:Keyed}{arr:Array Keyed}{base:Nat}{X:List Keyed} (hX:∀i,i<X.length->arr.toList[base+i]? = X[i]?) (sX:JX lt X):
  ∀i j,i<=j->j<X.length->UL lt left key arr base j=true->UL lt left key arr base i=true:=fun i j hij hj h=>by
 have hi:i<X.length:=by lia
 have ei:arr.toList[base+i]? = some X[i]:=by rw [hX i hi,List.getElem?_eq_getElem hi]
 have ej:arr.toList[base+j]? = some X[j]:=by rw [hX j hj,List.getElem?_eq_getElem hj]
 have le:=Ub C sX (List.getElem?_eq_getElem (by lia:i<X.length)) (List.getElem?_eq_getElem hj) hij
 rw [Ui ej] at h
 rw [Ui ei]
 cases left with
 | true=>
  simp only [if_true] at h ⊢
  rcases C.neg _ (X[i]'(by lia)) _ h with z | z
  ·rw [z] at le;cases le
  ·exact z
 | false=>
  simp only [Bool.false_eq_true,if_false] at h ⊢
  cases z:lt key (X[i]'(by lia)) with
  | false=>rfl
  | true=>
   rcases C.neg _ (X[j]'hj) _ z with y | y
   ·rw [y] at h;cases h
   ·rw [y] at le;cases le
theorem ZeH (C:Cmp prog w A E s kd D lt) {i sa na pw sb nb pw2:Nat}{st:SortSt}{P X Y S:List Keyed}{Q:Bool->SortSt->Prop}
  (hp1:(pendingOf st)[i]? = some (sa,na,pw)) (hp2:(pendingOf st)[i+1]? = some (sb,nb,pw2)) (hA:(arrOf st).toList=P++(X++(Y++S))) (hsa:sa=P.length) (hna:na=X.length) (hsb:sb=P.length+X.length) (hnb:nb=Y.length)
  (x0:0<X.length) (y0:0<Y.length) (sX:JX lt X) (sY:JX lt Y) (hD:∀x∈(arrOf st).toList,D x) (hk:kindOf st=kd) (hf:failedOf st=none)
  (h:∀Z st',JX lt Z->Z.Perm (X++Y)->(arrOf st').toList=P++(Z++S)->pendingOf st'=((pendingOf st).setIfInBounds i (sa,na+nb,pw)).eraseIdxIfInBounds (i+1)->kindOf st'=kd->failedOf st'=none->Q true st'):
  wpS (model prog w) A E s (Zd6 i) Q st:=by
 subst hsa hna hsb hnb
 have eX:∀j,j<X.length->(arrOf st).toList[P.length+j]? = X[j]?:=fun j hj=>by
  rw [hA,List.getElem?_append_right (by omega),Nat.add_sub_cancel_left,List.getElem?_append_left hj]
 have eY:∀j,j<Y.length->(arrOf st).toList[P.length+X.length+j]? = Y[j]?:=fun j hj=>by
  rw [hA,List.getElem?_append_right (by omega),List.getElem?_append_right (by omega),List.getElem?_append_left (by omega)]
  congr 1;omega
 have dX:∀x∈X,D x:=fun x hx=>hD x (by rw [hA];simp [hx])
 have dY:∀x∈Y,D x:=fun x hx=>hD x (by rw [hA];simp [hx])
 refine wpS_bind (wpS_get ?_)
 rw [show (sortPriv% PySem.Builtin.SortState.pending) st=pendingOf st from rfl,hp1,hp2]
 refine wpS_bind (ZjG ?_)
 have ey0:(arrOf st)[P.length+X.length]? = some (Y[0]'y0):=by
  have:=eY 0 y0
  rw [<- Array.getElem?_toList,Nat.add_zero] at *
  rw [this,List.getElem?_eq_getElem y0]
 refine wpS_bind (Z9 ey0 ?_)
 refine wpS_bind (Jd (left:=false) (arr:=arrOf st) (base:=P.length) (n:=X.length) (hint:=0) C (dY _ (List.getElem_mem y0)) (fun j hj=>⟨X[j],by rw [<- Array.getElem?_toList,eX j hj,List.getElem?_eq_getElem hj],dX _ (List.getElem_mem hj)⟩) x0 hk (ZcO C.wo eX sX) fun k hk1 k1 k2=>?_)
 have f1:∀j (hj:j<X.length),j<k->lt (Y[0]'y0) X[j]=false:=fun j hj hjk=>by
  have:=k1 j hjk
  rw [Ui (by rw [eX j hj,List.getElem?_eq_getElem hj])] at this
  simpa using this
 have f2:∀j (hj:j<X.length),k<=j->lt (Y[0]'y0) X[j]=true:=fun j hj hjk=>by
  have:=k2 j hjk hj
  rw [Ui (by rw [eX j hj,List.getElem?_eq_getElem hj])] at this
  simpa using this
 have lowX:∀x∈X.take k,∀y∈Y,lt y x=false:=fun x hx y hy=>by
  obtain ⟨j,hj,rfl⟩:=List.getElem_of_mem hx
  rw [List.length_take] at hj
  rw [List.getElem_take]
  obtain ⟨j2,hj2,rfl⟩:=List.getElem_of_mem hy
  exact C.wo.leT (f1 j (by omega) (by omega)) (Ub C.wo sY (List.getElem?_eq_getElem y0) (List.getElem?_eq_getElem hj2) (Nat.zero_le _))
 refine ZN (c:=(X.length-k==0)) (fun c1=>?_) (fun c1=>?_)
 ·refine wpS_pure (h (X++Y) _ ?_ (List.Perm.refl _) (by rw [List.append_assoc];exact hA) rfl hk hf)
  have ek:X.take k=X:=List.take_of_length_le (by have:=eq_of_beq c1;omega)
  rw [ek] at lowX
  exact List.pairwise_append.mpr ⟨sX,sY,lowX⟩
 have c1':=ZY c1
 have exl:(arrOf st)[P.length+k+(X.length-k)-1]? = some (X[X.length-1]'(by omega)):=by
  have:=eX (X.length-1) (by omega)
  rw [<- Array.getElem?_toList,show P.length+k+(X.length-k)-1=P.length+(X.length-1) by omega,this,List.getElem?_eq_getElem (by omega)]
 refine wpS_bind (Z9 exl ?_)
 refine wpS_bind (Jd (left:=true) (arr:=arrOf st) (base:=P.length+X.length) (n:=Y.length) (hint:=Y.length-1) C (dX _ (List.getElem_mem (by omega))) (fun j hj=>⟨Y[j],by rw [<- Array.getElem?_toList,eY j hj,List.getElem?_eq_getElem hj],dY _ (List.getElem_mem hj)⟩) (by omega) hk (ZcO C.wo eY sY) fun m hm1 m1 m2=>?_)
 have f3:∀j (hj:j<Y.length),j<m->lt Y[j] (X[X.length-1]'(by omega))=true:=fun j hj hjm=>by
  have:=m1 j hjm
  rw [Ui (by rw [eY j hj,List.getElem?_eq_getElem hj])] at this
  simpa using this
 have f4:∀j (hj:j<Y.length),m<=j->lt Y[j] (X[X.length-1]'(by omega))=false:=fun j hj hjm=>by
  have:=m2 j hjm hj
  rw [Ui (by rw [eY j hj,List.getElem?_eq_getElem hj])] at this
  simpa using this
 have m0:m≠0:=fun z=>by
  have:=f4 0 y0 (by omega)
  rw [f2 (X.length-1) (by omega) (by omega)] at this
  cases this
 refine ZN (c:=(m==0)) (fun c2=>absurd (eq_of_beq c2) m0) (fun c2=>?_)
 have tx:((arrOf st).extract (P.length+k) (P.length+X.length)).toList=X.drop k:=by
  rw [ZL,hA,List.drop_append,List.drop_eq_nil_of_le (by omega),List.nil_append,show P.length+k-P.length=k by omega,List.drop_append_of_le_length (by omega),List.take_append_of_le_length (by rw [List.length_drop];omega),List.take_of_length_le (by rw [List.length_drop];omega)]
 have ty:((arrOf st).extract (P.length+X.length) (P.length+X.length+m)).toList=Y.take m:=by
  rw [ZL,hA,<- List.append_assoc,List.drop_append,List.drop_eq_nil_of_le (by simp),List.nil_append,List.length_append,Nat.sub_self,List.drop_zero,List.take_append_of_le_length (by omega)]
  congr 1;omega
 have sX2:JX lt (X.drop k):=Jm sX k
 have sY1:JX lt (Y.take m):=List.Pairwise.sublist (List.take_sublist _ _) sY
 have lX2:(X.drop k).length=X.length-k:=List.length_drop
 have lY1:(Y.take m).length=m:=by rw [List.length_take];omega
 have hff:∀x y,(X.drop k)[0]? = some x->(Y.take m)[0]? = some y->lt x y=false:=fun x y hx hy=>by
  rw [List.getElem?_drop,Nat.add_zero,List.getElem?_eq_getElem (by omega)] at hx
  rw [List.getElem?_take_of_lt (by omega),List.getElem?_eq_getElem y0] at hy
  cases hx;cases hy
  exact C.wo.asym _ _ (f2 k (by omega) (Nat.le_refl _))
 have hll:∀x,(X.drop k)[(X.drop k).length-1]? = some x -> ∀y∈Y.take m,lt x y=false:=fun x hx y hy=>by
  rw [lX2,List.getElem?_drop,show k+(X.length-k-1)=X.length-1 by omega,List.getElem?_eq_getElem (by omega)] at hx
  cases hx
  obtain ⟨j,hj,rfl⟩:=List.getElem_of_mem hy
  rw [lY1] at hj
  rw [List.getElem_take]
  exact C.wo.asym _ _ (f3 j (by omega) hj)
 have fin:∀(r:Array Keyed) (st':SortSt),Mgd lt (X.drop k) (Y.take m) r.toList->Eqg (SortSt.mk' (kindOf st) (arrOf st) (((pendingOf st).setIfInBounds i (P.length,X.length+Y.length,pw)).eraseIdxIfInBounds (i+1)) (gallopOf st) (failedOf st)) st' ->
   Q true (SortSt.mk' (kindOf st') (List.foldl (fun a x=>match x with | (p,j)=>a.setIfInBounds (P.length+k+j) p) (arrOf st') r.toList.zipIdx) (pendingOf st') (gallopOf st') (failedOf st')):=fun r st' hm q=>by
  obtain ⟨q1,q2,q3,q4⟩:=q
  refine h (X.take k++(r.toList++Y.drop m)) _ ?_ ?_ ?_ q3 (q1.trans hk) (q4.trans hf)
  ·have rle:∀p∈r.toList,∀q∈Y.drop m,lt q p=false:=fun p hp q hq=>by
    have hq':∃j,∃hj:j<Y.length,m<=j/\Y[j]=q:=by
     obtain ⟨j,hj,rfl⟩:=List.getElem_of_mem hq
     rw [List.length_drop] at hj
     exact ⟨m+j,by omega,by omega,by rw [List.getElem_drop]⟩
    obtain ⟨j,hj,hmj,rfl⟩:=hq'
    rcases List.mem_append.mp (hm.2.mem_iff.mp hp) with z | z
    ·obtain ⟨j2,hj2,rfl⟩:=List.getElem_of_mem (List.mem_of_mem_drop z)
     exact C.wo.leT (Ub C.wo sX (List.getElem?_eq_getElem hj2) (List.getElem?_eq_getElem (by omega:X.length-1<X.length)) (by omega)) (f4 j hj hmj)
    ·obtain ⟨j2,hj2,rfl⟩:=List.getElem_of_mem z
     rw [lY1] at hj2
     rw [List.getElem_take]
     exact Ub C.wo sY (List.getElem?_eq_getElem (by omega)) (List.getElem?_eq_getElem hj) (by omega)
   refine List.pairwise_append.mpr ⟨List.Pairwise.sublist (List.take_sublist _ _) sX,List.pairwise_append.mpr ⟨hm.1,Jm sY m,rle⟩,fun p hp q hq=>?_⟩
   rcases List.mem_append.mp hq with z | z
   ·rcases List.mem_append.mp (hm.2.mem_iff.mp z) with y | y
    ·have:JX lt (X.take k++X.drop k):=by rw [List.take_append_drop];exact sX
     exact (List.pairwise_append.mp this).2.2 p hp q y
    ·exact lowX p hp q (List.mem_of_mem_take y)
   ·exact lowX p hp q (List.mem_of_mem_drop z)
  ·have e1:(X.take k++(r.toList++Y.drop m)).Perm (X.take k++((X.drop k++Y.take m)++Y.drop m)):=List.Perm.append_left _ (hm.2.append_right _)
   refine e1.trans ?_
   rw [List.append_assoc,List.take_append_drop,<- List.append_assoc,List.take_append_drop]
  ·show (List.foldl _ (arrOf st') r.toList.zipIdx).toList=_
   rw [q2]
   have:=Zeb r.toList 0 (P.length+k) (arrOf st) (P++X.take k) (X.drop k++Y.take m) (Y.drop m++S) (by
    show (arrOf st).toList=_
    rw [hA]
    have e1:X=X.take k++X.drop k:=(List.take_append_drop k X).symm
    have e2:Y=Y.take m++Y.drop m:=(List.take_append_drop m Y).symm
    conv=>lhs;rw [e1,e2]
    simp only [List.append_assoc]) (by rw [List.length_append,List.length_take];omega) hm.2.length_eq.symm
   rw [show (List.foldl (fun a x=>match x with | (p,j)=>a.setIfInBounds (P.length+k+j) p) (arrOf st) r.toList.zipIdx)=_ from rfl] at this
   rw [this]
   simp only [List.append_assoc]
 have dx:∀x∈((arrOf st).extract (P.length+k) (P.length+X.length)).toList,D x:=fun x hx=>dX x (by rw [tx] at hx;exact List.mem_of_mem_drop hx)
 have dy:∀x∈((arrOf st).extract (P.length+X.length) (P.length+X.length+m)).toList,D x:=fun x hx=>dY x (by rw [ty] at hx;exact List.mem_of_mem_take hx)
 show wpS _ _ _ _ (if X.length-k<=m then _ else _) _ _
 by_cases c3:X.length-k<=m
 ·rw [if_pos c3]
  refine wpS_bind (Ze2 (a:=(arrOf st).extract (P.length+k) (P.length+X.length)) (b:=(arrOf st).extract (P.length+X.length) (P.length+X.length+m)) C dx dy (by rw [tx];exact sX2) (by rw [ty];exact sY1) hk (by rw [tx,lX2];omega) (by rw [ty,lY1];omega) (by rw [tx,ty];exact hff) (by rw [tx,ty];exact hll) fun r st' hm q=>?_)
  rw [tx,ty] at hm
  refine wpS_bind (wpS_modify (wpS_bind (wpS_get (wpS_pure ?_))))
  have e:(failedOf st').isNone=true:=by rw [q.2.2.2];show (failedOf st).isNone=true;rw [hf];rfl
  have:=fin r st' hm q
  rw [<- e] at this
  exact this
 ·rw [if_neg c3]
  refine wpS_bind (Ze4 (a:=(arrOf st).extract (P.length+k) (P.length+X.length)) (b:=(arrOf st).extract (P.length+X.length) (P.length+X.length+m)) C dx dy (by rw [tx];exact sX2) (by rw [ty];exact sY1) hk (by rw [tx,lX2];omega) (by rw [ty,lY1];omega) (by rw [tx,ty];exact hff) (by rw [tx,ty];exact hll) fun r st' hm q=>?_)
  rw [tx,ty] at hm
  refine wpS_bind (wpS_modify (wpS_bind (wpS_get (wpS_pure ?_))))
  have e:(failedOf st').isNone=true:=by rw [q.2.2.2];show (failedOf st).isNone=true;rw [hf];rfl
  have:=fin r st' hm q
  rw [<- e] at this
  exact this
end
section
variable {prog:Program}{w:World}{A:Around}{E:Value->Shared->Prop}{s:Shared}{kd:SortKind}{D:Keyed->Prop}{lt:Keyed->Keyed->Bool}
def Zaq (lt:Keyed->Keyed->Bool) (arr:Array Keyed) (lo m:Nat):Prop:=∀i j p q,i<=j->j<m->arr[lo+i]? = some p->arr[lo+j]? = some q->lt q p=false
def UQ (lt:Keyed->Keyed->Bool) (arr:Array Keyed) (lo m:Nat):Prop:=∀i j p q,i<=j->j<m->arr[lo+i]? = some p->arr[lo+j]? = some q->lt p q=false
def EqS (lt:Keyed->Keyed->Bool) (arr:Array Keyed) (b e:Nat):Prop:=∀i j p q,b<=i->i<e->b<=j->j<e->arr[i]? = some p->arr[j]? = some q->lt p q=false
structure Kp (lo n:Nat) (st st':SortSt):Prop where
 kind:kindOf st'=kindOf st
 pend:pendingOf st'=pendingOf st
 fail:failedOf st'=failedOf st
 perm:(arrOf st').toList.Perm (arrOf st).toList
 out:∀i,i<lo∨lo+n<=i->(arrOf st')[i]? = (arrOf st)[i]?
theorem Kp.refl (lo n:Nat) (st:SortSt):Kp lo n st st:=⟨rfl,rfl,rfl,.refl _,fun _ _=>rfl⟩
theorem Kp.trans {lo n:Nat}{a b c:SortSt} (x:Kp lo n a b) (y:Kp lo n b c):Kp lo n a c:=⟨y.kind.trans x.kind,y.pend.trans x.pend,y.fail.trans x.fail,y.perm.trans x.perm,fun i h=>(y.out i h).trans (x.out i h)⟩
theorem Kp.size {lo n:Nat}{a b:SortSt} (x:Kp lo n a b):(arrOf b).size=(arrOf a).size:=by
 have:=x.perm.length_eq
 simpa using this
theorem Zeg {arr:Array Keyed}{i:Nat} (h:i<arr.size):∃x,arr[i]? = some x:=⟨arr[i],getElem?_pos arr i h⟩
theorem Jl (C:Cmp prog w A E s kd D lt) {st:SortSt}{i j:Nat}{Q:Option Bool->SortSt->Prop} (hi:i<(arrOf st).size) (hj:j<(arrOf st).size) (hD:∀x∈(arrOf st).toList,D x) (hk:kindOf st=kd)
  (h:∀p q,(arrOf st)[i]? = some p->(arrOf st)[j]? = some q->Q (some (lt p q)) st):wpS (model prog w) A E s (ltAt' i j) Q st:=by
 obtain ⟨p,hp⟩:=Zeg hi
 obtain ⟨q,hq⟩:=Zeg hj
 rw [ltAt'_eq]
 refine wpS_bind (wpS_get ?_)
 show wpS _ _ _ _ (elem' (arrOf st) i >>= fun x=>elem' (arrOf st) j >>= fun y=>lt' x y) Q st
 refine wpS_bind (Z9 hp (wpS_bind (Z9 hq (C.cmp p q st Q (hD p ?_) (hD q ?_) hk (h p q hp hq)))))
 ·exact List.mem_of_getElem? (by rw [Array.getElem?_toList];exact hp)
 ·exact List.mem_of_getElem? (by rw [Array.getElem?_toList];exact hq)
theorem Gp {M:Model}{i j:Nat}{st:SortSt}{Q:Unit->SortSt->Prop} (h:Q () (setArr st (mirror (arrOf st) i j ((j-i) / 2)))):wpS M A E s (reverseSlice' i j) Q st:=by
 rw [reverseSlice'_eq];exact wpS_modify h
theorem YX {lo n i j:Nat}{st:SortSt} (h1:lo<=i) (h2:j<=lo+n) (h3:lo+n<=(arrOf st).size):Kp lo n st (setArr st (mirror (arrOf st) i j ((j-i) / 2))):=by
 refine ⟨rfl,rfl,rfl,Array.perm_iff_toList_perm.mp (mirror_perm _ _ _ _),fun k hk=>?_⟩
 show (mirror (arrOf st) i j ((j-i) / 2))[k]? = _
 rw [getElem?_mirror_all (by lia),if_neg (by lia)]
theorem J6 {arr:Array Keyed}{lo m b e:Nat} (h:UQ lt arr lo m) (he:EqS lt arr b e) (h1:lo<=b) (h2:e<=lo+m) (h3:lo+m<=arr.size):UQ lt (mirror arr b e ((e-b) / 2)) lo m:=by
 intro i j p q hij hj hp hq
 rw [getElem?_mirror_all (by lia)] at hp hq
 by_cases ci:b<=lo+i/\lo+i<e<;>by_cases cj:b<=lo+j/\lo+j<e
 ·rw [if_pos ci] at hp
  rw [if_pos cj] at hq
  exact he _ _ p q (by lia) (by lia) (by lia) (by lia) hp hq
 ·rw [if_pos ci] at hp
  rw [if_neg cj] at hq
  exact h (b+e-1-(lo+i)-lo) j p q (by lia) hj (by rw [show lo+(b+e-1-(lo+i)-lo)=b+e-1-(lo+i) by lia];exact hp) hq
 ·rw [if_neg ci] at hp
  rw [if_pos cj] at hq
  exact h i (b+e-1-(lo+j)-lo) p q (by lia) (by lia) hp (by rw [show lo+(b+e-1-(lo+j)-lo)=b+e-1-(lo+j) by lia];exact hq)
 ·rw [if_neg ci] at hp
  rw [if_neg cj] at hq
  exact h i j p q hij hj hp hq
theorem W8 {arr:Array Keyed}{lo m:Nat} (h:UQ lt arr lo m) (h3:lo+m<=arr.size):Zaq lt (mirror arr lo (lo+m) ((lo+m-lo) / 2)) lo m:=by
 intro i j p q hij hj hp hq
 rw [getElem?_mirror_all (by lia),if_pos (by lia)] at hp hq
 exact h (m-1-j) (m-1-i) q p (by lia) (by lia) (by rw [<- hq];congr 1;lia) (by rw [<- hp];congr 1;lia)
theorem WK (C:Wo lt) {arr:Array Keyed}{lo m:Nat} (h:UQ lt arr lo m) (hm:0<m) {d e:Keyed} (hd:arr[lo+m-1]? = some d) (he:arr[lo+m]? = some e) (hde:lt d e=false):UQ lt arr lo (m+1):=by
 intro i j p q hij hj hp hq
 by_cases c:j<m
 ·exact h i j p q hij c hp hq
 ·obtain rfl:j=m:=by lia
  rw [he] at hq
  cases hq
  by_cases c2:i=j
  ·subst c2
   rw [he] at hp
   cases hp
   exact C.irr _
  ·exact C.leT hde (h i (j-1) p d (by lia) (by lia) hp (by rw [show lo+(j-1)=lo+j-1 by lia];exact hd))
theorem Zgu (C:Wo lt) {arr:Array Keyed}{lo m:Nat} (h:Zaq lt arr lo m) (hm:0<m) {d e:Keyed} (hd:arr[lo+m-1]? = some d) (he:arr[lo+m]? = some e) (hde:lt e d=false):Zaq lt arr lo (m+1):=by
 intro i j p q hij hj hp hq
 by_cases c:j<m
 ·exact h i j p q hij c hp hq
 ·obtain rfl:j=m:=by lia
  rw [he] at hq
  cases hq
  by_cases c2:i=j
  ·subst c2
   rw [he] at hp
   cases hp
   exact C.irr _
  ·exact C.leT (h i (j-1) p d (by lia) (by lia) hp (by rw [show lo+(j-1)=lo+j-1 by lia];exact hd)) hde
theorem Zav (C:Wo lt) {x lo:Nat} (arr:Array Keyed):EqS lt arr (lo+x-(0+1)) (lo+x):=fun i j p q i1 i2 j1 j2 hp hq=>by
 obtain rfl:i=j:=by lia
 rw [hp] at hq;cases hq;exact C.irr _
theorem Zf8 (C:Wo lt) {arr:Array Keyed}{b e:Nat} (h:EqS lt arr b e) (hb:b<e) {d x:Keyed} (hd:arr[e-1]? = some d) (hx:arr[e]? = some x) (h1:lt x d=false) (h2:lt d x=false):EqS lt arr b (e+1):=fun i j p q i1 i2 j1 j2 hp hq=>by
 by_cases ci:i<e<;>by_cases cj:j<e
 ·exact h i j p q i1 ci j1 cj hp hq
 ·obtain rfl:j=e:=by lia
  rw [hx] at hq;cases hq
  exact C.leT h2 (h i (j-1) p d i1 ci (by lia) (by lia) hp hd)
 ·obtain rfl:i=e:=by lia
  rw [hx] at hp;cases hp
  exact C.leT (h (i-1) j d q (by lia) (by lia) j1 cj hd hq) h1
 ·obtain rfl:i=e:=by lia
  obtain rfl:j=i:=by lia
  rw [hp] at hq;cases hq;exact C.irr _
theorem GI (C:Cmp prog w A E s kd D lt) {lo n a:Nat}{st:SortSt}{Q:Option (Option Nat)×Nat->SortSt->Prop}{body:Nat->Option (Option Nat)×Nat->StateT SortSt Sem (ForInStep (Option (Option Nat)×Nat))}
  (hb:∀x m (R:ForInStep (Option (Option Nat)×Nat)->SortSt->Prop),1<=m->m<n->(∀p q,(arrOf st)[lo+m]? = some p->(arrOf st)[lo+m-1]? = some q->R (if lt p q=true then .done (none,m) else .yield (none,m+1)) st)->wpS (model prog w) A E s (body x (none,m)) R st)
  (ha:1<=a) (han:a<=n) (hsz:lo+n<=(arrOf st).size) (hs:Zaq lt (arrOf st) lo a)
  (h:∀m,a<=m->m<=n->Zaq lt (arrOf st) lo m->(m<n -> ∀p q,(arrOf st)[lo+m]? = some p->(arrOf st)[lo+m-1]? = some q->lt p q=true)->Q (none,m) st):wpS (model prog w) A E s (forIn [a:n] (none,a) body) Q st:=by
 refine wpS_forRange (I:=fun x c st'=>st'=st/\c=(none,x)/\Zaq lt (arrOf st) lo x) ?_ ?_ ⟨rfl,rfl,hs⟩
 ·rintro x c st' hax hxn ⟨rfl,rfl,g⟩
  refine hb x x _ (by lia) hxn fun p q hp hq=>?_
  cases e:lt p q with
  | true=>
   exact h x hax (by lia) g fun _ p' q' hp' hq'=>by
    rw [hp] at hp';rw [hq] at hq';cases hp';cases hq';exact e
  | false=>exact ⟨rfl,rfl,Zgu C.wo g (by lia) hq hp e⟩
 ·rintro c st' ⟨rfl,rfl,g⟩
  rw [show max a n=n by lia] at g ⊢
  exact h n han (Nat.le_refl _) g fun z=>by lia
theorem Zec (C:Cmp prog w A E s kd D lt) {lo n:Nat}{st:SortSt}{Q:Option Nat->SortSt->Prop} (hn:0<n) (hsz:lo+n<=(arrOf st).size) (hD:∀x∈(arrOf st).toList,D x) (hk:kindOf st=kd)
  (h:∀m st',1<=m->m<=n->Kp lo n st st'->Zaq lt (arrOf st') lo m->Q (some m) st'):wpS (model prog w) A E s (ZgK lo n) Q st:=by
 have s1:∀arr:Array Keyed,Zaq lt arr lo 1:=fun arr i j p q hij hj hp hq=>by
  obtain rfl:i=0:=by lia
  obtain rfl:j=0:=by lia
  rw [hp] at hq;cases hq;exact C.wo.irr _
 refine wpS_bind (GI C (lo:=lo) (n:=n) (a:=1) (st:=st) (fun x m R h1 h2 hR=>?_) (Nat.le_refl _) hn hsz (s1 _) fun m hm1 hm2 g nx=>?_)
 ·refine wpS_bind (Jl C (by lia) (by lia) hD hk fun p q hp hq=>?_)
  have:=hR p q hp hq
  cases e:lt p q with
  | true=>rw [e] at this;exact wpS_pure this
  | false=>rw [e] at this;exact wpS_pure this
 refine ZN (c:=(m==n)) (fun c1=>wpS_pure (h m st hm1 hm2 (Kp.refl _ _ _) g)) (fun c1=>?_)
 have c1':=ZY c1
 obtain ⟨pl,hpl⟩:=Zeg (show lo+m<(arrOf st).size by lia)
 obtain ⟨ql,hql⟩:=Zeg (show lo+m-1<(arrOf st).size by lia)
 have less:=nx (by lia) pl ql hpl hql
 refine Jr (k:=m) (n:=1) (fun z=>?_) (fun z=>?_)
 ·refine wpS_bind (Jl C (i:=lo) (j:=lo+m-1) (by lia) (by lia) hD hk fun p q hp hq=>?_)
  cases e:lt p q with
  | true=>exact wpS_pure (h m st hm1 hm2 (Kp.refl _ _ _) g)
  | false=>
   have eqs:EqS lt (arrOf st) lo (lo+m):=fun i j a b i1 i2 j1 j2 ha hb=>by
    have ha':(arrOf st)[lo+(i-lo)]? = some a:=by rw [show lo+(i-lo)=i by lia];exact ha
    have hb':(arrOf st)[lo+(j-lo)]? = some b:=by rw [show lo+(j-lo)=j by lia];exact hb
    have l1:=g (i-lo) (m-1) a q (by lia) (by lia) ha' (by rw [<- hq];congr 1;lia)
    have l2:=g 0 (j-lo) p b (by lia) (by lia) (by rw [Nat.add_zero];exact hp) hb'
    have l3:=g 0 (i-lo) p a (by lia) (by lia) (by rw [Nat.add_zero];exact hp) ha'
    have l4:=g (j-lo) (m-1) b q (by lia) (by lia) hb' (by rw [<- hq];congr 1;lia)
    exact C.wo.leT l4 (C.wo.leT e l3)
   refine wpS_bind (Gp (i:=lo) (j:=lo+m) ?_)
   have k1:=YX (lo:=lo) (n:=n) (i:=lo) (j:=lo+m) (st:=st) (Nat.le_refl _) (by lia) hsz
   have non0:UQ lt (arrOf st) lo m:=fun i j a b hij hj ha hb=>eqs _ _ a b (by lia) (by lia) (by lia) (by lia) ha hb
   have non1:UQ lt (arrOf (setArr st (mirror (arrOf st) lo (lo+m) ((lo+m-lo) / 2)))) lo (m+1):=J6 (WK C.wo non0 (by lia) hql hpl (C.wo.asym _ _ less)) eqs (Nat.le_refl _) (by lia) (by lia)
   generalize setArr st (mirror (arrOf st) lo (lo+m) ((lo+m-lo) / 2))=st1 at k1 non1 ⊢
   refine wpS_bind (wpS_lift (wpAny_rule ⟨rfl,?_⟩))
   refine wpS_bind (wpS_mono (wpS_forRange (a:=m+1) (b:=n) (I:=fun x c st'=>∃neq,c=(none,x,neq)/\Kp lo n st st'/\UQ lt (arrOf st') lo x/\neq+1<=x/\EqS lt (arrOf st') (lo+x-(neq+1)) (lo+x))
    (Q:=fun c st'=>∃x neq,c=(none,x,neq)/\m+1<=x/\x<=n/\Kp lo n st st'/\UQ lt (arrOf st') lo x/\neq+1<=x/\EqS lt (arrOf st') (lo+x-(neq+1)) (lo+x)) ?_ ?_ ⟨0,rfl,k1,non1,by lia,Zav C.wo _⟩) ?_)
   ·rintro x c st2 hx1 hx2 ⟨neq,rfl,k2,g2,e1,e2⟩
    have z2:=k2.size
    have hD2:∀y∈(arrOf st2).toList,D y:=fun y hy=>hD y (k2.perm.mem_iff.mp hy)
    have hk2:=k2.kind.trans hk
    refine wpS_bind (Jl C (i:=lo+x) (j:=lo+x-1) (by lia) (by lia) hD2 hk2 fun p q hp hq=>?_)
    cases e:lt p q with
    | true=>
     have gs:=WK C.wo g2 (by lia) hq hp (C.wo.asym _ _ e)
     refine Jr (k:=neq) (n:=0) (fun z=>?_) (fun z=>?_)
     ·refine wpS_bind (Gp (i:=lo+x-(neq+1)) (j:=lo+x) ?_)
      exact wpS_pure ⟨0,rfl,k2.trans (YX (by lia) (by lia) (by lia)),J6 gs e2 (by lia) (by lia) (by lia),by lia,Zav C.wo _⟩
     ·exact wpS_pure ⟨0,rfl,k2,gs,by lia,Zav C.wo _⟩
    | false=>
     refine wpS_bind (Jl C (i:=lo+x-1) (j:=lo+x) (by lia) (by lia) hD2 hk2 fun q' p' hq' hp'=>?_)
     rw [hq] at hq'
     rw [hp] at hp'
     cases hq';cases hp'
     cases e':lt q p with
     | true=>exact wpS_pure ⟨x,neq,rfl,hx1,by lia,k2,g2,e1,e2⟩
     | false=>
      refine wpS_pure ⟨neq+1,rfl,k2,WK C.wo g2 (by lia) hq hp e',by lia,?_⟩
      have:=Zf8 C.wo e2 (by lia) hq hp e e'
      rw [show lo+(x+1)-(neq+1+1)=lo+x-(neq+1) by lia]
      exact this
   ·rintro c st2 ⟨neq,rfl,k2,g2,e1,e2⟩
    rw [show max (m+1) n=n by lia] at g2 e1 e2 ⊢
    exact ⟨n,neq,rfl,by lia,Nat.le_refl _,k2,g2,e1,e2⟩
   ·rintro c st2 ⟨x,neq,rfl,x1,x2,k2,g2,e1,e2⟩
    have z2:=k2.size
    refine Jr (k:=neq) (n:=0) (fun z=>?_) (fun z=>?_)
    ·refine wpS_bind (Gp (i:=lo+x-(neq+1)) (j:=lo+x) ?_)
     have k3:=k2.trans (YX (lo:=lo) (n:=n) (i:=lo+x-(neq+1)) (j:=lo+x) (st:=st2) (by lia) (by lia) (by lia))
     have g3:UQ lt (arrOf (setArr st2 (mirror (arrOf st2) (lo+x-(neq+1)) (lo+x) ((lo+x-(lo+x-(neq+1))) / 2)))) lo x:=J6 g2 e2 (by lia) (by lia) (by lia)
     generalize setArr st2 (mirror (arrOf st2) (lo+x-(neq+1)) (lo+x) ((lo+x-(lo+x-(neq+1))) / 2))=st3 at k3 g3 ⊢
     refine wpS_bind (Gp (i:=lo) (j:=lo+x) ?_)
     have z3:=k3.size
     have k4:=k3.trans (YX (lo:=lo) (n:=n) (i:=lo) (j:=lo+x) (st:=st3) (Nat.le_refl _) (by lia) (by lia))
     have g4:=W8 g3 (by lia)
     refine wpS_bind (GI C (lo:=lo) (n:=n) (a:=x) (st:=setArr st3 (mirror (arrOf st3) lo (lo+x) ((lo+x-lo) / 2))) (fun y m' R h1 h2 hR=>?_) (by lia) x2 (by rw [k4.size];exact hsz) g4 fun m' a1 a2 g5 _=>wpS_pure (h m' _ (by lia) a2 k4 g5))
     refine wpS_bind (Jl C (by rw [k4.size];lia) (by rw [k4.size];lia) (fun y hy=>hD y (k4.perm.mem_iff.mp hy)) (k4.kind.trans hk) fun p q hp hq=>?_)
     have:=hR p q hp hq
     cases e:lt p q with
     | true=>rw [e] at this;exact wpS_pure this
     | false=>rw [e] at this;exact wpS_pure this
    ·have k3:=k2
     have g3:=g2
     refine wpS_bind (Gp (i:=lo) (j:=lo+x) ?_)
     have z3:=k3.size
     have k4:=k3.trans (YX (lo:=lo) (n:=n) (i:=lo) (j:=lo+x) (st:=st2) (Nat.le_refl _) (by lia) (by lia))
     have g4:=W8 g3 (by lia)
     refine wpS_bind (GI C (lo:=lo) (n:=n) (a:=x) (st:=setArr st2 (mirror (arrOf st2) lo (lo+x) ((lo+x-lo) / 2))) (fun y m' R h1 h2 hR=>?_) (by lia) x2 (by rw [k4.size];exact hsz) g4 fun m' a1 a2 g5 _=>wpS_pure (h m' _ (by lia) a2 k4 g5))
     refine wpS_bind (Jl C (by rw [k4.size];lia) (by rw [k4.size];lia) (fun y hy=>hD y (k4.perm.mem_iff.mp hy)) (k4.kind.trans hk) fun p q hp hq=>?_)
     have:=hR p q hp hq
     cases e:lt p q with
     | true=>rw [e] at this;exact wpS_pure this
     | false=>rw [e] at this;exact wpS_pure this
 ·obtain rfl:m=1:=by lia
  have k1:=Kp.refl lo n st
  have non1:UQ lt (arrOf st) lo (1+1):=WK C.wo (fun i j a b hij hj ha hb=>by
   obtain rfl:i=0:=by lia
   obtain rfl:j=0:=by lia
   rw [ha] at hb;cases hb;exact C.wo.irr _) (by lia) hql hpl (C.wo.asym _ _ less)
  refine wpS_bind (wpS_lift (wpAny_rule ⟨rfl,?_⟩))
  refine wpS_bind (wpS_mono (wpS_forRange (a:=1+1) (b:=n) (I:=fun x c st'=>∃neq,c=(none,x,neq)/\Kp lo n st st'/\UQ lt (arrOf st') lo x/\neq+1<=x/\EqS lt (arrOf st') (lo+x-(neq+1)) (lo+x))
   (Q:=fun c st'=>∃x neq,c=(none,x,neq)/\1+1<=x/\x<=n/\Kp lo n st st'/\UQ lt (arrOf st') lo x/\neq+1<=x/\EqS lt (arrOf st') (lo+x-(neq+1)) (lo+x)) ?_ ?_ ⟨0,rfl,k1,non1,by lia,Zav C.wo _⟩) ?_)
  ·rintro x c st2 hx1 hx2 ⟨neq,rfl,k2,g2,e1,e2⟩
   have z2:=k2.size
   have hD2:∀y∈(arrOf st2).toList,D y:=fun y hy=>hD y (k2.perm.mem_iff.mp hy)
   have hk2:=k2.kind.trans hk
   refine wpS_bind (Jl C (i:=lo+x) (j:=lo+x-1) (by lia) (by lia) hD2 hk2 fun p q hp hq=>?_)
   cases e:lt p q with
   | true=>
    have gs:=WK C.wo g2 (by lia) hq hp (C.wo.asym _ _ e)
    refine Jr (k:=neq) (n:=0) (fun z=>?_) (fun z=>?_)
    ·refine wpS_bind (Gp (i:=lo+x-(neq+1)) (j:=lo+x) ?_)
     exact wpS_pure ⟨0,rfl,k2.trans (YX (by lia) (by lia) (by lia)),J6 gs e2 (by lia) (by lia) (by lia),by lia,Zav C.wo _⟩
    ·exact wpS_pure ⟨0,rfl,k2,gs,by lia,Zav C.wo _⟩
   | false=>
    refine wpS_bind (Jl C (i:=lo+x-1) (j:=lo+x) (by lia) (by lia) hD2 hk2 fun q' p' hq' hp'=>?_)
    rw [hq] at hq'
    rw [hp] at hp'
    cases hq';cases hp'
    cases e':lt q p with
    | true=>exact wpS_pure ⟨x,neq,rfl,hx1,by lia,k2,g2,e1,e2⟩
    | false=>
     refine wpS_pure ⟨neq+1,rfl,k2,WK C.wo g2 (by lia) hq hp e',by lia,?_⟩
     have:=Zf8 C.wo e2 (by lia) hq hp e e'
     rw [show lo+(x+1)-(neq+1+1)=lo+x-(neq+1) by lia]
     exact this
  ·rintro c st2 ⟨neq,rfl,k2,g2,e1,e2⟩
   rw [show max (1+1) n=n by lia] at g2 e1 e2 ⊢
   exact ⟨n,neq,rfl,by lia,Nat.le_refl _,k2,g2,e1,e2⟩
  ·rintro c st2 ⟨x,neq,rfl,x1,x2,k2,g2,e1,e2⟩
   have z2:=k2.size
   refine Jr (k:=neq) (n:=0) (fun z=>?_) (fun z=>?_)
   ·refine wpS_bind (Gp (i:=lo+x-(neq+1)) (j:=lo+x) ?_)
    have k3:=k2.trans (YX (lo:=lo) (n:=n) (i:=lo+x-(neq+1)) (j:=lo+x) (st:=st2) (by lia) (by lia) (by lia))
    have g3:UQ lt (arrOf (setArr st2 (mirror (arrOf st2) (lo+x-(neq+1)) (lo+x) ((lo+x-(lo+x-(neq+1))) / 2)))) lo x:=J6 g2 e2 (by lia) (by lia) (by lia)
    generalize setArr st2 (mirror (arrOf st2) (lo+x-(neq+1)) (lo+x) ((lo+x-(lo+x-(neq+1))) / 2))=st3 at k3 g3 ⊢
    refine wpS_bind (Gp (i:=lo) (j:=lo+x) ?_)
    have z3:=k3.size
    have k4:=k3.trans (YX (lo:=lo) (n:=n) (i:=lo) (j:=lo+x) (st:=st3) (Nat.le_refl _) (by lia) (by lia))
    have g4:=W8 g3 (by lia)
    refine wpS_bind (GI C (lo:=lo) (n:=n) (a:=x) (st:=setArr st3 (mirror (arrOf st3) lo (lo+x) ((lo+x-lo) / 2))) (fun y m' R h1 h2 hR=>?_) (by lia) x2 (by rw [k4.size];exact hsz) g4 fun m' a1 a2 g5 _=>wpS_pure (h m' _ (by lia) a2 k4 g5))
    refine wpS_bind (Jl C (by rw [k4.size];lia) (by rw [k4.size];lia) (fun y hy=>hD y (k4.perm.mem_iff.mp hy)) (k4.kind.trans hk) fun p q hp hq=>?_)
    have:=hR p q hp hq
    cases e:lt p q with
    | true=>rw [e] at this;exact wpS_pure this
    | false=>rw [e] at this;exact wpS_pure this
   ·have k3:=k2
    have g3:=g2
    refine wpS_bind (Gp (i:=lo) (j:=lo+x) ?_)
    have z3:=k3.size
    have k4:=k3.trans (YX (lo:=lo) (n:=n) (i:=lo) (j:=lo+x) (st:=st2) (Nat.le_refl _) (by lia) (by lia))
    have g4:=W8 g3 (by lia)
    refine wpS_bind (GI C (lo:=lo) (n:=n) (a:=x) (st:=setArr st2 (mirror (arrOf st2) lo (lo+x) ((lo+x-lo) / 2))) (fun y m' R h1 h2 hR=>?_) (by lia) x2 (by rw [k4.size];exact hsz) g4 fun m' a1 a2 g5 _=>wpS_pure (h m' _ (by lia) a2 k4 g5))
    refine wpS_bind (Jl C (by rw [k4.size];lia) (by rw [k4.size];lia) (fun y hy=>hD y (k4.perm.mem_iff.mp hy)) (k4.kind.trans hk) fun p q hp hq=>?_)
    have:=hR p q hp hq
    cases e:lt p q with
    | true=>rw [e] at this;exact wpS_pure this
    | false=>rw [e] at this;exact wpS_pure this
end
section
variable {prog:Program}{w:World}{A:Around}{E:Value->Shared->Prop}{s:Shared}{kd:SortKind}{D:Keyed->Prop}{lt:Keyed->Keyed->Bool}
theorem Zjy {M:Model}{i j:Nat}{st:SortSt}{Q:Unit->SortSt->Prop} (h:Q () (setArr st (bubble (arrOf st) i (i-j)))):wpS M A E s (moveDown' i j) Q st:=by
 rw [moveDown'_eq];exact wpS_modify h
theorem Zci (C:Cmp prog w A E s kd D lt) {lo n ok:Nat}{st:SortSt}{Q:Bool->SortSt->Prop} (h1:1<=ok) (hok:ok<=n) (hsz:lo+n<=(arrOf st).size) (hD:∀x∈(arrOf st).toList,D x) (hk:kindOf st=kd) (hs:Zaq lt (arrOf st) lo ok)
  (h:∀st',Kp lo n st st'->Zaq lt (arrOf st') lo n->Q true st'):wpS (model prog w) A E s (Zd7 lo n ok) Q st:=by
 refine wpS_bind (wpS_mono (wpS_forRange (a:=max ok 1) (b:=n) (I:=fun k c st'=>c=(none,())/\Kp lo n st st'/\Zaq lt (arrOf st') lo k) (Q:=fun c st'=>c=(none,())/\Kp lo n st st'/\Zaq lt (arrOf st') lo n) ?_ ?_ ⟨rfl,Kp.refl _ _ _,by rw [show max ok 1=ok by lia];exact hs⟩) ?_)
 ·rintro k c st1 hk1 hk2 ⟨rfl,kp,g⟩
  have z1:=kp.size
  obtain ⟨e,he⟩:=Zeg (show lo+k<(arrOf st1).size by lia)
  refine wpS_bind (wpS_mono (wpS_forRange (a:=0) (b:=k) (I:=fun x c st'=>st'=st1 /\ ∃l r,c=(none,l,r)/\l<=r/\r<=k/\r-l<=k-x/\(∀i p,i<l->(arrOf st1)[lo+i]? = some p->lt e p=false) /\ ∀i p,r<=i->i<k->(arrOf st1)[lo+i]? = some p->lt e p=true)
   (Q:=fun c st'=>st'=st1 /\ ∃l r,c=(none,l,r)/\l<=k/\(∀i p,i<l->(arrOf st1)[lo+i]? = some p->lt e p=false) /\ ∀i p,l<=i->i<k->(arrOf st1)[lo+i]? = some p->lt e p=true) ?_ ?_ ⟨rfl,0,k,rfl,by lia,by lia,by lia,fun i p hi=>by lia,fun i p h1 h2=>by lia⟩) ?_)
  ·rintro x c st' _ hx ⟨rfl,l,r,rfl,g1,g2,g3,g4,g5⟩
   dsimp only
   by_cases hge:l>=r
   ·rw [if_pos hge]
    obtain rfl:l=r:=by lia
    exact wpS_pure ⟨rfl,l,l,rfl,g2,g4,g5⟩
   ·rw [if_neg hge]
    refine wpS_bind (Jl C (i:=lo+k) (j:=lo+(l+r) / 2) (by lia) (by lia) (fun y hy=>hD y (kp.perm.mem_iff.mp hy)) (kp.kind.trans hk) fun p q hp hq=>?_)
    rw [he] at hp
    cases hp
    cases c:lt e q with
    | true=>
     refine wpS_pure ⟨rfl,l,(l+r) / 2,rfl,by lia,by lia,by lia,g4,fun i p i1 i2 hp=>?_⟩
     rcases C.wo.neg e p q c with z | z
     ·exact z
     ·rw [g ((l+r) / 2) i q p i1 i2 hq hp] at z;cases z
    | false=>
     refine wpS_pure ⟨rfl,(l+r) / 2+1,r,rfl,by lia,by lia,by lia,fun i p i1 hp=>?_,g5⟩
     exact C.wo.leT (g i ((l+r) / 2) p q (by lia) (by lia) hp hq) c
  ·rintro c st' ⟨rfl,l,r,rfl,g1,g2,g3,g4,g5⟩
   obtain rfl:l=r:=by lia
   exact ⟨rfl,l,l,rfl,g2,g4,g5⟩
  ·rintro c st' ⟨rfl,l,r,rfl,g2,g4,g5⟩
   refine wpS_bind (Zjy (i:=lo+k) (j:=lo+l) ?_)
   have sz:lo+k<(arrOf st').size:=by lia
   refine wpS_pure ⟨rfl,kp.trans ⟨rfl,rfl,rfl,Array.perm_iff_toList_perm.mp (bubble_perm _ _ _),fun i hi=>?_⟩,fun i j p q hij hj hp hq=>?_⟩
   ·show (bubble (arrOf st') (lo+k) (lo+k-(lo+l)))[i]? = _
    rw [getElem?_bubble sz _ (by lia),if_neg (by lia),if_neg (by lia)]
   ·rw [show arrOf (setArr st' (bubble (arrOf st') (lo+k) (lo+k-(lo+l))))=bubble (arrOf st') (lo+k) (lo+k-(lo+l)) from rfl,getElem?_bubble sz _ (by lia)] at hp hq
    rw [show lo+k-(lo+k-(lo+l))=lo+l by lia] at hp hq
    by_cases ci:i=l<;>by_cases cj:j=l
    ·subst ci;subst cj
     rw [if_pos rfl] at hp hq
     rw [hp] at hq;cases hq;exact C.wo.irr _
    ·subst ci
     rw [if_pos rfl,he] at hp
     cases hp
     rw [if_neg (by lia),if_pos (by lia)] at hq
     exact C.wo.asym _ _ (g5 (j-1) q (by lia) (by lia) (by rw [<- hq];congr 1;lia))
    ·subst cj
     rw [if_neg (by lia),if_neg (by lia)] at hp
     rw [if_pos rfl,he] at hq
     cases hq
     exact g4 i p (by lia) hp
    ·rw [if_neg (by lia)] at hp hq
     by_cases di:i<l<;>by_cases dj:j<l
     ·rw [if_neg (by lia)] at hp hq
      exact g i j p q hij (by lia) hp hq
     ·rw [if_neg (by lia)] at hp
      rw [if_pos (by lia)] at hq
      exact g i (j-1) p q (by lia) (by lia) hp (by rw [<- hq];congr 1;lia)
     ·lia
     ·rw [if_pos (by lia)] at hp hq
      exact g (i-1) (j-1) p q (by lia) (by lia) (by rw [<- hp];congr 1;lia) (by rw [<- hq];congr 1;lia)
 ·rintro c st1 ⟨rfl,kp,g⟩
  rw [show max (max ok 1) n=n by lia] at g
  exact ⟨rfl,kp,g⟩
 ·rintro c st1 ⟨rfl,kp,g⟩
  exact wpS_pure (h st1 kp g)
def WI (p:List (Nat×Nat×Nat)) (rs:List (List Keyed)):Prop:=p.length=rs.length /\ ∀i r,rs[i]? = some r -> ∃pw,p[i]? = some ((rs.take i).flatten.length,r.length,pw)
theorem ZiS:WI [] []:=⟨rfl,fun i r h=>by simp at h⟩
theorem ZgE {p:List (Nat×Nat×Nat)}{rs:List (List Keyed)} (h:WI p rs) (r:List Keyed) (pw:Nat):WI (p ++ [(rs.flatten.length,r.length,pw)]) (rs ++ [r]):=by
 refine ⟨by simp [h.1],fun i x hx=>?_⟩
 by_cases c:i<rs.length
 ·rw [List.getElem?_append_left c] at hx
  obtain ⟨q,hq⟩:=h.2 i x hx
  exact ⟨q,by rw [List.getElem?_append_left (by rw [h.1];exact c),hq,List.take_append_of_le_length (by lia)]⟩
 ·have hi:i=rs.length:=by
   have:=(List.getElem?_eq_some_iff.mp hx).1
   rw [List.length_append,List.length_singleton] at this
   lia
  subst hi
  rw [List.getElem?_append_right (Nat.le_refl _),Nat.sub_self] at hx
  simp at hx
  subst hx
  refine ⟨pw,?_⟩
  rw [<- h.1,List.getElem?_append_right (Nat.le_refl _),Nat.sub_self,h.1,List.take_append_of_le_length (Nat.le_refl _),List.take_of_length_le (Nat.le_refl _)]
  rfl
theorem ZhN {p:List (Nat×Nat×Nat)}{rs:List (List Keyed)} (h:WI p rs) (k:Nat) (f:Nat×Nat×Nat->Nat×Nat×Nat) (hf:∀a b c,∃d,f (a,b,c)=(a,b,d)):WI (p.modify k f) rs:=by
 refine ⟨by rw [List.length_modify];exact h.1,fun i x hx=>?_⟩
 obtain ⟨q,hq⟩:=h.2 i x hx
 rw [List.getElem?_modify,hq]
 by_cases c:k=i
 ·obtain ⟨d,hd⟩:=hf (rs.take i).flatten.length x.length q
  exact ⟨d,by rw [Option.map_eq_map,Option.map_some,if_pos c,hd]⟩
 ·exact ⟨q,by simp [c]⟩
theorem ZeR {p:List (Nat×Nat×Nat)}{U B:List (List Keyed)}{X Y Z:List Keyed}{pw:Nat} (h:WI p (U++(X::Y::B))) (hz:Z.length=X.length+Y.length):WI ((p.set U.length (U.flatten.length,X.length+Y.length,pw)).eraseIdx (U.length+1)) (U++(Z::B)):=by
 have hl:=h.1
 simp only [List.length_append,List.length_cons] at hl
 refine ⟨by rw [List.length_eraseIdx_of_lt (by rw [List.length_set];lia),List.length_set];simp only [List.length_append,List.length_cons];lia,fun i x hx=>?_⟩
 rw [List.getElem?_eraseIdx]
 by_cases c1:i<U.length
 ·rw [if_pos (by lia),List.getElem?_set_ne (by lia)]
  rw [List.getElem?_append_left c1] at hx
  obtain ⟨q,hq⟩:=h.2 i x (by rw [List.getElem?_append_left c1];exact hx)
  refine ⟨q,?_⟩
  rw [hq,List.take_append_of_le_length (by lia),List.take_append_of_le_length (by lia)]
 ·by_cases c2:i=U.length
  ·subst c2
   rw [List.getElem?_append_right (Nat.le_refl _),Nat.sub_self] at hx
   simp at hx
   subst hx
   refine ⟨pw,?_⟩
   rw [if_pos (by lia),List.getElem?_set_self (by lia),hz,List.take_append_of_le_length (Nat.le_refl _),List.take_of_length_le (Nat.le_refl _)]
  ·rw [if_neg (by lia),List.getElem?_set_ne (by lia)]
   obtain ⟨j,rfl⟩:∃j,i=U.length+(j+1):=⟨i-U.length-1,by lia⟩
   rw [List.getElem?_append_right (by lia),Nat.add_sub_cancel_left,List.getElem?_cons_succ] at hx
   obtain ⟨q,hq⟩:=h.2 (U.length+(j+1+1)) x (by
    rw [List.getElem?_append_right (by lia),Nat.add_sub_cancel_left,List.getElem?_cons_succ,List.getElem?_cons_succ]
    exact hx)
   refine ⟨q,?_⟩
   rw [show U.length+(j+1)+1=U.length+(j+1+1) by lia,hq]
   congr 2
   rw [List.take_append,List.take_append,List.take_of_length_le (l:=U) (by lia),List.take_of_length_le (l:=U) (by lia),Nat.add_sub_cancel_left,Nat.add_sub_cancel_left]
   simp only [List.take_succ_cons,List.flatten_append,List.flatten_cons,List.length_append]
   lia
end
section
variable {prog:Program}{w:World}{A:Around}{E:Value->Shared->Prop}{s:Shared}{kd:SortKind}{D:Keyed->Prop}{lt:Keyed->Keyed->Bool}
structure Rn (lt:Keyed->Keyed->Bool) (kd:SortKind) (l₀:List Keyed) (rs:List (List Keyed)) (S:List Keyed) (st:SortSt):Prop where
 arr:(arrOf st).toList=rs.flatten++S
 srt:∀r∈rs,JX lt r/\0<r.length
 pend:WI (pendingOf st).toList rs
 perm:(arrOf st).toList.Perm l₀
 kind:kindOf st=kd
 fail:failedOf st=none
theorem Rn.cut {l₀:List Keyed}{rs:List (List Keyed)}{S:List Keyed}{st:SortSt} (R:Rn lt kd l₀ rs S st) {i:Nat} (hi:i+1<rs.length):∃U X Y B,rs=U++(X::Y::B)/\U.length=i:=by
 refine ⟨rs.take i,rs[i],rs[i+1],rs.drop (i+2),?_,by rw [List.length_take];lia⟩
 conv=>lhs;rw [<- List.take_append_drop i rs,List.drop_eq_getElem_cons (by lia),List.drop_eq_getElem_cons (by lia)]
theorem Zc0 (C:Cmp prog w A E s kd D lt) {l₀:List Keyed}{rs:List (List Keyed)}{S:List Keyed}{st:SortSt}{i:Nat}{Q:Bool->SortSt->Prop} (R:Rn lt kd l₀ rs S st) (hD:∀x∈l₀,D x) (hi:i+1<rs.length)
  (h:∀rs' st',Rn lt kd l₀ rs' S st'->rs'.length+1=rs.length->rs'.flatten.length=rs.flatten.length->Q true st'):wpS (model prog w) A E s (Zd6 i) Q st:=by
 obtain ⟨U,X,Y,B,rfl,rfl⟩:=R.cut hi
 obtain ⟨p1,e1⟩:=R.pend.2 U.length X (by rw [List.getElem?_append_right (Nat.le_refl _),Nat.sub_self];rfl)
 obtain ⟨p2,e2⟩:=R.pend.2 (U.length+1) Y (by rw [List.getElem?_append_right (by lia),Nat.add_sub_cancel_left];rfl)
 rw [List.take_append_of_le_length (Nat.le_refl _),List.take_of_length_le (Nat.le_refl _),Array.getElem?_toList] at e1
 rw [List.take_append,List.take_of_length_le (by lia),Nat.add_sub_cancel_left,List.take_succ_cons,List.take_zero,Array.getElem?_toList] at e2
 simp only [List.flatten_append,List.flatten_cons,List.flatten_nil,List.append_nil,List.length_append] at e2
 have hX:=R.srt X (by simp)
 have hY:=R.srt Y (by simp)
 refine ZeH C (P:=U.flatten) (X:=X) (Y:=Y) (S:=B.flatten++S) e1 e2 (by rw [R.arr];simp only [List.flatten_append,List.flatten_cons,List.append_assoc]) rfl rfl rfl rfl hX.2 hY.2 hX.1 hY.1 (fun x hx=>hD x (R.perm.mem_iff.mp hx)) R.kind R.fail fun Z st' sZ pZ aZ pe kz fz=>?_
 have lz:Z.length=X.length+Y.length:=by rw [pZ.length_eq,List.length_append]
 refine h (U++(Z::B)) st' ⟨?_,fun r hr=>?_,?_,?_,kz,fz⟩ ?_ ?_
 ·rw [aZ];simp only [List.flatten_append,List.flatten_cons,List.append_assoc]
 ·rcases List.mem_append.mp hr with z | z
  ·exact R.srt r (List.mem_append_left _ z)
  ·rcases List.mem_cons.mp z with rfl | z
   ·exact ⟨sZ,by lia⟩
   ·exact R.srt r (by simp [z])
 ·rw [pe,Array.toList_eraseIdxIfInBounds,Array.toList_setIfInBounds]
  exact ZeR R.pend lz
 ·refine List.Perm.trans ?_ R.perm
  rw [aZ,R.arr]
  simp only [List.flatten_append,List.flatten_cons,List.append_assoc]
  refine List.Perm.append_left _ ?_
  rw [<- List.append_assoc X]
  exact pZ.append_right _
 ·simp
  lia
 ·simp only [List.flatten_append,List.flatten_cons,List.length_append]
  lia
theorem Rn.low {l₀:List Keyed}{rs:List (List Keyed)}{S:List Keyed}{st:SortSt} (R:Rn lt kd l₀ rs S st):rs.length<=rs.flatten.length:=by
 have:∀rs:List (List Keyed),(∀r∈rs,0<r.length)->rs.length<=rs.flatten.length:=by
  intro rs
  induction rs with
  | nil=>intro _;exact Nat.le_refl _
  | cons r rs ih=>
   intro hr
   have h1:=hr r List.mem_cons_self
   have h2:=ih fun x hx=>hr x (List.mem_cons_of_mem _ hx)
   rw [List.length_cons,List.flatten_cons,List.length_append]
   lia
 exact this rs fun r hr=>(R.srt r hr).2
theorem Rn.put {l₀:List Keyed}{rs:List (List Keyed)}{S:List Keyed}{st st':SortSt}{n:Nat} (R:Rn lt kd l₀ rs S st) (k:Kp rs.flatten.length n st st'):∃S',Rn lt kd l₀ rs S' st'/\S'.length=S.length:=by
 have hlen:(arrOf st').toList.length=(arrOf st).toList.length:=k.perm.length_eq
 have et:(arrOf st').toList.take rs.flatten.length=rs.flatten:=by
  have e0:(arrOf st).toList.take rs.flatten.length=rs.flatten:=by rw [R.arr,List.take_append_of_le_length (Nat.le_refl _),List.take_of_length_le (Nat.le_refl _)]
  rw [<- e0]
  refine List.ext_getElem? fun i=>?_
  by_cases c:i<rs.flatten.length
  ·rw [List.getElem?_take_of_lt (by rw [e0];exact c),List.getElem?_take_of_lt c,Array.getElem?_toList,Array.getElem?_toList]
   exact k.out i (.inl c)
  ·rw [List.getElem?_eq_none (by rw [List.length_take,e0];lia),List.getElem?_eq_none (by rw [List.length_take];lia)]
 refine ⟨(arrOf st').toList.drop rs.flatten.length,⟨?_,R.srt,by rw [k.pend];exact R.pend,k.perm.trans R.perm,k.kind.trans R.kind,k.fail.trans R.fail⟩,?_⟩
 ·conv=>lhs;rw [<- List.take_append_drop rs.flatten.length (arrOf st').toList,et]
 ·rw [List.length_drop,hlen,R.arr,List.length_append];lia
theorem Rn.seg {l₀:List Keyed}{rs:List (List Keyed)}{S:List Keyed}{st:SortSt} (C:Wo lt) (R:Rn lt kd l₀ rs S st) {n:Nat} (hn:n<=S.length) (h:Zaq lt (arrOf st) rs.flatten.length n):JX lt (S.take n):=by
 refine List.pairwise_iff_getElem.mpr fun i j hi hj hij=>?_
 rw [List.length_take] at hi hj
 have at_:∀k (hk:k<S.length),(arrOf st)[rs.flatten.length+k]? = some S[k]:=fun k hk=>by
  rw [<- Array.getElem?_toList,R.arr,List.getElem?_append_right (by lia),Nat.add_sub_cancel_left,List.getElem?_eq_getElem hk]
 rw [List.getElem_take,List.getElem_take]
 exact h i j _ _ (by lia) (by lia) (at_ i (by lia)) (at_ j (by lia))
theorem Rn.more {l₀:List Keyed}{rs:List (List Keyed)}{S:List Keyed}{st:SortSt} (R:Rn lt kd l₀ rs S st) {n:Nat} (h0:0<n) (hn:n<=S.length) (h:JX lt (S.take n)) {g:Nat}{pw:Nat}:
  Rn lt kd l₀ (rs ++ [S.take n]) (S.drop n) (SortSt.mk' (kindOf st) (arrOf st) ((pendingOf st).push (rs.flatten.length,n,pw)) g (failedOf st)):=by
 refine ⟨?_,fun r hr=>?_,?_,R.perm,R.kind,R.fail⟩
 ·show (arrOf st).toList=_
  rw [R.arr]
  simp only [List.flatten_append,List.flatten_cons,List.flatten_nil,List.append_nil,List.append_assoc,List.take_append_drop]
 ·rcases List.mem_append.mp hr with z | z
  ·exact R.srt r z
  ·rw [List.mem_singleton.mp z]
   exact ⟨h,by rw [List.length_take];lia⟩
 ·show WI ((pendingOf st).push _).toList _
  rw [Array.toList_push]
  have:=ZgE R.pend (S.take n) pw
  rw [show (S.take n).length=n by rw [List.length_take];lia] at this
  exact this
theorem ZiQ {c:Bool}{k:Nat}:(if c=true then k-1 else k)<=k:=by split<;>lia
theorem Rn.pow {l₀:List Keyed}{rs:List (List Keyed)}{S:List Keyed}{st:SortSt} (R:Rn lt kd l₀ rs S st) {k g:Nat}{f:Nat×Nat×Nat->Nat×Nat×Nat} (hf:∀a b c,∃d,f (a,b,c)=(a,b,d)):
  Rn lt kd l₀ rs S (SortSt.mk' (kindOf st) (arrOf st) ((pendingOf st).modify k f) g (failedOf st)):=by
 refine ⟨R.arr,R.srt,?_,R.perm,R.kind,R.fail⟩
 show WI ((pendingOf st).modify k f).toList rs
 rw [Array.toList_modify]
 exact ZhN R.pend k f hf
theorem ZeU {β:Type}{M:Model}{st:SortSt}{Q:β -> SortSt->Prop}{k n:Nat}{X Y:StateT SortSt Sem β} (h1:k<=n->wpS M A E s X Q st) (h2:n<k->wpS M A E s Y Q st):wpS M A E s (if k<=n then X else Y) Q st:=by
 by_cases h:k<=n
 ·rw [if_pos h];exact h1 h
 ·rw [if_neg h];exact h2 (by lia)
theorem Zlr {β:Type}{M:Model}{st:SortSt}{Q:β -> SortSt->Prop}{k n:Nat}{X Y:StateT SortSt Sem β} (h1:k<n->wpS M A E s X Q st) (h2:n<=k->wpS M A E s Y Q st):wpS M A E s (if k<n then X else Y) Q st:=by
 by_cases h:k<n
 ·rw [if_pos h];exact h1 h
 ·rw [if_neg h];exact h2 (by lia)
theorem ZdK (C:Cmp prog w A E s kd D lt) {st:SortSt}{Q:Unit->SortSt->Prop} (hD:∀x∈(arrOf st).toList,D x) (hk:kindOf st=kd) (hf:failedOf st=none) (hp:pendingOf st = #[])
  (h:∀st',(arrOf st').toList.Perm (arrOf st).toList->JX lt (arrOf st').toList->failedOf st'=none->Q () st'):wpS (model prog w) A E s ZgR Q st:=by
 have zs:(arrOf st).size=(arrOf st).toList.length:=by simp
 have R0:Rn lt kd (arrOf st).toList [] (arrOf st).toList st:=⟨rfl,fun r hr=>(by cases hr),by rw [hp];exact ZiS,.refl _,hk,hf⟩
 refine wpS_bind (wpS_get ?_)
 refine wpS_bind (wpS_mono (wpS_forRange (a:=0) (b:=(arrOf st).size) (I:=fun x c st'=>∃rs S,c=(none,rs.flatten.length)/\Rn lt kd (arrOf st).toList rs S st'/\(x<=rs.flatten.length∨S = []))
  (Q:=fun c st'=>∃rs,c.1=none/\Rn lt kd (arrOf st).toList rs [] st') ?_ ?_ ⟨[],_,rfl,R0,.inl (Nat.zero_le _)⟩) ?_)
 ·rintro x c st1 _ hx ⟨rs,S,rfl,R,pr⟩
  have ln:rs.flatten.length+S.length=(arrOf st).size:=by
   have:=R.perm.length_eq
   rw [R.arr,List.length_append] at this
   lia
  have z1:(arrOf st1).size=(arrOf st).size:=by
   have:=R.perm.length_eq
   simpa using this
  by_cases c0:rs.flatten.length>=(arrOf st).size
  ·show wpS _ _ _ _ (if rs.flatten.length>=(arrOf st).size then _ else _) _ _
   rw [if_pos c0]
   obtain rfl:S = []:=List.length_eq_zero_iff.mp (by lia)
   exact wpS_pure ⟨rs,rfl,R⟩
  ·show wpS _ _ _ _ (if rs.flatten.length>=(arrOf st).size then _ else _) _ _
   rw [if_neg c0]
   refine wpS_bind (Zec C (lo:=rs.flatten.length) (n:=(arrOf st).size-rs.flatten.length) (by lia) (by lia) (fun y hy=>hD y (R.perm.mem_iff.mp hy)) R.kind fun m st2 m1 m2 kp sm=>?_)
   obtain ⟨S2,R2,l2⟩:=R.put kp
   have sz2:m<=S2.length:=by lia
   have z2:(arrOf st2).size=(arrOf st).size:=by rw [kp.size,z1]
   have prx:x<=rs.flatten.length:=by
    rcases pr with z | z
    ·exact z
    ·have:=congrArg List.length z
     rw [List.length_nil] at this
     lia
   show wpS _ _ _ _ (if m<(sortPriv% PySem.Builtin.minRun) (arrOf st).size (arrOf st).size 0 then _ else _) _ _
   generalize (sortPriv% PySem.Builtin.minRun) (arrOf st).size (arrOf st).size 0=mr
   refine Zlr (fun c1=>?_) (fun c1=>?_)
   ·refine wpS_bind (wpS_lift (wpAny_rule ⟨rfl,?_⟩))
    refine wpS_bind (Zci C (lo:=rs.flatten.length) (n:=min ((arrOf st).size-rs.flatten.length) mr) (ok:=m) m1 (by lia) (by lia) (fun y hy=>hD y (R2.perm.mem_iff.mp hy)) R2.kind sm fun st3 kp3 sm3=>?_)
    obtain ⟨S3,R3,l3⟩:=R2.put kp3
    have hn0:0<min ((arrOf st).size-rs.flatten.length) mr:=by lia
    have hn1:min ((arrOf st).size-rs.flatten.length) mr<=S3.length:=by lia
    have hs:=R3.seg C.wo hn1 sm3
    refine wpS_bind (wpS_get ?_)
    generalize hbk:(pendingOf st3).back? = bk
    cases bk with
    | none=>
     have l5:rs.flatten.length=rs.flatten.length:=rfl
     refine wpS_bind (wpS_modify ?_)
     have R6:=R3.more (pw:=0) (g:=gallopOf (st3)) hn0 hn1 hs
     rw [l5] at R6
     refine wpS_pure ⟨rs ++ [S3.take (min ((arrOf st).size-rs.flatten.length) mr)],S3.drop (min ((arrOf st).size-rs.flatten.length) mr),?_,R6,.inl ?_⟩
     ·show ((none:Option Unit),rs.flatten.length+(min ((arrOf st).size-rs.flatten.length) mr))=_
      congr 1
      simp only [List.flatten_append,List.flatten_cons,List.flatten_nil,List.append_nil,List.length_append,List.length_take]
      lia
     ·simp only [List.flatten_append,List.flatten_cons,List.flatten_nil,List.append_nil,List.length_append,List.length_take]
      lia
    | some t=>
     obtain ⟨s1,n1,w1⟩:=t
     refine wpS_bind (wpS_mono (wpS_forRange (a:=0) (b:=(arrOf st).size) (I:=fun _ c st'=>c=(none,()) /\ ∃rs',Rn lt kd (arrOf st).toList rs' S3 st'/\rs'.flatten.length=rs.flatten.length) (Q:=fun c st'=>c=(none,()) /\ ∃rs',Rn lt kd (arrOf st).toList rs' S3 st'/\rs'.flatten.length=rs.flatten.length) ?_ (fun _ _ z=>z) ⟨rfl,rs,R3,rfl⟩) ?_)
     ·rintro y c st4 _ _ ⟨rfl,rs',R4,l4⟩
      have pl:(pendingOf st4).size=rs'.length:=by rw [<- R4.pend.1];simp
      refine wpS_bind (wpS_get ?_)
      show wpS _ _ _ _ (match (if (pendingOf st4).size>1 then (pendingOf st4)[(pendingOf st4).size-2]? else none) with | some (_,_,older)=>_ | x=>_) _ _
      by_cases hp1:(pendingOf st4).size>1
      ·rw [if_pos hp1]
       obtain ⟨t,ht⟩:∃t,(pendingOf st4)[(pendingOf st4).size-2]? = some t:=⟨_,getElem?_pos _ _ (by lia)⟩
       rw [ht]
       obtain ⟨a1,a2,older⟩:=t
       refine ZeU (fun _=>wpS_pure ⟨rfl,rs',R4,l4⟩) (fun _=>?_)
       refine wpS_bind (Zc0 C R4 hD (i:=(pendingOf st4).size-2) (by lia) fun rs'' st5 R5 a5 b5=>?_)
       exact wpS_pure ⟨rfl,rs'',R5,by lia⟩
      ·rw [if_neg hp1]
       exact wpS_pure ⟨rfl,rs',R4,l4⟩
     ·rintro c st4 ⟨rfl,rs',R4,l5⟩
      refine wpS_bind (wpS_modify ?_)
      have R5:=R4.pow (k:=(pendingOf st4).size-1) (f:=fun x=>match x with | (u,len,_)=>(u,len,(sortPriv% PySem.Builtin.power) (arrOf st).size (2*s1+n1) (2*s1+n1+n1+(min ((arrOf st).size-rs.flatten.length) mr)) (arrOf st).size)) (g:=gallopOf st4) fun a b c=>⟨_,rfl⟩
      refine wpS_bind (wpS_modify ?_)
      have R6:=R5.more (pw:=0) (g:=gallopOf (st4)) hn0 hn1 hs
      rw [l5] at R6
      refine wpS_pure ⟨rs' ++ [S3.take (min ((arrOf st).size-rs.flatten.length) mr)],S3.drop (min ((arrOf st).size-rs.flatten.length) mr),?_,R6,.inl ?_⟩
      ·show ((none:Option Unit),rs.flatten.length+(min ((arrOf st).size-rs.flatten.length) mr))=_
       congr 1
       simp only [List.flatten_append,List.flatten_cons,List.flatten_nil,List.append_nil,List.length_append,List.length_take]
       lia
      ·simp only [List.flatten_append,List.flatten_cons,List.flatten_nil,List.append_nil,List.length_append,List.length_take]
       lia
   ·have hs:=R2.seg C.wo sz2 sm
    have hn0:0<m:=by lia
    refine wpS_bind (wpS_get ?_)
    generalize hbk:(pendingOf st2).back? = bk
    cases bk with
    | none=>
     have l5:rs.flatten.length=rs.flatten.length:=rfl
     refine wpS_bind (wpS_modify ?_)
     have R6:=R2.more (pw:=0) (g:=gallopOf (st2)) hn0 sz2 hs
     rw [l5] at R6
     refine wpS_pure ⟨rs ++ [S2.take (m)],S2.drop (m),?_,R6,.inl ?_⟩
     ·show ((none:Option Unit),rs.flatten.length+(m))=_
      congr 1
      simp only [List.flatten_append,List.flatten_cons,List.flatten_nil,List.append_nil,List.length_append,List.length_take]
      lia
     ·simp only [List.flatten_append,List.flatten_cons,List.flatten_nil,List.append_nil,List.length_append,List.length_take]
      lia
    | some t=>
     obtain ⟨s1,n1,w1⟩:=t
     refine wpS_bind (wpS_mono (wpS_forRange (a:=0) (b:=(arrOf st).size) (I:=fun _ c st'=>c=(none,()) /\ ∃rs',Rn lt kd (arrOf st).toList rs' S2 st'/\rs'.flatten.length=rs.flatten.length) (Q:=fun c st'=>c=(none,()) /\ ∃rs',Rn lt kd (arrOf st).toList rs' S2 st'/\rs'.flatten.length=rs.flatten.length) ?_ (fun _ _ z=>z) ⟨rfl,rs,R2,rfl⟩) ?_)
     ·rintro y c st4 _ _ ⟨rfl,rs',R4,l4⟩
      have pl:(pendingOf st4).size=rs'.length:=by rw [<- R4.pend.1];simp
      refine wpS_bind (wpS_get ?_)
      show wpS _ _ _ _ (match (if (pendingOf st4).size>1 then (pendingOf st4)[(pendingOf st4).size-2]? else none) with | some (_,_,older)=>_ | x=>_) _ _
      by_cases hp1:(pendingOf st4).size>1
      ·rw [if_pos hp1]
       obtain ⟨t,ht⟩:∃t,(pendingOf st4)[(pendingOf st4).size-2]? = some t:=⟨_,getElem?_pos _ _ (by lia)⟩
       rw [ht]
       obtain ⟨a1,a2,older⟩:=t
       refine ZeU (fun _=>wpS_pure ⟨rfl,rs',R4,l4⟩) (fun _=>?_)
       refine wpS_bind (Zc0 C R4 hD (i:=(pendingOf st4).size-2) (by lia) fun rs'' st5 R5 a5 b5=>?_)
       exact wpS_pure ⟨rfl,rs'',R5,by lia⟩
      ·rw [if_neg hp1]
       exact wpS_pure ⟨rfl,rs',R4,l4⟩
     ·rintro c st4 ⟨rfl,rs',R4,l5⟩
      refine wpS_bind (wpS_modify ?_)
      have R5:=R4.pow (k:=(pendingOf st4).size-1) (f:=fun x=>match x with | (u,len,_)=>(u,len,(sortPriv% PySem.Builtin.power) (arrOf st).size (2*s1+n1) (2*s1+n1+n1+(m)) (arrOf st).size)) (g:=gallopOf st4) fun a b c=>⟨_,rfl⟩
      refine wpS_bind (wpS_modify ?_)
      have R6:=R5.more (pw:=0) (g:=gallopOf (st4)) hn0 sz2 hs
      rw [l5] at R6
      refine wpS_pure ⟨rs' ++ [S2.take (m)],S2.drop (m),?_,R6,.inl ?_⟩
      ·show ((none:Option Unit),rs.flatten.length+(m))=_
       congr 1
       simp only [List.flatten_append,List.flatten_cons,List.flatten_nil,List.append_nil,List.length_append,List.length_take]
       lia
      ·simp only [List.flatten_append,List.flatten_cons,List.flatten_nil,List.append_nil,List.length_append,List.length_take]
       lia
 ·rintro c st1 ⟨rs,S,rfl,R,pr⟩
  have ln:rs.flatten.length+S.length=(arrOf st).size:=by
   have:=R.perm.length_eq
   rw [R.arr,List.length_append] at this
   lia
  obtain rfl:S = []:=by
   rcases pr with z | z
   ·exact List.length_eq_zero_iff.mp (by lia)
   ·exact z
  exact ⟨rs,rfl,R⟩
 ·rintro c st1 ⟨rs,hc,R⟩
  obtain ⟨c1,c2⟩:=c
  dsimp only at hc
  subst hc
  refine wpS_bind (wpS_mono (wpS_forRange (a:=0) (b:=(arrOf st).size) (I:=fun x c st'=>c=(none,()) /\ ∃rs',Rn lt kd (arrOf st).toList rs' [] st'/\rs'.length+x<=(arrOf st).size) (Q:=fun c st'=>c=(none,()) /\ ∃rs',Rn lt kd (arrOf st).toList rs' [] st'/\rs'.length<=1) ?_ ?_ ⟨rfl,rs,R,?_⟩) ?_)
  ·rintro y c st4 _ _ ⟨rfl,rs',R4,l4⟩
   have pl:(pendingOf st4).size=rs'.length:=by rw [<- R4.pend.1];simp
   refine wpS_bind (wpS_get ?_)
   show wpS _ _ _ _ (if (pendingOf st4).size<=1 then _ else _) _ _
   refine ZeU (fun z=>wpS_pure ⟨rfl,rs',R4,by lia⟩) (fun z=>?_)
   refine wpS_bind (Zc0 C R4 hD ?_ fun rs'' st5 R5 a5 b5=>?_)
   ·show (if _=true then (pendingOf st4).size-2-1 else (pendingOf st4).size-2)+1<_
    exact Nat.lt_of_le_of_lt (Nat.succ_le_succ ZiQ) (by lia)
   ·exact wpS_pure ⟨rfl,rs'',R5,by lia⟩
  ·rintro c st4 ⟨rfl,rs',R4,l4⟩
   exact ⟨rfl,rs',R4,by lia⟩
  ·have:=R.low
   have:=R.perm.length_eq
   rw [R.arr,List.append_nil] at this
   lia
  ·rintro c st4 ⟨rfl,rs',R4,l4⟩
   refine wpS_pure (h st4 R4.perm ?_ R4.fail)
   rw [R4.arr,List.append_nil]
   match rs',l4,R4 with
   | [],_,_=>exact .nil
   | [r],_,R4=>simpa using (R4.srt r (by simp)).1
   | _::_::_,l4,_=>simp at l4
end
def lexLt:List Int->List Int->Bool
 | [],[]=>false
 | [],_::_=>true
 | _::_,[]=>false
 | a::as,b::bs=>if a=b then lexLt as bs else decide (a<b)
open PySem.SeqAt AutoSeq1 in
theorem ZbD (l b:Addr) (items items2:Array Value) (n n2:Nat) (dd dd2:Option Addr) (sl sl2:Array (Option Value)) (xs ys:List Int) (hx:IntsAre items.toList xs) (hy:IntsAre items2.toList ys):
  Meets (Builtin.«tuple.__lt__» ⟨[.ref l,.ref b],[]⟩) (fun A R s=>s.heap.get? l=some { cls:=.type "tuple", dict:=dd,data:=.seq items n,slots:=sl } /\ s.heap.get? b=some { cls:=.type "tuple", dict:=dd2,data:=.seq items2 n2,slots:=sl2 } /\ R (.ok (.ret (.bool (lexLt xs ys)))) s):=
 .of_wp fun prog w A R s h=>by
  obtain ⟨hp,g,d,tk,os⟩:=s;obtain ⟨hl,hb,h⟩:=h
  have:=AutoSeq1.sub_tuple_tuple
  have lx:items.size=xs.length:=by rw [<- Array.length_toList];exact IntsAre.length hx
  have ly:items2.size=ys.length:=by rw [<- Array.length_toList];exact IntsAre.length hy
  wp_walk using wpAny_loadPart' hl,wpAny_loadPart' hb,wpAny_forIn_list _ (fun rest r s'=>r.1=none/\s' = ⟨hp,g,d,tk,os⟩ /\ ∃us vs ps qs,rest=us.zip vs/\IntsAre us ps/\IntsAre vs qs/\lexLt xs ys=lexLt ps qs/\(xs.length<ys.length ↔ ps.length<qs.length)) _
  case turn=>
   rintro _ rest r s' ⟨_,rfl,us,vs,ps,qs,e,hu,hv,le,ln⟩
   cases hu with
   | nil=>cases e
   | cons p t hu=>
    cases hv with
    | nil=>cases e
    | cons q u hv=>
     cases e
     rw [lexLt] at le
     refine wpAny_bind (wpAny_eqBool_int ?_)
     by_cases z:p=q
     ·rw [if_neg (by simp [z])]
      exact wpAny_pure ⟨rfl,rfl,_,_,_,_,rfl,hu,hv,by rw [le,if_pos z],by simpa using ln⟩
     ·rw [if_pos (by simp [z])]
      rw [le,if_neg z] at h
      refine wpAny_bind (wpAny_rule (wpAny_bind (wpAny_lt_int ?_)))
      wp_walk
      exact ⟨_,rfl,h⟩
  case fin=>
   rintro ⟨_,_⟩ s' ⟨hr,rfl,us,vs,ps,qs,e,hu,hv,le,ln⟩
   cases hr
   have:lexLt ps qs=decide (items.size<items2.size):=by
    rw [lx,ly,show decide (xs.length<ys.length)=decide (ps.length<qs.length) from decide_eq_decide.mpr ln]
    cases hu with
    | nil=>cases hv<;>simp [lexLt]
    | cons=>cases hv with
     | nil=>simp [lexLt]
     | cons=>cases e
   rw [le,this] at h
   wp_walk
   exact ⟨_,rfl,h⟩
  case h=>exact ⟨rfl,rfl,_,_,_,_,rfl,hx,hy,rfl,Iff.rfl⟩
theorem Uj:∀xs:List Int,lexLt xs xs=false
 | []=>rfl
 | a::as=>by rw [lexLt,if_pos rfl];exact Uj as
theorem Zc5:∀(xs ys zs:List Int),lexLt xs zs=true->lexLt xs ys=true∨lexLt ys zs=true
 | [],[],[],h=>by simp [lexLt] at h
 | [],[],_::_,h=>.inr rfl
 | [],_::_,_,h=>.inl rfl
 | _::_,_,[],h=>by simp [lexLt] at h
 | _::_,[],_::_,h=>.inr rfl
 | a::as,b::bs,c::cs,h=>by
  simp only [lexLt] at h ⊢
  by_cases e1:a=c
  ·subst e1
   rw [if_pos rfl] at h
   by_cases e2:a=b
   ·subst e2
    rw [if_pos rfl,if_pos rfl]
    exact Zc5 as bs cs h
   ·rw [if_neg e2,if_neg (Ne.symm e2),decide_eq_true_eq,decide_eq_true_eq]
    lia
  ·rw [if_neg e1,decide_eq_true_eq] at h
   by_cases e2:a=b
   ·subst e2
    rw [if_neg e1]
    exact .inr (decide_eq_true h)
   ·rw [if_neg e2]
    by_cases e3:b=c
    ·subst e3
     exact .inl (decide_eq_true h)
    ·rw [if_neg e3,decide_eq_true_eq,decide_eq_true_eq]
     lia
theorem GZ:∀(xs ys:List Int),lexLt xs ys=true->lexLt ys xs=false
 | [],[],h=>by simp [lexLt] at h
 | [],_::_,_=>rfl
 | _::_,[],h=>by simp [lexLt] at h
 | a::as,b::bs,h=>by
  simp only [lexLt] at h ⊢
  by_cases e:a=b
  ·subst e
   rw [if_pos rfl] at h ⊢
   exact GZ as bs h
  ·rw [if_neg e,decide_eq_true_eq] at h
   rw [if_neg (Ne.symm e)]
   exact decide_eq_false (by lia)
section
variable {prog:Program}{w:World}{A:Around}{E:Value->Shared->Prop}{s:Shared}{a b:Addr}{xs ys:List Int}
def Zcg (T:String) (h:Heap) (a:Addr) (ks:List Int):Prop:=∃(vs:Array Value) (dd:Option Addr) (n:Nat) (sl:Array (Option Value)),h.get? a=some { cls:=.type T,dict:=dd,data:=.seq vs n,slots:=sl } /\ IntsAre vs.toList ks
abbrev U6:=Zcg "tuple"
theorem Zia {Q:Value->Shared->Prop} (ha:U6 s.heap a xs) (hb:U6 s.heap b ys) (hu:A.units<cLine) (h:Q (.bool (lexLt xs ys)) s):wpAny (model prog w) A (richCompare .Lt (.ref a) (.ref b)) Q E s:=by
 obtain ⟨vs,dd,n,sl,e,i⟩:=ha
 obtain ⟨vs2,dd2,n2,sl2,e2,i2⟩:=hb
 exact richCompare_meets_room (op:=.Lt) ⟨_,e,rfl⟩ ⟨_,e2,rfl⟩ F.slot_tuple_lt F.entry_tuple_lt (F.args_tuple_lt_2 _ _) (ZbD a b vs vs2 n n2 dd dd2 sl sl2 xs ys i i2) ⟨e,e2,show Value.bool (lexLt xs ys)≠Value.notImplemented/\Q _ s from ⟨(fun x=>nomatch x),h⟩⟩ hu
theorem Zju {Q:Bool->Shared->Prop} (ha:U6 s.heap a xs) (hb:U6 s.heap b ys) (hu:A.units<cLine) (h:Q (lexLt xs ys) s):wpAny (model prog w) A (oneLt' false (.ref a) (.ref b)) Q E s:=by
 rw [oneLt'_eq]
 simp only [Bool.false_eq_true,if_false]
 exact wpAny_bind (Zia ha hb hu (wpAny_truthy_bool h))
end
section
variable {prog:Program}{w:World}{A:Around}{E:Value->Shared->Prop}{s:Shared}{a b:Addr}{xs ys:List Int}
def Zed (h:Heap):Value->List Int
 | .ref a=>match h.get? a with
  | some o=>match o.data with
   | .seq vs _=>vs.toList.map numOf
   | _=>[]
  | none=>[]
 | _=>[]
theorem Zcg.key {T:String}{h:Heap} (x:Zcg T h a xs):Zed h (.ref a)=xs:=by
 obtain ⟨vs,dd,n,sl,e,i⟩:=x
 show (match h.get? a with | some o=>_ | none=>_)=_
 rw [e]
 exact i.nums
theorem Zcg.kept {T:String}{h h':Heap} (x:Zcg T h a xs) (k:∀o,h.get? a=some o->h'.get? a=some o):Zcg T h' a xs:=
 let ⟨vs,dd,n,sl,e,i⟩:=x;⟨vs,dd,n,sl,k _ e,i⟩
theorem ZjC {Q:Bool->Shared->Prop} (ha:U6 s.heap a xs) (hb:U6 s.heap b ys) (hu:A.units<cLine) (h:Q (lexLt xs ys) s):wpAny (model prog w) A (oneLt' true (.ref a) (.ref b)) Q E s:=by
 rw [oneLt'_eq]
 simp only [if_true]
 refine wpAny_bind (wpAny_cRoomFor hu ?_)
 obtain ⟨vs,dd,n,sl,e,i⟩:=ha
 obtain ⟨vs2,dd2,n2,sl2,e2,i2⟩:=hb
 refine wpAny_bind (wpAny_callSpecialIfBound?_slot (T := "tuple") ⟨_,e,rfl⟩ F.slot_tuple_lt ?_)
 refine call_meets F.slot_tuple_lt ⟨_,e,rfl⟩ F.entry_tuple_lt (F.args_tuple_lt_2 _ _) (ZbD a b vs vs2 n n2 dd dd2 sl sl2 xs ys i i2) ⟨e,e2,?_⟩
 exact wpAny_bind (wpAny_truthy_bool (wpAny_pure h))
theorem ZfO {c:Bool}{Q:Bool->Shared->Prop}:∀{us vs:List Value}{xs ys:List Int},IntsAre us xs->IntsAre vs ys -> ∀(i:Nat) (fin:Bool),(xs.length<ys.length ↔ fin=true)->Q (lexLt xs ys) s->W.KatLex prog w A c fin Q (us.zip vs) i s
 | _,_,_,_,.nil,.nil,i,fin,hf,h=>by
  have:fin=false:=by cases fin with | false=>rfl | true=>exact absurd (hf.mpr rfl) (by simp)
  subst this;exact h
 | _,_,_,_,.nil,.cons n t hr,i,fin,hf,h=>by
  have:fin=true:=hf.mp (by simp)
  subst this;exact h
 | _,_,_,_,.cons n t hr,.nil,i,fin,hf,h=>by
  have:fin=false:=by cases fin with | false=>rfl | true=>exact absurd (hf.mpr rfl) (by simp)
  subst this;exact h
 | _,_,_,_,.cons n t hr,.cons m u hs,i,fin,hf,h=>by
  refine W.kat_cons (wpAny_eqBool_int ?_)
  rw [lexLt] at h
  by_cases e:n=m
  ·rw [if_pos e] at h
   rw [show (n==m)=true by simp [e]]
   exact W.kat_yes (ZfO hr hs (i+1) fin (by simpa using hf) h)
  ·rw [if_neg e] at h
   rw [show (n==m)=false by simp [e]]
   refine W.kat_no ?_
   cases hc:(c&&i==0) with
   | true=>exact oneLt_int h
   | false=>exact W.kat_one _ _ (wpAny_lt_int h)
theorem Zk9 {c:Bool}{Q:Bool->Shared->Prop} (ha:U6 s.heap a xs) (hb:U6 s.heap b ys) (h:Q (lexLt xs ys) s):wpAny (model prog w) A (keyLt' (tuples' c) (.ref a) (.ref b)) Q E s:=by
 obtain ⟨vs,dd,n,sl,e,i⟩:=ha
 obtain ⟨vs2,dd2,n2,sl2,e2,i2⟩:=hb
 refine W.kat_lt e rfl e2 rfl (ZfO i i2 0 _ ?_ h)
 have l1:=IntsAre.length i
 have l2:=IntsAre.length i2
 rw [Array.length_toList] at l1 l2
 rw [decide_eq_true_eq]
 lia
def Kd3 (kd:SortKind):Prop:=(∃c,kd=tuples' c)∨kd=general'∨kd=oneType'
def DS (T:String) (s:Shared) (p:Keyed):Prop:=∃a ks,p.1 = .ref a/\Zcg T s.heap a ks
def ltW (s:Shared) (p q:Keyed):Bool:=lexLt (Zed s.heap p.1) (Zed s.heap q.1)
theorem Zgy {kd:SortKind} (hkd:Kd3 kd) (hu:A.units<cLine):Cmp prog w A E s kd (DS "tuple" s) (ltW s) where
 wo:=⟨fun p=>Uj _,fun p q h=>GZ _ _ h,fun p q r h=>Zc5 _ _ _ h⟩
 cmp:=fun p q st Q ⟨a,ks,e1,h1⟩ ⟨b,js,e2,h2⟩ hk h=>by
  unfold ltW at h
  rw [e1,e2,h1.key,h2.key] at h
  rw [lt'_eq]
  refine wpS_bind (wpS_get ?_)
  rw [hk,e1,e2]
  refine wpS_bind (wpS_lift (wpAny_attempt ?_))
  rcases hkd with ⟨c,rfl⟩ | rfl | rfl
  ·exact Zk9 h1 h2 ⟨rfl,wpS_pure h⟩
  ·exact Zju h1 h2 hu ⟨rfl,wpS_pure h⟩
  ·exact ZjC h1 h2 hu ⟨rfl,wpS_pure h⟩
theorem ZbR {M:Model}:∀(vs:List Value) {Q:List (Option Value)->Shared->Prop},(∀v∈vs,∃a ks,v = .ref a/\U6 s.heap a ks)->(∀fs:List (Option Value),(∀f∈fs,f=none ∨ ∃n t,f=some (.int n t))->Q fs s)->wpAny M A (vs.mapM firstOfTuple') Q E s
 | [],Q,_,h=>by rw [List.mapM_nil];exact wpAny_pure (h [] fun f hf=>by cases hf)
 | v::vs,Q,hv,h=>by
  obtain ⟨a,ks,rfl,ws,dd,n,sl,e,i⟩:=hv v List.mem_cons_self
  rw [List.mapM_cons]
  refine wpAny_bind ?_
  rw [W.kas_first_eq]
  refine wpAny_bind (wpAny_typeOf (T := "tuple") ⟨_,e,rfl⟩ ?_)
  rw [if_neg (by first | decide | simp)]
  refine wpAny_bind (listItems_at e rfl (wpAny_pure ?_))
  refine wpAny_bind (ZbR vs (fun v hv'=>hv v (List.mem_cons_of_mem _ hv')) fun fs hfs=>wpAny_pure (h _ fun f hf=>?_))
  rcases List.mem_cons.mp hf with rfl | hf
  ·cases e0:ws[0]? with
   | none=>exact .inl rfl
   | some x=>
    obtain ⟨t,et⟩:=IntsAre.int_at i 0 x (by rw [Array.getElem?_toList];exact e0)
    exact .inr ⟨_,t,by rw [et]⟩
  ·exact hfs f hf
theorem Zff {M:Model}{vs:List Value}{Q:SortKind->Shared->Prop} (hv:∀v∈vs,∃a ks,v = .ref a/\U6 s.heap a ks) (h:∀kd,Kd3 kd->Q kd s):wpAny M A (keyKind' vs.toArray) Q E s:=by
 rw [kat_kind_eq,List.mapM_toArray,map_eq_pure_bind]
 refine wpAny_bind (wpAny_bind (ZbR vs hv fun fs hfs=>wpAny_pure ?_))
 refine wpAny_ite_split (fun _=>?_) (fun _=>wpAny_ite_split (fun _=>wpAny_pure (h _ (.inr (.inl rfl)))) fun _=>?_)
 ·refine wpAny_bind (wpAny_rule ?_)
  have hfm:(fs.toArray.filterMap id)=(fs.filterMap id).toArray:=by simp
  rw [hfm,oneTypeOnly'_eq,List.mapM_toArray,map_eq_pure_bind]
  refine wpAny_bind (wpAny_bind (wpAny_bind (W.kas_mapM (r:=.type "int") _ (fun v hv' Q' hq=>?_) (wpAny_pure ?_))))
  ·obtain ⟨f,hf,ef⟩:=List.mem_filterMap.mp hv'
   rcases hfs f hf with rfl | ⟨n,t,rfl⟩
   ·cases ef
   ·cases ef
    exact wpAny_typeOf (typeIs_int s n t) hq
  ·split
   ·exact wpAny_pure (wpAny_pure (h _ (.inl ⟨_,rfl⟩)))
   ·exact wpAny_pure (wpAny_pure (h _ (.inl ⟨_,rfl⟩)))
 ·rw [oneTypeOnly'_eq,List.mapM_toArray,map_eq_pure_bind]
  refine wpAny_bind (wpAny_bind (wpAny_bind (W.kas_mapM (r:=.type "tuple") _ (fun v hv' Q' hq=>?_) (wpAny_pure ?_))))
  ·obtain ⟨a,ks,rfl,ws,dd,n,sl,e,i⟩:=hv v hv'
   exact wpAny_typeOf (T := "tuple") ⟨_,e,rfl⟩ hq
  ·split
   ·refine wpAny_pure (wpAny_pure (h _ ?_))
    split
    ·exact .inr (.inr rfl)
    ·exact .inr (.inl rfl)
   ·exact wpAny_pure (wpAny_pure (h _ (.inr (.inl rfl))))
def Zhc (h:Heap) (l:List Value):Prop:=l.Pairwise fun u v=>lexLt (Zed h v) (Zed h u)=false
theorem Zgw {M:Model} {α β:Type}{c:Prop} [Decidable c] {m n:Sem α}{f:α -> Sem β}{Q:β -> Shared->Prop} (R:α -> Prop) (h1:c -> ∀Q':α -> Shared->Prop,(∀x,R x->Q' x s)->wpAny M A m Q' E s) (h2:¬c -> ∀Q':α -> Shared->Prop,(∀x,R x->Q' x s)->wpAny M A n Q' E s)
  (h:∀x,R x->wpAny M A (f x) Q E s):wpAny M A (if c then m >>= f else n >>= f) Q E s:=by
 split
 ·exact wpAny_bind (h1 (by assumption) _ h)
 ·exact wpAny_bind (h2 (by assumption) _ h)
theorem Zgp {T:String} (kp:SortKind->Prop) {D:Addr}{vs:List Value}{n:Nat}{P:PySem.Fin->Shared->Prop} (cm:∀s' kd,kp kd->Cmp prog w A E s' kd (DS T s') (ltW s'))
  (kn:∀(s':Shared) (Q:SortKind->Shared->Prop),vs ≠ []->(∀v∈vs,∃a ks,v = .ref a/\Zcg T s'.heap a ks)->(∀kd,kp kd->Q kd s')->wpAny (model prog w) A (keyKind' vs.toArray) Q E s')
  (ho:s.heap.get? D=some (seqObj "list" vs.toArray n)) (hv:∀v∈vs,∃a ks,v = .ref a/\a≠D/\Zcg T s.heap a ks) (hz:vs.length<=sizeLine)
  (h:∀out:Array Value,out.toList.Perm vs->Zhc s.heap out.toList->P (.done (.ret .none)) { s with heap:=sortedHeap s.heap D vs out }):
  wpAny (model prog w) A (Builtin.«list.sort» ⟨[.ref D],[]⟩) P E s:=by
 rw [list_sort_plain]
 obtain ⟨ep,he⟩:∃ep,(s.heap.update D (Obj.mapSeq fun _=>#[])).get? D=some (seqObj "list" #[] ep):=⟨_,get?_update_seq ho fun _=>#[]⟩
 refine wpAny_bind (listItems_at ho rfl (wpAny_bind (listUpdate_at ho rfl (wpAny_bind (seqEpoch_at he rfl (wpAny_bind (wpAny_newTuple (wpAny_bind (wpAny_newList (wpAny_holding ?_))) (by simpa using hz))))) (by simpa using hz))))
 obtain ⟨u,eu⟩:∃u:Shared,u = { s with heap:=((s.heap.update D (Obj.mapSeq fun _=>#[])).push (seqObj "tuple" vs.toArray 0)).push (seqObj "list" #[] 0) }:=⟨_,rfl⟩
 have keep:∀b o,b≠D->s.heap.get? b=some o->u.heap.get? b=some o:=fun b o hb e=>by
  rw [eu]
  exact Heap.get?_push_of_some _ (Heap.get?_push_of_some _ ((Heap.get?_update_other _ _ (Ne.symm hb)).trans e))
 have hD:u.heap.get? D=some (seqObj "list" #[] ep):=by rw [eu];exact Heap.get?_push_of_some _ (Heap.get?_push_of_some _ he)
 have hu4:∀v∈vs,(∃a ks,v = .ref a/\Zcg T u.heap a ks)/\Zed u.heap v=Zed s.heap v:=fun v hv'=>by
  obtain ⟨a,ks,rfl,ne,t⟩:=hv v hv'
  have t':=t.kept fun o q=>keep a o ne q
  exact ⟨⟨a,ks,rfl,t'⟩,by rw [t.key,t'.key]⟩
 show wpAny (model prog w) A _ P E { s with heap:=((s.heap.update D (Obj.mapSeq fun _=>#[])).push (seqObj "tuple" vs.toArray 0)).push (seqObj "list" #[] 0) }
 rw [<- eu]
 dsimp only
 refine Zgw (fun kd=>vs.toArray.size<2∨kp kd) (fun h2 Q' q=>wpAny_pure (q _ (.inl h2))) (fun h2 Q' q=>kn u Q' (fun z=>h2 (by rw [z];decide)) (fun v hv'=>(hu4 v hv').1) fun kd hk=>q kd (.inr hk)) fun kd hk=>?_
 refine wpAny_bind (wpAny_mono (Q:=fun r s''=>s''=u/\(arrOf r.2).toList.Perm (pairsOf vs).toList/\JX (ltW u) (arrOf r.2).toList/\failedOf r.2=none) ?_ (fun r s'' hr=>?_) fun _ _ e=>e)
 ·by_cases h2:vs.toArray.size<2
  ·rw [if_pos h2,StateT.run_pure]
   refine wpAny_pure ⟨rfl,List.Perm.refl _,?_,rfl⟩
   have lp:(pairsOf vs).toList.length<2:=by rw [Array.length_toList,pairsOf_size];simpa using h2
   show JX _ (pairsOf vs).toList
   generalize (pairsOf vs).toList=L at lp ⊢
   cases L with
   | nil=>exact .nil
   | cons x t=>
    cases t with
    | nil=>exact List.pairwise_singleton _ _
    | cons y t=>exact absurd lp (by simp)
  ·rw [if_neg h2]
   refine wpAny_mono (ZdK (cm u kd (hk.resolve_left h2)) (st:=SortSt.mk' kd (vs.toArray.zip vs.toArray) #[] 7 none) (Q:=fun _ st'=>(arrOf st').toList.Perm (pairsOf vs).toList/\JX (ltW u) (arrOf st').toList/\failedOf st'=none)
    (fun p hp=>?_) rfl rfl rfl fun st' a1 a2 a3=>⟨a1,a2,a3⟩) (fun r s'' x=>x) fun _ _ e=>e
   have hp':p∈(pairsOf vs).toList:=hp
   rw [pairsOf_toList] at hp'
   exact (hu4 _ (mem_zip_self hp').2).1
 obtain ⟨rfl,hp,hs,hf⟩:=hr
 refine wpAny_bind (seqEpoch_at hD rfl (wpAny_bind (listUpdate_at hD rfl ?_ (hsz2:=by
  have:=hp.length_eq
  rw [Array.length_toList,Array.length_toList,pairsOf_size] at this
  rw [Array.size_map,this];lia))))
 have same:∀p∈(arrOf r.2).toList,p.1=p.2/\p.1∈vs:=fun p hp'=>by
  have:=hp.mem_iff.mp hp'
  rw [pairsOf_toList] at this
  exact mem_zip_self this
 have:=h ((arrOf r.2).map (·.2)) (by
  rw [Array.toList_map]
  refine (hp.map _).trans ?_
  rw [pairsOf_toList,List.map_snd_zip (Nat.le_refl _)]) (by
  rw [Array.toList_map]
  refine List.pairwise_map.mpr (List.Pairwise.imp_of_mem (fun {p q} hp' hq' x=>?_) hs)
  rw [<- (same p hp').1,<- (same q hq').1,<- (hu4 _ (same p hp').2).2,<- (hu4 _ (same q hq').2).2]
  exact x)
 unfold sortedHeap at this
 subst eu
 rw [hf,if_neg (by simp)]
 exact wpAny_pure this
theorem Zft {D:Addr}{vs:List Value}{n:Nat}{P:PySem.Fin->Shared->Prop} (hu:A.units<cLine) (ho:s.heap.get? D=some (seqObj "list" vs.toArray n)) (hv:∀v∈vs,∃a ks,v = .ref a/\a≠D/\U6 s.heap a ks) (hz:vs.length<=sizeLine)
  (h:∀out:Array Value,out.toList.Perm vs->Zhc s.heap out.toList->P (.done (.ret .none)) { s with heap:=sortedHeap s.heap D vs out }):
  wpAny (model prog w) A (Builtin.«list.sort» ⟨[.ref D],[]⟩) P E s:=Zgp Kd3 (fun s' kd hk=>Zgy hk hu) (fun s' Q _ hv h=>Zff hv h) ho hv hz h
end
theorem Uu {α β:Type} (f:α -> β):∀(l:List α) (j:Nat),(l.map f).eraseIdx j=(l.eraseIdx j).map f
 | [],_=>rfl
 | _::_,0=>rfl
 | x::l,j+1=>by show f x::(l.map f).eraseIdx j=f x::(l.eraseIdx j).map f;rw [Uu f l j]
section
variable {prog:Program}{w:World}{K:Type} [DecidableEq K] {knd:HeapKind prog w K}{A:Around}{E:Value->Shared->Prop}{s:Shared}
def Ze6 (xs:List (K×Addr×Value)) (k:K):List (K×Addr×Value):=xs.filter fun x=>decide (x.1≠k)
theorem Zca:∀{xs:List (K×Addr×Value)}{j:Nat}{k:K}{p:Addr×Value},(xs.map (·.1)).Nodup->xs[j]? = some (k,p)->xs.eraseIdx j=Ze6 xs k
 | [],j,k,p,_,h=>by simp at h
 | x::xs,0,k,p,hn,h=>by
  simp only [List.getElem?_cons_zero,Option.some.injEq] at h
  subst h
  rw [List.map_cons,List.nodup_cons] at hn
  show xs=_
  unfold Ze6
  rw [List.filter_cons_of_neg (by simp)]
  symm
  refine List.filter_eq_self.mpr fun y hy=>?_
  have:¬y.1=k:=fun e=>hn.1 (List.mem_map.mpr ⟨y,hy,e⟩)
  simp [this]
 | x::xs,j+1,k,p,hn,h=>by
  rw [List.getElem?_cons_succ] at h
  rw [List.map_cons,List.nodup_cons] at hn
  have:¬x.1=k:=fun e=>hn.1 (List.mem_map.mpr ⟨_,List.mem_of_getElem? h,e.symm⟩)
  show x::xs.eraseIdx j=_
  unfold Ze6
  rw [List.filter_cons_of_pos (by simp [this]),Zca hn.2 h];rfl
theorem Zds {d a:Addr}{xs:List (K×Addr×Value)}{k:K}{Q:Option DictEntry->Shared->Prop} (hu:knd.room A) (hkey:knd.is s.heap k a) (hm:s.heap.DictOfH knd d xs) (ht:(atKey xs k).isSome=true) (hsz:xs.length<=sizeLine)
  (h:∀e h',h'.DictOfH knd d (Ze6 xs k)->Heap.SameBut d s.heap h'->Q (some e) { s with heap:=h',toks:=s.toks+knd.draws k }):
  wpAny (model prog w) A (Builtin.Dict.takeOut d (.ref a)) Q E s:=by
 obtain ⟨o,es,ep,ho,hc,hd,he,his,hn⟩:=hm
 have hes:es.size<=sizeLine:=by rw [size_of_entries he];exact hsz
 unfold Builtin.Dict.takeOut
 try with_reducible refine wpAny_holding ?_
 refine wpAny_bind (knd.pyHash hu hkey ?_)
 refine wpAny_bind (wpAny_dictFind_heap (s:={ s with toks:=s.toks+knd.draws k }) hu hkey ho hd he his hn (fun hno=>?_) fun j p hj=>?_)
 ·rw [atKey_none_of_get hno] at ht;cases ht
 ·refine wpAny_bind (wpAny_dictEntries (s:={ s with toks:=s.toks+knd.draws k }) ho hd ?_)
  have he':es[j]? = some (entryOfKey knd (k,p)):=by rw [entry_at he j,hj];rfl
  rw [he']
  refine wpAny_bind (wpAny_updateDictKeys (hz:=hes) (s:={ s with toks:=s.toks+knd.draws k }) ho hd (wpAny_pure (h _ _ ⟨_,_,ep+1,Heap.get?_update_self _ ho (Obj.isFreed_of_dict (Obj.data_mapDictKeys hd _)),
   hc.mapDictKeys _,Obj.data_mapDictKeys hd _,?_,fun x hx=>?_,?_⟩ (Heap.SameBut.update ..))))
  ·rw [<- Zca hn hj]
   obtain ⟨l⟩:=es
   simp only [List.eraseIdxIfInBounds_toArray]
   have:l=xs.map (entryOfKey knd):=he
   rw [this,Uu]
  ·exact knd.keeps (his x (List.mem_filter.mp hx).1) ho hd (Heap.SameBut.update ..)
  ·exact List.Nodup.sublist ((List.filter_sublist).map _) hn
theorem Uq {d a:Addr}{k:K}:
  MeetsIn prog w (Builtin.«dict.__delitem__» ⟨[.ref d,.ref a],[]⟩) (fun A R s=>knd.room A.in1 /\ ∃xs,knd.is s.heap k a/\s.heap.DictOfH knd d xs/\xs.length<=sizeLine/\(atKey xs k).isSome=true /\
   ∀h',h'.DictOfH knd d (Ze6 xs k)->Heap.SameBut d s.heap h'->R (.ok (.ret .none)) { s with heap:=h',toks:=s.toks+knd.draws k }):=
 .of_wp fun A R s ⟨hu,xs,hkey,hm,hsz,hthere,h⟩=>by
  unfold Builtin.«dict.__delitem__»
  refine wpAny_bind ?_
  unfold Builtin.Dict.dictSlotArgs
  refine wpAny_bind (wpAny_notOrdered_dict hm.typeIs ?_)
  show wpAny _ _ (pure (Value.ref d,Value.ref a)) _ _ s
  refine wpAny_pure ?_
  show wpAny _ _ (Builtin.Dict.takeOut d (.ref a) >>= _) _ _ s
  refine wpAny_bind (Zds hu hkey hm hthere hsz fun e h' hm' hs'=>?_)
  exact wpAny_bind (wpAny_letGo (wpAny_pure ⟨.none,rfl,h h' hm' hs'⟩))
end
theorem KT.drop {H:Hp}{kvs:List (List Key×V)}{xs:List (List Key×Addr×Value)} (r:KT H kvs xs) (k:List Key):KT H (Zb1 kvs k) (Ze6 xs k):=by
 unfold Zb1 Ze6
 induction r with
 | nil=>exact .nil
 | @cons p q ps qs h t ih=>
  rw [List.filter_cons,List.filter_cons]
  obtain ⟨h1,h2,h3⟩:=h
  by_cases e:p.1=k
  ·have e':q.1=k:=h1.symm.trans e
   simp only [e,e',ne_eq,not_true,decide_false,Bool.false_eq_true,if_false];exact ih
  ·have e':¬q.1=k:=fun z=>e (h1.trans z)
   simp only [e,e',ne_eq,not_false_eq_true,decide_true,if_true];exact .cons ⟨h1,h2,h3⟩ ih
section
variable {X:Cx}{pins:List (Addr×Obj)} {σ:St}{H:Hp}{s:Shared}{a b:Addr}{kvs:List (List Key×V)}{k:List Key}{A:Around}{E:Value->Shared->Prop}
theorem Zfd {Q:Unit->Shared->Prop} (hu:A.units+1<cLine) (I:Inv X pins σ H s) (e:H a=some (.dT kvs)) (eb:H b=some (.tup (k.map kV))) (l:(Yy kvs k).isSome=true) (h:∀s',Inv X pins σ (upd H a (.dT (Zb1 kvs k))) s'->Q () s'):
  wpAny (model X.prog X.w) A (delItem (.ref a) (.ref b)) Q E s:=by
 obtain ⟨z,hd,xs,rel,dd⟩:=Zhw I.hok e
 refine wpAny_delItem_slot dd.typeIs (by decide) PySem.F.slot_dict_delitem
  (call_meetsIn PySem.F.slot_dict_delitem dd.typeIs PySem.F.entry_dict_delitem (PySem.F.args_dict_delitem_2 _ _) (Uq (knd:=tupleKind (ZQ X.prog X.w)) (d:=a) (a:=b) (k:=k))
   ⟨tupleKind_room_in1 hu,xs,ZbI I.hok eb,dd,by rw [<- Paired.length rel];exact z,by
    have q:=(rel.val k).isSome_eq
    rw [Option.isSome_map] at q
    rw [<- q];exact l,fun h' dd' hs=>h _ ?_⟩)
 obtain ⟨q,es,ep,hq,h2,h3,h4,_,h5⟩:=dd'
 refine Za8 I (by rw [e];exact True.intro) hs ⟨q,hq⟩ ⟨Nat.le_trans (Zh0 kvs k) z,hd,_,(rel.drop k).keeps fun c ys ec=>?_,q,es,ep,hq,h2,h3,h4,h5⟩
 rw [Zi (Zgm ec e (fun z=>nomatch z))]
 exact ec
end
def ZkI (td ty:TE):TS:=fun D σ H=>td σ H fun x H1=>ty σ H1 fun y H2=>∃a kvs k b,x = .ref a/\H2 a=some (.dT kvs)/\y = .ref b/\H2 b=some (.tup (k.map kV))/\(Yy kvs k).isSome=true/\D.nx σ (upd H2 a (.dT (Zb1 kvs k)))
theorem ZhT {X:Cx}{o i:Expr}{pos tpos:Pos}{td ty:TE} (hu:X.A.units+1<cLine) (ho:PE X o td) (hi:PE X i ty):PS X (.Delete [.Subscript o i tpos] pos) (ZkI td ty):=by
 intro pins s σ H D I h
 refine wpAny_Delete (wpAny_deleteEach_cons (wpAny_delete_Subscript (YJ (ho pins s σ H _ I h) fun u s1 ⟨x,H1,I1,rx,q1⟩=>YJ (hi pins s1 σ H1 _ I1 q1) fun iv s2 ⟨y,H2,I2,ry,a,kvs,k,b,ex,e,ey,eb,l,q2⟩=>?_)))
 subst ex ey
 obtain rfl:u=Value.ref a:=rx
 obtain rfl:iv=Value.ref b:=ry
 exact Zfd hu I2 e eb l fun s3 I3=>wpAny_deleteEach_nil ⟨σ,_,I3,q2⟩
def DAt (h:Heap) (d:Addr) (es:Array DictEntry) (ep:Nat):Prop:=∃o,h.get? d=some o/\o.ExactDict/\o.data = .dict es ep
section
variable {prog:Program}{w:World}{A:Around}{E:Value->Shared->Prop}{s:Shared}{d it:Addr}{es:Array DictEntry}{ep i:Nat}
theorem DAt.typeIs (x:DAt s.heap d es ep):s.TypeIs (.ref d) "dict" := let ⟨o,e,c,_⟩:=x;⟨o,e,c.1⟩
theorem DAt.kept {h h':Heap} (x:DAt h d es ep) (k:∀o,h.get? d=some o->h'.get? d=some o):DAt h' d es ep:=let ⟨o,e,r⟩:=x;⟨o,k o e,r⟩
theorem DAt.lt {h:Heap} (x:DAt h d es ep):d<h.objs.size:=let ⟨_,e,_⟩:=x;Heap.lt_size e
theorem Zk3 {Q:Value->Shared->Prop} (hd:(d==sysModules)=false) (x:DAt s.heap d es ep)
  (hQ:Q (.ref s.heap.objs.size) { s with heap:=s.heap.push { cls:=.type "dict_keyiterator", data:=.fields #[.ref d,.int 0 0,.int es.size 0,.int ep 0] } }):wpAny (model prog w) A (pyIter (.ref d)) Q E s:=by
 obtain ⟨o,g1,g2,g3⟩:=id x
 have ty:=x.typeIs
 refine wpAny_pyIter_slot ty F.slot_dict_iter (wpAny_call_entry F.slot_dict_iter ty F.entry_dict_iter ?_ (F.args_dict_iter_1 _))
 unfold Builtin.«dict.__iter__» Builtin.Dict.dictSlotNone Builtin.Dict.showsAll
 wp_walk using wpAny_notOrdered_dict ty,wpAny_ite_false hd,wpAny_dictEntries g1 g3,wpAny_dictEpoch g1 g3,wpAny_newObj_type
 ·exact ⟨_,rfl,_,_,⟨_,Heap.get?_push_size _ rfl,rfl⟩,F.slot_dict_keyiterator_next.lookup,hQ⟩
 ·size_fits
theorem Zfe {α:Type}{Q:α -> Shared->Prop} (hh:A.handled=none) (h:∀h' a,(∀b o,s.heap.get? b=some o->h'.get? b=some o)->Shared.TypeIs { s with heap:=h' } (.ref a) "StopIteration" -> E (.ref a) { s with heap:=h' }):
  wpAny (model prog w) A ((newExc (.type "StopIteration") [] >>= raiseNew:Sem α)) Q E s:=by
 wp_walk using wpAny_newObj_type,wpAny_raiseNew_none hh
 ·exact h _ _ (fun b o e=>Heap.get?_push_of_some _ (Heap.get?_push_of_some _ e)) ⟨_,Heap.get?_push_size _ rfl,rfl⟩
 all_goals size_fits
theorem Znr {M:Model}{a:Addr}{o:Obj}{vs:Array Value}{k:Nat}{x:Value}{Q:Unit->Shared->Prop} (ho:s.heap.get? a=some o) (hd:o.data = .fields vs) (hk:k<vs.size)
  (h:∀h',(∃o',h'.get? a=some o'/\o'.cls=o.cls/\o'.data = .fields (vs.setIfInBounds k x))->Heap.SameBut a s.heap h'->Q () { s with heap:=h' }):wpAny M A (setField (.ref a) k x) Q E s:=
 wpAny_setField ho hd hk (h _ ⟨_,Heap.get?_update_self _ ho (Obj.isFreed_of_fields (Obj.data_mapFields hd _)),Obj.cls_mapFields ..,Obj.data_mapFields hd _⟩ (Heap.SameBut.update ..))
theorem ZhW {Q:Option Value->Shared->Prop} (hit:s.heap.IsKeyIter it d i es.size ep) (hm:DAt s.heap d es ep)
  (hQ:∀e,es[i]? = some e -> ∀h',h'.IsKeyIter it d (i+1) es.size ep->Heap.SameBut it s.heap h'->Q (some e.key) { s with heap:=h' })
  (hE:es.size<=i->A.handled=none /\ ∀h',Heap.ExtBut it s.heap h'->Q none { s with heap:=h' }):wpAny (model prog w) A (pyNext (.ref it)) Q E s:=by
 obtain ⟨hp,g,dr,tk,os⟩:=s
 obtain ⟨o1,f1,f2,f3⟩:=id hit
 obtain ⟨o2,k1,k2,k3⟩:=hm
 have ty:=hit.typeIs
 unfold pyNext
 refine wpAny_bind (wpAny_attempt (wpAny_callSpecial?_slot (name:=Str.ofString "__next__") ty F.slot_dict_keyiterator_next (wpAny_call_entry F.slot_dict_keyiterator_next ty F.entry_dict_keyiterator_next ?_ (F.args_dict_keyiterator_next_1 _))))
 wp_walk using wpAny_dictEntries k1 k3,wpAny_dictEpoch k1 k3,wpAny_typeNameOfWhole_keyiter ty,wpAny_fieldsOf f1 f3
 rw [if_neg (by lia),Int.toNat_natCast]
 cases hx:es[i]? with
 | some e=>
  wp_walk using wpAny_typeNameOfWhole_keyiter ty,wpAny_isOneOf_keyiter ty,Znr f1 f3
  ·show 1<4
   decide
  rintro h1 ⟨o3,n1,n2,n3⟩ sb
  have n:h1.IsKeyIter it d (i+1) es.size ep:=⟨o3,n1,n2.trans f2,n3⟩
  have ty1:Shared.TypeIs ⟨h1,g,dr,tk,os⟩ (.ref it) "dict_keyiterator" := n.typeIs
  wp_walk using wpAny_isOneOf_keyiter ty1
  exact ⟨_,rfl,wpAny_pure (hQ e hx _ n sb)⟩
 | none=>
  obtain ⟨hh,hE⟩:=hE (by simpa using hx)
  wp_walk using wpAny_typeNameOfWhole_keyiter ty,wpAny_setField f1 f3
  ·show 0<4
   decide
  refine Zfe hh fun h' a k ty=>?_
  wp_walk using wpAny_isInstance (T := "StopIteration") (b:=true) ty isSubtype_stop
  exact hE h' fun b o hb e=>k b o ((Heap.get?_update_other _ _ (Ne.symm hb)).trans e)
theorem ZjO (hh:A.handled=none) (I:Addr) (hne:d≠I):Walks prog w A I [I,d] [I] es.size (fun i v=>∃e,es[i]? = some e/\v=e.key) (fun i h=>h.IsKeyIter I d i es.size ep/\DAt h d es ep) where
 sub:=fun b hb=>by simp at hb;simp [hb]
 frame:=fun _ _ _ st hk=>⟨st.1.at fun o e=>hk I (by simp) o e,st.2.kept fun o e=>hk d (by simp) o e⟩
 item:=fun i s Q E hi st hQ=>by
  refine ZhW st.1 st.2 (fun e he h' hit' hs'=>?_) (fun z=>absurd hi (Nat.not_lt.mpr z))
  exact hQ _ h' s.toks ⟨e,he,rfl⟩ ⟨hit',st.2.kept fun o e=>hs'.extBut d o hne e⟩ fun b o hb e=>hs'.extBut b o (fun h=>hb (by simp [h])) e
 done:=fun s Q E st hQ=>ZhW st.1 st.2 (fun e he=>by rw [Array.getElem?_eq_none (Nat.le_refl _)] at he;cases he) fun _=>⟨hh,fun h' he'=>hQ h' s.toks fun b o hb e=>he' b o (fun h=>hb (by simp [h])) e⟩
 self:=fun _ _ _ _ st hQ=>wpAny_pyIter_keyiter st.1 hQ
theorem ZmN (lo:(d==sysModules)=false):PySem.W.KdlSrc prog w "dict" d d es.size (fun i v=>∃e,es[i]? = some e/\v=e.key) (fun h=>DAt h d es ep) where
 type:=fun _ hm=>hm.typeIs
 there:=fun _ hm=>⟨hm.lt,hm.lt⟩
 keep:=fun _ _ hm hk=>hm.kept fun o e=>hk d (.inl rfl) o e
 notList:=by decide
 notTuple:=by decide
 hint:=fun _ _ _ _ hm hq=>PySem.W.kdl_hint_dict hm.typeIs hq
 iter:=fun _ _ hh hm=>⟨_,_,(fun _ _ hq=>Zk3 lo hm hq),ZjO hh _ (Nat.ne_of_lt hm.lt),⟨⟨_,Heap.get?_push_size _ rfl,rfl,rfl⟩,hm.kept fun o e=>Heap.get?_push_of_some _ e⟩⟩
end
def UO (H:Hp) (v:V) (ks:List Int):Prop:=∃a,v = .ref a/\H a=some (.tup (ks.map V.int))
abbrev Words (H:Hp) (xs:List V) (ws:List (List Int)):Prop:=Paired (UO H) xs ws
theorem Paired.perm2 {α β:Type}{F:α -> β -> Prop}{l:List α}{m m':List β} (p:m.Perm m'):Paired F l m -> ∃l',l.Perm l'/\Paired F l' m':=by
 induction p generalizing l with
 | nil=>intro r;cases r;exact ⟨[],.nil,.nil⟩
 | cons x _ ih=>intro r;cases r with | cons h t=>obtain ⟨l',a,b⟩:=ih t;exact ⟨_::l',a.cons _,.cons h b⟩
 | swap x y t=>intro r;cases r with | cons h t=>cases t with | cons h2 t=>exact ⟨_,.swap _ _ _,.cons h2 (.cons h t)⟩
 | trans _ _ i1 i2=>intro r;obtain ⟨l1,a,b⟩:=i1 r;obtain ⟨l2,c,d⟩:=i2 b;exact ⟨l2,a.trans c,d⟩
theorem Paired.flip {α β:Type}{F:α -> β -> Prop}:∀{l:List α}{m:List β},Paired F l m->Paired (fun b a=>F a b) m l
 | _,_,.nil=>.nil
 | _,_,.cons h t=>.cons h (Paired.flip t)
theorem Paired.mem1 {α β:Type}{F:α -> β -> Prop}:∀{l:List α}{m:List β},Paired F l m -> ∀a∈l,∃b∈m,F a b
 | _,_,.nil,a,h=>by cases h
 | _,_,.cons r t,a,h=>by
  rcases List.mem_cons.mp h with rfl | h
  ·exact ⟨_,List.mem_cons_self,r⟩
  ·obtain ⟨b,hb,f⟩:=Paired.mem1 t a h
   exact ⟨b,List.mem_cons_of_mem _ hb,f⟩
def Zhh (ws:List (List Int)):Prop:=ws.Pairwise fun u v=>lexLt v u=false
section
variable {X:Cx}{pins:List (Addr×Obj)} {σ:St}{H:Hp}{s:Shared}
theorem Zjm {P:Program}{w:World}{h:Heap}{a:Addr}{ks:List Int} (ok:Gj P w H h) (e:H a=some (.tup (ks.map V.int))):U6 h a ks:=by
 obtain ⟨_,its,r,o,h1,h2,n,h3⟩:=(show Yo P w H h a (.tup (ks.map V.int)) from ok a _ e)
 obtain ⟨cls,dd,data,sl⟩:=o
 dsimp only at h2 h3
 subst h2 h3
 exact ⟨its.toArray,dd,n,sl,h1,by simpa using WZ r⟩
end
section
variable {prog:Program}{w:World}{A:Around}{E:Value->Shared->Prop}{s:Shared}
end
section
variable {X:Cx}
end
def kW (ks:List Int):List Key:=ks.map Sum.inl
theorem ZmL (ks:List Int):(kW ks).map kV=ks.map V.int:=by unfold kW;rw [List.map_map];rfl
theorem ZhR {a b:List Int} (h:kW a=kW b):a=b:=(List.map_inj_right (fun x y h=>by injection h)).mp h
section
variable {prog:Program}{w:World}{A:Around}{E:Value->Shared->Prop}{s:Shared}{h₀:Heap}{L D:Addr}{m:Str->Option Value}{news:List (Addr×Obj)}{n:Nat}{vs:List Value}{Q:Value->Shared->Prop}
theorem ZlO (hu:A.units+1<cLine) (F:Fr h₀ L s.heap m) (N:News h₀ L s.heap ((D,W.listOf vs.toArray n)::news)) (lt:∀q∈news,q.1<D) (hv:∀v∈vs,∃a ks,v = .ref a/\a≠D/\U6 s.heap a ks) (hz:vs.length<=sizeLine)
  (h:∀vs' c h',Fr h₀ L h' m->News h₀ L h' ((D,W.listOf (List.toArray vs') c)::news)->vs'.Perm vs->Zhc s.heap vs'->Q .none { s with heap:=h' }):
  wpAny (model prog w) A (call (.builtin "list.sort") [.ref D]) Q E s:=by
 have z:=N (D,W.listOf vs.toArray n) List.mem_cons_self
 have ho:s.heap.get? D=some (seqObj "list" vs.toArray n):=z.1
 refine wpAny_call_entry PyProof.Rows.slot_list_sort ⟨_,z.1,rfl⟩ PyProof.Rows.entry_list_sort (Zft (n:=n) (vs:=vs) (by exact hu) ho hv hz fun out hp hP=>⟨.none,rfl,?_⟩) (PyProof.Rows.args_list_sort _)
 obtain ⟨c,hc⟩:=sortedHeap_at (vs:=vs) (out:=out) ho
 have F4:Fr h₀ L (sortedHeap s.heap D vs out) m:=
  ksk_fr (((ksk_fr F (Heap.SameBut.update s.heap D (Obj.mapSeq fun _=>#[])) z.2.1 z.2.2).push (seqObj "tuple" vs.toArray 0)).push (seqObj "list" #[] 0)) (Heap.SameBut.update _ D (Obj.mapSeq fun _=>out)) z.2.1 z.2.2
 refine h out.toList c _ F4 ?_ hp hP
 intro p hq
 rcases List.mem_cons.mp hq with rfl | hq
 ·exact ⟨hc,z.2⟩
 ·have y:=N p (.tail _ hq)
  exact ⟨(sortedHeap_old (Nat.ne_of_lt (lt p hq)) (Heap.lt_size y.1)).trans y.1,y.2⟩
end
section
variable {X:Cx}
def Zln:List V->Hp->VK->Prop:=fun xs H Q=>∃(p:Addr) (kvs:List (List Key×V)) (ws:List (List Int)),xs = [.ref p]/\H p=some (.dT kvs)/\kvs.map (·.1)=ws.map kW /\
  ∀(l:Addr) (zs:List V) (vs:List (List Int)),H l=none->vs.Perm ws->Words H zs vs->Zhh vs->Q (.ref l) (upd H l (.lst zs))
theorem Zd0 {H:Hp}:∀{kvs:List (List Key×V)}{xs:List (List Key×Addr×Value)}{ws:List (List Int)},KT H kvs xs->kvs.map (·.1)=ws.map kW->Words H (xs.map fun q=>V.ref q.2.1) ws
 | _,_,[],.nil,_=>.nil
 | _,_,_::_,.nil,e=>by simp at e
 | _,_,[],.cons _ _,e=>by simp at e
 | _,_,w::ws,.cons (a:=p) (b:=q) h t,e=>by
  rw [List.map_cons,List.map_cons] at e
  injection e with e1 e2
  refine .cons ⟨q.2.1,rfl,?_⟩ (Zd0 t e2)
  have:=h.2.1
  rw [e1,ZmL] at this
  exact this
theorem Ur (hc:X.calm=true) (hu:X.A.units+64<cLine):Wl X (.builtin "sorted") Zln:=by
 intro pins s σ H xs us Q I r h
 obtain ⟨p,kvs,ws,rfl,hp,hk,q⟩:=h
 obtain ⟨u,rfl,ru⟩:=r.one
 cases ru
 obtain ⟨z,hsm,xs,rel,ob,es,ep,o1,o2,o3,o4,o5,o6⟩:=Zhw I.hok hp
 obtain ⟨m,fr⟩:=I.fr
 have lv:kvs.length=xs.length:=Paired.length rel
 have ln:kvs.length=ws.length:=by simpa using congrArg List.length hk
 have le:es.size=xs.length:=size_of_entries o4
 refine W.kdu_sorted (ZmN (es:=es) (ep:=ep) hsm) (I.ok.hd hc) fr (news:=Jy X.base s.heap X.env.locals) Zby ⟨ob,o1,o2,o3⟩ (by lia) fun D h' tk us fr' nw' lt' hlen hP=>?_
 have hus:us=xs.map fun q=>Value.ref q.2.1:=by
  refine List.ext_getElem? fun j=>?_
  cases e:us[j]? with
  | none=>
   have:=List.getElem?_eq_none_iff.mp e
   rw [List.getElem?_eq_none (by rw [List.length_map];lia)]
  | some v=>
   obtain ⟨en,e1,rfl⟩:=hP j v e
   rw [entry_at o4 j] at e1
   cases e2:xs[j]? with
   | none=>rw [e2] at e1;cases e1
   | some x=>
    rw [e2] at e1
    cases e1
    rw [List.getElem?_map,e2]
    rfl
 have rv:Vals (xs.map fun q=>V.ref q.2.1) us:=by
  rw [hus]
  have:∀l:List (List Key×Addr×Value),Vals (l.map fun q=>V.ref q.2.1) (l.map fun q=>Value.ref q.2.1):=by
   intro l
   induction l with
   | nil=>exact .nil
   | cons a l ih=>exact .cons rfl ih
  exact this xs
 have hw:=Zd0 rel hk
 have hD:s.heap.get? D=none:=by
  have nb:X.base.get? D=none:=(nw' (D,W.listOf us.toArray 0) List.mem_cons_self).2.2
  have nL:D≠X.env.locals:=(nw' (D,W.listOf us.toArray 0) List.mem_cons_self).2.1
  cases e:s.heap.get? D with
  | none=>rfl
  | some o=>exact absurd (lt' (D,o) (JF nL nb e)) (Nat.lt_irrefl _)
 have fresh:H D=none:=by
  cases e:H D with
  | none=>rfl
  | some o=>
   obtain ⟨ob,e2⟩:=(I.hok D o e).there
   rw [hD] at e2
   cases e2
 have kp:∀b u,b≠X.env.locals->s.heap.get? b=some u->h'.get? b=some u:=fun b u hb e=>by
  cases q:X.base.get? b with
  | some v=>
   have e1:=fr'.keep b v q
   have e2:=fr.keep b v q
   rw [e] at e2
   cases e2
   exact e1
  | none=>exact (nw' (b,u) (List.mem_cons_of_mem _ (JF hb q e))).1
 have kt:∀a ks,H a=some (.tup (ks.map V.int))->U6 h' a ks:=fun a ks e=>by
  have t:=Zjm I.hok e
  refine t.kept fun o eo=>kp a o (fun zz=>?_) eo
  rw [zz,I.free] at e
  cases e
 refine ZlO (by show X.A.units+1+1<_;lia) fr' nw' lt' (fun v hv=>?_) (by lia) fun vs' c h'' fr'' nw'' pm rs=>?_
 ·obtain ⟨y,hy,ry⟩:=Paired.mem1 (Paired.flip rv) v hv
  obtain ⟨ks,_,a,e1,e2⟩:=Paired.mem1 hw y hy
  subst e1
  exact ⟨a,ks,ry,Zg e2 fresh,kt a ks e2⟩
 ·obtain ⟨ys,p1,r1⟩:=Paired.perm2 pm.symm rv
  obtain ⟨vss,p2,r2⟩:=Paired.perm2 p1 (Paired.flip hw)
  have x2:Words H ys vss:=Paired.flip r2
  have rise:Zhh vss:=by
   have key:∀{ys:List V}{out:List Value}{vs:List (List Int)},Vals ys out->Words H ys vs->out.map (Zed h')=vs:=by
    intro ys out vs a b
    induction a generalizing vs with
    | nil=>cases b;rfl
    | cons r _ ih=>
     cases b with
     | cons f t=>
      obtain ⟨q,e1,e2⟩:=f
      subst e1
      rw [List.map_cons,ih t,show _=Value.ref q from r,(kt _ _ e2).key]
   rw [<- key r1 x2]
   unfold Zhh
   rw [List.pairwise_map]
   exact rs
  have I2:=I.laidN (o:=.lst ys) (D:=D) (h':=h'') (t':=tk) fr fr'' (fun q hq=>nw'' q (List.mem_cons_of_mem _ hq)) hD fresh ⟨by
   rw [<- p1.length_eq,List.length_map]
   lia,vs',c,r1,(nw'' _ List.mem_cons_self).1⟩
  exact ⟨.ref D,_,I2,rfl,q D ys vss fresh p2.symm x2 rise⟩
def Zmi:R2:=fun x y H Q=>∃a b:List Int,UO H x a/\UO H y b/\a.length+b.length<=sizeLine /\
 (a = []->Q y H)/\(b = []->Q x H)/\(∀p,H p=none->Q (.ref p) (upd H p (.tup ((a++b).map V.int))))
theorem ZjA:OpR X (binaryOp .Add) Zmi:=by
 intro pins s σ H x y v u Q I rx ry h
 obtain ⟨a,b,⟨p,rfl,hp⟩,⟨r,rfl,hr⟩,hz,q1,q2,q3⟩:=h
 cases rx
 cases ry
 obtain ⟨_,its,r1,p1⟩:=(show Yo X.prog X.w H s.heap p (.tup (a.map V.int)) from I.hok p _ hp)
 obtain ⟨_,its2,r2,p2⟩:=(show Yo X.prog X.w H s.heap r (.tup (b.map V.int)) from I.hok r _ hr)
 have l1:a.length=its.length:=by simpa using r1.length
 have l2:b.length=its2.length:=by simpa using r2.length
 by_cases e:its = []
 ·obtain ⟨⟨cls,dd,data,sl⟩,ho,hc,n,hd⟩:=id p1
  obtain ⟨⟨cls2,dd2,data2,sl2⟩,ho2,hc2,n2,hd2⟩:=id p2
  simp only at hc hd hc2 hd2
  subst hc hd hc2 hd2
  have ea:a = []:=by rw [e] at l1;exact List.length_eq_zero_iff.mp l1
  exact concat_meets ⟨_,ho,rfl⟩ ⟨_,ho2,rfl⟩ noFill_tuple_add seq_tuple_add PySem.F.slot_tuple_add PySem.F.entry_tuple_add (PySem.F.args_tuple_add_2 _ _)
   (tuple_addW0 p r its.toArray its2.toArray n n2 dd dd2 sl sl2 (by simp [e])) ⟨ho,ho2,⟨.ref r,H,I,rfl,q1 ea⟩⟩
 ·refine HT.Zkj p1 p2 e (fun z=>⟨.ref p,H,I,rfl,q2 (by rw [z] at l2;exact List.length_eq_zero_iff.mp l2)⟩) (fun z=>?_) (by rw [<- l1,<- l2];exact hz)
  refine ⟨.ref s.heap.objs.size,_,I.laid (t':=s.toks) (o:=.tup ((a++b).map V.int)) (fun b ob q=>Heap.get?_push_of_some _ q) (Nat.le_refl _) ?_,rfl,q3 _ (I.hok.fresh (Nat.le_refl _))⟩
  exact ⟨by rw [List.length_map,List.length_append];exact hz,_,by rw [List.map_append];exact r1.append r2,IsTup.new _ _⟩
end
end L2
namespace L2
open PySem PySem.Spec PyProof.Rows PyProof.V
section
variable {X:Cx}
theorem Zf1 {K:PySem.W.Frag}{l tg:Expr}{tl:TE} (hk:X.K=K) (hl:PE X l tl):PI X tg l (ZkJ K tl):=hk ▸ ZkP hl
end
section
variable {g:TG}{tc:TT}{te:TE} {σ:St}{H:Hp}{Q:VK}{K:PySem.W.Frag}{a b:Addr}{xs ys:List V}
theorem ZkT (hn:xs.length<=sizeLine) (Pv:Nat->List V->Hp->Prop) (h0:Pv 0 [] H) (hlen:∀i ys H,Pv i ys H->ys.length<=i) (hS:∀i ys H,Pv i ys H->JH K H a xs)
  (hs:∀i x ys H,xs[i]? = some x->Pv i ys H->g x σ H fun σ2 H2=>tc σ2 H2 fun b H3=>if b=true then te σ2 H3 fun y H4=>Pv (i+1) (ys ++ [y]) H4 else Pv (i+1) ys H3)
  (hd:∀ys H,Pv xs.length ys H -> ∀D,H D=none->Q (.ref D) (upd H D (.lst ys))):LcW (Itt K a) σ g tc te H Q:=
 Zb5 hn Pv h0 hlen (fun i ys H hi p=>⟨xs,xs[i],hS i ys H p,by simp [hi]⟩) (fun ys H p=>⟨xs,hS _ ys H p,Nat.le_refl _⟩) (fun i ys H hi p x H' y=>by
  obtain ⟨e,y⟩:=y
  subst e
  exact hs i x ys _ (y xs (hS i ys _ p)) p) hd
end
abbrev WS:=List (List Int)
theorem Zdc:∀(a b:List Int),lexLt a b=false->lexLt b a=false->a=b
 | [],[],_,_=>rfl
 | [],_::_,h,_=>by simp [lexLt] at h
 | _::_,[],_,h=>by simp [lexLt] at h
 | x::a,y::b,h,h'=>by
  rw [lexLt] at h h'
  by_cases e:x=y
  ·subst e
   rw [if_pos rfl] at h h'
   rw [Zdc a b h h']
  ·rw [if_neg e] at h
   rw [if_neg (Ne.symm e)] at h'
   have h1:=of_decide_eq_false h
   have h2:=of_decide_eq_false h'
   lia
def SR (r:WS):Prop:=r.Pairwise fun u v=>lexLt u v=true
theorem Zhu:∀(r r':WS),SR r->SR r'->(∀w,w∈r ↔ w∈r')->r=r'
 | [],[],_,_,_=>rfl
 | [],b::_,_,_,h=>by have:=(h b).mpr List.mem_cons_self;cases this
 | a::_,[],_,_,h=>by have:=(h a).mp List.mem_cons_self;cases this
 | a::r,b::r',h1,h2,h=>by
  obtain ⟨p1,q1⟩:=List.pairwise_cons.mp h1
  obtain ⟨p2,q2⟩:=List.pairwise_cons.mp h2
  have e:a=b:=by
   rcases List.mem_cons.mp ((h a).mp List.mem_cons_self) with e | e
   ·exact e
   ·rcases List.mem_cons.mp ((h b).mpr List.mem_cons_self) with e' | e'
    ·exact e'.symm
    ·have z1:=p2 a e
     have z2:=p1 b e'
     rw [GZ _ _ z1] at z2
     cases z2
  subst e
  have no:∀{l:WS},(∀x∈l,lexLt a x=true)->a∉l:=fun {l} p m=>by
   have:=p a m
   rw [Uj] at this
   cases this
  rw [Zhu r r' q1 q2 fun w=>⟨fun m=>?_,fun m=>?_⟩]
  ·rcases List.mem_cons.mp ((h w).mp (List.mem_cons_of_mem _ m)) with e | e
   ·subst e;exact absurd m (no p1)
   ·exact e
  ·rcases List.mem_cons.mp ((h w).mpr (List.mem_cons_of_mem _ m)) with e | e
   ·subst e;exact absurd m (no p2)
   ·exact e
theorem SR.nodup {r:WS} (h:SR r):r.Nodup:=h.imp fun {u v} z e=>by subst e;rw [Uj] at z;cases z
theorem ZmO {r:WS} (h:Zhh r) (n:r.Nodup):SR r:=(List.Pairwise.and h n).imp fun {u v} ⟨a,b⟩=>by
 cases e:lexLt u v with
 | true=>rfl
 | false=>exact absurd (Zdc _ _ e a) b
structure JB (L r:WS):Prop where
 rise:SR r
 mem:∀w,w∈r ↔ L.count w % 2=1
theorem JB.one {L r r':WS} (x:JB L r) (y:JB L r'):r=r':=Zhu r r' x.rise y.rise fun w=>(x.mem w).trans (y.mem w).symm
theorem JB.sub {L r:WS} (x:JB L r) {w:List Int} (h:w∈r):w∈L:=by
 have:=(x.mem w).mp h
 exact List.count_pos_iff.mp (by lia)
theorem sub_len:∀{r L:WS},r.Nodup->(∀w∈r,w∈L)->r.length<=L.length
 | [],_,_,_=>Nat.zero_le _
 | a::r,L,n,h=>by
  obtain ⟨n1,n2⟩:=List.nodup_cons.mp n
  have ha:=h a List.mem_cons_self
  have:=sub_len (r:=r) (L:=L.erase a) n2 fun w hw=>(List.mem_erase_of_ne (fun (e:w=a)=>n1 (e ▸ hw))).mpr (h w (List.mem_cons_of_mem _ hw))
  rw [List.length_erase_of_mem ha] at this
  have:=List.length_pos_of_mem ha
  rw [List.length_cons];lia
theorem JB.len {L r:WS} (x:JB L r):r.length<=L.length:=sub_len x.rise.nodup fun _ h=>x.sub h
theorem Zjr:JB [] []:=⟨.nil,fun w=>by simp⟩
structure ZaW (L ks:WS):Prop where
 nd:ks.Nodup
 mem:∀w,w∈ks ↔ L.count w % 2=1
theorem ZdV:ZaW [] []:=⟨.nil,fun w=>by simp⟩
theorem Zhq {L ks:WS}{w:List Int} (x:ZaW L ks) (h:w∈ks):ZaW (L ++ [w]) (ks.filter fun k=>decide (k≠w)):=by
 refine ⟨x.nd.filter _,fun y=>?_⟩
 have m:=x.mem y
 rw [List.mem_filter,List.count_append,List.count_singleton]
 by_cases e:w=y
 ·subst e
  have:=m.mp h
  simp
  lia
 ·have e':¬y=w:=fun z=>e z.symm
  simp [e,e',m]
theorem ZjH {L ks:WS}{w:List Int} (x:ZaW L ks) (h:w∉ks):ZaW (L ++ [w]) (ks ++ [w]):=by
 refine ⟨?_,fun y=>?_⟩
 ·rw [List.nodup_append]
  exact ⟨x.nd,by simp,fun a ha b hb e=>h (by rw [List.mem_singleton.mp hb] at e;exact e ▸ ha)⟩
 have m:=x.mem y
 rw [List.mem_append,List.mem_singleton,List.count_append,List.count_singleton]
 by_cases e:w=y
 ·subst e
  have:=mt m.mpr h
  simp
  lia
 ·have e':¬y=w:=fun z=>e z.symm
  simp [e,e',m]
theorem ZaW.sub {L ks:WS} (x:ZaW L ks) {w:List Int} (h:w∈ks):w∈L:=by
 have:=(x.mem w).mp h
 exact List.count_pos_iff.mp (by lia)
theorem ZaW.len {L ks:WS} (x:ZaW L ks):ks.length<=L.length:=sub_len x.nd fun _ h=>x.sub h
theorem ZaW.odd {L ks r:WS} (x:ZaW L ks) (p:r.Perm ks) (h:Zhh r):JB L r:=⟨ZmO h (p.nodup_iff.mpr x.nd),fun w=>by rw [p.mem_iff,x.mem]⟩
def prd (A B:WS):WS:=A.flatMap fun u=>B.map fun v=>u++v
theorem ZeB (u:List Int) (A B:WS):prd (u::A) B=B.map (fun v=>u++v)++prd A B:=by simp [prd]
theorem ZjP (A B C:WS):prd (A++B) C=prd A C++prd B C:=by simp [prd]
def Gd (n m:Nat) (L:WS):Prop:=L.length<=n /\ ∀w∈L,w.length<=m /\ ∀k∈w,0<=k
theorem JB.gd {L r:WS}{n m:Nat} (x:JB L r) (g:Gd n m L):Gd n m r:=⟨Nat.le_trans x.len g.1,fun w h=>g.2 w (x.sub h)⟩
theorem Gd.mono {n m n' m':Nat}{L:WS} (g:Gd n m L) (h1:n<=n') (h2:m<=m'):Gd n' m' L:=⟨Nat.le_trans g.1 h1,fun w h=>⟨Nat.le_trans (g.2 w h).1 h2,(g.2 w h).2⟩⟩
theorem Gd.app {n m n' m':Nat}{A B:WS} (a:Gd n m A) (b:Gd n' m' B):Gd (n+n') (max m m') (A++B):=by
 refine ⟨by rw [List.length_append];have:=a.1;have:=b.1;lia,fun w h=>?_⟩
 rcases List.mem_append.mp h with h | h
 ·exact ⟨Nat.le_trans (a.2 w h).1 (Nat.le_max_left _ _),(a.2 w h).2⟩
 ·exact ⟨Nat.le_trans (b.2 w h).1 (Nat.le_max_right _ _),(b.2 w h).2⟩
theorem Zbb (B:WS):∀A:WS,(prd A B).length=A.length*B.length
 | []=>by simp [prd]
 | u::A=>by rw [ZeB,List.length_append,List.length_map,Zbb B A,List.length_cons,Nat.succ_mul];lia
theorem Gd.prd {n m n' m':Nat}{A B:WS} (a:Gd n m A) (b:Gd n' m' B):Gd (n*n') (m+m') (L2.prd A B):=by
 refine ⟨by rw [Zbb];exact Nat.mul_le_mul a.1 b.1,fun w h=>?_⟩
 obtain ⟨u,hu,h⟩:=List.mem_flatMap.mp h
 obtain ⟨v,hv,rfl⟩:=List.mem_map.mp h
 refine ⟨by rw [List.length_append];have:=(a.2 u hu).1;have:=(b.2 v hv).1;lia,fun k hk=>?_⟩
 rcases List.mem_append.mp hk with hk | hk
 ·exact (a.2 u hu).2 k hk
 ·exact (b.2 v hv).2 k hk
theorem ZeX {n m:Nat}:Gd n m []:=⟨Nat.zero_le _,fun _ h=>nomatch h⟩
def WL (H:Hp) (a:Addr) (L:WS):Prop:=∃xs,H a=some (.lst xs)/\Words H xs L
theorem UO.mono {H H':Hp}{v:V}{w:List Int} (k:∀t p,H t=some (.tup p)->H' t=some (.tup p)) (x:UO H v w):UO H' v w:=let ⟨a,e,q⟩:=x;⟨a,e,k _ _ q⟩
theorem Words.mono {H H':Hp}{xs:List V}{L:WS} (k:∀t p,H t=some (.tup p)->H' t=some (.tup p)) (x:Words H xs L):Words H' xs L:=Paired.mapP x fun _ _ q=>UO.mono k q
theorem Words.same {H H':Hp}{xs:List V}{L:WS} (s:Zf H H') (x:Words H xs L):Words H' xs L:=Words.mono (fun t p e=>s t _ e) x
theorem UO.same {H H':Hp}{v:V}{w:List Int} (s:Zf H H') (x:UO H v w):UO H' v w:=UO.mono (fun t p e=>s t _ e) x
theorem WL.same {H H':Hp}{a:Addr}{L:WS} (s:Zf H H') (x:WL H a L):WL H' a L:=let ⟨xs,e,q⟩:=x;⟨xs,s _ _ e,Words.same s q⟩
theorem Words.len {H:Hp}{xs:List V}{L:WS} (x:Words H xs L):xs.length=L.length:=Paired.length x
theorem Words.get {H:Hp}:∀{xs:List V}{L:WS}{i:Nat}{x:V},Words H xs L->xs[i]? = some x -> ∃w,L[i]? = some w/\UO H x w
 | _,_,_,_,.nil,e=>by simp at e
 | _,_,0,_,.cons r _,e=>by simp at e;subst e;exact ⟨_,rfl,r⟩
 | _,_,i+1,x,.cons _ t,e=>by
  obtain ⟨w,h1,h2⟩:=Words.get (i:=i) (x:=x) t (by simpa using e)
  exact ⟨w,by simpa using h1,h2⟩
theorem Words.snoc {H:Hp}{xs:List V}{L:WS}{x:V}{w:List Int} (h:Words H xs L) (e:UO H x w):Words H (xs ++ [x]) (L ++ [w]):=Paired.snoc h e
theorem Jo.tups {b:Addr}{H H':Hp} (f:Jo b H H') (hb:∀p,H b≠some (.tup p)):∀t p,H t=some (.tup p)->H' t=some (.tup p):=fun t p e=>f t _ e fun z=>hb p (z ▸ e)
section
variable {X:Cx}
end
def DOd (H:Hp) (d:Addr) (L:WS):Prop:=∃(kvs:List (List Key×V)) (ks:WS),H d=some (.dT kvs)/\kvs.map (·.1)=ks.map kW/\ZaW L ks
theorem Zdf:∀{kvs:List (List Key×V)}{ks:WS}{w:List Int},kvs.map (·.1)=ks.map kW->((Yy kvs (kW w)).isSome=true ↔ w∈ks)
 | [],[],w,_=>by simp [Yy]
 | [],_::_,_,e=>by simp at e
 | _::_,[],_,e=>by simp at e
 | p::kvs,k::ks,w,e=>by
  rw [List.map_cons,List.map_cons] at e
  injection e with e1 e2
  by_cases z:p.1=kW w
  ·rw [Yd z]
   have:k=w:=ZhR (e1.symm.trans z)
   simp [this]
  ·rw [Ye z,Zdf e2]
   have:¬w=k:=fun q=>z (by rw [e1,q])
   simp [this]
theorem ZcB:∀{kvs:List (List Key×V)}{ks:WS}{w:List Int},kvs.map (·.1)=ks.map kW->(Zb1 kvs (kW w)).map (·.1)=(ks.filter fun k=>decide (k≠w)).map kW
 | [],[],w,_=>rfl
 | [],_::_,_,e=>by simp at e
 | _::_,[],_,e=>by simp at e
 | p::kvs,k::ks,w,e=>by
  rw [List.map_cons,List.map_cons] at e
  injection e with e1 e2
  have ih:=ZcB (w:=w) e2
  unfold Zb1 at ih ⊢
  by_cases z:k=w
  ·rw [List.filter_cons_of_neg (by rw [e1,z];simp),List.filter_cons_of_neg (by rw [z];simp),ih]
  ·have:¬p.1=kW w:=fun q=>z (ZhR (e1.symm.trans q))
   rw [List.filter_cons_of_pos (by simp [this]),List.filter_cons_of_pos (by simp [z]),List.map_cons,List.map_cons,ih,e1]
theorem ZhD {kvs:List (List Key×V)}{ks:WS}{w:List Int}{v:V} (e:kvs.map (·.1)=ks.map kW) (h:w∉ks):(putK kvs (kW w) v).map (·.1)=(ks ++ [w]).map kW:=by
 have a:(kvs.any fun kv=>decide (kv.1=kW w))=false:=by
  rw [WO]
  cases q:(Yy kvs (kW w)).isSome with
  | false=>rfl
  | true=>exact absurd ((Zdf e).mp q) h
 unfold putK
 rw [a]
 simp [e]
theorem DOd.tups {H H':Hp}{d:Addr}{L:WS} (x:DOd H d L) (f:Jo d H H'):∀t p,H t=some (.tup p)->H' t=some (.tup p):=f.tups fun p z=>by
 obtain ⟨_,_,e,_⟩:=x
 rw [e] at z;cases z
theorem DOd.wl {H H':Hp}{d a:Addr}{L M:WS} (x:DOd H d L) (f:Jo d H H') (y:WL H a M):WL H' a M:=by
 obtain ⟨xs,e,q⟩:=y
 refine ⟨xs,f a _ e fun z=>?_,Words.mono (x.tups f) q⟩
 obtain ⟨_,_,e',_⟩:=x
 rw [z,e'] at e;cases e
end L2
namespace L2
open PySem PySem.Spec PyProof.Rows PyProof.V
section
variable {X:Cx}{C:Addr}{x m:Str}{p pos apos:Pos}{e o:Expr}{es:List Expr}{ta:TE}{t:TA}
structure MkO (K:PySem.W.Frag) (C:Addr):Prop where
 makes:PySem.W.makesIn K C=true
 init:PySem.W.findIn K (.ref C) "__init__" = some (some (.builtin "object.__init__"))
 kp:PySem.W.keepIn K (.ref C)=true
def ZlH (C:Addr):TE:=fun _ H Q=>∀x dx,H x=none->H dx=none->dx≠x->Q (.ref x) (upd (upd H dx (.own x)) x (.ins C dx []))
theorem Zhy (M:MkO X.K C) (hg:Gl X x) (hm:X.mg x=some (.ref C)) (hdb:(x==("__debug__" : Str))=false:=by decide):PE X (.Call (.Name x p) [] [] pos) (ZlH C):=by
 intro pins s σ H Q I h
 refine wpAny_Call_Name_kw (Ud I hg hm ?_ hdb)
 refine PySem.W.callWith_K0 I.kIn M.kp (wpAny_call ?_)
 have Y:=PySem.W.makes_of (M:=model X.prog X.w) I.kIn M.makes
 have I2:=Inv.made (C:=C) I
 have hq:=h (s.heap.objs.size+1) s.heap.objs.size (I.hok.fresh (Nat.le_succ _)) (I.hok.fresh (Nat.le_refl _)) (Nat.ne_of_lt (Nat.lt_succ_self _))
 have hx:((s.heap.push PySem.W.emptyDict).push (PySem.W.instObj C s.heap.objs.size)).get? (s.heap.objs.size+1)=some (PySem.W.instObj C s.heap.objs.size):=by
  have:=Heap.get?_push_size (s.heap.push PySem.W.emptyDict) (o:=PySem.W.instObj C s.heap.objs.size) rfl
  rwa [Heap.size_push] at this
 refine ZgZ I.kIn M.makes M.init (fun self=>PySem.W.Looks.of_pure (PySem.W.oi_bind self)) ?_
 have t1:PySem.W.Looks (model X.prog X.w) ((s.heap.push PySem.W.emptyDict).push (PySem.W.instObj C s.heap.objs.size)) (typeOf (.ref (s.heap.objs.size+1))) (.ref C):=(PySem.W.Looks.ld hx).andThen .now
 have t2:PySem.W.Looks (model X.prog X.w) ((s.heap.push PySem.W.emptyDict).push (PySem.W.instObj C s.heap.objs.size)) (isInstance (.ref (s.heap.objs.size+1)) (.type "object")) true:=t1.andThen (Y.top.keeps fun b o e=>Heap.get?_push_of_some _ (Heap.get?_push_of_some _ e))
 refine codeAny_call_builtin PySem.W.oi_plain PySem.W.entry_oi (@PySem.W.check_slot (model X.prog X.w) _ _ _ "object.__init__" "object" "__init__" (.ref (s.heap.objs.size+1)) [] [] _ PySem.W.oi_kind PySem.W.oi_split t2 (PySem.W.oi_args (.ref (s.heap.objs.size+1))) ?_)
 rw [PySem.W.oi_run]
 exact wpAny_pure (And.intro rfl ⟨V.ref (s.heap.objs.size+1),_,I2,rfl,hq⟩)
def US (P:Program) (w:World) (K:PySem.W.Frag) (mg:Str->Option Value) (base:Heap) (k:Nat) (C:Addr) (m:Str) (ps:List Str) (sp:Sp):Prop:=
 ∃(f:Addr) (fd:FuncData),Yj P w K mg base GV k f fd ps sp/\Meth K C m f/\Binds K fd ps []
theorem Jv {k:Nat}{ps:List Str}{sp:Sp}{pl:Sem Bool} (h:US X.prog X.w X.K X.mg X.base k C m ps sp) (c:Cls X.K C) (hr:JE k X.A) (he:PE X o ta) (ha:PA X (e::es) t)
  (hst:starEach (e::es) X.env=(false,eval e X.env)::starEach es X.env:=by rfl) (hpl:(backTo pos (starEach es X.env)).any (·.1)=false:=by rfl)
  (ht:eval (.Call (.Attribute o m apos) (e::es) [] pos) X.env=(do
   let ov <- eval o X.env
   standAt apos.atName
   let (f,first) <- holding [ov] (getMethod ov m pl)
   callWith pos f first (backTo pos (starEach (e::es) X.env)) (backToKw pos (keywordEach [] X.env))):=by rfl):
  PE X (.Call (.Attribute o m apos) (e::es) [] pos) (ZfV C m sp [] E0 ta t):=by
 obtain ⟨f,fd,G,hm,hb⟩:=h
 exact ZjM he c hm G hr hb .nil ZhC ha hst hpl ht
theorem GX {k:Nat}{ps:List Str}{sp:Sp}{pl:Sem Bool} (h:US X.prog X.w X.K X.mg X.base k C m ps sp) (c:Cls X.K C) (hr:JE k X.A) (he:PE X o ta)
  (ht:eval (.Call (.Attribute o m apos) [] [] pos) X.env=(do
   let ov <- eval o X.env
   standAt apos.atName
   let (f,first) <- holding [ov] (getMethod ov m pl)
   callWith pos f first (backTo pos (starEach [] X.env)) (backToKw pos (keywordEach [] X.env))):=by rfl):
  PE X (.Call (.Attribute o m apos) [] [] pos) (ZfV C m sp [] E0 ta Zi1):=by
 obtain ⟨f,fd,G,hm,hb⟩:=h
 exact Zg8 he c hm G hr hb .nil ZhC ht
def tFs (tv:TE):TE:=fun σ H Q=>tv σ H fun v H1=>∃i:Int,v = .int i/\i.natAbs<10 ^ 12 /\ ∀z,Q (.str z) H1
theorem Zma {a b:Str}{v:Expr}{tv:TE}{j1 j2:Nat}{p1 p2 p3 pos:Pos} (hv:PE X v tv) (ha:a.length<=1000) (hb:b.length<=1000):
  PE X (.JoinedStr [.Constant (.str a) j1 p1,.FormattedValue v (-1) none p2,.Constant (.str b) j2 p3] pos) (tFs tv):=by
 intro pins s σ H Q I h
 refine wpAny_JoinedStr ?_
 have z1:(Str.empty++a).length<=sizeLine:=by rw [strLen_append,sizeLine_eq];show 0+_<=_;lia
 refine Calls.Constant_str ⟨a,_,rfl,z1,?_⟩
 refine wpAny_FormattedValue_plain (YJ (hv pins _ σ H _ (I.tok _) h) fun u s1 ⟨x,H1,I1,rx,i,e,hi,q⟩=>?_)
 subst e
 obtain ⟨t,rfl⟩:=rx
 have li:=int_text_length_le10 (k:=12) (by decide) hi
 have lg:i.natAbs.log2<1920:=by
  by_cases h0:i.natAbs=0
  ·rw [h0];decide
  ·exact Nat.lt_of_lt_of_le ((Nat.log2_lt (k:=40) h0).mpr (Nat.lt_of_lt_of_le hi (by decide))) (by decide)
 have z2:(Str.empty++a++Str.ofString (toString i)).length<=sizeLine:=by rw [strLen_append,strLen_append,PySem.ofString_length,sizeLine_eq];show 0+_+_<=_;lia
 refine wpAny_formatField_int lg ⟨_,_,rfl,z2,?_⟩
 have z3:(Str.empty++a++Str.ofString (toString i)++b).length<=sizeLine:=by rw [strLen_append,strLen_append,strLen_append,PySem.ofString_length,sizeLine_eq];show 0+_+_+_<=_;lia
 exact Calls.Constant_str ⟨b,_,rfl,z3,z3,⟨.str _,H1,((I1.tok _).tok _).tok _,⟨_,rfl⟩,q _⟩⟩
end
theorem lex_trans {x y z:List Int} (h1:lexLt x y=true) (h2:lexLt y z=true):lexLt x z=true:=by
 rcases Zc5 x z y h1 with h | h
 ·exact h
 ·rw [GZ _ _ h2] at h;cases h
def tog (w:List Int):WS->WS
 | []=>[w]
 | x::r=>if w=x then r else if lexLt w x=true then w::x::r else x::tog w r
theorem Zhj (w:List Int):∀{r:WS},SR r->SR (tog w r) /\ ∀y,y∈tog w r ↔ if y=w then w∉r else y∈r
 | [],_=>⟨List.pairwise_singleton _ _,fun y=>by by_cases e:y=w<;>simp [tog,e]⟩
 | x::r,h=>by
  obtain ⟨p,q⟩:=List.pairwise_cons.mp h
  have nx:x∉r:=fun m=>by have:=p x m;rw [Uj] at this;cases this
  unfold tog
  by_cases e:w=x
  ·subst e
   rw [if_pos rfl]
   refine ⟨q,fun y=>?_⟩
   by_cases e:y=w
   ·subst e;simp [nx]
   ·simp [e]
  ·rw [if_neg e]
   by_cases l:lexLt w x=true
   ·rw [if_pos l]
    have nw:w∉x::r:=fun m=>by
     rcases List.mem_cons.mp m with z | z
     ·exact e z
     ·rw [GZ _ _ (p w z)] at l;cases l
    refine ⟨List.pairwise_cons.mpr ⟨fun y hy=>?_,h⟩,fun y=>?_⟩
    ·rcases List.mem_cons.mp hy with rfl | hy
     ·exact l
     ·exact lex_trans l (p y hy)
    ·by_cases e:y=w
     ·subst e;rw [if_pos rfl];exact ⟨fun _=>nw,fun _=>List.mem_cons_self⟩
     ·rw [if_neg e,List.mem_cons];simp [e]
   ·rw [if_neg l]
    have l':lexLt x w=true:=by
     cases q:lexLt x w with
     | true=>rfl
     | false=>exact absurd (Zdc _ _ (by simpa using l) q) e
    obtain ⟨i1,i2⟩:=Zhj w q
    refine ⟨List.pairwise_cons.mpr ⟨fun y hy=>?_,i1⟩,fun y=>?_⟩
    ·have:=(i2 y).mp hy
     by_cases z:y=w
     ·rw [z];exact l'
     ·rw [if_neg z] at this;exact p y this
    ·rw [List.mem_cons,i2 y]
     by_cases z:y=w
     ·subst z;simp [e]
     ·simp [z]
def canon:WS->WS
 | []=>[]
 | w::L=>tog w (canon L)
theorem Ya:∀L:WS,JB L (canon L)
 | []=>Zjr
 | w::L=>by
  have ih:=Ya L
  obtain ⟨a,b⟩:=Zhj w ih.rise
  refine ⟨a,fun y=>?_⟩
  show y∈tog w (canon L) ↔ _
  rw [b y,List.count_cons]
  have m:=ih.mem y
  by_cases e:y=w
  ·subst e
   rw [if_pos rfl]
   simp only [beq_self_eq_true,if_true]
   constructor
   ·intro h;have:=mt m.mpr h;lia
   ·intro h z;have:=m.mp z;lia
  ·have e':¬w=y:=fun z=>e z.symm
   rw [if_neg e,m]
   simp [e']
theorem JB.canon {L r:WS} (x:JB L r):r=canon L:=x.one (Ya L)
def Y5 (A B:WS):WS:=canon (A++B)
def Yi (A B:WS):WS:=canon (prd A B)
def JN (H:Hp) (r:Addr) (n:Nat) (f:Nat->WS):Prop:=∃xs,H r=some (.lst xs)/\xs.length=n /\ ∀(j:Nat) (x:V),xs[j]? = some x -> ∃e,x = .ref e/\WL H e (f j)
theorem JN.same {H H':Hp}{r:Addr}{n:Nat}{f:Nat->WS} (s:Zf H H') (x:JN H r n f):JN H' r n f:=
 let ⟨xs,a,b,c⟩:=x;⟨xs,s _ _ a,b,fun j x h=>let ⟨e,p,q⟩:=c j x h;⟨e,p,q.same s⟩⟩
theorem JN.congr {H:Hp}{r:Addr}{n:Nat}{f g:Nat->WS} (x:JN H r n f) (h:∀j,j<n->f j=g j):JN H r n g:=by
 obtain ⟨xs,a,b,c⟩:=x
 refine ⟨xs,a,b,fun j x hx=>?_⟩
 obtain ⟨e,p,q⟩:=c j x hx
 have:=(List.getElem?_eq_some_iff.mp hx).1
 exact ⟨e,p,by rw [<- h j (by lia)];exact q⟩
theorem JN.at {H:Hp}{r:Addr}{n:Nat}{f:Nat->WS} (x:JN H r n f) {j:Nat} (h:j<n):∃(xs:List V) (e:Addr),H r=some (.lst xs)/\xs.length=n/\xs[j]? = some (.ref e)/\WL H e (f j):=by
 obtain ⟨xs,a,b,c⟩:=x
 obtain ⟨e,p,q⟩:=c j (xs[j]'(by lia)) (by simp)
 exact ⟨xs,e,a,b,by rw [<- p];simp,q⟩
theorem Zfq {H:Hp}{r e:Addr}{n:Nat}{f:Nat->WS}{L:WS} (x:JN H r n f) (hn:0<n) (y:WL H e L):e≠r:=fun z=>by
 obtain ⟨xs,e0,a,b,c,us,d,_⟩:=x.at hn
 subst z
 obtain ⟨ys,a',w⟩:=y
 rw [a] at a'
 have hxy:xs=ys:=by injection a' with a';injection a'
 subst hxy
 obtain ⟨_,_,t,ht,hh⟩:=Words.get w c
 cases ht
 rw [d] at hh
 cases hh
theorem WL.upd {H:Hp}{e r:Addr}{L:WS}{xs ys:List V} (hr:H r=some (.lst xs)) (n:e≠r) (y:WL H e L):WL (L2.upd H r (.lst ys)) e L:=by
 obtain ⟨us,a,w⟩:=y
 refine ⟨us,by rw [Zi n];exact a,Words.mono (fun t p q=>?_) w⟩
 rw [Zi (fun z=>by subst z;rw [hr] at q;cases q)];exact q
def UX (H:Hp) (A:List Addr) (m n:Nat) (F:Nat->Nat->WS):Prop:=A.length=m/\A.Nodup /\ ∀(i:Nat) (r:Addr),A[i]? = some r->JN H r n (F i)
theorem UX.same {H H':Hp}{A:List Addr}{m n:Nat}{F:Nat->Nat->WS} (s:Zf H H') (x:UX H A m n F):UX H' A m n F:=⟨x.1,x.2.1,fun i r h=>(x.2.2 i r h).same s⟩
theorem UX.congr {H:Hp}{A:List Addr}{m n:Nat}{F G:Nat->Nat->WS} (x:UX H A m n F) (h:∀i j,i<m->j<n->F i j=G i j):UX H A m n G:=
 ⟨x.1,x.2.1,fun i r e=>(x.2.2 i r e).congr fun j hj=>h i j (by have:=(List.getElem?_eq_some_iff.mp e).1;have:=x.1;lia) hj⟩
def UA (F:Nat->Nat->WS) (i j:Nat) (L:WS):Nat->Nat->WS:=fun a b=>if a=i/\b=j then L else F a b
theorem UX.put {H:Hp}{A:List Addr}{m n i j:Nat}{F:Nat->Nat->WS}{r e:Addr}{xs:List V}{L:WS} (x:UX H A m n F) (hi:A[i]? = some r) (hr:H r=some (.lst xs)) (hj:j<n) (we:WL H e L):
  UX (upd H r (.lst (xs.set j (.ref e)))) A m n (UA F i j L):=by
 have R:=x.2.2 i r hi
 have hn:0<n:=by lia
 refine ⟨x.1,x.2.1,fun i' r' h'=>?_⟩
 by_cases z:r'=r
 ·subst z
  have e1:i'=i:=by
   obtain ⟨h1,e1⟩:=List.getElem?_eq_some_iff.mp h'
   obtain ⟨h2,e2⟩:=List.getElem?_eq_some_iff.mp hi
   exact (List.getElem_inj x.2.1).mp (e1.trans e2.symm)
  subst e1
  obtain ⟨us,a,b,c⟩:=R
  rw [hr] at a
  have hxy:xs=us:=by injection a with a;injection a
  subst hxy
  refine ⟨_,Zb,by rw [List.length_set];exact b,fun j' y hy=>?_⟩
  rw [List.getElem?_set] at hy
  by_cases q:j=j'
  ·subst q
   rw [if_pos rfl,if_pos (by lia)] at hy
   cases hy
   refine ⟨e,rfl,?_⟩
   unfold UA
   rw [if_pos ⟨rfl,rfl⟩]
   exact we.upd hr (Zfq (x.2.2 i' _ hi) hn we)
  ·rw [if_neg q] at hy
   obtain ⟨e',p',w'⟩:=c j' y hy
   refine ⟨e',p',?_⟩
   unfold UA
   rw [if_neg (fun z=>q z.2.symm)]
   exact w'.upd hr (Zfq (x.2.2 i' _ hi) hn w')
 ·obtain ⟨us,a,b,c⟩:=x.2.2 i' r' h'
  refine ⟨us,by rw [Zi z];exact a,b,fun j' y hy=>?_⟩
  obtain ⟨e',p',w'⟩:=c j' y hy
  refine ⟨e',p',?_⟩
  unfold UA
  rw [if_neg (fun q=>z (by
   have:=q.1
   subst this
   rw [h'] at hi
   exact Option.some.inj hi))]
  exact w'.upd hr (Zfq R hn w')
def Tab (H:Hp) (a:Addr) (n:Nat) (F:Nat->Nat->WS):Prop:=∃A,H a=some (.lst (A.map V.ref))/\UX H A n n F
theorem Tab.same {H H':Hp}{a:Addr}{n:Nat}{F:Nat->Nat->WS} (s:Zf H H') (x:Tab H a n F):Tab H' a n F:=let ⟨A,e,q⟩:=x;⟨A,s _ _ e,q.same s⟩
theorem Tab.congr {H:Hp}{a:Addr}{n:Nat}{F G:Nat->Nat->WS} (x:Tab H a n F) (h:∀i j,i<n->j<n->F i j=G i j):Tab H a n G:=let ⟨A,e,q⟩:=x;⟨A,e,q.congr h⟩
theorem Tab.row {H:Hp}{a:Addr}{n:Nat}{F:Nat->Nat->WS} (x:Tab H a n F) {i:Nat} (h:i<n):∃(ys:List V) (r:Addr),H a=some (.lst ys)/\ys.length=n/\ys[i]? = some (.ref r)/\JN H r n (F i):=by
 obtain ⟨A,e,q⟩:=x
 have hl:=q.1
 refine ⟨_,A[i]'(by lia),e,by rw [List.length_map];exact hl,by simp [show i<A.length by lia],q.2.2 i _ (by simp)⟩
theorem UX.snoc {H:Hp}{A:List Addr}{m n:Nat}{F:Nat->Nat->WS}{r:Addr} (x:UX H A m n F) (hn:r∉A) (hr:JN H r n (F m)):UX H (A ++ [r]) (m+1) n F:=by
 refine ⟨by rw [List.length_append,x.1];rfl,?_,fun i r' h=>?_⟩
 ·rw [List.nodup_append]
  exact ⟨x.2.1,by simp,fun a ha b hb e=>hn (by rw [List.mem_singleton.mp hb] at e;exact e ▸ ha)⟩
 ·by_cases hi:i<m
  ·rw [List.getElem?_append_left (by rw [x.1];exact hi)] at h
   exact x.2.2 i r' h
  ·rw [List.getElem?_append_right (by rw [x.1];lia)] at h
   have:i-A.length=0:=by
    have:=(List.getElem?_eq_some_iff.mp h).1
    simp at this;lia
   rw [this] at h
   cases h
   have:i=m:=by have:=x.1;lia
   subst this
   exact hr
theorem Ue {H:Hp}{n:Nat}{F:Nat->Nat->WS}:UX H [] 0 n F:=⟨rfl,.nil,fun i r h=>by simp at h⟩
theorem UX.fresh {H:Hp}{A:List Addr}{m n:Nat}{F:Nat->Nat->WS} (x:UX H A m n F) {p:Addr} (h:H p=none):p∉A:=fun z=>by
 obtain ⟨i,hi,e⟩:=List.getElem_of_mem z
 obtain ⟨us,a,_⟩:=x.2.2 i p (by rw [<- e];simp)
 rw [h] at a;cases a
def Uw (k:Nat) (F:Nat->Nat->WS):Nat->Nat->WS:=fun i j=>
 if i=k/\j=k+1 then [[]] else if i=k∨i=k+1∨j=k∨j=k+1 then [] else F (if i<k then i else i-2) (if j<k then j else j-2)
def J2 (k:Nat) (t:Int) (F:Nat->Nat->WS):Nat->Nat->WS:=fun i j=>
 if i=k/\j=k+1 then [] else if i=k/\k+2<=j then F (k+1) j else if i=k+1/\k+2<=j then Y5 (F k j) (Yi [[t]] (F (k+1) j))
 else if i<k/\j=k+1 then F i k else if i<k/\j=k then Y5 (F i (k+1)) (Yi (F i k) [[t]]) else F i j
def GR (k:Nat) (t:Int) (F:Nat->Nat->WS):Nat->WS:=fun i=>Y5 (F i (k+1)) (Yi (F i k) [[t]])
def Zbw (k:Nat) (t:Int) (F:Nat->Nat->WS):Nat->WS:=fun j=>Y5 (F k j) (Yi [[t]] (F (k+1) j))
def Zb9 (k:Nat) (t:Int) (F:Nat->Nat->WS):Nat->Nat->WS:=fun i j=>
 if i<k/\k<=j then Y5 (F i (j+2)) (Yi (GR k t F i) (Zbw k t F (j+2))) else F (if i<k then i else i+2) (if j<k then j else j+2)
section
variable {X:Cx}
theorem range_any (bs:List Bool):(List.range bs.length).any (fun i=>bs.getD i false)=bs.any id:=by
 rw [Bool.eq_iff_iff,List.any_eq_true,List.any_eq_true]
 constructor
 ·rintro ⟨i,hi,h⟩
  have hi':i<bs.length:=List.mem_range.mp hi
  exact ⟨bs[i],List.getElem_mem hi',by simpa [hi'] using h⟩
 ·rintro ⟨b,hb,h⟩
  obtain ⟨i,hi,rfl⟩:=List.mem_iff_getElem.mp hb
  exact ⟨i,List.mem_range.mpr hi,by simpa [hi] using h⟩
theorem Zgt (hc:X.calm=true):Wl X (.builtin "any") (fun xs H Q=>∃(p:Addr) (bs:List Bool),xs = [.ref p]/\Zo X.K H p (bs.map V.bl)/\Q (.bl (bs.any id)) H):=by
 intro pins s σ H xs us Q I r h
 obtain ⟨p,bs,rfl,hq,q⟩:=h
 obtain ⟨u,rfl,ru⟩:=r.one
 cases ru
 obtain ⟨its,rv,pl,hz⟩:=I.list hq
 have hlen:bs.length=its.length:=by simpa using rv.length
 have hh:X.A.in1.handled=none:=I.ok.hd hc
 have hp:p<s.heap.objs.size:=by
  obtain ⟨o,ho,_⟩:=pl.isList
  exact Heap.lt_size ho
 refine call_any_walk (wpAny_pyIter_list pl.isList ?_)
 refine ⟨s.heap.objs.size,_,_,_,_,_,fun i=>bs.getD i false,rfl,Walks.list hh s.heap.objs.size p (Nat.ne_of_lt hp) its.toArray,⟨⟨_,Heap.get?_push_size _ rfl,rfl,rfl⟩,?_⟩,fun i v s2 Q2 E2 hv hq2=>?_,fun h' tk kk=>?_⟩
 ·obtain ⟨o,ho,r⟩:=pl.isList
  exact ⟨o,Heap.get?_push_of_some _ ho,r⟩
 ·have hv':its[i]? = some v:=by simpa using hv
  have hi:i<bs.length:=by rw [hlen];exact (List.getElem?_eq_some_iff.mp hv').1
  obtain ⟨w,hw,rw'⟩:=rv.get (i:=i) (x:=.bl bs[i]) (by simp [hi])
  rw [hv'] at hw
  cases hw
  cases rw'
  refine wpAny_truthy_bool ?_
  have e:bs.getD i false=bs[i]:=by simp [hi]
  rw [<- e]
  exact hq2
 ·have hk:∀b o,s.heap.get? b=some o->h'.get? b=some o:=fun b o e=>kk b o (fun z=>by
   have z':b=s.heap.objs.size:=by simpa using z
   exact Nat.lt_irrefl _ (z' ▸ Heap.lt_size e)) (Heap.get?_push_of_some _ e)
  refine ⟨.bl (bs.any id),H,I.kept (t':=tk) hk,?_,q⟩
  have e:its.toArray.size=bs.length:=by rw [List.size_toArray,hlen]
  rw [e,range_any]
  rfl
theorem ZcD {K:PySem.W.Frag} (h:X.K=K) (hc:X.calm=true):Wl X (.builtin "any") (fun xs H Q=>∃(p:Addr) (bs:List Bool),xs = [.ref p]/\Zo K H p (bs.map V.bl)/\Q (.bl (bs.any id)) H):=h ▸ Zgt hc
end
def xeS (X:Cx) (R:L2.St->Addr->Hp->Prop):Value->Shared->Prop:=fun e s'=>∃(a T C:Addr) (σ':L2.St) (H':Hp),e = .ref a/\Inv X [] σ' H' s'/\Exc s'.heap a T (.ref C)/\X.s₀.heap.get? a=none/\X.s₀.heap.get? T=none /\
 H' a=none/\H' T=none/\(∀p∈X.pn,p.1≠a/\p.1≠T)/\R σ' C H'
abbrev ES (R:L2.St->Addr->Hp->Prop) (σ:L2.St):XK:=fun c _ H'=>∃C,c = .ref C/\R σ C H'
def Zlz (sp:Sp) (E:L2.St->XK) (t:TA):TE:=fun σ H Q=>t σ H fun vs H1=>sp vs H1 Q (E σ)
section
variable {X:Cx}{pins:List (Addr×Obj)} {σ:L2.St}{H:Hp}{s:Shared}{R:L2.St->Addr->Hp->Prop}
theorem ZmH (hex:X.ex = []):∀(pins:List (Addr×Obj)) (σ:L2.St) (H:Hp) (s:Shared) (e:Value) (s':Shared),Inv (X.wish (xeS X R)) pins σ H s->CX1 X.prog X.w X.stack H s (ES R σ) e s'->xeS X R e s':=by
 intro pins σ H s e s' I c
 obtain ⟨a,T,C,H',rfl,os,bare,un,ok,ex,na,nT,ha,hT,C',hC,hR⟩:=c
 cases hC
 have I0:=I.unwish
 have I':Inv X pins σ H' s':=I0.call' os un ok bare (fun b z=>nomatch z)
 have old:∀b,s.heap.get? b=none->X.s₀.heap.get? b=none:=fun b e=>by
  cases q:X.s₀.heap.get? b with
  | none=>rfl
  | some o=>
   obtain ⟨o',z⟩:=I0.base.there b o q (by rw [hex];exact fun y=>nomatch y)
   rw [e] at z
   cases z
 have pin:∀b,s.heap.get? b=none -> ∀p∈X.pn,p.1≠b:=fun b e p hp z=>by
  have:=(I0.pin p (List.mem_append_left _ hp)).1
  rw [z,e] at this
  cases this
 exact ⟨a,T,C,σ,H',rfl,I'.pins_of (fun p hp=>nomatch hp),ex,old a na,old T nT,ha,hT,fun p hp=>⟨pin a na p hp,pin T nT p hp⟩,hR⟩
theorem Zib {k:Nat}{x:Str}{ps:List Str}{sp:Sp}{p pos:Pos}{e:Expr}{es:List Expr}{t:TA}{E:L2.St->XK} (h:Za0 X.prog X.w X.K X.mg X.base k x ps sp) (hr:JE k X.A) (hx:∀(pins:List (Addr×Obj)) (σ:L2.St) (H:Hp) (s:Shared) (e:Value) (s':Shared),Inv X pins σ H s->CX1 X.prog X.w X.stack H s (E σ) e s'->X.xe e s') (ha:PA X (e::es) t) (hg:Gl X x:=by rfl) (hdb:(x==("__debug__" : Str))=false:=by decide)
  (he:starEach (e::es) X.env=(false,eval e X.env)::starEach es X.env:=by rfl) (hpl:(backTo pos (starEach es X.env)).any (·.1)=false:=by rfl):PE X (.Call (.Name x p) (e::es) [] pos) (Zlz sp E t):=by
 obtain ⟨f,fd,F,hm,hk,hb⟩:=h
 intro pins s σ H Q I h
 refine wpAny_Call_Name_kw (Ud I hg hm ?_ hdb)
 refine PySem.W.callWith_K (h₀:=X.base) I.ok.mod.kin hk (YJ (ha pos pins s σ H _ I h) fun us s1 ⟨vs,H1,I1,r,q⟩=>⟨I1.kIn,?_⟩) he hpl
 have hl:(us ++ []).length=ps.length:=by rw [List.append_nil,<- r.length];exact F.len _ _ _ _ q
 rw [<- List.append_nil vs] at q
 refine wpAny_call (codeAny_mono (F.run X.A X.stack s1 H1 ⟨us,[]⟩ (us ++ []) (vs ++ []) Q (E σ) hr I1.env0 (hb s1 us I1.kIn hl) (r.append .nil) q) fun r s' hq=>?_)
 cases r with
 | error e=>exact hx pins σ H1 s1 e s' I1 hq
 | ok fl=>
  cases fl with
  | ret u=>exact I1.after hq
  | next=>exact False.elim hq
  | brk=>exact False.elim hq
  | cont=>exact False.elim hq
def Zmc (R:L2.St->Addr->Hp->Prop) (tb th:TS):TS:=fun D σ H=>tb D σ H /\ ∀(C:Addr) (σ':L2.St) (H':Hp),R σ' C H'->th D σ' H'
theorem Zjs {body suite:List Stmt}{b₀:Stmt}{cx:Str}{Dc:Addr}{tb th:TS}{np hpos pos:Pos}{newId:String} (R:L2.St->Addr->Hp->Prop) (hb:∀pins,PSs ((X.nailed pins).wish (xeS (X.nailed pins) R)) body tb) (hs:∀pins a,PSs (X.suite pins a) (b₀::suite) th)
  (hg:Gl X cx) (hm:X.mg cx=some (.ref Dc)) (hcD:PySem.W.excIn X.K Dc bmV newId=true) (hR:∀ σ C H',R σ C H'->PySem.W.mroIn X.K C (.ref Dc)=some true)
  (hex:X.ex = []:=by rfl) (hst:X.stack=X.env::X.outer:=by rfl) (hfr:X.env.frame=some X.env.locals:=by rfl) (hd:(cx==("__debug__" : Str))=false:=by decide):
  PS X (.Try body [.ExceptHandler (some (.Name cx np)) none (b₀::suite) hpos] [] [] pos) (Zmc R tb th):=by
 intro pins s σ H D I hw
 obtain ⟨hw1,hw2⟩:=hw
 refine wpAny_Try_except ?_
 refine wpAny_mono (hb pins [] s σ H D (I.nail.wish _) hw1) (fun f s1 q=>?_) (fun e s1 xe=>?_)
 ·cases f with
  | next=>obtain ⟨σ',H',I',d⟩:=q;exact wpAny_execs_nil ⟨σ',H',I'.unwish.unnail,d⟩
  | brk=>obtain ⟨σ',H',I',d⟩:=q;exact ⟨σ',H',I'.unwish.unnail,d⟩
  | cont=>obtain ⟨σ',H',I',d⟩:=q;exact ⟨σ',H',I'.unwish.unnail,d⟩
  | ret u=>obtain ⟨v,σ',H',I',r,d⟩:=q;exact ⟨v,σ',H',I'.unwish.unnail,r,d⟩
 ·obtain ⟨a,T,C,σ',H',rfl,I',ex,a0,T0,ha,hT,np',hR'⟩:=xe
  have ok:X.Ok:=I.ok
  have np1:∀p∈(X.nailed pins).pn ++ [],p.1≠a/\p.1≠T:=fun p hp=>np' p (by simpa using hp)
  refine looked (L:=X.env.locals) (outer:=X.outer) (base:=X.base) (by rw [<- hst];exact ok.frames) hfr (by rw [<- hst];exact I'.stack) ex fun h2 T2 keep slot ex2 oT=>?_
  have I2:Inv (X.nailed pins) [] σ' H' { s1 with heap:=h2 }:=I'.left hex ⟨ha,a0⟩ ⟨hT,T0⟩ np1 ⟨_,ex⟩ (by show ∀b o,_->b∉JI X.stack->_;rw [hst];exact keep) (by show ∀b o,_->b∈JI X.stack->_;rw [hst];exact slot)
  have old:∀{h:Heap} {σ'':L2.St}{s2:Shared},Inv (X.nailed pins) [] σ'' H' s2 -> ∀b,s2.heap.get? b=none->H' b=none/\X.s₀.heap.get? b=none /\ ∀p∈(X.nailed pins).pn,p.1≠b:=fun J b e=>by
   refine ⟨YU J.hok e,?_,fun p hp z=>?_⟩
   ·cases q:X.s₀.heap.get? b with
    | none=>rfl
    | some o=>
     obtain ⟨o',z⟩:=J.base.there b o q (by show b∉X.ex;rw [hex];exact fun y=>nomatch y)
     rw [e] at z
     cases z
   ·have:=(J.pin p (List.mem_append_left _ hp)).1
    rw [z,e] at this
    cases this
  have T2f:H' T2=none/\X.s₀.heap.get? T2=none /\ ∀p∈(X.nailed pins).pn,p.1≠T2:=by
   rcases oT with z | z
   ·rw [z];exact ⟨hT,T0,fun p hp=>(np' p hp).2⟩
   ·exact old (h:=s1.heap) I' T2 z
  obtain ⟨bmD,ND,nmD,qnD,bsD,hdD,snD,subD,abD,colD,ddD,j0,j1,j2,j3,j5,mD,hD,hND,hniD,TD⟩:=Zim I2.kIn hcD
  have hbD:bmD.contains (.type "BaseException")=true:=TD.hasType PySem.F.excBase_ValueError.hasBase
  refine wpAny_handleBy_cons (codeAny_handlers_test ?_) (fun z=>nomatch z)
  refine Ud (X:=X.suite pins a) (I2.suite ok a) hg hm ?_ hd
  obtain ⟨oe,vs,oT',ts,x1,x2,x3⟩:=id ex2
  refine ZgT hD x1 x2 hbD (PySem.W.looks_mroIn I2.kIn (hR σ' C H' hR')) ?_
  refine codeAny_handlers_suite ?_
  refine landed (s:={ s1 with heap:=h2 }) ex2 fun h3 keep3 ⟨T3,ex3,oT3⟩=>?_
  have np2:∀p∈(X.nailed pins).pn ++ [],p.1≠a/\p.1≠T2:=fun p hp=>⟨(np1 p hp).1,T2f.2.2 p (by simpa using hp)⟩
  have I3:Inv (X.nailed pins) [] σ' H' { s1 with heap:=h3 }:=I2.left hex ⟨ha,a0⟩ ⟨T2f.1,T2f.2.1⟩ np2 ⟨_,ex2⟩ (fun b o e _ z1 z2=>keep3 b o e z1 z2) (fun b o e hb=>by
   obtain ⟨_,o',e',dd⟩:=I2.stack.mem hb
   rw [e] at e'
   cases e'
   have n:=ex2.ne_dict e dd
   exact ⟨o.slots,keep3 b o e n.1 n.2⟩)
  refine wpAny_mono (hs pins a [] _ _ _ _ (I3.suite ok a) (hw2 C σ' H' hR')) (fun f s7 q=>?_) (fun _ _ z=>z.elim)
  cases f with
  | next=>obtain ⟨σ7,H7,I7,dq⟩:=q;exact ⟨_,H7,I7.unsuite ok,dq⟩
  | brk=>obtain ⟨σ7,H7,I7,dq⟩:=q;exact ⟨_,H7,I7.unsuite ok,dq⟩
  | cont=>obtain ⟨σ7,H7,I7,dq⟩:=q;exact ⟨_,H7,I7.unsuite ok,dq⟩
  | ret u=>obtain ⟨v,σ7,H7,I7,r,dq⟩:=q;exact ⟨v,_,H7,I7.unsuite ok,r,dq⟩
end
section
variable {X:Cx}{tg:Expr}
end
theorem ZhU:entryFor table "zip.__getattribute__" = some Builtin.«object.__getattribute__»:=entryFor_alias (id' := "object.__getattribute__") (by kernel_rfl) (by decide +kernel) (by decide +kernel) (by kernel_rfl)
theorem Zjb:typeLookup (.type "zip") "__getattr__" = pure none:=by rw [typeLookup_type,builtinLookup_eq_fast];kernel_rfl
theorem Ze0:typeLookup (.type "zip") "keys" = pure none:=by rw [typeLookup_type,builtinLookup_eq_fast];kernel_rfl
abbrev Zht (f0 f1:Value) (TI TO:Addr):Obj:={ cls:=.type "zip", dict:=none,data:=.fields #[f0,f1,.bool false,.ref TI,.ref TO],slots:=#[] }
theorem Zi6 (a TI TO:Addr) (f0 f1:Value) (u:Tok):Meets (Builtin.«object.__getattribute__» ⟨[.ref a,.str "keys" u],[]⟩) (fun A R s=>s.heap.get? a=some (Zht f0 f1 TI TO)/\raisesAttr (.ref a) "keys" A R s):=
 .of_wp fun prog w A R ⟨hp,g,d,tk,os⟩ ⟨hx,hn,hr⟩=>by
  have ty:Shared.TypeIs ⟨hp,g,d,tk,os⟩ (.ref a) "zip" := ⟨_,hx,rfl⟩
  have no:=Ze0
  wp_walk
  exact wpAny_raiseAttrError hn hr (attrMsg_fits (by decide +kernel) (by decide))
theorem Zjd {prog:Program}{w:World}{A:Around}{E:Value->Shared->Prop}{s:Shared}{a TI TO:Addr}{f0 f1:Value}{Q:Option Value->Shared->Prop} (hx:s.heap.get? a=some (Zht f0 f1 TI TO)) (hA:A.handled=none)
  (h:∀h' tk,(∀b o,s.heap.get? b=some o->h'.get? b=some o)->Q none { s with heap:=h',toks:=tk }):wpAny (model prog w) A (getAttr? (.ref a) "keys") Q E s:=by
 obtain ⟨hp,g,d,tk,os⟩:=s
 have ty:∀t,Shared.TypeIs ⟨hp,g,d,t,os⟩ (.ref a) "zip" := fun _=>⟨_,hx,rfl⟩
 have kind:=sub_AttributeError
 have own:=F.slot_zip_getattribute.lookup
 have bound:=F.slot_zip_getattribute.bind (.ref a)
 have hook:=Zjb
 have said:∀{A':Around}{R:Result->Shared->Prop} (t:Nat) (u:Tok),A'.handled=none->(∀h' tk e,Heap.NewAttrErr hp h' e (.ref a) "keys" -> R (.error (.ref e)) ⟨h',g,d,tk,os⟩)->codeAny (model prog w) A' (.call (.builtin "zip.__getattribute__") ⟨[.ref a,.str "keys" u],[]⟩) R ⟨hp,g,d,t,os⟩:=
  fun {A' R} t u hA' k=>codeAny_call_builtin F.slot_zip_getattribute.plain ZhU (F.slot_zip_getattribute.check _ _ _ _ _ _ _ _ (ty t) (F.args_zip_getattribute_2 _ _) (Zi6 a TI TO f0 f1 u _ _ A' R _ ⟨hx,hA',k⟩))
 unfold getAttr? getAttrBy? getAttrBy
 wp_walk
 refine said _ _ hA fun h' tk' e new=>?_
 obtain ⟨t',u',there⟩:=new.there
 unfold getattributeRaised
 wp_walk
 exact h _ _ new.1
section
variable {prog:Program}{w:World}{A:Around}{E:Value->Shared->Prop}{s:Shared}
theorem Zey {a:Addr}{Q:Option Obj->Shared->Prop} (h:Q (s.heap.get? a) s):wpAny (model prog w) A (loadIfAlive a) Q E s:=fun Γ p _=>by
 unfold loadIfAlive
 rw [Sem.wp_loadIfAlive]
 exact h
abbrev Zbx (h:Heap) (z TI TO T:Addr) (b:Bool):Prop:=
 h.get? z=some { cls:=.type "zip", dict:=none,data:=.fields #[rawInt T,.bool b,.bool false,.ref TI,.ref TO],slots:=#[] }
theorem Zfy {z TI TO T:Addr}{bb:Bool}{oT:Obj}{Q:Bool->Shared->Prop} (hz:Zbx s.heap z TI TO T bb) (hT:s.heap.get? T=some oT)
  (h:∀h₁,Zbx h₁ z TI TO T true->Heap.SameBut z s.heap h₁->Q false { s with heap:=h₁ }):wpAny (model prog w) A (Builtin.SmallTypes.ownedTupleIsFree (.ref z)) Q E s:=by
 unfold Builtin.SmallTypes.ownedTupleIsFree
 wp_walk using Zey,wpAny_field hz rfl rfl
 cases bb with
 | true=>exact wpAny_pure (h s.heap hz ⟨rfl,fun _ _=>rfl⟩)
 | false=>exact wpAny_bind (wpAny_setField_rec hz (by simp) fun h₁ a b=>wpAny_pure (h h₁ a b))
theorem Zir {z TI TO T i1 i2 l1 l2:Addr}{k:Nat}{bb:Bool}{oT:Obj}{xs ys:Array Value}{R:Fin->Shared->Prop} (D:ZipApart z TI TO i1 i2 l1 l2)
  (hz:Zbx s.heap z TI TO T bb) (hT:s.heap.get? T=some oT) (hTI:IsPair s.heap TI (.ref i1) (.ref i2))
  (h1:s.heap.IsListIter i1 l1 k) (h2:s.heap.IsListIter i2 l2 k) (hl1:s.heap.IsList l1 xs) (hl2:s.heap.IsList l2 ys)
  (more:∀x y h',xs[k]? = some x->ys[k]? = some y->Zbx h' z TI TO T true->h'.IsListIter i1 l1 (k+1)->h'.IsListIter i2 l2 (k+1)->IsPair h' s.heap.objs.size x y->h'.objs.size=s.heap.objs.size+1 ->
   (∀c o,c≠z->c≠i1->c≠i2->s.heap.get? c=some o->h'.get? c=some o)->R (.done (.ret (.ref s.heap.objs.size))) { s with heap:=h' })
  (over:xs[k]? = none->A.handled=none /\ ∀h' e,(∀c o,c≠z->c≠i1->s.heap.get? c=some o->h'.get? c=some o)->(∃o,h'.get? e=some o/\o.cls = .type "StopIteration")->E (.ref e) { s with heap:=h' })
  (even:∀x,xs[k]? = some x -> ∃y,ys[k]? = some y):
  wpAny (model prog w) A (Builtin.«zip.__next__» ⟨[.ref z],[]⟩) R E s:=by
 unfold Builtin.«zip.__next__»
 refine wpAny_bind (show wpAny _ _ (pure (Value.ref z,[])) _ _ _ from wpAny_pure ?_)
 dsimp only
 refine wpAny_bind (wpAny_field hz rfl rfl (wpAny_bind (wpAny_field hz rfl rfl (wpAny_bind (wpAny_seqItems hTI rfl ?_)))))
 refine wpAny_bind (Zfy hz hT fun h₁ hz₁ hs₁=>?_)
 simp only [Bool.false_eq_true,if_false,List.forIn_toArray,List.forIn_cons,List.forIn_nil]
 have b1:=h1.extBut hs₁.extBut D.i1z
 have b2:=hl1.extBut hs₁.extBut D.l1z
 refine wpAny_bind (wpAny_bind (wpAny_bind (wpAny_holding ?_)))
 show wpAny _ _ (Builtin.SmallTypes.nextOf (.ref i1) >>= fun v=>pure (some v)) _ _ _
 cases hx:xs[k]? with
 | none=>
  obtain ⟨hh,fin⟩:=over hx
  exact wpAny_bind (wpAny_nextOf_list_end hh b1 b2 hx fun h₂ e keep stop=>fin h₂ e (fun c o n1 n2 g=>keep c o n2 (hs₁.extBut c o n1 g)) stop)
 | some x=>
  obtain ⟨y,hy⟩:=even x hx
  refine wpAny_bind (wpAny_nextOf_list_item b1 b2 hx fun h₂ c1 hs₂=>wpAny_pure (wpAny_pure ?_))
  refine wpAny_bind (wpAny_bind (wpAny_holding ?_))
  show wpAny _ _ (Builtin.SmallTypes.nextOf (.ref i2) >>= fun v=>pure (some v)) _ _ _
  refine wpAny_bind (wpAny_nextOf_list_item ((h2.extBut hs₁.extBut D.i2z).extBut hs₂.extBut D.i12.symm) ((hl2.extBut hs₁.extBut D.l2z).extBut hs₂.extBut D.l2i1) hy fun h₃ c2 hs₃=>wpAny_pure (wpAny_pure (wpAny_pure ?_)))
  show wpAny _ _ (newTuple [x,y] >>= ret) _ _ _
  have size:h₃.objs.size=s.heap.objs.size:=hs₃.1.trans (hs₂.1.trans hs₁.1)
  refine wpAny_bind (wpAny_newTuple (wpAny_pure ?_))
  show R (.done (.ret (.ref h₃.objs.size))) _
  rw [size]
  have lay:∀c o,h₃.get? c=some o->(h₃.push { cls:=.type "tuple", data:=.seq #[x,y] }).get? c=some o:=fun c o=>Heap.get?_push_of_some _
  refine more x y _ hx hy (lay _ _ (hs₃.extBut _ _ D.i2z.symm (hs₂.extBut _ _ D.i1z.symm hz₁))) ((c1.extBut hs₃.extBut D.i12).at fun o=>lay _ o) (c2.at fun o=>lay _ o) ?_ (by rw [Heap.size_push,size]) fun c o n1 n2 n3 g=>lay _ _ (hs₃.extBut _ _ n3 (hs₂.extBut _ _ n2 (hs₁.extBut _ _ n1 g)))
  rw [<- size]
  exact Heap.get?_push_size _ rfl
theorem Zgb {z:Addr}{Q:Option Value->Shared->Prop} (ty:s.TypeIs (.ref z) "zip")
  (h:∀E',(∀e s',(∃o,s'.heap.get? e=some o/\o.cls = .type "StopIteration")->Q none s'->E' (.ref e) s') -> ∀A',A'.handled=A.handled->wpAny (model prog w) A' (Builtin.«zip.__next__» ⟨[.ref z],[]⟩) (fun fin s'=>∃v,fin = .done (.ret v)/\wpAny (model prog w) A (pure (some v)) Q E s') E' s):wpAny (model prog w) A (pyNext (.ref z)) Q E s:=by
 unfold pyNext
 refine wpAny_bind (wpAny_attempt (wpAny_callSpecial?_slot (name:=Str.ofString "__next__") ty F.slot_zip_next (wpAny_call_entry F.slot_zip_next ty F.entry_zip_next (h _ (fun e s' ⟨o,g,c⟩ q=>?_) _ rfl) (F.args_zip_next_1 _))))
 exact wpAny_bind (wpAny_isInstance (T := "StopIteration") (b:=true) ⟨o,g,c⟩ isSubtype_stop (wpAny_pure q))
structure ZS (h:Heap) (z TI TO i1 i2 l1 l2:Addr) (k:Nat):Prop where
 zp:(IsZip h z TI TO .none /\ ∃a b,IsPair h TO a b) ∨ ∃T b o,Zbx h z TI TO T b/\h.get? T=some o/\o.cls = .type "tuple" /\ T≠z/\T≠TO/\T≠i1/\T≠i2
 ti:IsPair h TI (.ref i1) (.ref i2)
 j1:h.IsListIter i1 l1 k
 j2:h.IsListIter i2 l2 k
theorem ZS.keep {h h':Heap}{z TI TO i1 i2 l1 l2:Addr}{k:Nat} (x:ZS h z TI TO i1 i2 l1 l2 k) (kk:∀c o,h.get? c=some o->o.cls ≠ .type "dict" -> h'.get? c=some o):ZS h' z TI TO i1 i2 l1 l2 k:=by
 refine ⟨?_,kk _ _ x.ti (by show Value.type "tuple" ≠ _;decide),?_,?_⟩
 ·rcases x.zp with ⟨a,p,q,b⟩ | ⟨T,b,o,a,c,d,e⟩
  ·exact .inl ⟨kk _ _ a (by show Value.type "zip" ≠ _;decide),p,q,kk _ _ b (by show Value.type "tuple" ≠ _;decide)⟩
  ·exact .inr ⟨T,b,o,kk _ _ a (by show Value.type "zip" ≠ _;decide),kk _ _ c (by rw [d];decide),d,e⟩
 ·obtain ⟨o,ho,hc,r⟩:=x.j1
  exact ⟨o,kk _ _ ho (by rw [hc];decide),hc,r⟩
 ·obtain ⟨o,ho,hc,r⟩:=x.j2
  exact ⟨o,kk _ _ ho (by rw [hc];decide),hc,r⟩
theorem Zj0 {z TI TO i1 i2 l1 l2:Addr}{k:Nat}{xs ys:Array Value}{x y:Value}{Q:Option Value->Shared->Prop} (D:ZipApart z TI TO i1 i2 l1 l2) (Z:ZS s.heap z TI TO i1 i2 l1 l2 k)
  (hl1:s.heap.IsList l1 xs) (hl2:s.heap.IsList l2 ys) (hx:xs[k]? = some x) (hy:ys[k]? = some y)
  (hQ:∀h',ZS h' z TI TO i1 i2 l1 l2 (k+1)->IsPair h' s.heap.objs.size x y->h'.objs.size=s.heap.objs.size+1->(∀c o,c≠z->c≠TO->c≠i1->c≠i2->s.heap.get? c=some o->h'.get? c=some o)->Q (some (.ref s.heap.objs.size)) { s with heap:=h' }):
  wpAny (model prog w) A (pyNext (.ref z)) Q E s:=by
 have lt:∀{c:Addr}{o:Obj},s.heap.get? c=some o->s.heap.objs.size≠c:=fun e=>Ne.symm (Nat.ne_of_lt (Heap.lt_size e))
 have n1:s.heap.objs.size≠i1:=by obtain ⟨o,ho,_⟩:=Z.j1;exact lt ho
 have n2:s.heap.objs.size≠i2:=by obtain ⟨o,ho,_⟩:=Z.j2;exact lt ho
 rcases Z.zp with ⟨hz,a,b,hTO⟩ | ⟨T,b,o,hz,hT,hc,t1,t2,t3,t4⟩
 ·exact wpAny_pyNext_zip_item D hz Z.ti hTO Z.j1 Z.j2 hl1 hl2 hx hy fun h' a1 a2 a3 a4 a5 a6 a7=>
   hQ h' ⟨.inr ⟨s.heap.objs.size,false,_,a1,a5,rfl,lt hz,lt hTO,n1,n2⟩,a7 _ _ D.TIz D.TITO D.TIi1 D.TIi2 Z.ti,a3,a4⟩ a5 a6 a7
 ·refine Zgb ⟨_,hz,rfl⟩ fun E' _ A' _=>Zir D hz hT Z.ti Z.j1 Z.j2 hl1 hl2 (fun x' y' h' e1 e2 a1 a3 a4 a5 a6 a7=>⟨_,rfl,wpAny_pure ?_⟩) (fun e=>by rw [hx] at e;cases e) (fun _ _=>⟨y,hy⟩)
  rw [hx] at e1
  rw [hy] at e2
  cases e1
  cases e2
  exact hQ h' ⟨.inr ⟨T,true,o,a1,a7 _ _ t1 t3 t4 hT,hc,t1,t2,t3,t4⟩,a7 _ _ D.TIz D.TIi1 D.TIi2 Z.ti,a3,a4⟩ a5 a6 fun c o c1 _ c3 c4 e=>a7 c o c1 c3 c4 e
theorem Zlg {z TI TO i1 i2 l1 l2:Addr}{k:Nat}{xs ys:Array Value}{Q:Option Value->Shared->Prop} (hh:A.handled=none) (D:ZipApart z TI TO i1 i2 l1 l2) (Z:ZS s.heap z TI TO i1 i2 l1 l2 k)
  (hl1:s.heap.IsList l1 xs) (hl2:s.heap.IsList l2 ys) (hx:xs[k]? = none)
  (hQ:∀h',(∀c o,c≠z->c≠TO->c≠i1->c≠i2->s.heap.get? c=some o->h'.get? c=some o)->Q none { s with heap:=h' }):
  wpAny (model prog w) A (pyNext (.ref z)) Q E s:=by
 rcases Z.zp with ⟨hz,a,b,hTO⟩ | ⟨T,b,o,hz,hT,hc,t1,t2,t3,t4⟩
 ·exact wpAny_pyNext_zip_end hh D hz Z.ti hTO Z.j1 Z.j2 hl1 hl2 (.inl hx) hQ
 ·exact Zgb ⟨_,hz,rfl⟩ fun E' out A' hA=>Zir D hz hT Z.ti Z.j1 Z.j2 hl1 hl2 (fun x' y' h' e1=>by rw [hx] at e1;cases e1) (fun _=>⟨hA.trans hh,fun h' e keep stop=>out e _ stop (hQ h' fun c o c1 _ c3 _ g=>keep c o c1 c3 g)⟩) (fun x' e=>by rw [hx] at e;cases e)
end
theorem Zd5:entryFor table "dict.update.loop" = some Builtin.«dict.update.loop»:=entryFor_of_tree (by kernel_rfl)
theorem Zae:plainId "dict.update.loop" = true:=by decide +kernel
def ZhM (kvs:List (Key×Value)) (ps:List (Key×Value)):List (Key×Value):=ps.foldl (fun a p=>stored a p.1 p.2) kvs
section
variable {prog:Program}{w:World}{A:Around}{R:Result->Shared->Prop}
theorem Zlt {E:Value->Shared->Prop}{s:Shared}{d:Addr}{kvs:List (Key×Value)}{k:Int}{t:Tok}{v:Value}{Q:Unit->Shared->Prop} (hm:s.heap.DictOf (ZQ prog w) d kvs) (hsz:kvs.length<=sizeLine)
  (hQ:∀h',h'.DictOf (ZQ prog w) d (stored kvs (Sum.inl k) v)->Heap.SameBut d s.heap h'->Q () { s with heap:=h',toks:=s.toks+1 }):wpAny (model prog w) A (dictSet d (.int k t) v) Q E s:=by
 unfold dictSet
 try with_reducible refine wpAny_holding ?_
 refine wpAny_bind (wpAny_pyHash_int ?_)
 exact wpAny_dictSetHashed_pairs (knd:=ZQ prog w) (k:=Sum.inl k) (by show Value.isInt k (.int k t)=true;simp [Value.isInt]) (s:={ s with toks:=s.toks+1 }) hm hQ hsz
theorem Zkf {z TI TO i1 i2 l1 l2 d:Addr}{xs ys:Array Value}{ps:List (Key×Value)} (D:ZipApart z TI TO i1 i2 l1 l2) (hh:A.handled=none) (hn:xs.size=ys.size) (hz:xs.size<=100000)
  (hp:ps.length=xs.size) (hps:∀(i:Nat) (k:Key) (v:Value),ps[i]? = some (k,v) -> ∃(a:Int) (t:Tok),k=Sum.inl a/\xs[i]? = some (Value.int a t)/\ys[i]? = some v)
  (dz:d≠z/\d≠TO/\d≠i1/\d≠i2/\l1≠d/\l2≠d):
  ∀(m k:Nat) (s:Shared) (kvs:List (Key×Value)),m+k=xs.size->ZS s.heap z TI TO i1 i2 l1 l2 k->s.heap.IsList l1 xs->s.heap.IsList l2 ys->s.heap.DictOf (ZQ prog w) d kvs->kvs.length<=k ->
   (∀h' tk,h'.DictOf (ZQ prog w) d (ZhM kvs (ps.drop k))->(∀c o,c≠z->c≠TO->c≠i1->c≠i2->c≠d->s.heap.get? c=some o->h'.get? c=some o)->R (.ok (.ret .none)) { s with heap:=h',toks:=tk }) ->
   codeAny (model prog w) A (.builtin "dict.update.loop" ⟨[.ref d,.ref z,rawInt (k:Int),.none],[]⟩) R s:=by
 intro m
 induction m with
 | zero=>
  intro k s kvs hk Z hl1 hl2 hd hlen fin
  refine codeAny_builtin Zd5 ?_
  rw [Around.under_plainId Zae _]
  show wpAny _ A.in1 (pyNext (.ref z) >>= _) _ _ s
  refine wpAny_bind (Zlg (A:=A.in1) hh D Z hl1 hl2 (by rw [Array.getElem?_eq_none];lia) fun h' kk=>?_)
  refine wpAny_pure ?_
  have e:ps.drop k = []:=List.drop_eq_nil_of_le (by lia)
  rw [e] at fin
  refine fin h' s.toks ?_ fun c o c1 c2 c3 c4 _ x=>kk c o c1 c2 c3 c4 x
  obtain ⟨o,es,ep,ho,r⟩:=hd
  exact ⟨o,es,ep,kk _ _ dz.1 dz.2.1 dz.2.2.1 dz.2.2.2.1 ho,r⟩
 | succ m ih=>
  intro k s kvs hk Z hl1 hl2 hd hlen fin
  refine codeAny_builtin Zd5 ?_
  rw [Around.under_plainId Zae _]
  show wpAny _ A.in1 (pyNext (.ref z) >>= _) _ _ s
  obtain ⟨⟨pk,pv⟩,hpk⟩:∃p,ps[k]? = some p:=⟨ps[k]'(by lia),by simp⟩
  obtain ⟨a,t,rfl,hx,hy⟩:=hps k pk pv hpk
  refine wpAny_bind (Zj0 (A:=A.in1) D Z hl1 hl2 hx hy fun h' Z' hpair hsz kk=>?_)
  refine wpAny_bind (wpAny_holding ?_)
  refine wpAny_bind (wpAny_tryCatch ?_)
  unfold Builtin.Dict.pairItems
  refine wpAny_bind (wpAny_typeOf (T := "tuple") ⟨_,hpair,rfl⟩ ?_)
  refine wpAny_ite ?_
  rw [if_pos (by decide)]
  refine wpAny_bind (wpAny_seqItems hpair rfl ?_)
  refine wpAny_pure ?_
  show wpAny _ _ (holding [.int a t,pv] (dictSet d (.int a t) pv)) _ _ _
  have hd':h'.DictOf (ZQ prog w) d kvs:=by
   obtain ⟨o,es,ep,ho,r⟩:=hd
   exact ⟨o,es,ep,kk _ _ dz.1 dz.2.1 dz.2.2.1 dz.2.2.2.1 ho,r⟩
  have lst:∀{h h2:Heap}{l:Addr}{zs:Array Value},h.IsList l zs->(∀o,h.get? l=some o->h2.get? l=some o)->h2.IsList l zs:=fun {h h2 l zs} q k=>by
   obtain ⟨o,ho,r⟩:=q
   exact ⟨o,k o ho,r⟩
  refine wpAny_holding (Zlt (s:={ s with heap:=h' }) hd' (by rw [sizeLine_eq];lia) fun h2 hd2 sb=>?_)
  refine wpAny_pure ⟨plainId_quiet Zae _,?_⟩
  have hk2:∀c o,c≠z->c≠TO->c≠i1->c≠i2->c≠d->s.heap.get? c=some o->h2.get? c=some o:=fun c o c1 c2 c3 c4 c5 e=>sb.extBut _ _ c5 (kk c o c1 c2 c3 c4 e)
  have e:((k:Int)+1)=((k+1:Nat):Int):=by lia
  rw [e]
  have e2:ps.drop k=(Sum.inl a,pv)::ps.drop (k+1):=by
   obtain ⟨h1,h3⟩:=List.getElem?_eq_some_iff.mp hpk
   rw [<- h3]
   exact List.drop_eq_getElem_cons h1
  refine ih (k+1) { s with heap:=h2,toks:=s.toks+1 } _ (by lia) (Z'.keep fun c o e nd=>sb.extBut _ _ (fun q=>?_) e) (lst hl1 fun o e=>hk2 _ o D.l1z D.l1TO D.l1i1 D.l1i2 dz.2.2.2.2.1 e) (lst hl2 fun o e=>hk2 _ o D.l2z D.l2TO D.l2i1 D.l2i2 dz.2.2.2.2.2 e) hd2 ?_ fun h3 tk hd3 k3=>?_
  ·obtain ⟨o',es,ep,ho,hc,_⟩:=hd'
   rw [q,ho] at e
   cases e
   exact nd hc.1
  ·have:=stored_length_le kvs (Sum.inl a:Key) pv
   lia
  ·refine fin h3 tk ?_ fun c o c1 c2 c3 c4 c5 e=>k3 c o c1 c2 c3 c4 c5 (hk2 c o c1 c2 c3 c4 c5 e)
   rw [e2]
   exact hd3
theorem Zj9 {z TI TO i1 i2 l1 l2:Addr}{E:Value->Shared->Prop}{s:Shared}{xs ys:Array Value}{ps:List (Key×Value)}{Q:Value->Shared->Prop} (D:ZipApart z TI TO i1 i2 l1 l2) (hh:A.handled=none) (hn:xs.size=ys.size) (hz:xs.size<=100000)
  (hp:ps.length=xs.size) (hps:∀(i:Nat) (k:Key) (v:Value),ps[i]? = some (k,v) -> ∃(a:Int) (t:Tok),k=Sum.inl a/\xs[i]? = some (Value.int a t)/\ys[i]? = some v)
  (hzp:IsZip s.heap z TI TO .none) (hTI:IsPair s.heap TI (.ref i1) (.ref i2)) (hTO:∃a b,IsPair s.heap TO a b) (h1:s.heap.IsListIter i1 l1 0) (h2:s.heap.IsListIter i2 l2 0) (hl1:s.heap.IsList l1 xs) (hl2:s.heap.IsList l2 ys)
  (h:∀h' tk,h'.DictOf (ZQ prog w) s.heap.objs.size (ZhM [] ps)->(∀c o,c≠z->c≠TO->c≠i1->c≠i2->s.heap.get? c=some o->h'.get? c=some o)->Q (.ref s.heap.objs.size) { s with heap:=h',toks:=tk }):
  wpAny (model prog w) A (call (.type "dict") [.ref z]) Q E s:=by
 refine callType_codes (Q₁:=fun obj s₁=>obj = .ref s.heap.objs.size/\s₁ = { s with heap:=s.heap.push { cls:=.type "dict", data:=.dict #[] } }) F.kt_called_dict (F.kt_typeCall_dict_1 _) F.entry_dict_init (kt_code_dict_new _ ⟨rfl,rfl⟩) ?_
 rintro obj s₁ ⟨rfl,rfl⟩
 have hnew:(s.heap.push { cls:=.type "dict", data:=.dict #[] }).DictOf (ZQ prog w) s.heap.objs.size []:=Heap.DictOf.new s.heap
 have up:∀c o,s.heap.get? c=some o->(s.heap.push { cls:=.type "dict", data:=.dict #[] }).get? c=some o:=fun c o e=>Heap.get?_push_of_some _ e
 refine ⟨hnew.typeIs,F.args_dict_init_2 _ _,?_⟩
 unfold Builtin.«dict.__init__»
 refine wpAny_bind ?_
 unfold Builtin.Dict.selfAndRest
 refine wpAny_bind (wpAny_notOrdered_dict hnew.typeIs ?_)
 show wpAny _ _ (pure (s.heap.objs.size,[Value.ref z])) _ _ _
 refine wpAny_pure ?_
 show wpAny _ _ (Builtin.Dict.updateFrom "dict.__init__" s.heap.objs.size (.ref z) [] .none) _ _ _
 unfold Builtin.Dict.updateFrom
 refine wpAny_bind (wpAny_typeOf (T := "zip") ⟨_,up _ _ hzp,rfl⟩ ?_)
 rw [if_pos (by decide)]
 refine wpAny_bind (Zjd (up _ _ hzp) hh fun h' tk kk=>?_)
 rw [if_pos (by rfl)]
 refine wpAny_bind (wpAny_rule ?_)
 refine wpAny_bind (wpAny_pyIter_zip (kk _ _ (up _ _ hzp)) ?_)
 have U:∀c o,s.heap.get? c=some o->h'.get? c=some o:=fun c o e=>kk c o (up c o e)
 have lt:∀{c:Addr}{o:Obj},s.heap.get? c=some o->s.heap.objs.size≠c:=fun e=>Ne.symm (Nat.ne_of_lt (Heap.lt_size e))
 obtain ⟨ta,tb,hto⟩:=hTO
 have n1:s.heap.objs.size≠i1:=by obtain ⟨o,ho,_⟩:=h1;exact lt ho
 have n2:s.heap.objs.size≠i2:=by obtain ⟨o,ho,_⟩:=h2;exact lt ho
 have n3:l1≠s.heap.objs.size:=by obtain ⟨o,ho,_⟩:=hl1;exact (lt ho).symm
 have n4:l2≠s.heap.objs.size:=by obtain ⟨o,ho,_⟩:=hl2;exact (lt ho).symm
 have cp:∀{l:Addr}{zs:Array Value},s.heap.IsList l zs->h'.IsList l zs:=fun {l zs} q=>by obtain ⟨o,ho,r⟩:=q;exact ⟨o,U _ _ ho,r⟩
 have ci:∀{i l:Addr}{k:Nat},s.heap.IsListIter i l k->h'.IsListIter i l k:=fun {i l k} q=>by obtain ⟨o,ho,r⟩:=q;exact ⟨o,U _ _ ho,r⟩
 have hd':h'.DictOf (ZQ prog w) s.heap.objs.size []:=by
  obtain ⟨o,es,ep,ho,r⟩:=hnew
  exact ⟨o,es,ep,kk _ _ ho,r⟩
 refine wpAny_pure ⟨plainId_quiet Zae _,?_⟩
 refine Zkf (A:=A.in1) D hh hn hz hp hps ⟨lt hzp,lt hto,n1,n2,n3,n4⟩ xs.size 0 _ [] rfl ⟨.inl ⟨U _ _ hzp,ta,tb,U _ _ hto⟩,U _ _ hTI,ci h1,ci h2⟩ (cp hl1) (cp hl2) hd' (Nat.le_refl _) fun h3 tk3 d3 k3=>?_
 exact ⟨rfl,h h3 tk3 d3 fun c o c1 c2 c3 c4 e=>k3 c o c1 c2 c3 c4 (lt e).symm (U c o e)⟩
end
def Gg (acc:List (Key×V)) (ps:List (Int×V)):List (Key×V):=ps.foldl (fun a p=>putK a (Sum.inl p.1) p.2) acc
def tDz (K:PySem.W.Frag) (ta:TA):TE:=fun σ H Q=>ta σ H fun vs H1=>∃(a b:Addr) (ns:List Int) (ys:List V),vs = [.ref a,.ref b]/\Zo K H1 a (ns.map V.int)/\Zo K H1 b ys/\ns.length=ys.length/\ns.length<=100000 /\ ∀D,H1 D=none->Q (.ref D) (upd H1 D (.dK (Gg [] (ns.zip ys))))
theorem Zgc:∀{ns:List Int}{ys:List V}{us vs:List Value}{acc:List (Key×V)}{acc':List (Key×Value)},Vals (ns.map V.int) us->Vals ys vs->KV acc acc'->KV (Gg acc (ns.zip ys)) (ZhM acc' ((ns.map fun n=>(Sum.inl n:Key)).zip vs))
 | [],_,_,_,_,_,_,_,r=>r
 | n::ns,[],_,_,_,_,_,h,r=>by cases h;exact r
 | n::ns,y::ys,_,_,_,_,h1,h2,r=>by
  cases h1 with
  | cons a1 t1=>
   cases h2 with
   | cons a2 t2=>exact Zgc (ns:=ns) (ys:=ys) t1 t2 (r.put (Sum.inl n) a2)
theorem Zcs:∀(ps:List (Int×V)) (acc:List (Key×V)),(Gg acc ps).length<=acc.length+ps.length
 | [],acc=>Nat.le_refl _
 | p::ps,acc=>by
  have h1:=Zcs ps (putK acc (Sum.inl p.1) p.2)
  have h2:=JA acc (Sum.inl p.1:Key) p.2
  show (Gg (putK acc (Sum.inl p.1) p.2) ps).length<=_
  rw [List.length_cons];lia
section
variable {X:Cx}
theorem ZcM:∀{xs:List V}{us:List Value}{i:Nat}{x:V},Vals xs us->xs[i]? = some x -> ∃u,us[i]? = some u/\RelV x u
 | _,_,_,_,.nil,h=>by simp at h
 | _,_,0,_,.cons r _,h=>by simp at h;subst h;exact ⟨_,rfl,r⟩
 | _,_,i+1,x,.cons _ t,h=>by
  obtain ⟨b,h1,h2⟩:=ZcM (i:=i) (x:=x) t (by simpa using h)
  exact ⟨b,by simpa using h1,h2⟩
theorem Zfm {K:PySem.W.Frag}{a b:Expr}{ta:TA}{p p2 pos pos2:Pos} (hK:X.K=K) (hc:X.calm=true) (hgd:Gl X "dict") (hmd:X.mg "dict" = none) (hgz:Gl X "zip") (hmz:X.mg "zip" = none) (ha:PA X [a,b] ta)
  (hs:starEach [a,b] X.env = [(false,eval a X.env),(false,eval b X.env)]:=by rfl) (hs2:starEach [b] X.env = [(false,eval b X.env)]:=by rfl)
  (he:starEach [Expr.Call (.Name "zip" p2) [a,b] [] pos2] X.env=(false,eval (Expr.Call (.Name "zip" p2) [a,b] [] pos2) X.env)::starEach [] X.env:=by rfl) (hpl:(backTo pos (starEach [] X.env)).any (·.1)=false:=by rfl):
  PE X (.Call (.Name "dict" p) [.Call (.Name "zip" p2) [a,b] [] pos2] [] pos) (tDz K ta):=by
 subst hK
 intro pins s σ H Q I h
 refine wpAny_Call_Name_kw (Gq I hgd hmd boot_dict ?_ (by decide) (by decide))
 refine PyProof.Rows.callWith_type1 ?_ he hpl
 rw [he]
 show wpAny _ _ (spliced ((false,eval (Expr.Call (.Name "zip" p2) [a,b] [] pos2) X.env)::backTo pos (starEach [] X.env))) _ _ s
 refine Calls.spliced_cons ?_
 refine Call_ (Gq I hgz hmz boot_zip (PyProof.Rows.callWith_type1 (YJ (ha pos2 pins s σ H _ I h) fun us s1 ⟨vs,H1,I1,r1,q1⟩=>?_) (by rw [hs,hs2]) (by rw [hs2];rfl)))
 obtain ⟨l1,l2,ns,ys,e,hq1,hq2,hl,hz,q⟩:=q1
 subst e
 obtain ⟨u,v,rfl,ru,rv⟩:=r1.two
 cases ru
 cases rv
 obtain ⟨its1,rv1,p1,hz1⟩:=I1.list hq1
 obtain ⟨its2,rv2,p2',hz2⟩:=I1.list hq2
 have L1:@LT.lt Nat _ l1 s1.heap.objs.size:=by obtain ⟨o,ho,_⟩:=p1.isList;exact aLt ho
 have L2:@LT.lt Nat _ l2 s1.heap.objs.size:=by obtain ⟨o,ho,_⟩:=p2'.isList;exact aLt ho
 refine call_zip_2 p1.isList p2'.isList fun h' g1 g2 g3 g4 g5 hsz kk=>?_
 have ap:ZipApart (s1.heap.objs.size+4) (s1.heap.objs.size+2) (s1.heap.objs.size+3) s1.heap.objs.size (s1.heap.objs.size+1) l1 l2:=by
  constructor<;>(intro e;have e':@Eq Nat _ _:=e;lia)
 refine Calls.spliced_nil ?_
 have le1:its1.length=ns.length:=by rw [<- rv1.length,List.length_map]
 have le2:its2.length=ys.length:=rv2.length.symm
 have hb:@LT.lt Nat _ sysModules h'.objs.size:=by have:@LT.lt Nat _ sysModules s1.heap.objs.size:=I1.big;rw [hsz];lia
 have cp:∀{l:Addr}{zs:Array Value},s1.heap.IsList l zs->h'.IsList l zs:=fun {l zs} q=>by obtain ⟨o,ho,r⟩:=q;exact ⟨o,kk _ _ ho,r⟩
 refine Zj9 (s:={ s1 with heap:=h' }) (ps:=(ns.map fun n=>(Sum.inl n:Key)).zip its2) ap (I1.ok.hd hc) (by simp;lia) (by simp;lia) (by simp;lia) (fun i k v hi=>?_) g1 g2 ⟨_,_,g3⟩ g4 g5 (cp p1.isList) (cp p2'.isList) fun h2 tk hd k2=>?_
 ·obtain ⟨e1,e2⟩:=List.getElem?_zip_eq_some.mp hi
  rw [List.getElem?_map] at e1
  obtain ⟨a,ha',rfl⟩:=Option.map_eq_some_iff.mp e1
  obtain ⟨u,hu,t,rfl⟩:=ZcM rv1 (i:=i) (x:=.int a) (by rw [List.getElem?_map,ha'];rfl)
  exact ⟨a,t,rfl,by simpa using hu,by simpa using e2⟩
 ·have keep:∀c o,s1.heap.get? c=some o->h2.get? c=some o:=fun c o e=>by
   have lt:@LT.lt Nat _ c s1.heap.objs.size:=aLt e
   refine k2 c o ?_ ?_ ?_ ?_ (kk c o e)<;>(intro e;have e':@Eq Nat _ _:=e;lia)
  have le:@LE.le Nat _ s1.heap.objs.size h'.objs.size:=by rw [hsz];lia
  refine ⟨.ref h'.objs.size,_,I1.laid (a:=h'.objs.size) (o:=.dK (Gg [] (ns.zip ys))) (h':=h2) (t':=tk) keep le (ZeI ?_ (beq_eq_false_iff_ne.mpr (Ne.symm (Nat.ne_of_lt hb))) (Zgc rv1 rv2 .nil) hd),rfl,q _ (I1.hok.fresh le)⟩
  have:=Zcs (ns.zip ys) []
  rw [List.length_zip,List.length_nil] at this
  rw [sizeLine_eq];lia
end
section
variable {prog:Program}{w:World}{A:Around}{E:Value->Shared->Prop}{s:Shared}
end
open AutoSeq1 (wpAny_loadPart') in
section
variable {prog:Program}{w:World}{A:Around}{E:Value->Shared->Prop}{s:Shared}
end
section
variable {X:Cx}
end
end L2
namespace Qk16
open PySem L2 PyProof.Rows
def top (i:Nat):Stmt:=PySem.Challenge.pw_bendfronts_k16_deeds_lower.main.body.getD i (.Pass ⟨0,0,0,0⟩)
section
variable {P:Program}{w:World}{K:PySem.W.Frag}{mg:Str->Option Value}{base:Heap}
def Zaw:Sp:=fun vs H Q _=>∃(b:Addr) (m:Int),vs = [.ref b,.int m]/\Bag H b/\1<=m/\m<1073741824 /\ ∀(d:Int) (H':Hp),0<=d->d<m->Bag H' b->Jo b H H'->Q (.int d) H'
abbrev GH:Stmt:=top 23
theorem UY:ZF ["_law_bag_here", "_law_many", "_law_digit"] ["_law_bag_here", "_law_many"] (Zl GH):={}
theorem ZjB {f:Addr}{fd:FuncData} (F:Y8 K "_law_take" "_law_take" GH f fd):Yj P w K mg base GV 1 f fd ["_law_bag_here", "_law_many"] Zaw:=by
 refine F.ok UY (fun vs H Q E h=>?_) (fun cdv A outer s H vs Q E hr h=>?_)
 ·obtain ⟨b,m,rfl,_⟩:=h
  rfl
 ·obtain ⟨b,m,rfl,⟨g,r,hg,hb⟩,h1,h2,k⟩:=h
  refine ⟨_,(Zd (Yh (Zw ZaN (Zp (Zk (K:=K) rfl) (pv 0) Ze (fun _ _=>rfl)) Ze (ZM _)) (Zd (Zr (i:=2) UY.nd rfl (Or.inl rfl) (Zm WH (Zp (Zk (K:=K) rfl) (pv 0) Ze (fun _ _=>rfl)) (pv 1)))
   (Zd (Z6 (Zm Zbn (Zp (Zk (K:=K) rfl) (pv 0) Ze (fun _ _=>rfl)) (pv 1)) (YG (pv 0) Ze set_list))
   (Zh (ZJ (pv 2))))) ZX)
   (Zd (Z6 (Zm WH (Zm Zv (Zm UE (Zp (Zk (K:=K) rfl) (pv 0) Ze (fun _ _=>rfl)) Ze) Ze) Ze) (YG (pv 0) Ze set_list))
   (Zh (ZJ (Zm WH (Zm WH (Zm Zfn (Zm Zbn (Zp (Zk (K:=K) rfl) (pv 0) Ze (fun _ _=>rfl)) Ze) Ze) Ze) (pv 1)))))),?_⟩
  refine ⟨_,rfl,b,_,_,_,rfl,rfl,Zo.of hb,Zn (j:=0) rfl,_,_,rfl,rfl,_,rfl,?_⟩
  refine Y1 (fun hp=>?_) (fun hp=>?_)
  ·have hp':0<g:=of_decide_eq_true hp
   refine ⟨_,rfl,b,_,_,_,rfl,rfl,Zo.of hb,Zn (j:=0) rfl,_,rfl,_,_,rfl,rfl,(by lia:0<m),?_⟩
   refine ⟨_,rfl,b,_,_,_,rfl,rfl,Zo.of hb,Zn (j:=0) rfl,_,rfl,_,_,rfl,rfl,⟨by lia,by lia⟩,_,rfl,b,_,_,0,rfl,rfl,hb,rfl,?_⟩
   refine ⟨_,rfl,k _ _ (Int.emod_nonneg _ (by lia)) (Int.emod_lt_of_pos _ (by lia)) ⟨g / m,r,Int.ediv_nonneg (by lia) (by lia),Zb⟩ Jo.upd⟩
  ·refine ⟨_,rfl,b,_,_,_,rfl,rfl,Zo.of hb,Zn (j:=1) rfl,_,_,rfl,rfl,.inr ⟨by decide,by decide⟩,_,_,rfl,rfl,_,_,rfl,rfl,(show (0:Int)<2147483647 by decide),_,rfl,b,_,_,1,rfl,rfl,hb,rfl,?_⟩
   have e1:0<=(r*48271+11) % 2147483647:=Int.emod_nonneg _ (by decide)
   have e2:(r*48271+11) % 2147483647<2147483647:=Int.emod_lt_of_pos _ (by decide)
   refine ⟨_,rfl,b,_,_,_,rfl,rfl,Zo.of Zb,Zn (j:=1) rfl,_,_,rfl,rfl,⟨by decide,by decide⟩,_,_,rfl,rfl,⟨by decide,by decide,by lia⟩,_,_,rfl,rfl,(show (0:Int)<2147483629 by decide),_,rfl,_,_,rfl,rfl,(by lia:0<m),?_⟩
   exact k _ _ (Int.emod_nonneg _ (by lia)) (Int.emod_lt_of_pos _ (by lia)) ⟨g,_,hg,Zb⟩ Jo.upd
def Zio (K:PySem.W.Frag):Sp:=fun vs H Q _=>∃(a:Addr) (i:Int) (ns:List Int),vs = [.ref a,.int i]/\Zo K H a (ns.map V.int)/\0<=i/\i<1000 /\ ∀(l:Addr) (H':Hp),H l=none->Zf H H'->Bag H' l->Q (.ref l) H'
abbrev UJ:Stmt:=top 22
theorem Jb:ZF ["_law_script", "_law_at", "_law_cell", "_law_great", "_law_primes"] ["_law_script", "_law_at"] (Zl UJ):={}
theorem Zlp {f:Addr}{fd:FuncData} (F:Y8 K "_law_bag" "_law_bag" UJ f fd) (Yg:mg "len" = none) (ZbT:mg "abs" = none):Yj P w K mg base GV 1 f fd ["_law_script", "_law_at"] (Zio K):=by
 refine F.ok Jb (fun vs H Q E h=>?_) (fun cdv A outer s H vs Q E hr h=>?_)
 ·obtain ⟨a,i,ns,rfl,_⟩:=h
  rfl
 ·obtain ⟨a,i,ns,rfl,hS,h0,h1,k⟩:=h
  refine ⟨_,(Zd (Zr (i:=2) Jb.nd rfl (Or.inl rfl) Ze)
   (Zd (Yh (Zw Zil (pv 1) (ZH (Yk (K:=K) rfl) (by rfl) Yg PySem.boot_len (Za (pv 0) Zc)) (ZM _)) (Zh (Zr (i:=2) Jb.nd rfl (Or.inl rfl) (Zp (Zk (K:=K) rfl) (pv 0) (pv 1) (fun _ _=>rfl)))) ZX)
   (Zd (Zr (i:=3) Jb.nd rfl (Or.inl rfl) Ze)
   (Zd (Yh (Zw Zl5 (ZH ZbP (by rfl) ZbT boot_abs (Za (pv 2) Zc)) (Zm Zfn Ze Ze) (ZM _)) (Zh (Zr (i:=3) Jb.nd rfl (Or.inl rfl) (ZH ZbP (by rfl) ZbT boot_abs (Za (pv 2) Zc)))) ZX)
   (Zd (Zr (i:=4) Jb.nd rfl (Or.inl rfl) (Z5 (Za Ze (Za Ze (Za Ze (Za Ze (Za Ze (Za Ze (Za Ze (Za Ze Zc))))))))))
   (Zh (ZJ (Z5 (Za (pv 3) (Za (Zm WH (Zm Zfn (Zm Zv (Zm Zv (Zm WH (pv 2) Ze) (Zm UE Ze (pv 1))) Ze) Ze) (Zp (Zk (K:=K) rfl) (pv 4) (Zm WH (pv 1) Ze) (fun _ _=>rfl))) Zc)))))))))),?_⟩
  refine ⟨_,rfl,_,rfl,a,_,rfl,.inl hS,_,_,rfl,rfl,_,rfl,?_⟩
  have last:∀(c:Int),0<=c % 2147483647/\c % 2147483647<2147483647:=fun c=>⟨Int.emod_nonneg _ (by decide),Int.emod_lt_of_pos _ (by decide)⟩
  have e3:0<=i % 8:=Int.emod_nonneg _ (by decide)
  have e4:i % 8<8:=Int.emod_lt_of_pos _ (by decide)
  obtain ⟨j,hj⟩:∃j:Nat,i % 8=(j:Int):=⟨(i % 8).toNat,by lia⟩
  have hj8:j<8:=by lia
  obtain ⟨q,hq,hq0⟩:∃q:Int,([V.int 2147483629,.int 2147483587,.int 2147483579,.int 2147483563,.int 2147483549,.int 2147483543,.int 2147483497,.int 2147483489]:List V)[j]? = some (.int q)/\0<q:=by
   match j,hj8 with
   | 0,_=>exact ⟨_,rfl,by decide⟩
   | 1,_=>exact ⟨_,rfl,by decide⟩
   | 2,_=>exact ⟨_,rfl,by decide⟩
   | 3,_=>exact ⟨_,rfl,by decide⟩
   | 4,_=>exact ⟨_,rfl,by decide⟩
   | 5,_=>exact ⟨_,rfl,by decide⟩
   | 6,_=>exact ⟨_,rfl,by decide⟩
   | 7,_=>exact ⟨_,rfl,by decide⟩
  have two:∀(c:Int) (B:Prop),B->(c=0 ∨ ∃j:Nat,i=(j:Int)/\ns[j]? = some c)->B:=fun _ _ b _=>b
  refine Y1 (fun hp=>?_) (fun hp=>?_)
  ·have hp':i<((ns.map V.int).length:Int):=of_decide_eq_true hp
   rw [List.length_map] at hp'
   obtain ⟨n,hn⟩:∃n:Nat,i=(n:Int):=⟨i.toNat,by lia⟩
   have hnl:n<ns.length:=by lia
   refine ⟨_,rfl,_,rfl,a,_,_,_,rfl,rfl,hS,(by rw [hn];exact Zn (v:=V.int ns[n]) (by simp [hnl])),?_⟩
   refine ⟨_,rfl,_,rfl,_,_,rfl,rfl,⟨by decide,by decide,by decide⟩,_,_,rfl,rfl,_,rfl,?_⟩
   refine Y1 (fun hp=>?_) (fun hp=>?_)
   ·refine ⟨_,rfl,_,rfl,?_⟩
    have l0:=last ns[n]
    refine ⟨(by show 8<=sizeLine;decide),fun pl hpl=>?_⟩
    refine ⟨_,rfl,_,rfl,_,_,rfl,rfl,(show (0:Int)<2147483647 by decide),_,rfl,_,_,rfl,rfl,.inl ⟨by decide,by decide⟩,_,_,rfl,rfl,_,_,rfl,rfl,_,_,rfl,rfl,⟨by decide,by decide,by lia⟩,_,rfl,_,rfl,_,_,rfl,rfl,(show (0:Int)<8 by decide),pl,_,_,_,rfl,rfl,Zo.of Zb,(by rw [hj];exact Zn hq),_,_,rfl,rfl,hq0,(by show 2<=sizeLine;decide),fun l hl=>?_⟩
    have hl0:H l=none:=(Zf.laid hpl).free hl
    exact k l _ hl0 ((Zf.laid hpl).step hl) ⟨_,_,(by split<;>lia),Zb⟩
   ·have l0:=last ns[n]
    refine ⟨(by show 8<=sizeLine;decide),fun pl hpl=>?_⟩
    refine ⟨_,rfl,_,rfl,_,_,rfl,rfl,(show (0:Int)<2147483647 by decide),_,rfl,_,_,rfl,rfl,.inl ⟨by decide,by decide⟩,_,_,rfl,rfl,_,_,rfl,rfl,_,_,rfl,rfl,⟨by decide,by decide,by lia⟩,_,rfl,_,rfl,_,_,rfl,rfl,(show (0:Int)<8 by decide),pl,_,_,_,rfl,rfl,Zo.of Zb,(by rw [hj];exact Zn hq),_,_,rfl,rfl,hq0,(by show 2<=sizeLine;decide),fun l hl=>?_⟩
    have hl0:H l=none:=(Zf.laid hpl).free hl
    exact k l _ hl0 ((Zf.laid hpl).step hl) ⟨0,_,Int.le_refl _,Zb⟩
  ·refine ⟨_,rfl,_,rfl,_,_,rfl,rfl,⟨by decide,by decide,by decide⟩,_,_,rfl,rfl,_,rfl,?_⟩
   refine Y1 (fun hp=>?_) (fun hp=>?_)
   ·exact absurd hp (by decide)
   ·have l0:=last 0
    refine ⟨(by show 8<=sizeLine;decide),fun pl hpl=>?_⟩
    refine ⟨_,rfl,_,rfl,_,_,rfl,rfl,(show (0:Int)<2147483647 by decide),_,rfl,_,_,rfl,rfl,.inl ⟨by decide,by decide⟩,_,_,rfl,rfl,_,_,rfl,rfl,_,_,rfl,rfl,⟨by decide,by decide,by lia⟩,_,rfl,_,rfl,_,_,rfl,rfl,(show (0:Int)<8 by decide),pl,_,_,_,rfl,rfl,Zo.of Zb,(by rw [hj];exact Zn hq),_,_,rfl,rfl,hq0,(by show 2<=sizeLine;decide),fun l hl=>?_⟩
    have hl0:H l=none:=(Zf.laid hpl).free hl
    exact k l _ hl0 ((Zf.laid hpl).step hl) ⟨0,_,Int.le_refl _,Zb⟩
theorem ZlA {ls:List (Str×Int)}{i:Nat}{q:Str×Int} (hq:ls[i]? = some q) (pr:Str->Bool):isK ls pr i=pr q.1:=by
 unfold isK
 rw [hq]
 cases h:pr q.1<;>simp [h]
theorem Zdv {ls:List (Str×Int)}{n:Int} (h:Wk ls n):Yw ls=n:=by
 have g1:ZcY "born" = 2:=by decide +kernel
 have g2:ZcY "cross" = 0:=by decide +kernel
 have g3:ZcY "end" = -2:=by decide +kernel
 induction h with
 | nil=>rfl
 | born _ _ _ ih=>rw [JY,ih,g1]
 | cross _ _ _ ih=>rw [JY,ih,g2];lia
 | fin _ _ _ ih=>rw [JY,ih,g3];lia
def InB (ls:List (Str×Int)):Prop:=(∀i,Yw (ls.take i)<=8)/\(Ym ls (fun x=>decide (x = "born")) ls.length).length<=4/\(Ym ls (fun x=>decide (x = "cross")) ls.length).length<=12
def cnt (x:Str) (ls:List (Str×Int)):Nat:=(ls.filter fun p=>decide (p.1=x)).length
theorem Yc (x:Str) (ls:List (Str×Int)) (p:Str×Int):cnt x (ls ++ [p])=cnt x ls+if p.1=x then 1 else 0:=by
 unfold cnt
 rw [List.filter_append,List.length_append]
 by_cases e:p.1=x<;>simp [e]
theorem U2 (x:Str) (ls:List (Str×Int)):(Ym ls (fun y=>decide (y=x)) ls.length).length=cnt x ls:=by
 have key:∀n,n<=ls.length->(Ym ls (fun y=>decide (y=x)) n).length=cnt x (ls.take n):=by
  intro n
  induction n with
  | zero=>intro _;rfl
  | succ n ih=>
   intro hn
   have hq:ls[n]? = some ls[n]:=by simp [show n<ls.length by lia]
   rw [Jc,List.length_append,ih (by lia),List.take_add_one,hq]
   show _=cnt x (ls.take n ++ [ls[n]])
   rw [Yc,ZlA hq]
   by_cases e:ls[n].1=x<;>simp [e]
 have:=key ls.length (Nat.le_refl _)
 rwa [List.take_of_length_le (Nat.le_refl _)] at this
structure Gd (ls:List (Str×Int)) (n:Int) (b c:Nat):Prop where
 wk:Wk ls n
 mx:∀i,Yw (ls.take i)<=8
 bo:cnt "born" ls=b
 cr:cnt "cross" ls=c
theorem ZdC {ls:List (Str×Int)}{p:Str×Int} (h:∀i,Yw (ls.take i)<=8) (h2:Yw (ls ++ [p])<=8):∀i,Yw ((ls ++ [p]).take i)<=8:=fun i=>by
 by_cases hi:i<=ls.length
 ·rw [List.take_append_of_le_length hi];exact h i
 ·rw [List.take_of_length_le (by rw [List.length_append,List.length_singleton];lia)];exact h2
theorem ZeX:Gd [] 0 0 0:=⟨.nil,fun i=>by simp [Yw],rfl,rfl⟩
theorem Zf9 {ls:List (Str×Int)}{n k:Int}{b c:Nat} (h:Gd ls n b c) (h0:0<=k) (h1:k<=n) (h2:n+2<=8):Gd (ls ++ [(("born" : Str),k)]) (n+2) (b+1) c:=by
 have wk:=Wk.born (k:=k) h.wk h0 h1
 refine ⟨wk,ZdC h.mx (by rw [Zdv wk];exact h2),?_,?_⟩
 ·rw [Yc,h.bo];simp
 ·rw [Yc,h.cr,if_neg (fun z=>nb1 z.symm)];rfl
theorem UT {ls:List (Str×Int)}{n k:Int}{b c:Nat} (h:Gd ls n b c) (h0:0<=k) (h1:k+1<n) (h2:n<=8):Gd (ls ++ [(("cross" : Str),k)]) n b (c+1):=by
 have wk:=Wk.cross (k:=k) h.wk h0 h1
 refine ⟨wk,ZdC h.mx (by rw [Zdv wk];exact h2),?_,?_⟩
 ·rw [Yc,h.bo,if_neg (fun z=>nb1 z)];rfl
 ·rw [Yc,h.cr];simp
theorem ZeW {ls:List (Str×Int)}{n k:Int}{b c:Nat} (h:Gd ls n b c) (h0:0<=k) (h1:k+1<n) (h2:n<=10):Gd (ls ++ [(("end" : Str),k)]) (n-2) b c:=by
 have wk:=Wk.fin (k:=k) h.wk h0 h1
 refine ⟨wk,ZdC h.mx (by rw [Zdv wk];lia),?_,?_⟩
 ·rw [Yc,h.bo,if_neg (fun z=>nb2 z)];rfl
 ·rw [Yc,h.cr,if_neg (fun z=>nb3 z)];rfl
theorem Zkz {ls:List (Str×Int)}{n:Int}{b c:Nat} (h:Gd ls n b c) (hb:b<=4) (hc:c<=12):InB ls:=by
 refine ⟨h.mx,?_,?_⟩
 ·rw [U2,h.bo];exact hb
 ·rw [U2,h.cr];exact hc
theorem ZcP:∀(n:Nat),n<=4->Gd ((List.range n).map fun (k:Nat)=>((("born" : Str),2*(k:Int)):Str×Int)) (2*(n:Int)) n 0
 | 0,_=>by simpa using ZeX
 | n+1,h=>by
  rw [List.range_succ,List.map_append]
  have e:(2*((n+1:Nat):Int))=2*(n:Int)+2:=by lia
  rw [e]
  exact Zf9 (ZcP n (by lia)) (by lia) (by lia) (by lia)
theorem ZcW {ls:List (Str×Int)}{b c:Nat}:∀(n:Nat),n<=4->Gd ls (2*(n:Int)) b c -> ∀m,m<=n->Gd (ls++List.replicate m ((("end" : Str),0):Str×Int)) (2*((n-m:Nat):Int)) b c
 | n,_,h,0,_=>by simpa using h
 | n,h4,h,m+1,hm=>by
  have ih:=ZcW n h4 h m (by lia)
  rw [List.replicate_succ',<- List.append_assoc]
  have e:(2*((n-(m+1):Nat):Int))=2*((n-m:Nat):Int)-2:=by lia
  rw [e]
  exact ZeW ih (by decide) (by lia) (by lia)
def ZeN (lo:Int):Sp:=fun vs H Q _=>∃(b:Addr) (m n:Int),vs = [.ref b,.int m,.int n]/\Bag H b/\1<=m/\m<=4/\0<=n/\n<=12 /\ ∀(l:Addr) (H':Hp) (ls:List (Str×Int)),H l=none->Bag H' b->Jo b H H'->Drw H' l ls->InB ls->ls.length<=50->ls ≠ []->Q (.ref l) H'
def ZcA:Sp:=fun vs H Q _=>∃(b:Addr) (n:Int),vs = [.ref b,.int n]/\Bag H b/\0<=n/\n<=12 /\ ∀(l:Addr) (H':Hp) (ls:List (Str×Int)),H l=none->Bag H' b->Jo b H H'->Drw H' l ls->InB ls->ls.length<=50->ls ≠ []->Q (.ref l) H'
abbrev Wm:Stmt:=top 24
theorem ZC:ZF ["_law_bag_here", "_law_births", "_law_most", "_law_letters", "_law_many", "_law_left", "_law_crosses", "_law_turn", "_law_way"] ["_law_bag_here", "_law_births", "_law_most"] (Zl Wm):={}
theorem Zjf {f:Addr}{fd:FuncData} (F:Y8 K "_law_drawing" "_law_drawing" Wm f fd) (Zs:JV P w K mg base 1 "_law_take" ["_law_bag_here", "_law_many"] Zaw) (Zx:mg "range" = none):
  Yj P w K mg base GV 2 f fd ["_law_bag_here", "_law_births", "_law_most"] (ZeN 0):=by
 refine F.ok ZC (fun vs H Q E h=>?_) (fun cdv A outer s H vs Q E hr h=>?_)
 ·obtain ⟨b,m,n,rfl,_⟩:=h
  rfl
 ·obtain ⟨b,m,n,rfl,hbag,m1,m2,n1,n2,k⟩:=h
  refine ⟨_,(Zd (Zr (i:=3) ZC.nd rfl (Or.inl rfl) (Z5 Zc))
   (Zd (Zr (i:=4) ZC.nd rfl (Or.inl rfl) Ze)
   (Zd (Zr (i:=5) ZC.nd rfl (Or.inl rfl) (Zm Zv Ze (Zz Zs hr (Za (pv 0) (Za (pv 1) Zc)))))
   (Zd (Zr (i:=6) ZC.nd rfl (Or.inl rfl) (Zz Zs hr (Za (pv 0) (Za (Zm Zv (pv 2) Ze) Zc))))
   (Zd (Z3 PassesOwn.never rfl (Yb (by rfl) Zx (Za Ze Zc)) (Zj (i:=7) ZC.nd rfl (Or.inl rfl)) (Zd (Zr (i:=8) ZC.nd rfl (Or.inl rfl) (Zz Zs hr (Za (pv 0) (Za Ze Zc))))
   (Zh (Yh (PW.pt (Zbq (Zw ZaN (pv 5) Ze (ZM _)) (Zbq (Zw Zil (pv 4) Ze (ZM _)) (Za5 (PW.pt (ZkC (Zw J7 (pv 4) Ze (ZM _)) (Zhl (Zw J7 (pv 8) Ze (ZM _))))))))) (Zd (Z1 (YO (K:=K) rfl (Jz PySem.F.plainAttrs_list PySem.F.slot_list_append PySem.F.type_list_append Yt (pv 3) (Za (Yr (Za Z4 (Za (Zz Zs hr (Za (pv 0) (Za (Zm Zv (pv 4) Ze) Zc))) Zc))) Zc))))
   (Zd (Zr (i:=4) ZC.nd rfl (Or.inl rfl) (Zm Zv (pv 4) Ze))
   (Zh (Zr (i:=5) ZC.nd rfl (Or.inl rfl) (Zm Yx (pv 5) Ze))))) (Zh (Yh (PW.pt (Zbq (Zw ZaN (pv 4) Ze (ZM _)) (Za5 (Zw J7 (pv 8) Ze (ZM _))))) (Zd (Z1 (YO (K:=K) rfl (Jz PySem.F.plainAttrs_list PySem.F.slot_list_append PySem.F.type_list_append Yt (pv 3) (Za (Yr (Za Z4 (Za (Zz Zs hr (Za (pv 0) (Za (Zm Yx (pv 4) Ze) Zc))) Zc))) Zc))))
   (Zh (Zr (i:=4) ZC.nd rfl (Or.inl rfl) (Zm Yx (pv 4) Ze)))) (Zh (Yh (PW.pt (Zbq (Zw ZaN (pv 4) Ze (ZM _)) (Za5 (Zw ZaN (pv 6) Ze (ZM _))))) (Zd (Z1 (YO (K:=K) rfl (Jz PySem.F.plainAttrs_list PySem.F.slot_list_append PySem.F.type_list_append Yt (pv 3) (Za (Yr (Za Z4 (Za (Zz Zs hr (Za (pv 0) (Za (Zm Yx (pv 4) Ze) Zc))) Zc))) Zc))))
   (Zh (Zr (i:=6) ZC.nd rfl (Or.inl rfl) (Zm Yx (pv 6) Ze)))) ZX))))))))
   (Zd (ZbN PassesOwn.never (Zw ZaN (pv 4) Ze (ZM _)) (Zd (Z1 (YO (K:=K) rfl (Jz PySem.F.plainAttrs_list PySem.F.slot_list_append PySem.F.type_list_append Yt (pv 3) (Za (Yr (Za Z4 (Za (Zz Zs hr (Za (pv 0) (Za (Zm Yx (pv 4) Ze) Zc))) Zc))) Zc))))
   (Zh (Zr (i:=4) ZC.nd rfl (Or.inl rfl) (Zm Yx (pv 4) Ze)))))
   (Zh (ZJ (pv 3))))))))),?_⟩
  refine ⟨(by show 0<=sizeLine;decide),fun l hl=>?_⟩
  obtain ⟨g0,r0,hg0,hb0⟩:=id hbag
  have hlb:l≠b:=(Zg hb0 hl).symm
  have bag1:Bag (upd H l (.lst [])) b:=⟨g0,r0,hg0,by rw [Zi (Ne.symm hlb)];exact hb0⟩
  refine ⟨_,rfl,_,rfl,b,m,rfl,bag1,m1,by lia,fun d1 H1 p1 q1 bg1 f1=>?_⟩
  refine ⟨_,_,rfl,rfl,?_⟩
  refine ⟨_,rfl,_,rfl,_,_,rfl,rfl,b,_,rfl,bg1,by lia,by lia,fun d2 H2 p2 q2 bg2 f2=>?_⟩
  have hl2:H2 l=some (.lst []):=f2 l _ (f1 l _ Zb hlb) hlb
  have fr2:Jo b H H2:=fun c o e nb=>f2 c o (f1 c o (by rw [Zi (Zg e hl)];exact e) nb) nb
  refine ⟨30,rfl,by decide,by decide,Ys (n:=30) (fun i σ H'=>∃(xs:List V) (ls:List (Str×Int)) (c:Nat) (lf cr:Int) (tv wv:Option V),σ = [some (.ref b),some (.int m),some (.int n),some (.ref l),some (.int (2*(c:Int))),some (.int lf),some (.int cr),tv,wv]/\c<=4/\Bag H' b/\Jo b H H'/\H' l=some (.lst xs)/\ZD H' xs ls/\(∃bo cc:Nat,Gd ls (2*(c:Int)) bo cc/\(bo:Int)+lf<=m/\(cc:Int)+cr<=n/\0<=lf/\0<=cr)/\ls.length<=i/\(i=0->0<lf/\c=0)/\(0<i->ls ≠ []))
   ⟨[],[],0,_,_,none,none,rfl,by decide,bg2,fr2,hl2,.nil,⟨0,0,by simpa using ZeX,by lia,by lia,by lia,by lia⟩,Nat.le_refl _,fun _=>⟨by lia,rfl⟩,fun h=>absurd h (by decide)⟩ ?_ ?_⟩
  ·rintro i σ H3 hi ⟨xs,ls,c,lf,cr,tv,wv,rfl,hc,bg3,fr3,hl3,hL,⟨bo,cc,gd,hbo,hcc,hlf,hcr⟩,hlen,hz,hne⟩
   have hxl:xs.length<sizeLine:=by
    rw [hL.len]
    exact ZI (by lia)
   refine ⟨_,rfl,b,8,rfl,bg3,by decide,by decide,fun wy H4 _ _ bg4 f4=>?_⟩
   have hl4:H4 l=some (.lst xs):=f4 l _ hl3 hlb
   have fr4:Jo b H H4:=fr3.trans f4
   have hL4:ZD H4 xs ls:=hL.frm f4 bg3
   dsimp only [JD]
   refine Zfj (ZcV (β:=decide (0<lf)) (fun Q q=>⟨_,rfl,_,_,rfl,rfl,_,rfl,q⟩) fun _=>ZcV (β:=decide (2*(c:Int)<7)) (fun Q q=>⟨_,rfl,_,_,rfl,rfl,_,rfl,q⟩) fun _=>ZmJ (fun Q q=>⟨_,rfl,rfl,_,rfl,q⟩) fun _=>(fun Q q=>⟨_,rfl,rfl,_,rfl,q⟩)) (fun hp=>?_) (fun hn=>?_)
   ·
    have hp1:2*(c:Int)<7:=by
     simp only [Bool.and_eq_true,decide_eq_true_eq] at hp
     exact hp.2.1
    have hp0:0<lf:=by
     simp only [Bool.and_eq_true,decide_eq_true_eq] at hp
     exact hp.1
    refine ⟨_,rfl,.inl ⟨rfl,_,Zo.of hl4⟩,_,rfl,_,rfl,_,_,rfl,rfl,b,_,rfl,bg4,by lia,by lia,fun d H5 hd0 hd1 bg5 f5=>⟨(by show 2<=sizeLine;decide),fun t ht=>?_⟩⟩
    obtain ⟨a1,a2,a3,a4,a5⟩:=Wd "born" d fr4 bg4 hl4 hL4 hlb hl f5 bg5 ht
    refine ⟨l,_,_,rfl,rfl,a1,hxl,_,rfl,_,_,rfl,rfl,_,rfl,_,_,rfl,rfl,?_⟩
    refine ⟨xs ++ [.ref t],ls ++ [((("born" : Str),d):Str×Int)],c+1,lf-1,cr,some (.int (0+(i:Int))),some (.int wy),?_,by lia,a2,a3,a4,a5,?_,by rw [List.length_append,List.length_singleton];lia,fun h=>absurd h (by lia),fun _=>by simp⟩
    ·have e:2*((c+1:Nat):Int)=2*(c:Int)+2:=by lia
     rw [e]
     rfl
    ·have e:2*((c+1:Nat):Int)=2*(c:Int)+2:=by lia
     rw [e]
     exact ⟨bo+1,cc,Zf9 gd hd0 (by lia) (by lia),by lia,by lia,by lia,by lia⟩
   ·have hpos:0<i:=Nat.pos_of_ne_zero fun h=>by
     obtain ⟨q1,q2⟩:=hz h
     subst q2
     simp [q1] at hn
    refine Zfj (ZcV (β:=decide (1<2*(c:Int))) (fun Q q=>⟨_,rfl,_,_,rfl,rfl,_,rfl,q⟩) fun _=>(fun Q q=>⟨_,rfl,rfl,_,rfl,q⟩)) (fun hp=>?_) (fun _=>?_)
    ·
     have hp1:1<2*(c:Int):=by
      simp only [Bool.and_eq_true,decide_eq_true_eq] at hp
      exact hp.1
     refine ⟨_,rfl,.inl ⟨rfl,_,Zo.of hl4⟩,_,rfl,_,rfl,_,_,rfl,rfl,b,_,rfl,bg4,by lia,by lia,fun d H5 hd0 hd1 bg5 f5=>⟨(by show 2<=sizeLine;decide),fun t ht=>?_⟩⟩
     obtain ⟨a1,a2,a3,a4,a5⟩:=Wd "end" d fr4 bg4 hl4 hL4 hlb hl f5 bg5 ht
     refine ⟨l,_,_,rfl,rfl,a1,hxl,_,rfl,_,_,rfl,rfl,?_⟩
     have e:2*((c-1:Nat):Int)=2*(c:Int)-2:=by lia
     refine ⟨xs ++ [.ref t],ls ++ [((("end" : Str),d):Str×Int)],c-1,lf,cr,some (.int (0+(i:Int))),some (.int wy),?_,by lia,a2,a3,a4,a5,?_,by rw [List.length_append,List.length_singleton];lia,fun h=>absurd h (by lia),fun _=>by simp⟩
     ·rw [e]
      rfl
     ·rw [e]
      exact ⟨bo,cc,ZeW gd hd0 (by lia) (by lia),by lia,by lia,by lia,by lia⟩
    ·refine Zfj (ZcV (β:=decide (1<2*(c:Int))) (fun Q q=>⟨_,rfl,_,_,rfl,rfl,_,rfl,q⟩) fun _=>(fun Q q=>⟨_,rfl,_,_,rfl,rfl,_,rfl,q⟩)) (fun hp=>?_) (fun _=>?_)
     ·
      have hp1:1<2*(c:Int):=by
       simp only [Bool.and_eq_true,decide_eq_true_eq] at hp
       exact hp.1
      have hp2:0<cr:=by
       simp only [Bool.and_eq_true,decide_eq_true_eq] at hp
       exact hp.2
      refine ⟨_,rfl,.inl ⟨rfl,_,Zo.of hl4⟩,_,rfl,_,rfl,_,_,rfl,rfl,b,_,rfl,bg4,by lia,by lia,fun d H5 hd0 hd1 bg5 f5=>⟨(by show 2<=sizeLine;decide),fun t ht=>?_⟩⟩
      obtain ⟨a1,a2,a3,a4,a5⟩:=Wd "cross" d fr4 bg4 hl4 hL4 hlb hl f5 bg5 ht
      refine ⟨l,_,_,rfl,rfl,a1,hxl,_,rfl,_,_,rfl,rfl,?_⟩
      exact ⟨xs ++ [.ref t],ls ++ [((("cross" : Str),d):Str×Int)],c,_,_,_,_,rfl,hc,a2,a3,a4,a5,⟨bo,cc+1,UT gd hd0 (by lia) (by lia),by lia,by lia,by lia,by lia⟩,by rw [List.length_append,List.length_singleton];lia,fun h=>absurd h (by lia),fun _=>by simp⟩
     ·exact ⟨xs,ls,c,_,_,_,_,rfl,hc,bg4,fr4,hl4,hL4,⟨bo,cc,gd,by lia,by lia,by lia,by lia⟩,by lia,fun h=>absurd h (by lia),fun _=>hne hpos⟩
  ·
   rintro σ H3 ⟨xs,ls,c,lf,cr,tv,wv,rfl,hc,bg3,fr3,hl3,hL,⟨bo,cc,gd,hbo,hcc,hlf,hcr⟩,hlen,_,hne⟩
   refine Zix (fun σ H'=>∃(xs:List V) (ls:List (Str×Int)) (c:Nat),σ = [some (.ref b),some (.int m),some (.int n),some (.ref l),some (.int (2*(c:Int))),some (.int lf),some (.int cr),tv,wv]/\c<=4/\Bag H' b/\Jo b H H'/\H' l=some (.lst xs)/\ZD H' xs ls/\Gd ls (2*(c:Int)) bo cc/\ls.length+c<=34/\ls ≠ [])
    (fun (σ:L2.St) _=>match σ[4]? with | some (some (V.int m))=>m.toNat | _=>0) ⟨xs,ls,c,rfl,hc,bg3,fr3,hl3,hL,gd,by lia,hne (by decide)⟩ ?_ ?_
   ·rintro σ H4 ⟨xs,ls,c,rfl,hc,bg4,fr4,hl4,hL4,gd,hlen,hne'⟩
    have hxl:xs.length<sizeLine:=by
     rw [hL4.len]
     exact ZI (by lia)
    refine ⟨_,rfl,_,_,rfl,rfl,_,rfl,?_⟩
    refine Y1 (fun hp=>?_) (fun hp=>?_)
    ·have hp1:0<2*(c:Int):=of_decide_eq_true hp
     refine ⟨_,rfl,.inl ⟨rfl,_,Zo.of hl4⟩,_,rfl,_,rfl,_,_,rfl,rfl,b,_,rfl,bg4,by lia,by lia,fun d H5 hd0 hd1 bg5 f5=>⟨(by show 2<=sizeLine;decide),fun t ht=>?_⟩⟩
     obtain ⟨a1,a2,a3,a4,a5⟩:=Wd "end" d fr4 bg4 hl4 hL4 hlb hl f5 bg5 ht
     refine ⟨l,_,_,rfl,rfl,a1,hxl,_,rfl,_,_,rfl,rfl,?_⟩
     have e:2*((c-1:Nat):Int)=2*(c:Int)-2:=by lia
     refine ⟨⟨xs ++ [.ref t],ls ++ [((("end" : Str),d):Str×Int)],c-1,?_,by lia,a2,a3,a4,a5,?_,by rw [List.length_append,List.length_singleton];lia,by simp⟩,?_⟩
     ·rw [e]
      rfl
     ·rw [e]
      exact ZeW gd hd0 (by lia) (by lia)
     ·show (2*(c:Int)-2).toNat<(2*(c:Int)).toNat
      lia
    ·have hp1:¬ 0<2*(c:Int):=fun z=>hp (decide_eq_true z)
     have hc0:c=0:=by lia
     subst hc0
     have gd':Gd ls 0 bo cc:=by simpa using gd
     refine ⟨_,rfl,k l H4 ls hl bg4 fr4 ⟨xs,hl4,hL4,gd'.wk,by lia⟩ (Zkz gd' (by lia) (by lia)) (by lia) hne'⟩
   ·rintro σ H Q Q' f ⟨v,e,i,j,e1,e2,kk,e3,q⟩
    exact ⟨v,e,i,j,e1,e2,kk,e3,f _ _ q⟩
abbrev JG:Stmt:=top 25
theorem YW:ZF ["_law_bag_here", "_law_most", "_law_births", "_law_letters", "_law_turn", "_law_k"] ["_law_bag_here", "_law_most"] (Zl JG):={}
theorem ZiZ {f:Addr}{fd:FuncData} (F:Y8 K "_law_plat" "_law_plat" JG f fd) (Zs:JV P w K mg base 1 "_law_take" ["_law_bag_here", "_law_many"] Zaw) (Zx:mg "range" = none):
  Yj P w K mg base GV 2 f fd ["_law_bag_here", "_law_most"] ZcA:=by
 refine F.ok YW (fun vs H Q E h=>?_) (fun cdv A outer s H vs Q E hr h=>?_)
 ·obtain ⟨b,n,rfl,_⟩:=h
  rfl
 ·obtain ⟨b,n,rfl,hbag,n1,n2,k⟩:=h
  refine ⟨_,(Zd (Zr (i:=2) YW.nd rfl (Or.inl rfl) (Zm Zv Ze (Zz Zs hr (Za (pv 0) (Za Ze Zc)))))
   (Zd (U0 (i:=3) YW.nd rfl (Or.inl rfl) (Ls:=["_law_k"]) (Fs:=[]) (fi:=[]) (ZO.of (show Yu ["_law_bag_here", "_law_most", "_law_births", "_law_letters", "_law_turn", "_law_k"] (Zl JG) _ [] []=true by decide +kernel)) rfl (Yb (by rfl) Zx (Za (pv 2) Zc)) (fun cl C s3 H3 ex=>⟨(Zj (i:=0) (show ((["_law_k"]:List Str)++([]:List Str)).Nodup by decide +kernel) rfl (Or.inl rfl)),Z0,(Yr (Za Z4 (Za (Zm UE Ze (pv 0)) Zc)))⟩))
   (Zd (Z3 PassesOwn.never rfl (Yb (by rfl) Zx (Za (Zz Zs hr (Za (pv 0) (Za (Zm Zv (pv 1) Ze) Zc))) Zc)) (Zj (i:=4) YW.nd rfl (Or.inl rfl)) (Zd (Zr (i:=5) YW.nd rfl (Or.inl rfl) (Zz Zs hr (Za (pv 0) (Za (Zm Yx (Zm UE Ze (pv 2)) Ze) Zc))))
   (Zd (Yh (PW.pt (Zbq (Zw ZaN (pv 2) Ze (ZM _)) (Za5 (Zw J7 (Zz Zs hr (Za (pv 0) (Za Ze Zc))) Ze (ZM _))))) (Zh (Zr (i:=5) YW.nd rfl (Or.inl rfl) (Zm Zv (Zm UE Ze (Zm WH (Zm Zbn (pv 5) Ze) (Zm Yx (pv 2) Ze))) Ze))) ZX)
   (Zh (Z1 (YO (K:=K) rfl (Jz PySem.F.plainAttrs_list PySem.F.slot_list_append PySem.F.type_list_append Yt (pv 3) (Za (Yr (Za Z4 (Za (pv 5) Zc))) Zc))))))))
   (Zh (ZJ (Zm Zau (pv 3) (Wt (Ls:=["_law_k"]) (Fs:=[]) (fi:=[]) (ZO.of (show Yu ["_law_bag_here", "_law_most", "_law_births", "_law_letters", "_law_turn", "_law_k"] (Zl JG) _ [] []=true by decide +kernel)) rfl (Yb (by rfl) Zx (Za (pv 2) Zc)) (fun cl C s3 H3 ex=>⟨(Zj (i:=0) (show ((["_law_k"]:List Str)++([]:List Str)).Nodup by decide +kernel) rfl (Or.inl rfl)),Z0,(Yr (Za Z4 (Za Ze Zc)))⟩)))))))),?_⟩
  refine ⟨_,rfl,b,3,rfl,hbag,by decide,by decide,fun d H1 hd0 hd1 bg1 f1=>?_⟩
  refine ⟨_,_,rfl,rfl,?_⟩
  have hc1:1<=(1+d).toNat:=by lia
  have hc2:(1+d).toNat<=3:=by lia
  refine ⟨_,rfl,_,rfl,by lia,by lia,Zb7 (n:=(1+d).toNat) (Nat.le_of_lt (ZI (by lia))) (fun i ys H'=>Zf H1 H'/\ZD H' ys ((List.range i).map fun (j:Nat)=>(("born", 2*(j:Int)):Str×Int))) ⟨Zf.refl _,.nil⟩
   (fun i ys H' p=>by rw [p.2.len];simp) (fun i ys H' hi p=>?_) (fun ys H2 p l hl=>?_)⟩
  ·refine lcG ?_
   refine ⟨_,rfl,_,_,rfl,rfl,.inl ⟨by decide,by decide⟩,(by show 2<=sizeLine;decide),fun t ht=>⟨p.1.step ht,?_⟩⟩
   rw [List.range_succ,List.map_append]
   have e:(2*(0+(i:Int)))=2*(i:Int):=by lia
   refine ZD.snoc (p.2.same (Zf.laid ht)) ?_
   rw [<- e]
   exact Zb
  ·
   obtain ⟨sm,hL0⟩:=p
   obtain ⟨g0,r0,hg0,hb0⟩:=id bg1
   have hb2:H2 b=some (.lst [.int g0,.int r0]):=sm b _ hb0
   have hlb:l≠b:=(Zg hb2 hl).symm
   have bg2:Bag (upd H2 l (.lst ys)) b:=⟨g0,r0,hg0,by rw [Zi (Ne.symm hlb)];exact hb2⟩
   have hlH:H l=none:=f1.free bg1 (sm.free hl)
   have fr2:Jo b H (upd H2 l (.lst ys)):=(f1.trans sm.frm).new hl
   have hL2:ZD (upd H2 l (.lst ys)) ys ((List.range (1+d).toNat).map fun (j:Nat)=>(("born", 2*(j:Int)):Str×Int)):=hL0.same (Zf.laid hl)
   refine ⟨_,rfl,_,rfl,_,_,rfl,rfl,b,_,rfl,bg2,by lia,by lia,fun d2 H3 he0 he1 bg3 f3=>?_⟩
   refine ⟨_,rfl,by lia,by lia,Ys (n:=d2.toNat) (fun i σ H'=>∃(xs:List V) (ls:List (Str×Int)) (tv kv:Option V),σ = [some (.ref b),some (.int n),some (.int (1+d)),some (.ref l),tv,kv]/\Bag H' b/\Jo b H H'/\H' l=some (.lst xs)/\ZD H' xs ls/\Gd ls (2*((1+d).toNat:Int)) (1+d).toNat i/\ls.length<=3+i)
    ⟨ys,_,none,none,rfl,bg3,fr2.trans f3,f3 l _ Zb hlb,hL2.frm f3 bg2,ZcP _ (by lia),by rw [List.length_map,List.length_range];lia⟩ ?_ ?_⟩
   ·rintro i σ H4 hi ⟨xs,ls,tv,kv,rfl,bg4,fr4,hl4,hL4,hW,hlen⟩
    have hxl:xs.length<sizeLine:=by
     rw [hL4.len]
     exact ZI (by lia)
    refine ⟨_,rfl,_,rfl,_,_,rfl,rfl,.inl ⟨by decide,by decide⟩,_,_,rfl,rfl,b,_,rfl,bg4,by lia,by lia,fun k1 H5 hk0 hk1 bg5 f5=>?_⟩
    have hl5:H5 l=some (.lst xs):=f5 l _ hl4 hlb
    have fr5:Jo b H H5:=fr4.trans f5
    have hL5:ZD H5 xs ls:=hL4.frm f5 bg4
    refine ⟨_,rfl,_,_,rfl,rfl,_,rfl,?_⟩
    refine Y1 (fun hp=>?_) (fun hp=>?_)
    ·have hp1:1<1+d:=of_decide_eq_true hp
     refine ⟨_,rfl,b,2,rfl,bg5,by decide,by decide,fun d3 H6 _ _ bg6 f6=>⟨rfl,_,rfl,?_⟩⟩
     have hl6:H6 l=some (.lst xs):=f6 l _ hl5 hlb
     have fr6:Jo b H H6:=fr5.trans f6
     have hL6:ZD H6 xs ls:=hL5.frm f6 bg5
     refine Y1 (fun hq=>?_) (fun hq=>?_)
     ·refine ⟨_,rfl,_,_,rfl,rfl,⟨by decide,by decide⟩,_,rfl,_,_,rfl,rfl,_,_,rfl,rfl,(show (0:Int)<1+d-1 by lia),_,_,rfl,rfl,.inl ⟨by decide,by decide⟩,_,_,rfl,rfl,?_⟩
      have z0:0<=k1 / 2 % (1+d-1):=Int.emod_nonneg _ (by lia)
      have z1:k1 / 2 % (1+d-1)<1+d-1:=Int.emod_lt_of_pos _ (by lia)
      refine ⟨_,rfl,.inl ⟨rfl,_,Zo.of hl6⟩,_,rfl,(by show 2<=sizeLine;decide),fun t ht=>?_⟩
      obtain ⟨a1,a2,a3,a4,a5⟩:=Wd "cross" (2*(k1 / 2 % (1+d-1))+1) fr6 bg6 hl6 hL6 hlb hlH (Jo.refl b H6) bg6 ht
      refine ⟨l,_,_,rfl,rfl,a1,hxl,?_⟩
      exact ⟨xs ++ [.ref t],_,_,_,rfl,a2,a3,a4,a5,UT hW (by lia) (by lia) (by lia),by rw [List.length_append,List.length_singleton];lia⟩
     ·refine ⟨_,rfl,.inl ⟨rfl,_,Zo.of hl6⟩,_,rfl,(by show 2<=sizeLine;decide),fun t ht=>?_⟩
      obtain ⟨a1,a2,a3,a4,a5⟩:=Wd "cross" k1 fr6 bg6 hl6 hL6 hlb hlH (Jo.refl b H6) bg6 ht
      refine ⟨l,_,_,rfl,rfl,a1,hxl,?_⟩
      exact ⟨xs ++ [.ref t],_,_,_,rfl,a2,a3,a4,a5,UT hW (by lia) (by lia) (by lia),by rw [List.length_append,List.length_singleton];lia⟩
    ·refine ⟨_,rfl,.inl ⟨rfl,_,Zo.of hl5⟩,_,rfl,(by show 2<=sizeLine;decide),fun t ht=>?_⟩
     obtain ⟨a1,a2,a3,a4,a5⟩:=Wd "cross" k1 fr5 bg5 hl5 hL5 hlb hlH (Jo.refl b H5) bg5 ht
     refine ⟨l,_,_,rfl,rfl,a1,hxl,?_⟩
     exact ⟨xs ++ [.ref t],_,_,_,rfl,a2,a3,a4,a5,UT hW (by lia) (by lia) (by lia),by rw [List.length_append,List.length_singleton];lia⟩
   ·rintro σ H4 ⟨xs,ls,tv,kv,rfl,bg4,fr4,hl4,hL4,hW,hlen⟩
    refine ⟨_,rfl,_,rfl,_,rfl,by lia,by lia,Zb7 (n:=(1+d).toNat) (Nat.le_of_lt (ZI (by lia))) (fun i ys H'=>Zf H4 H'/\ZD H' ys (List.replicate i ((("end" : Str),0):Str×Int))) ⟨Zf.refl _,.nil⟩
     (fun i ys H' p=>by rw [p.2.len];simp) (fun i ys H' hi p=>?_) (fun zs H5 p D hD=>?_)⟩
    ·refine lcG ?_
     refine ⟨(by show 2<=sizeLine;decide),fun t ht=>⟨p.1.step ht,?_⟩⟩
     rw [List.replicate_succ']
     exact ZD.snoc (p.2.same (Zf.laid ht)) Zb
    ·obtain ⟨sm5,hZ⟩:=p
     have hl5:H5 l=some (.lst xs):=sm5 l _ hl4
     have hZl:=hZ.len
     rw [List.length_replicate] at hZl
     have hXl:=hL4.len
     refine ⟨l,D,xs,zs,rfl,rfl,(by rw [Zi (Zg hl5 hD)];exact hl5),Zb,Nat.le_of_lt (ZI (by lia)),fun p hp=>?_⟩
     have sm6:Zf H4 (upd (upd H5 D (.lst zs)) p (.lst (xs++zs))):=(sm5.step hD).step hp
     have hpH:H p=none:=fr4.free bg4 ((sm5.step hD).free hp)
     obtain ⟨g4,r4,hg4,hb4⟩:=id bg4
     refine k p _ (ls++List.replicate (1+d).toNat ((("end" : Str),0):Str×Int)) hpH ⟨g4,r4,hg4,sm6 b _ hb4⟩ (fr4.trans sm6.frm) ⟨xs++zs,Zb,?_,?_,?_⟩ ?_ ?_ ?_
     ·exact (hL4.same sm6).append (hZ.same ((Zf.laid hD).step hp))
     ·have:=(ZcW _ (by lia) hW (1+d).toNat (Nat.le_refl _)).wk
      simpa using this
     ·rw [List.length_append,List.length_replicate]
      lia
     ·exact Zkz (ZcW _ (by lia) hW (1+d).toNat (Nat.le_refl _)) (by lia) (by lia)
     ·rw [List.length_append,List.length_replicate]
      lia
     ·intro z
      have:=congrArg List.length z
      rw [List.length_append,List.length_replicate,List.length_nil] at this
      lia
abbrev UD:Stmt:=top 26
theorem Zeu:ZF ["_law_bag_here", "_law_most"] ["_law_bag_here", "_law_most"] (Zl UD):={}
theorem Zk1 {f:Addr}{fd:FuncData} (F:Y8 K "_law_any" "_law_any" UD f fd) (Zs:JV P w K mg base 1 "_law_take" ["_law_bag_here", "_law_many"] Zaw) (GP:JV P w K mg base 2 "_law_plat" ["_law_bag_here", "_law_most"] ZcA)
  (J5:JV P w K mg base 2 "_law_drawing" ["_law_bag_here", "_law_births", "_law_most"] (ZeN 0)):Yj P w K mg base GV 3 f fd ["_law_bag_here", "_law_most"] ZcA:=by
 refine F.ok Zeu (fun vs H Q E h=>?_) (fun cdv A outer s H vs Q E hr h=>?_)
 ·obtain ⟨b,n,rfl,_⟩:=h
  rfl
 ·obtain ⟨b,n,rfl,hbag,n1,n2,k⟩:=h
  refine ⟨_,(Zd (Yh (Zw J7 (Zz Zs hr (Za (pv 0) (Za Ze Zc))) Ze (ZM _)) (Zh (ZJ (Zz GP hr (Za (pv 0) (Za (pv 1) Zc))))) ZX)
   (Zh (ZJ (Zz J5 hr (Za (pv 0) (Za Ze (Za (pv 1) Zc))))))),?_⟩
  refine ⟨_,rfl,b,3,rfl,hbag,by decide,by decide,fun d H1 _ _ bg1 f1=>⟨rfl,_,rfl,?_⟩⟩
  refine Y1 (fun _=>?_) (fun _=>?_)
  ·exact ⟨_,rfl,_,rfl,b,n,rfl,bg1,n1,n2,fun l H2 ls hl bg2 f2 dr ib ll ne=>k l H2 ls (f1.free bg1 hl) bg2 (f1.trans f2) dr ib ll ne⟩
  ·exact ⟨_,rfl,_,rfl,b,4,n,rfl,bg1,by decide,by decide,n1,by lia,fun l H2 ls hl bg2 f2 dr ib ll ne=>k l H2 ls (f1.free bg1 hl) bg2 (f1.trans f2) dr ib ll ne⟩
abbrev GS:Stmt:=top 28
theorem YB:ZF ["_law_drawing_here", "_law_rows_here", "_law_born", "_law_word", "_law_k", "_law_row"] ["_law_drawing_here"] (Zl GS):={}
theorem Zjz {f:Addr}{fd:FuncData} (F:Y8 K "_law_rows" "_law_rows" GS f fd) (Gm:mg "list" = none):Yj P w K mg base GV 1 f fd ["_law_drawing_here"] Zao:=by
 refine F.ok YB (fun vs H Q E h=>?_) (fun cdv A outer s H vs Q E hr h=>?_)
 ·obtain ⟨l,xs,ls,rfl,_⟩:=h
  rfl
 ·obtain ⟨l,xs,ls,rfl,hl,hL,hlen,hW,k⟩:=h
  refine ⟨_,(Zd (Zr (i:=1) YB.nd rfl (Or.inl rfl) (Z5 (Za (Z5 Zc) Zc)))
   (Zd (Zr (i:=2) YB.nd rfl (Or.inl rfl) Ze)
   (Zd (Z3 PassesOwn.never rfl (ZT (K:=K) rfl (pv 0)) (Yq (K:=K) (n:=2) rfl rfl (Zq (Zj (i:=3) YB.nd rfl (Or.inl rfl)) (Zq (Zj (i:=4) YB.nd rfl (Or.inl rfl)) Z7))) (Zd (Zr (i:=5) YB.nd rfl (Or.inl rfl) (ZaF (UN (K:=K) rfl) (by rfl) Gm boot_list (Za (Zp (Zk (K:=K) rfl) (pv 1) (Zcp ZaK Ze) (fun _ _=>rfl)) Zc)))
   (Zd (Yh (Zw J7 (pv 3) Z4 (ZM _)) (Zd (Z1 (YO (K:=K) rfl (Jz PySem.F.plainAttrs_list PySem.F.slot_list_insert PySem.F.type_list_insert Zcz (pv 5) (Za (pv 4) (Za (Zm Zv (pv 2) Ze) Zc)))))
   (Zd (Z1 (YO (K:=K) rfl (Jz PySem.F.plainAttrs_list PySem.F.slot_list_insert PySem.F.type_list_insert Zcz (pv 5) (Za (pv 4) (Za (pv 2) Zc)))))
   (Zh (Zr (i:=2) YB.nd rfl (Or.inl rfl) (Zm Zv (pv 2) Ze))))) (Zh (Yh (Zw J7 (pv 3) Z4 (ZM _)) (Zh (Z6 (Yr (Za (Zp (Zk (K:=K) rfl) (pv 5) (Zm Zv (pv 4) Ze) (fun _ _=>rfl)) (Za (Zp (Zk (K:=K) rfl) (pv 5) (pv 4) (fun _ _=>rfl)) Zc))) (Yq (K:=K) (n:=2) rfl rfl (Zq (YG (pv 5) (pv 4) set_list) (Zq (YG (pv 5) (Zm Zv (pv 4) Ze) set_list) Z7))))) (Zd (Z1 (YO (K:=K) rfl (Jz PySem.F.plainAttrs_list PySem.F.slot_list_pop PySem.F.type_list_pop ZeC (pv 5) (Za (pv 4) Zc))))
   (Zh (Z1 (YO (K:=K) rfl (Jz PySem.F.plainAttrs_list PySem.F.slot_list_pop PySem.F.type_list_pop ZeC (pv 5) (Za (pv 4) Zc)))))))))
   (Zh (Z1 (YO (K:=K) rfl (Jz PySem.F.plainAttrs_list PySem.F.slot_list_append PySem.F.type_list_append Yt (pv 1) (Za (pv 5) Zc))))))))
   (Zh (ZJ (pv 1)))))),?_⟩
  have hxl:=hL.len
  refine ⟨(by show 0<=sizeLine;decide),fun e0 he0=>⟨(by show 1<=sizeLine;decide),fun R hR=>?_⟩⟩
  have hRH:H R=none:=(Zf.laid he0).free hR
  have hRe:e0≠R:=Zg (Zb (H:=H) (a:=e0) (o:=.lst [])) hR
  have sm0:Zf H (upd (upd H e0 (.lst [])) R (.lst [.ref e0])):=(Zf.laid he0).step hR
  refine ⟨_,rfl,l,rfl,⟨_,Zo.of (sm0 l _ hl)⟩,Wh (K:=K) (a:=l) (xs:=xs) (fun i σ H'=>∃(ys:List V) (v3 v4 v5:Option V),σ = [some (.ref l),some (.ref R),some (.int (rb (ls.take i)).2),v3,v4,v5]/\Zf H H'/\H' R=some (.lst ys)/\Yp H' ys (rowsOf ls (i+1))/\(∀t,V.ref t∈ys->H t=none/\t≠R)/\ys.Nodup)
   ⟨[.ref e0],none,none,none,rfl,sm0,Zb,?_,?_,by simp⟩ (fun i σ H' _ ⟨_,_,_,_,_,sm,_⟩=>Zo.of (sm l _ hl)) ?_ ?_⟩
  ·refine Paired.cons ⟨e0,rfl,?_⟩ .nil
   rw [Zi hRe,Zb]
   rfl
  ·intro t ht
   have:t=e0:=V.ref.inj (List.mem_singleton.mp ht)
   subst this
   exact ⟨he0,hRe⟩
  ·rintro i x σ H' hx ⟨ys,v3,v4,v5,rfl,sm,hR',rv,ap,nd⟩
   obtain ⟨⟨qx,qk⟩,tl,hq,rfl,htl⟩:=hL.get hx
   have htl':=sm tl _ htl
   have hi:i<ls.length:=(List.getElem?_eq_some_iff.mp hq).1
   obtain ⟨ztk,cases3⟩:=ZdQ hW hq
   have rv':=rv
   rw [ZaM] at rv'
   obtain ⟨ys0,t,rfl,ht⟩:=rv'.last
   have hyl:(ys0 ++ [V.ref t]).length<sizeLine:=by
    rw [rv.len]
    unfold rowsOf
    rw [List.length_map,List.length_range]
    exact ZI (by lia)
   have rl:((rb (ls.take i)).1.map V.int).length=(rb (ls.take i)).1.length:=List.length_map _
   obtain ⟨m,hm⟩:=Jh hW i
   have r8:(rb (ls.take i)).1.length<=900:=by
    have z1:=GD hm
    have z2:=Zc8 hm
    rw [List.length_take] at z2
    lia
   refine ⟨tl,_,rfl,JH.of htl',rfl,_,_,rfl,_,_,rfl,rfl,?_⟩
   refine ⟨_,rfl,1,rfl,R,_,_,_,rfl,rfl,Zo.of hR',ZiM _ _,t,_,rfl,.inl (Zo.of ht),fun w hw=>?_⟩
   have hwR:w≠R:=(Zg hR' hw).symm
   refine ⟨_,rfl,rfl,_,rfl,?_⟩
   rcases cases3 with ⟨e,b0,b1⟩ | ⟨e,b0,b1⟩ | ⟨e,b0,b1⟩
   ·have e:qx = "born" := e
    subst e
    refine Y1 (fun _=>?_) (fun hn=>absurd (by simp) hn)
    have b0':0<=qk:=b0
    have b1':qk<=((rb (ls.take i)).1.length:Int):=b1
    refine ⟨_,rfl,.inl ⟨rfl,_,Zo.of Zb⟩,_,rfl,_,rfl,_,_,rfl,rfl,w,_,qk,_,rfl,rfl,Zb,b0',(by rw [rl];exact b1'),(by rw [rl];exact ZI (by lia)),(by rw [rl];lia),?_⟩
    have rl2:(((rb (ls.take i)).1.map V.int).take qk.toNat++V.int ((rb (ls.take i)).2+1)::((rb (ls.take i)).1.map V.int).drop qk.toNat).length=(rb (ls.take i)).1.length+1:=by
     rw [List.length_append,List.length_cons,List.length_take,List.length_drop,rl]
     lia
    refine ⟨_,rfl,.inl ⟨rfl,_,Zo.of Zb⟩,_,rfl,_,rfl,w,_,qk,_,rfl,rfl,Zb,b0',(by rw [rl2];lia),(by rw [rl2];exact ZI (by lia)),(by rw [rl2];lia),?_⟩
    refine ⟨_,rfl,_,_,rfl,rfl,?_⟩
    rw [W9,W9,Zj6 _ _ _ _ (by rw [rl];lia)]
    have hR2:(upd H' w (.lst (((rb (ls.take i)).1.map V.int).take qk.toNat ++ [.int (rb (ls.take i)).2,.int ((rb (ls.take i)).2+1)]++((rb (ls.take i)).1.map V.int).drop qk.toNat))) R=some (.lst (ys0 ++ [.ref t])):=(Zf.laid hw) R _ hR'
    refine ⟨_,rfl,.inl ⟨rfl,_,Zo.of hR2⟩,_,rfl,R,_,_,rfl,rfl,hR2,hyl,?_⟩
    obtain ⟨z1,z2,z3,z4⟩:=ZaA (G:=upd (upd H' w (.lst (((rb (ls.take i)).1.map V.int).take qk.toNat ++ [.int (rb (ls.take i)).2,.int ((rb (ls.take i)).2+1)]++((rb (ls.take i)).1.map V.int).drop qk.toNat))) R (.lst ((ys0 ++ [.ref t]) ++ [.ref w]))) hRH sm rv ap nd hw hwR (fun c o e n=>by
      rw [Zi n]
      exact (Zf.laid hw) c _ e) (by
      rw [Zi hwR,Zb,ztk,YS,J3]
      simp [List.map_append,List.map_take,List.map_drop])
    refine ⟨ys0 ++ [.ref t] ++ [.ref w],some (.str "born"),some (.int qk),some (.ref w),?_,z1,Zb,z2,z3,z4⟩
    rw [ztk,YS,J3]
    rfl
   ·have e:qx = "cross" := e
    subst e
    refine Y1 (fun hn=>absurd (V.str.inj (of_decide_eq_true hn)) nb1) (fun _=>?_)
    refine ⟨_,rfl,rfl,_,rfl,?_⟩
    refine Y1 (fun _=>?_) (fun hn=>absurd (by simp) hn)
    obtain ⟨kk,rfl⟩:=Int.eq_ofNat_of_zero_le b0
    have k1:kk+1<(rb (ls.take i)).1.length:=by have b1:(kk:Int)+1<_:=b1;lia
    have ec:((kk:Int)+1)=((kk+1:Nat):Int):=by lia
    have a1:atI ((rb (ls.take i)).1.map V.int) ((kk:Int)+1)=some (V.int ((rb (ls.take i)).1.getD (kk+1) 0)):=by rw [ec];exact Zn (map_getD _ k1)
    have a0:atI ((rb (ls.take i)).1.map V.int) (kk:Int)=some (V.int ((rb (ls.take i)).1.getD kk 0)):=Zn (map_getD _ (by lia))
    refine ⟨_,rfl,_,rfl,_,_,rfl,rfl,w,_,_,_,rfl,rfl,Zo.of Zb,a1,_,rfl,_,rfl,w,_,_,_,rfl,rfl,Zo.of Zb,a0,(by show 2<=sizeLine;decide),fun tt htt=>?_⟩
    have hwt:w≠tt:=Zg (Zb (H:=H') (a:=w)) htt
    refine ⟨tt,_,rfl,JH.of Zb,rfl,_,_,rfl,_,rfl,_,rfl,w,_,_,kk,rfl,rfl,(by rw [Zi hwt];exact Zb),(by rw [rl];exact Za3 (by lia)),?_⟩
    refine ⟨_,_,rfl,_,rfl,_,rfl,_,_,rfl,rfl,w,_,_,kk+1,rfl,rfl,Zb,(by rw [List.length_set,rl,ec];exact Za3 k1),rfl,?_⟩
    rw [W9,Zjo]
    have hR2:(upd (upd (upd H' w (.lst ((rb (ls.take i)).1.map V.int))) tt (.tup [.int ((rb (ls.take i)).1.getD (kk+1) 0),.int ((rb (ls.take i)).1.getD kk 0)])) w (.lst ((swp (rb (ls.take i)).1 kk).map V.int))) R=some (.lst (ys0 ++ [.ref t])):=by
     rw [Zi (Ne.symm hwR)]
     exact (Zf.laid htt) R _ ((Zf.laid hw) R _ hR')
    refine ⟨_,rfl,.inl ⟨rfl,_,Zo.of hR2⟩,_,rfl,R,_,_,rfl,rfl,hR2,hyl,?_⟩
    obtain ⟨z1,z2,z3,z4⟩:=ZaA (G:=upd (upd (upd (upd H' w (.lst ((rb (ls.take i)).1.map V.int))) tt (.tup [.int ((rb (ls.take i)).1.getD (kk+1) 0),.int ((rb (ls.take i)).1.getD kk 0)])) w (.lst ((swp (rb (ls.take i)).1 kk).map V.int))) R (.lst ((ys0 ++ [.ref t]) ++ [.ref w]))) hRH sm rv ap nd hw hwR (fun c o e n=>by
      rw [Zi n,Zi (Zg e hw)]
      exact (Zf.laid htt) c _ ((Zf.laid hw) c _ e)) (by
      rw [Zi hwR,Zb,ztk,YS,Jt]
      rfl)
    refine ⟨ys0 ++ [.ref t] ++ [.ref w],some (.str "cross"),some (.int kk),some (.ref w),?_,z1,Zb,z2,z3,z4⟩
    rw [ztk,YS,Jt]
    rfl
   ·have e:qx = "end" := e
    subst e
    refine Y1 (fun hn=>absurd (V.str.inj (of_decide_eq_true hn)) nb2) (fun _=>?_)
    refine ⟨_,rfl,rfl,_,rfl,?_⟩
    refine Y1 (fun hn=>absurd (V.str.inj (of_decide_eq_true hn)) nb3) (fun _=>?_)
    have b1':qk+1<((rb (ls.take i)).1.length:Int):=b1
    obtain ⟨kk,rfl⟩:=Int.eq_ofNat_of_zero_le b0
    have k1:kk+1<(rb (ls.take i)).1.length:=by lia
    have l1:(((rb (ls.take i)).1.map V.int).eraseIdx kk).length=(rb (ls.take i)).1.length-1:=by rw [List.length_eraseIdx_of_lt (by rw [rl];lia),rl]
    refine ⟨_,rfl,.inl ⟨rfl,_,Zo.of Zb⟩,_,rfl,w,_,_,kk,_,rfl,rfl,Zb,by lia,by lia,(by rw [rl];exact ZcL (by lia)),map_getD _ (by lia),?_⟩
    obtain ⟨y2,hy2⟩:∃y2,(((rb (ls.take i)).1.map V.int).eraseIdx kk)[kk]? = some y2:=⟨_,List.getElem?_eq_getElem (by rw [l1];lia)⟩
    refine ⟨_,rfl,.inl ⟨rfl,_,Zo.of Zb⟩,_,rfl,w,_,_,kk,_,rfl,rfl,Zb,by lia,by lia,(by rw [l1];exact ZcL (by lia)),hy2,?_⟩
    rw [W9,W9,Zkb]
    have hR2:(upd H' w (.lst (((rb (ls.take i)).1.map V.int).take kk++((rb (ls.take i)).1.map V.int).drop (kk+2)))) R=some (.lst (ys0 ++ [.ref t])):=(Zf.laid hw) R _ hR'
    refine ⟨_,rfl,.inl ⟨rfl,_,Zo.of hR2⟩,_,rfl,R,_,_,rfl,rfl,hR2,hyl,?_⟩
    obtain ⟨z1,z2,z3,z4⟩:=ZaA (G:=upd (upd H' w (.lst (((rb (ls.take i)).1.map V.int).take kk++((rb (ls.take i)).1.map V.int).drop (kk+2)))) R (.lst ((ys0 ++ [.ref t]) ++ [.ref w]))) hRH sm rv ap nd hw hwR (fun c o e n=>by
      rw [Zi n]
      exact (Zf.laid hw) c _ e) (by
      rw [Zi hwR,Zb,ztk,YS,W5,Int.toNat_natCast,List.map_append,List.map_take,List.map_drop])
    refine ⟨ys0 ++ [.ref t] ++ [.ref w],some (.str "end"),some (.int kk),some (.ref w),?_,z1,Zb,z2,z3,z4⟩
    rw [ztk,YS,W5]
    rfl
  ·rintro σ H' ⟨ys,v3,v4,v5,rfl,sm,hR',rv,ap,nd⟩
   rw [hxl] at rv
   exact ⟨_,rfl,k R H' ys hRH sm hR' rv ap nd⟩
def ZhA (pr:Str->Bool):Sp:=fun vs H Q _=>∃(l:Addr) (xs:List V) (ls:List (Str×Int)),vs = [.ref l]/\H l=some (.lst xs)/\ZD H xs ls/\ls.length<=60/\(∀p∈ls,Kd p.1) /\ ∀(p:Addr) (H':Hp),H p=none->Zf H H'->H' p=some (.lst ((Ym ls pr ls.length).map V.int))->Q (.ref p) H'
def tab {α:Type} (N:Nat) (g:Int -> α):List α:=(List.range N).map fun (x:Nat)=>g (x:Int)
theorem ZkN {α:Type}{N:Nat} (g:Int -> α) {j:Nat} (h:j<N):(tab N g)[j]? = some (g (j:Int)):=by
 unfold tab
 rw [List.getElem?_map]
 simp [h]
theorem ZfW {α β:Type} (N:Nat) (g:Int -> α) (f:α -> β):(tab N g).map f=tab N (fun x=>f (g x)):=by
 unfold tab
 rw [List.map_map]
 rfl
theorem ZjD {α:Type} (N:Nat) (v:α):(List.replicate N [v]).flatten=tab N (fun _=>v):=by
 unfold tab
 induction N with
 | zero=>rfl
 | succ n ih=>rw [List.replicate_succ',List.flatten_append,ih,List.range_succ,List.map_append];simp
theorem Zea:∀{ps:List (Int×Int)}{u l x:Int},u∉Zy ps->l∉Zy ps->u≠l->Je (ps ++ [(u,l)]) x=if x=l then u else if x=u then l else Je ps x
 | [],u,l,x,_,_,ne=>by
  simp only [List.nil_append,Je]
  by_cases h1:x=u
  ·subst h1;simp [ne]
  ·simp [h1]
 | p::r,u,l,x,hu,hl,ne=>by
  have e:Zy (p::r)=p.1::p.2::Zy r:=by simp [Zy]
  rw [e] at hu hl
  simp only [List.mem_cons,not_or] at hu hl
  have ih:=Zea (x:=x) hu.2.2 hl.2.2 ne
  simp only [List.cons_append,Je,ih]
  by_cases h1:x=p.1
  ·subst h1;simp [Ne.symm hu.1,Ne.symm hl.1]
  ·by_cases h2:x=p.2
   ·subst h2;simp [h1,Ne.symm hu.2.1,Ne.symm hl.2.1]
   ·simp [h1,h2]
theorem ZgF {ls:List (Str×Int)} (hW:Wk ls 0):(Zy (JK ls)).Nodup:=(WM hW).nodup_iff.mpr (We _)
theorem Zf0 {N:Nat} (m:Int->Int) {x:Int} (h0:0<=x) (h1:x<(N:Int)):atI ((tab N m).map V.int) x=some (V.int (m x)):=by
 obtain ⟨n,rfl⟩:=Int.eq_ofNat_of_zero_le h0
 refine Zn ?_
 rw [List.getElem?_map,ZkN _ (by lia)]
 rfl
def ZZ (ps:List (Int×Int)) (x:Int):Int:=if x∈ps.map (·.1) then 1 else -1
inductive DV (H:Hp):List (Key×V)->List (Int×Int)->Prop
 | nil:DV H [] []
 | snoc {kvs:List (Key×V)}{ps:List (Int×Int)}{u l:Int}{a b:Addr}:DV H kvs ps->H a=some (.tup [.int l,.int 1])->H b=some (.tup [.int u,.int (-1)])->DV H (kvs ++ [(Sum.inl u,.ref a),(Sum.inl l,.ref b)]) (ps ++ [(u,l)])
theorem DV.mono {H H':Hp} (h:∀t p,H t=some (.tup p)->H' t=some (.tup p)) {kvs:List (Key×V)}{ps:List (Int×Int)} (d:DV H kvs ps):DV H' kvs ps:=by
 induction d with
 | nil=>exact .nil
 | snoc _ ea eb ih=>exact .snoc ih (h _ _ ea) (h _ _ eb)
theorem DV.keys {H:Hp}{kvs:List (Key×V)}{ps:List (Int×Int)} (d:DV H kvs ps):kvs.map (·.1)=(Zy ps).map Sum.inl:=by
 induction d with
 | nil=>rfl
 | snoc _ _ _ ih=>rw [List.map_append,ih,Jk,List.map_append];rfl
theorem DV.len {H:Hp}{kvs:List (Key×V)}{ps:List (Int×Int)} (d:DV H kvs ps):kvs.length=2*ps.length:=by
 have:=congrArg List.length d.keys
 simpa [WR] using this
theorem U7 {kvs:List (Key×V)}{k:Key}{v:V} (h:k∉kvs.map (·.1)):putK kvs k v=kvs ++ [(k,v)]:=by
 unfold putK
 rw [if_neg]
 intro z
 rw [List.any_eq_true] at z
 obtain ⟨p,hp,e⟩:=z
 exact h (List.mem_map.mpr ⟨p,hp,of_decide_eq_true e⟩)
theorem ZdW {kvs:List (Key×V)}{k:Key} (h:k∉kvs.map (·.1)):(kvs.find? fun kv=>decide (kv.1=k))=none:=by
 rw [List.find?_eq_none]
 intro p hp z
 exact h (List.mem_map.mpr ⟨p,hp,of_decide_eq_true z⟩)
theorem Zbk {ps:List (Int×Int)}{H:Hp}{kvs:List (Key×V)} (d:DV H kvs ps) {x:Int} (h:x∉Zy ps):(Sum.inl x:Key)∉kvs.map (·.1):=by
 rw [d.keys]
 intro z
 obtain ⟨y,hy,e⟩:=List.mem_map.mp z
 cases e
 exact h hy
theorem DV.look {H:Hp}{kvs:List (Key×V)}{ps:List (Int×Int)} (d:DV H kvs ps):(Zy ps).Nodup -> ∀x∈Zy ps,∃a,Yy kvs (Sum.inl x)=some (.ref a)/\H a=some (.tup [.int (Je ps x),.int (ZZ ps x)]):=by
 induction d with
 | nil=>intro _ x hx;cases hx
 | @snoc kvs ps u l a b d ea eb ih=>
  intro nd x hx
  rw [Jk] at nd hx
  have ef:Zy [(u,l)] = [u,l]:=by simp [Zy]
  rw [ef] at nd hx
  obtain ⟨n1,n2,n3⟩:=List.nodup_append.mp nd
  have hu:u∉Zy ps:=fun z=>n3 u z u (by simp) rfl
  have hl:l∉Zy ps:=fun z=>n3 l z l (by simp) rfl
  have ne:u≠l:=by
   have:=(List.nodup_cons.mp n2).1
   simpa using this
  rw [Zea hu hl ne]
  have dn:ZZ (ps ++ [(u,l)]) x=if x=u then 1 else ZZ ps x:=by
   unfold ZZ
   rw [List.map_append]
   by_cases e:x=u
   ·simp [e]
   ·rw [if_neg e]
    by_cases q:x∈ps.map (·.1)
    ·rw [if_pos q,if_pos (List.mem_append_left _ q)]
    ·rw [if_neg q,if_neg (fun z=>(List.mem_append.mp z).elim q (fun z=>e (by simpa using z)))]
  rw [dn]
  rcases List.mem_append.mp hx with z | z
  ·obtain ⟨c,hv,hc⟩:=ih n1 x z
   have e1:x≠u:=fun e=>hu (e ▸ z)
   have e2:x≠l:=fun e=>hl (e ▸ z)
   refine ⟨c,?_,?_⟩
   ·unfold Yy at hv ⊢
    rw [List.find?_append]
    cases q:(kvs.find? fun kv=>decide (kv.1=Sum.inl x)) with
    | none=>rw [q] at hv;cases hv
    | some y=>rw [q] at hv;exact hv
   ·rw [if_neg e2,if_neg e1,if_neg e1];exact hc
  ·have z:x=u∨x=l:=by simpa using z
   rcases z with e | e
   ·subst e
    refine ⟨a,?_,?_⟩
    ·unfold Yy
     rw [List.find?_append,ZdW (Zbk d hu)]
     simp
    ·rw [if_neg ne,if_pos rfl,if_pos rfl];exact ea
   ·subst e
    refine ⟨b,?_,?_⟩
    ·unfold Yy
     rw [List.find?_append,ZdW (Zbk d hl)]
     have:¬((Sum.inl u:Key)=Sum.inl x):=fun z=>ne (by cases z;rfl)
     simp [this]
    ·have:ZZ ps x = -1:=by
      unfold ZZ
      rw [if_neg]
      intro z
      obtain ⟨p,hp,e⟩:=List.mem_map.mp z
      exact hl (List.mem_flatMap.mpr ⟨p,hp,by simp [e]⟩)
     rw [if_pos rfl,if_neg (Ne.symm ne),this];exact eb
theorem few {ls:List (Str×Int)} (hW:Wk ls 0):∀i,i<=ls.length->(rb (ls.take i)).2+2*((Y3 ls i).length:Int)<=2*(i:Int)
 | 0,_=>by simp [Y3,Ym,rb]
 | i+1,hi=>by
  have ih:=few hW i (by lia)
  have hq:ls[i]? = some ls[i]:=by simp [show i<ls.length by lia]
  obtain ⟨tk,c⟩:=ZdQ hW hq
  rw [J0,tk,YS]
  have kk:∀pr:Str->Bool,isK ls pr i=pr ls[i].1:=fun pr=>by
   unfold isK
   rw [hq]
   cases h:pr ls[i].1<;>simp [h]
  rw [kk]
  generalize ls[i]=p at c
  obtain ⟨px,pk⟩:=p
  rcases c with ⟨e,_⟩ | ⟨e,_⟩ | ⟨e,_⟩
  ·have e:px = "born" := e
   subst e
   have hf:GC "born" = false:=by unfold GC;decide +kernel
   rw [J3,hf]
   simp only [Bool.false_eq_true,if_false,List.append_nil]
   lia
  ·have e:px = "cross" := e
   subst e
   have hf:GC "cross" = false:=by unfold GC;decide +kernel
   rw [Jt,hf]
   simp only [Bool.false_eq_true,if_false,List.append_nil]
   lia
  ·have e:px = "end" := e
   subst e
   have hf:GC "end" = true:=by unfold GC;simp
   rw [W5,hf]
   simp only [if_true,List.length_append,List.length_singleton]
   lia
theorem Zi0 {ls:List (Str×Int)} (hW:Wk ls 0):JL ls<=ls.length:=by
 have h:=few hW ls.length (Nat.le_refl _)
 obtain ⟨g0,g1,g2⟩:=Uk hW ls.length (Nat.le_refl _)
 have e:rowAt ls ls.length = []:=by
  unfold rowAt
  rw [List.take_of_length_le (Nat.le_refl _)]
  have:=GD hW
  exact List.length_eq_zero_iff.mp (by lia)
 rw [e,List.nil_append] at g2
 have hl:=g2.length_eq
 rw [WJ,WR] at hl
 show 2*(Y3 ls ls.length).length<=_
 lia
theorem GK:∀n,(GB n).Pairwise (· < ·)
 | 0=>by simp [GB]
 | n+1=>by
  unfold GB
  rw [List.range_succ,List.map_append,List.pairwise_append]
  refine ⟨GK n,by simp,fun a ha b hb=>?_⟩
  have h1:=(YE (n:=n)).mp ha
  have:b=(n:Int):=by simpa using hb
  lia
def Ws (N:Nat) (ts:List (List Int)):List Int:=(GB N).filter fun x=>decide (x∉ts.flatten)
theorem Ze7 {N:Nat}{ts:List (List Int)}{x:Int}:x∈Ws N ts ↔ (0<=x/\x<(N:Int))/\x∉ts.flatten:=by
 unfold Ws
 rw [List.mem_filter,YE]
 simp
theorem Zgf {N:Nat}{ts:List (List Int)}{f:Int}{r:List Int} (e:Ws N ts=f::r):(0<=f/\f<(N:Int))/\f∉ts.flatten /\ ∀j:Nat,(j:Int)<f->(j:Int)∈ts.flatten:=by
 have hf:f∈Ws N ts:=by rw [e];exact List.mem_cons_self
 obtain ⟨d,n⟩:=Ze7.mp hf
 refine ⟨d,n,fun j hj=>?_⟩
 by_cases z:(j:Int)∈ts.flatten
 ·exact z
 ·have hm:(j:Int)∈Ws N ts:=Ze7.mpr ⟨⟨by lia,by lia⟩,z⟩
  have pw:(Ws N ts).Pairwise (· < ·):=(GK N).filter _
  rw [e] at hm pw
  rcases List.mem_cons.mp hm with y | y
  ·lia
  ·have:=(List.pairwise_cons.mp pw).1 _ y
   lia
theorem Zgh {N:Nat}{ts:List (List Int)}{T:List Int}:Ws N (ts ++ [T])=(Ws N ts).filter fun x=>decide (x∉T):=by
 unfold Ws
 rw [List.filter_filter]
 refine List.filter_congr fun x _=>?_
 rw [List.flatten_append]
 by_cases h1:x∈T<;>by_cases h2:x∈ts.flatten<;>simp [h1,h2]
theorem ZjZ {N:Nat}{ts:List (List Int)}{T:List Int}{f:Int}{r:List Int} (e:Ws N ts=f::r) (h:f∈T):(Ws N (ts ++ [T])).length<(Ws N ts).length:=by
 rw [Zgh,e,List.filter_cons,if_neg (by simpa using h)]
 have:=List.length_filter_le (fun x=>decide (x∉T)) r
 simp only [List.length_cons]
 lia
theorem Zk6 {m:Int->Int}{N i:Nat}{ts:List (List Int)} (e:Ws N ts = []) (tr:Ul m i ts) (hi:i<=N):Ul m N ts:=by
 have:=tr.jump (N-i) fun j a b=>by
  by_cases z:(j:Int)∈ts.flatten
  ·exact z
  ·have:(j:Int)∈Ws N ts:=Ze7.mpr ⟨⟨by lia,by lia⟩,z⟩
   rw [e] at this
   cases this
 rwa [show i+(N-i)=N by lia] at this
theorem Zjt {m:Int->Int}{N i:Nat}{ts:List (List Int)}{f:Int}{r T:List Int} (e:Ws N ts=f::r) (tr:Ul m i ts) (hi:i<=N) (isT:YM m f T):∃j:Nat,j<=N/\Ul m j (ts ++ [T]):=by
 obtain ⟨⟨d0,d1⟩,n,lo⟩:=Zgf e
 obtain ⟨fn,rfl⟩:=Int.eq_ofNat_of_zero_le d0
 have hif:i<=fn:=by
  refine Nat.le_of_not_lt fun z=>n (tr.mem fn z)
 have:=tr.jump (fn-i) fun j a b=>lo j (by lia)
 rw [show i+(fn-i)=fn by lia] at this
 exact ⟨fn+1,by lia,this.add n isT⟩
def ev2 (y:Int):Int:=if y % 2=0 then 1 else -1
theorem Zlh (y:Int):y+ev2 y=bw y:=by unfold ev2 bw;split<;>lia
def fl (dn:Int->Int):List Int->Int
 | x::y::r=>dn x+ev2 y+fl dn r
 | _=>0
theorem ZdE (dn:Int->Int) (x y:Int):∀(n:Nat) (A:List Int),A.length=2*n->fl dn (A ++ [x,y])=fl dn A+dn x+ev2 y
 | 0,A,h=>by
  have:A = []:=List.length_eq_zero_iff.mp (by lia)
  subst this
  simp [fl]
 | n+1,[],h=>by simp at h
 | n+1,[a],h=>by simp at h;lia
 | n+1,a::b::r,h=>by
  have ih:=ZdE dn x y n r (by simp at h;lia)
  simp only [List.cons_append,fl,ih]
  lia
theorem Zlk (dn m:Int->Int) (f:Int) (i:Nat):fl dn (Wq m f (i+1))=fl dn (Wq m f i)+dn (gt m f i)+ev2 (m (gt m f i)):=ZdE dn _ _ i _ (Gx m f i)
def Zet (i:Int):Int:=if i<0 then -i else i
def WV (z:Addr) (dn:Int->Int) (H:Hp) (ys:List V) (ts:List (List Int)):Prop:=Paired (fun v (T:List Int)=>∃a g,v=V.ref a/\H a=some (.tup [.ref g,.int (Zet (fl dn T) / 2)])/\H g=some (.lst (T.map V.int))/\g≠z) ys ts
theorem WV.mono {z:Addr}{dn:Int->Int}{H H':Hp} (h:∀c o,c≠z->H c=some o->H' c=some o) (hz:∃xs,H z=some (.lst xs)):∀{ys:List V}{ts:List (List Int)},WV z dn H ys ts->WV z dn H' ys ts
 | _,_,.nil=>.nil
 | _,_,.cons ⟨a,g,e,ha,hg,n⟩ r=>.cons ⟨a,g,e,h a _ (fun y=>by obtain ⟨xs,hz⟩:=hz;rw [y,hz] at ha;cases ha) ha,h g _ n hg,n⟩ (WV.mono h hz r)
theorem WV.same {z:Addr}{dn:Int->Int}{H H':Hp} (s:Zf H H'):∀{ys:List V}{ts:List (List Int)},WV z dn H ys ts->WV z dn H' ys ts
 | _,_,.nil=>.nil
 | _,_,.cons ⟨a,g,e,ha,hg,n⟩ r=>.cons ⟨a,g,e,s a _ ha,s g _ hg,n⟩ (WV.same s r)
theorem WV.len {z:Addr}{dn:Int->Int}{H:Hp}{ys:List V}{ts:List (List Int)} (h:WV z dn H ys ts):ys.length=ts.length:=Paired.length h
theorem Zdp {r:List Int}{k:Nat} (h:k+1<r.length):UU (r.map V.int) (some (k:Int)) (some ((k:Int)+2)) = [V.int (r.getD k 0),V.int (r.getD (k+1) 0)]:=by
 have e1:HT.sIx (r.map V.int).length 0 (some (k:Int))=k:=by
  rw [HT.Zbc,List.length_map]
  lia
 have e2:HT.sIx (r.map V.int).length (r.map V.int).length (some ((k:Int)+2))=k+2:=by
  rw [show (k:Int)+2=((k+2:Nat):Int) by lia,HT.Zbc,List.length_map]
  lia
 unfold UU
 rw [e1,e2,show k+2-k=2 by lia,<- List.map_drop,<- List.map_take]
 have c:=Zj4 r k h
 have hl:(r.take k).length=k:=by rw [List.length_take];lia
 have e3:r.drop k = [r.getD k 0,r.getD (k+1) 0]++r.drop (k+2):=by
  conv=>lhs;rw [c]
  rw [List.append_assoc,List.drop_append_of_le_length (by lia),List.drop_eq_nil_of_le (by lia),List.nil_append]
 rw [e3]
 simp
theorem Zkp (y:Int):atI [V.int 1,V.int (-1)] (y % 2)=some (V.int (ev2 y)):=by
 unfold ev2
 rcases Int.emod_two_eq y with e | e<;>rw [e]
 ·exact Zn (j:=0) rfl
 ·exact Zn (j:=1) rfl
def Zdn:Sp:=fun vs H Q _=>∃(l:Addr) (xs:List V) (ls:List (Str×Int)),vs = [.ref l]/\H l=some (.lst xs)/\ZD H xs ls/\ls.length<=60/\Wk ls 0 /\
 ∀(p:Addr) (H':Hp) (ys:List V) (ts:List (List Int)),H p=none->Zf H H'->H' p=some (.lst ys)->WV p (ZZ (JK ls)) H' ys ts->Ul (Je (JK ls)) (JL ls) ts->Q (.ref p) H'
abbrev JP:Stmt:=top 29
theorem Zt:ZF ["_law_drawing_here", "_law_rows_here", "_law_mates", "_law_t", "_law_letter", "_law_upper", "_law_lower", "_law_found", "_law_left", "_law_gone", "_law_fall", "_law_here", "_law_there", "_law_down"] ["_law_drawing_here"] (Zl JP):={}
theorem ZhK {f:Addr}{fd:FuncData} (F:Y8 K "_law_walks" "_law_walks" JP f fd) (ZV:JV P w K mg base 1 "_law_rows" ["_law_drawing_here"] Zao) (ZA:mg "enumerate" = none) (Ji:mg "sorted" = none) (ZbT:mg "abs" = none):Yj P w K mg base GV 2 f fd ["_law_drawing_here"] Zdn:=by
 refine F.ok Zt (fun vs H Q E h=>?_) (fun cdv A outer s H vs Q E hr h=>?_)
 ·obtain ⟨l,xs,ls,rfl,_⟩:=h
  rfl
 ·obtain ⟨l,xs,ls,rfl,hl,hL,hlen,hW,k⟩:=h
  have hxl:=hL.len
  have n60:=Zi0 hW
  have M:=WX hW
  have nd:=ZgF hW
  have pm:=WM hW
  refine ⟨_,(Zd (Zr (i:=1) Zt.nd rfl (Or.inl rfl) (Zz ZV hr (Za (pv 0) Zc)))
   (Zd (Zr (i:=2) Zt.nd rfl (Or.inl rfl) Zit)
   (Zd (Z3 PassesOwn.never rfl (WN (K:=K) rfl (by rfl) ZA (Za (pv 0) Zc)) (Yq (K:=K) (n:=2) rfl rfl (Zq (Zj (i:=3) Zt.nd rfl (Or.inl rfl)) (Zq (Zj (i:=4) Zt.nd rfl (Or.inl rfl)) Z7))) (Zh (Yh (Zw J7 (Zp (YH (K:=K) rfl) (pv 4) Ze (fun _ _=>rfl)) Z4 (ZM _)) (Zd (Z6 (YR (YN (K:=K) rfl) (Zp (Zk (K:=K) rfl) (pv 1) (pv 3) (fun _ _=>rfl)) (Yf (Zp (YH (K:=K) rfl) (pv 4) Ze (fun _ _=>rfl))) (Yf (Zm Zv (Zp (YH (K:=K) rfl) (pv 4) Ze (fun _ _=>rfl)) Ze))) (Zda (K:=K) (n:=2) rfl rfl (Zq (Zj (i:=5) Zt.nd rfl (Or.inl rfl)) (Zq (Zj (i:=6) Zt.nd rfl (Or.inl rfl)) Z7))))
   (Zh (Z6 (Yr (Za (Yr (Za (pv 6) (Za Ze Zc))) (Za (Yr (Za (pv 5) (Za (Zcp ZaK Ze) Zc))) Zc))) (Yq (K:=K) (n:=2) rfl rfl (Zq (YG (pv 2) (pv 5) (set_dict (Y0 hr))) (Zq (YG (pv 2) (pv 6) (set_dict (Y0 hr))) Z7)))))) ZX)))
   (Zd (Zr (i:=7) Zt.nd rfl (Or.inl rfl) (Z5 Zc))
   (Zd (Zr (i:=8) Zt.nd rfl (Or.inl rfl) (ZH (Zdr rfl) (by rfl) Ji boot_sorted (Za (pv 2) Zc)))
   (Zd (ZbN PassesOwn.never (Zw (ZgJ (K:=K) rfl hr.units) (pv 8) (Z5 Zc) (ZM _)) (Zd (Zr (i:=9) Zt.nd rfl (Or.inr rfl) (Z5 Zc))
   (Zd (Zr (i:=10) Zt.nd rfl (Or.inl rfl) Ze)
   (Zd (Zr (i:=11) Zt.nd rfl (Or.inl rfl) (Zp (Zk (K:=K) rfl) (pv 8) Ze (fun _ _=>rfl)))
   (Zd (ZbN PassesOwn.never (Zw (Ut (K:=K) rfl) (pv 11) (pv 9) rfl) (Zd (Z6 (Zp (JT (Y0 hr)) (pv 2) (pv 11) (fun _ _=>rfl)) (Yq (K:=K) (n:=2) rfl rfl (Zq (Zj (i:=12) Zt.nd rfl (Or.inl rfl)) (Zq (Zj (i:=13) Zt.nd rfl (Or.inl rfl)) Z7))))
   (Zd (Zr (i:=9) Zt.nd rfl (Or.inr rfl) (Zm Zau (pv 9) (Z5 (Za (pv 11) (Za (pv 12) Zc)))))
   (Zd (Zr (i:=10) Zt.nd rfl (Or.inl rfl) (Zm Zv (Zm Zv (pv 10) (pv 13)) (Zp (Zk (K:=K) rfl) (Z5 (Za Ze (Za (Zcp ZaK Ze) Zc))) (Zm WH (pv 12) Ze) (fun _ _=>rfl))))
   (Zh (Zr (i:=11) Zt.nd rfl (Or.inl rfl) (Zm Zv (pv 12) (Zp (Zk (K:=K) rfl) (Z5 (Za Ze (Za (Zcp ZaK Ze) Zc))) (Zm WH (pv 12) Ze) (fun _ _=>rfl)))))))))
   (Zd (Z1 (YO (K:=K) rfl (Jz PySem.F.plainAttrs_list PySem.F.slot_list_append PySem.F.type_list_append Yt (pv 7) (Za (Yr (Za (pv 9) (Za (Zm Zbn (ZH ZbP (by rfl) ZbT boot_abs (Za (pv 10) Zc)) Ze) Zc))) Zc))))
   (Zh (U0 (i:=8) Zt.nd rfl (Or.inl rfl) (Ls:=["_law_thread"]) (Fs:=["_law_gone"]) (fi:=[9]) (ZO.of (show Yu ["_law_drawing_here", "_law_rows_here", "_law_mates", "_law_t", "_law_letter", "_law_upper", "_law_lower", "_law_found", "_law_left", "_law_gone", "_law_fall", "_law_here", "_law_there", "_law_down"] (Zl JP) _ ["_law_gone"] [9]=true by decide +kernel)) rfl (ZT (K:=K) rfl (pv 8)) (fun cl C s3 H3 ex=>⟨(Zj (i:=0) (show ((["_law_thread"]:List Str)++(["_law_gone"]:List Str)).Nodup by decide +kernel) rfl (Or.inl rfl)),(ZdD (Zw (Ut (K:=K) rfl) (pv 0) (pv 1) rfl)),(pv 0)⟩)))))))))
   (Zh (ZJ (pv 7))))))))),?_⟩
  refine ⟨_,rfl,l,xs,ls,rfl,hl,hL,hlen,hW,fun R H1 ys fR s1 eR rv ap ndr=>?_⟩
  refine fun dA hdA=>?_
  have hdH:H dA=none:=s1.free hdA
  have hl1:=s1 l _ hl
  have hL1:=hL.same s1
  refine ⟨_,rfl,l,rfl,⟨_,Zo.of ((Zf.laid hdA) l _ hl1)⟩,Zbi (K:=K) (a:=l) (xs:=xs) (fun i σ H'=>∃(kvs:List (Key×V)) (v3 v4 v5 v6:Option V),σ = [some (.ref l),some (.ref R),some (.ref dA),v3,v4,v5,v6,none,none,none,none,none,none,none]/\Zf H1 H'/\H' dA=some (.dK kvs)/\DV H' kvs (Y3 ls i))
   ⟨[],none,none,none,none,rfl,Zf.laid hdA,Zb,.nil⟩ (fun i σ H' _ ⟨_,_,_,_,_,_,sm,_⟩=>Zo.of (sm l _ hl1)) ?_ ?_⟩
  ·rintro i x p σ H' hx ⟨kvs,v3,v4,v5,v6,rfl,sm,hd,dv⟩ hp
   obtain ⟨⟨qx,qk⟩,ta,hq,rfl,hta⟩:=hL1.get hx
   have hta':=(sm.step (o:=.tup [.int i,.ref ta]) hp) ta _ hta
   obtain ⟨G0,hG0⟩:∃G0,G0=upd H' p (.tup [.int i,.ref ta]):=⟨_,rfl⟩
   have sp:Zf H' G0:=by rw [hG0];exact Zf.laid hp
   have sg0:Zf H1 G0:=sm.trans sp
   have hd0:=sp dA _ hd
   have kk:isK ls GC i=GC qx:=by
    unfold isK
    rw [hq]
    cases h:GC qx<;>simp [h]
   refine ⟨p,_,rfl,JH.of Zb,rfl,_,_,rfl,_,_,rfl,rfl,?_⟩
   rw [<- hG0] at hta' ⊢
   refine ⟨_,rfl,ta,_,_,_,rfl,rfl,JH.of hta',Zn (j:=0) rfl,rfl,_,rfl,?_⟩
   refine Y1 (fun hc=>?_) (fun hc=>?_)
   ·have e:qx = "end" := V.str.inj (of_decide_eq_true hc)
    subst e
    obtain ⟨k0,k1,pe⟩:=Zco hW hq (fun z=>nb2 z)
    obtain ⟨kn,rfl⟩:=Int.eq_ofNat_of_zero_le (show 0<=qk from k0)
    simp only [Int.toNat_natCast] at k1 pe
    have hi:i<ls.length:=(List.getElem?_eq_some_iff.mp hq).1
    obtain ⟨ra,hra,hrr⟩:=rv.at (Um ls (i:=i) (n:=ls.length+1) (by lia))
    have ei:isK ls GC i=true:=by rw [kk];unfold GC;simp
    have pin:Y9 ls i∈JK ls:=List.mem_map.mpr ⟨(i:Int),by
     unfold Ym
     exact List.mem_filterMap.mpr ⟨i,List.mem_range.mpr hi,by rw [if_pos ei]⟩,by simp⟩
    have es:Y3 ls (i+1)=Y3 ls i ++ [Y9 ls i]:=by rw [J0,if_pos ei]
    obtain ⟨u,hu⟩:∃u,u=(rowAt ls i).getD kn 0:=⟨_,rfl⟩
    obtain ⟨w,hw⟩:∃w,w=(rowAt ls i).getD (kn+1) 0:=⟨_,rfl⟩
    rw [<- hu,<- hw] at pe
    have nde:(Zy (Y3 ls (i+1))).Nodup:=by
     have e:Ym ls GC (i+1) <+: Ym ls GC ls.length:=by
      have:∀d,Ym ls GC (i+1) <+: Ym ls GC (i+1+d):=by
       intro d
       induction d with
       | zero=>exact List.prefix_refl _
       | succ d ih=>
        refine ih.trans ?_
        show _ <+: Ym ls GC (i+1+d+1)
        rw [Jc]
        exact List.prefix_append _ _
      have:=this (ls.length-(i+1))
      rwa [show i+1+(ls.length-(i+1))=ls.length by lia] at this
     obtain ⟨r,e⟩:=e
     have:JK ls=Y3 ls (i+1)++r.map (fun t=>Y9 ls t.toNat):=by
      unfold JK Y3
      rw [<- e,List.map_append]
     rw [this,Jk] at nd
     exact (List.nodup_append.mp nd).1
    rw [es,Jk,pe] at nde
    have ef:Zy [(u,w)] = [u,w]:=by simp [Zy]
    rw [ef] at nde
    obtain ⟨n1,n2,n3⟩:=List.nodup_append.mp nde
    have nu:u∉Zy (Y3 ls i):=fun z=>n3 u z u (by simp) rfl
    have nw:w∉Zy (Y3 ls i):=fun z=>n3 w z w (by simp) rfl
    have nuw:u≠w:=by
     have:=(List.nodup_cons.mp n2).1
     simpa using this
    have e2:((Y3 ls i).length)<=60:=by
     unfold Y3
     rw [List.length_map]
     exact Nat.le_trans (Wc _ _ _) (by lia)
    refine ⟨_,rfl,_,rfl,R,_,_,_,rfl,rfl,Zo.of (sg0 R _ eR),Zn hra,_,rfl,ta,_,_,_,rfl,rfl,JH.of hta',Zn (j:=1) rfl,_,rfl,_,rfl,ta,_,_,_,rfl,rfl,JH.of hta',Zn (j:=1) rfl,_,_,rfl,rfl,_,rfl,ra,_,rfl,Zo.of (sg0 ra _ hrr),fun cA hcA=>?_⟩
    rw [Zdp k1,<- hu,<- hw]
    refine ⟨cA,_,rfl,Zo.of Zb,rfl,_,_,rfl,_,_,rfl,rfl,?_⟩
    obtain ⟨G1,hG1⟩:∃G1,G1=upd G0 cA (.lst [.int u,.int w]):=⟨_,rfl⟩
    have sg1:Zf G0 G1:=by rw [hG1];exact Zf.laid hcA
    rw [<- hG1]
    refine ⟨_,rfl,(by show 2<=sizeLine;decide),fun t1 ht1=>?_⟩
    obtain ⟨G2,hG2⟩:∃G2,G2=upd G1 t1 (.tup [.int w,.int 1]):=⟨_,rfl⟩
    have sg2:Zf G1 G2:=by rw [hG2];exact Zf.laid ht1
    have e21:G2 t1=some (.tup [.int w,.int 1]):=by rw [hG2];exact Zb
    rw [<- hG2]
    refine ⟨_,rfl,1,rfl,(by show 2<=sizeLine;decide),fun t2 ht2=>?_⟩
    obtain ⟨G3,hG3⟩:∃G3,G3=upd G2 t2 (.tup [.int u,.int (-1)]):=⟨_,rfl⟩
    have sg3:Zf G2 G3:=by rw [hG3];exact Zf.laid ht2
    have e32:G3 t2=some (.tup [.int u,.int (-1)]):=by rw [hG3];exact Zb
    rw [<- hG3]
    refine ⟨(by show 2<=sizeLine;decide),fun t3 ht3=>?_⟩
    obtain ⟨G4,hG4⟩:∃G4,G4=upd G3 t3 (.tup [.ref t1,.ref t2]):=⟨_,rfl⟩
    have sg4:Zf G3 G4:=by rw [hG4];exact Zf.laid ht3
    have e43:G4 t3=some (.tup [.ref t1,.ref t2]):=by rw [hG4];exact Zb
    rw [<- hG4]
    have sAll:Zf G0 G4:=((sg1.trans sg2).trans sg3).trans sg4
    have hd4:=sAll dA _ hd0
    have kl:kvs.length<sizeLine:=by rw [dv.len];exact ZI (by lia)
    have o1:(Sum.inl u:Key)∉kvs.map (·.1):=Zbk dv nu
    have p1:putK kvs (Sum.inl u) (.ref t1)=kvs ++ [(Sum.inl u,.ref t1)]:=U7 o1
    have o2:(Sum.inl w:Key)∉(kvs ++ [((Sum.inl u:Key),V.ref t1)]).map (·.1):=by
     rw [List.map_append]
     intro z
     rcases List.mem_append.mp z with z | z
     ·exact Zbk dv nw z
     ·have:(Sum.inl w:Key)=Sum.inl u:=by simpa using z
      cases this
      exact nuw rfl
    have p2:putK (kvs ++ [((Sum.inl u:Key),V.ref t1)]) (Sum.inl w) (.ref t2)=kvs ++ [((Sum.inl u:Key),V.ref t1),(Sum.inl w,.ref t2)]:=by
     rw [U7 o2]
     simp
    refine ⟨t3,_,rfl,JH.of e43,rfl,_,_,rfl,_,rfl,_,rfl,dA,_,rfl,ZbX.k (k:=Sum.inl u) hd4 kl,?_⟩
    rw [p1]
    refine ⟨_,_,rfl,_,rfl,_,rfl,dA,_,rfl,ZbX.k (k:=Sum.inl w) Zb (by rw [List.length_append,dv.len];exact ZI (by show _+1<=1000;lia)),rfl,?_⟩
    rw [p2,W9]
    refine ⟨_,_,_,_,_,rfl,fun c o e=>?_,Zb,?_⟩
    ·rw [Zi (Zg e hdA)]
     exact sAll c o (sg0 c o e)
    ·rw [es,pe]
     have tk:∀t q,G4 t=some (.tup q)->(upd G4 dA (.dK (kvs ++ [((Sum.inl u:Key),V.ref t1),(Sum.inl w,.ref t2)]))) t=some (.tup q):=fun t q e=>by
      rw [Zi (Zgm e hd4 (by intro z;cases z))]
      exact e
     exact DV.snoc (dv.mono fun t q e=>tk t q (sAll t _ (sp t _ e))) (tk _ _ (sg4 t1 _ (sg3 t1 _ e21))) (tk _ _ (sg4 t2 _ e32))
   ·have e:¬qx = "end" := fun z=>hc (decide_eq_true (congrArg V.str z))
    have ei:isK ls GC i=false:=by rw [kk];unfold GC;simp [e]
    have es:Y3 ls (i+1)=Y3 ls i:=by rw [J0,ei];simp
    refine ⟨kvs,_,_,_,_,rfl,sg0,hd0,?_⟩
    rw [es]
    exact dv.mono fun t q e=>sp t _ e
  ·rintro σ H2 ⟨kvs,v3,v4,v5,v6,rfl,sm2,hd2,dv2⟩
   rw [hxl] at dv2
   have s02:Zf H H2:=s1.trans sm2
   refine ⟨(by show 0<=sizeLine;decide),fun fA hfA=>?_⟩
   have hfd:dA≠fA:=Zg hd2 hfA
   refine ⟨_,rfl,dA,kvs,Zy (JK ls),rfl,(Zf.laid hfA) dA _ hd2,dv2.keys,(by rw [WR];show JL ls<64;lia),fun lA ns hlA hperm hsort=>?_⟩
   have ens:ns=GB (JL ls):=ZbW (hperm.trans pm) hsort ((GK _).imp fun h=>Int.le_of_lt h)
   subst ens
   have hlf:lA≠fA:=(Zg (Zb (H:=H2) (a:=fA) (o:=.lst [])) hlA).symm
   generalize hmm:Je (JK ls)=m at *
   generalize hdn:ZZ (JK ls)=dn at *
   generalize hnn:JL ls=N at *
   have dget:∀(G:Hp),Zf H2 G -> ∀x:Int,0<=x->x<(N:Int) -> ∃a,WG G dA (.int x) (some (.ref a))/\G a=some (.tup [.int (m x),.int (dn x)]):=fun G sG x x0 x1=>by
    obtain ⟨a,hv,ha⟩:=dv2.look nd x (pm.mem_iff.mpr (YE.mpr ⟨x0,x1⟩))
    have:=WG.k (k:=Sum.inl x) (sG dA _ hd2)
    rw [hv] at this
    have e1:Je (Y3 ls ls.length)=m:=hmm
    have e2:ZZ (Y3 ls ls.length)=dn:=hdn
    rw [e1,e2] at ha
    exact ⟨a,this,sG a _ ha⟩
   refine ⟨fun mm σ H'=>∃(ts:List (List Int)) (ys:List V) (i:Nat) (lf:Addr) (v9 v10 v11 v12 v13:Option V),mm=(Ws N ts).length /\ σ = [some (.ref l),some (.ref R),some (.ref dA),v3,v4,v5,v6,some (.ref fA),some (.ref lf),v9,v10,v11,v12,v13]/\Zf H2 H'/\H' fA=some (.lst ys)/\H' lf=some (.lst ((Ws N ts).map V.int))/\lf≠fA/\WV fA dn H' ys ts/\Ul m i ts/\i<=N,
    ⟨_,[],[],0,lA,none,none,none,none,none,rfl,rfl,(Zf.laid hfA).step hlA,?_,?_,hlf,.nil,.nil,Nat.zero_le _⟩,?_⟩
   ·rw [Zi (Ne.symm hlf),Zb]
   ·rw [Zb]
    congr 3
    unfold Ws
    rw [List.filter_eq_self.mpr]
    intro x _
    simp
   rintro mm σ H' ⟨ts,ys,i,lf,v9,v10,v11,v12,v13,rfl,rfl,sm,hf,hlf',nlf,wv,tr,hi⟩
   refine ⟨_,rfl,(by show 0<=sizeLine;decide),fun nA hnA=>?_⟩
   obtain ⟨G0,hG0⟩:∃G0,G0=upd H' nA (.lst []):=⟨_,rfl⟩
   have s0:Zf H' G0:=by rw [hG0];exact Zf.laid hnA
   rw [<- hG0]
   refine ⟨lf,nA,_,rfl,rfl,Zo.of (s0 lf _ hlf'),Zo.of (by rw [hG0];exact Zb),_,rfl,?_⟩
   cases elf:Ws N ts with
   | nil=>
    refine ZgX ?_
    refine ⟨_,rfl,k fA G0 ys ts (s02.free hfA) (s02.trans (sm.trans s0)) (s0 fA _ hf) (wv.same s0) (Zk6 elf tr hi)⟩
   | cons f0 rest=>
    refine GA ?_
    obtain ⟨⟨f0lo,f0hi⟩,f0n,f0l⟩:=Zgf elf
    have dom:=Yn M f0lo f0hi
    refine ⟨fun σ' H''=>∃(ts':List (List Int)) (ys:List V) (i:Nat) (lf:Addr) (v9 v10 v11 v12 v13:Option V),(Ws N ts').length<(f0::rest).length /\ σ' = [some (.ref l),some (.ref R),some (.ref dA),v3,v4,v5,v6,some (.ref fA),some (.ref lf),v9,v10,v11,v12,v13]/\Zf H2 H''/\H'' fA=some (.lst ys)/\H'' lf=some (.lst ((Ws N ts').map V.int))/\lf≠fA/\WV fA dn H'' ys ts'/\Ul m i ts'/\i<=N,
     fun σ' H'' ⟨ts',ys,i,lf,v9,v10,v11,v12,v13,a,b⟩=>⟨_,a,ts',ys,i,lf,v9,v10,v11,v12,v13,rfl,b⟩,?_⟩
    refine ⟨(by show 0<=sizeLine;decide),fun gA hgA=>?_⟩
    have s1':Zf H' (upd G0 gA (.lst [])):=s0.step hgA
    have hgf:gA≠fA:=(Zg (s0 fA _ hf) hgA).symm
    refine ⟨_,rfl,lf,_,_,V.int f0,rfl,rfl,Zo.of (s1' lf _ hlf'),Zn (j:=0) (by rw [elf];rfl),?_⟩
    refine ⟨fun m2 σ H''=>∃(j:Nat) (g:Addr) (v12 v13:Option V),m2+j=N+1 /\ σ = [some (.ref l),some (.ref R),some (.ref dA),v3,v4,v5,v6,some (.ref fA),some (.ref lf),some (.ref g),some (.int (fl dn (Wq m f0 j))),some (.int (gt m f0 j)),v12,v13]/\Zf H' H''/\H'' g=some (.lst ((Wq m f0 j).map V.int))/\g≠fA/\(∀q,1<=q->q<j->gt m f0 q≠f0),
     ⟨N+1,0,gA,v12,v13,rfl,rfl,s1',Zb,hgf,fun q a b=>by lia⟩,?_⟩
    rintro m2 σ H'' ⟨j,g,w12,w13,hj,rfl,sm2',hg,ngf,nf⟩
    have short:=ZaH M f0lo f0hi nf
    have s22:Zf H2 H'':=sm.trans sm2'
    refine ⟨_,rfl,_,rfl,g,_,rfl,.inl (Zo.of hg),rfl,ZcH _,_,rfl,?_⟩
    show if (!inV (V.int (gt m f0 j)) ((Wq m f0 j).map V.int))=true then _ else _
    rw [Zee]
    by_cases hin:gt m f0 j∈Wq m f0 j
    ·rw [decide_eq_true hin]
     refine ZgX ?_
     obtain ⟨j1,ej⟩:=(ZhI M f0lo f0hi nf).mp hin
     have isT:YM m f0 (Wq m f0 j):=⟨j,j1,ej,nf,rfl⟩
     have hf'':=sm2' fA _ hf
     refine ⟨_,rfl,.inl ⟨rfl,_,Zo.of hf''⟩,_,rfl,_,rfl,_,rfl,_,_,rfl,rfl,⟨by decide,by decide⟩,(by show 2<=sizeLine;decide),fun tt htt=>?_⟩
     have hft:fA≠tt:=Zg hf'' htt
     have yl:ys.length<sizeLine:=by rw [wv.len];have:=tr.len M (by lia);exact ZI (by lia)
     refine ⟨fA,_,_,rfl,rfl,(by rw [Zi hft];exact hf''),yl,?_⟩
     have K5:∀(o1 o2:HO) c o,H'' c=some o->c≠fA->(upd (upd H'' tt o1) fA o2) c=some o:=fun o1 o2 c o e n=>by
      rw [Zi n,Zi (Zg e htt)]
      exact e
     have hlf2:H'' lf=some (.lst ((f0::rest).map V.int)):=by
      have:=sm2' lf _ hlf'
      rw [elf] at this
      exact this
     obtain ⟨j2,hj2,tr2⟩:=Zjt elf tr hi isT
     have f0T:f0∈Wq m f0 j:=isT.self
     have less:=ZjZ elf f0T
     rw [elf] at less
     have llen:(f0::rest).length<=120:=by
      rw [<- elf]
      unfold Ws
      refine Nat.le_trans (List.length_filter_le _ _) ?_
      rw [WJ]
      lia
     refine ⟨_,rfl,lf,rfl,⟨_,Zo.of (K5 _ _ lf _ hlf2 nlf)⟩,YV (K:=K) (a:=lf) (xs:=(f0::rest).map V.int) (by rw [List.length_map];exact Nat.le_of_lt (ZI (by lia))) (fun i zs G=>((∀c o,H'' c=some o->c≠fA->G c=some o)/\G fA=some (.lst (ys ++ [.ref tt]))/\G tt=some (.tup [.ref g,.int (Zet (fl dn (Wq m f0 j)) / 2)]))/\zs=(((f0::rest).take i).filter fun x=>decide (x∉Wq m f0 j)).map V.int)
      ⟨⟨fun c o e n=>K5 _ _ c o e n,Zb,by rw [Zi (Ne.symm hft),Zb];rfl⟩,by simp⟩ (fun i zs G p=>?_) (fun i zs G p=>Zo.of (p.1.1 lf _ hlf2 nlf)) (fun i x zs G hx p=>?_) (fun zs G p D hD=>?_)⟩
     ·rw [p.2,List.length_map]
      exact Nat.le_trans (List.length_filter_le _ _) (by rw [List.length_take];lia)
     ·obtain ⟨kp,rfl⟩:=p
      obtain ⟨t,ht,rfl⟩:=Uz hx
      have tk:((f0::rest).take (i+1)).filter (fun x=>decide (x∉Wq m f0 j))=((f0::rest).take i).filter (fun x=>decide (x∉Wq m f0 j))++(if t∈Wq m f0 j then [] else [t]):=by
       rw [List.take_add_one,ht,List.filter_append]
       by_cases z:t∈Wq m f0 j<;>simp [z]
      refine ⟨_,rfl,_,rfl,g,_,rfl,.inl (Zo.of (kp.1 g _ hg ngf)),rfl,ZcH _,_,rfl,?_⟩
      show if (!inV (V.int t) ((Wq m f0 j).map V.int))=true then _ else _
      rw [Zee]
      by_cases z:t∈Wq m f0 j
      ·rw [decide_eq_true z]
       refine ZgX ⟨kp,?_⟩
       rw [tk,if_pos z,List.append_nil]
      ·rw [decide_eq_false z]
       refine GA ⟨_,rfl,kp,?_⟩
       rw [tk,if_neg z,List.map_append]
       rfl
     ·obtain ⟨kp,rfl⟩:=p
      have hDf:D≠fA:=(Zg kp.2.1 hD).symm
      have kD:∀c o,H'' c=some o->c≠fA->(upd G D (.lst ((((f0::rest).take ((f0::rest).map V.int).length).filter fun x=>decide (x∉Wq m f0 j)).map V.int))) c=some o:=fun c o e n=>by
       have e2:=kp.1 c o e n
       rw [Zi (Zg e2 hD)]
       exact e2
      refine ⟨ts ++ [Wq m f0 j],ys ++ [.ref tt],j2,D,_,_,_,_,_,less,rfl,fun c o e=>kD c o (s22 c o e) (Zg e hfA),?_,?_,hDf,?_,tr2,hj2⟩
      ·rw [Zi (Ne.symm hDf)]
       exact kp.2.1
      ·rw [Zb,Zgh,elf,List.length_map,List.take_of_length_le (Nat.le_refl _)]
      ·refine Paired.snoc (wv.mono (fun c o n e=>kD c o (sm2' c o e) n) ⟨_,hf⟩) ⟨tt,g,rfl,?_,kD g _ hg ngf,ngf⟩
       rw [Zi (Zg kp.2.2 hD)]
       exact kp.2.2
    ·rw [decide_eq_false hin]
     refine GA ?_
     have nf':∀q,1<=q->q<j+1->gt m f0 q≠f0:=fun q a b e=>by
      by_cases z:q=j
      ·subst z;exact hin ((ZhI M f0lo f0hi nf).mpr ⟨a,e⟩)
      ·exact nf q a (by lia) e
     have short2:=ZaH M f0lo f0hi nf'
     refine ⟨fun σ' H3=>∃(g:Addr) (v12 v13:Option V),σ' = [some (.ref l),some (.ref R),some (.ref dA),v3,v4,v5,v6,some (.ref fA),some (.ref lf),some (.ref g),some (.int (fl dn (Wq m f0 (j+1)))),some (.int (gt m f0 (j+1))),v12,v13]/\Zf H' H3/\H3 g=some (.lst ((Wq m f0 (j+1)).map V.int))/\g≠fA,
      fun σ' H3 ⟨g,a,b,e,h1,h2,h3⟩=>⟨m2-1,by lia,j+1,g,a,b,by lia,e,h1,h2,h3,nf'⟩,?_⟩
     obtain ⟨a,dg,ha⟩:=dget H'' s22 (gt m f0 j) (dom j).1 (dom j).2
     refine ⟨_,rfl,_,rfl,dA,_,rfl,dg,?_⟩
     refine ⟨a,_,rfl,JH.of ha,rfl,_,_,rfl,_,_,rfl,rfl,?_⟩
     refine ⟨_,rfl,_,rfl,_,rfl,(by show 2<=sizeLine;decide),fun b hb=>?_⟩
     refine ⟨g,b,_,_,rfl,rfl,(Zf.laid hb) g _ hg,Zb,(by rw [List.length_map,Gx];exact Nat.le_of_lt (ZI (by show _+2<=1000;lia))),fun g' hg'=>?_⟩
     have s3:Zf H'' (upd (upd H'' b (.lst [.int (gt m f0 j),.int (m (gt m f0 j))])) g' (.lst ((Wq m f0 j).map V.int ++ [.int (gt m f0 j),.int (m (gt m f0 j))]))):=(Zf.laid hb).step hg'
     have ng':g'≠fA:=(Zg ((Zf.laid (o:=.lst [.int (gt m f0 j),.int (m (gt m f0 j))]) hb) fA _ (sm2' fA _ hf)) hg').symm
     refine ⟨_,rfl,_,rfl,_,_,rfl,rfl,1,rfl,(by show 2<=sizeLine;decide),fun c hc=>?_⟩
     refine ⟨_,rfl,_,_,rfl,rfl,(by show (0:Int)<2;decide),c,_,_,_,rfl,rfl,Zo.of Zb,Zkp _,_,_,rfl,rfl,?_⟩
     refine ⟨_,rfl,1,rfl,(by show 2<=sizeLine;decide),fun c2 hc2=>?_⟩
     refine ⟨_,rfl,_,_,rfl,rfl,(by show (0:Int)<2;decide),c2,_,_,_,rfl,rfl,Zo.of Zb,Zkp _,_,_,rfl,rfl,?_⟩
     refine ⟨g',some (.int (m (gt m f0 j))),some (.int (dn (gt m f0 j))),?_,((sm2'.trans s3).step hc).step hc2,?_,ng'⟩
     ·rw [Zlk,show gt m f0 (j+1)=m (gt m f0 j)+ev2 (m (gt m f0 j)) from (Zlh _).symm]
      rfl
     ·have e1:=(Zf.laid (o:=.lst [.int 1,.int (-1)]) hc) g' _ Zb
      have e2:=(Zf.laid (o:=.lst [.int 1,.int (-1)]) hc2) g' _ e1
      refine e2.trans ?_
      simp [Wq]
def stA (dn:Int->Int) (T:List Int) (i:Nat):Int:=if i % 2=0 then dn (T.getD i 0) else ev2 (T.getD i 0)
theorem ZiC (dn:Int->Int) (T:List Int):∀n,2*n<=T.length->((List.range (2*n)).map (stA dn T)).sum=fl dn (T.take (2*n))
 | 0,_=>by simp [fl]
 | n+1,h=>by
  have ih:=ZiC dn T n (by lia)
  have e:2*(n+1)=2*n+1+1:=by lia
  have h1:T[2*n]? = some (T.getD (2*n) 0):=by simp [show 2*n<T.length by lia]
  have h2:T[2*n+1]? = some (T.getD (2*n+1) 0):=by simp [show 2*n+1<T.length by lia]
  rw [e,List.range_succ,List.range_succ,List.take_add_one,List.take_add_one,h1,h2]
  have e2:T.take (2*n)++(some (T.getD (2*n) 0)).toList++(some (T.getD (2*n+1) 0)).toList=T.take (2*n) ++ [T.getD (2*n) 0,T.getD (2*n+1) 0]:=by simp
  rw [e2,ZdE dn _ _ n _ (by rw [List.length_take];lia),<- ih]
  have a1:stA dn T (2*n)=dn (T.getD (2*n) 0):=if_pos (by lia)
  have a2:stA dn T (2*n+1)=ev2 (T.getD (2*n+1) 0):=if_neg (by lia)
  rw [List.map_append,List.map_append,List.sum_append,List.sum_append]
  simp only [List.map_cons,List.map_nil,List.sum_cons,List.sum_nil,a1,a2]
  lia
def Zd1 (dn:Int->Int) (T:List Int):Int:=Zet (fl dn T) / 2
def hAt (dn:Int->Int) (T:List Int):Nat->Int
 | 0=>1
 | i+1=>hAt dn T i-stA dn T i
def plc (T:List Int) (x:Int):Nat:=T.idxOf x
def hgt (dn:Int->Int) (T:List Int) (x:Int):Int:=hAt dn T (plc T x)
theorem ZlI {T:List Int} (nd:T.Nodup) {i:Nat} (hi:i<T.length):plc T T[i]=i:=by
 unfold plc
 exact List.Nodup.idxOf_getElem nd i hi
theorem ZkU {dn:Int->Int}{T:List Int} (nd:T.Nodup) {i:Nat} (hi:i<T.length):hgt dn T T[i]=hAt dn T i:=by
 unfold hgt
 rw [ZlI nd hi]
theorem Zgd (dn:Int->Int) (T:List Int):∀i,hAt dn T i=1-((List.range i).map (stA dn T)).sum
 | 0=>by simp [hAt]
 | i+1=>by
  rw [List.range_succ,List.map_append,List.sum_append]
  show hAt dn T i-stA dn T i=_
  rw [Zgd dn T i]
  simp
  lia
theorem Ze9 (m:Int->Int) (f:Int):∀(L j:Nat),j<L->(Wq m f L)[2*j]? = some (gt m f j)/\(Wq m f L)[2*j+1]? = some (m (gt m f j))
 | 0,j,h=>by lia
 | L+1,j,h=>by
  have hl:=Gx m f L
  by_cases e:j=L
  ·subst e
   constructor
   ·show (Wq m f j ++ [gt m f j,m (gt m f j)])[2*j]? = _
    rw [List.getElem?_append_right (by lia),hl]
    simp
   ·show (Wq m f j ++ [gt m f j,m (gt m f j)])[2*j+1]? = _
    rw [List.getElem?_append_right (by lia),hl]
    simp [show 2*j+1-2*j=1 by lia]
  ·obtain ⟨a,b⟩:=Ze9 m f L j (by lia)
   constructor
   ·show (Wq m f L++_)[2*j]? = _
    rw [List.getElem?_append_left (by lia)];exact a
   ·show (Wq m f L++_)[2*j+1]? = _
    rw [List.getElem?_append_left (by lia)];exact b
structure One (ps:List (Int×Int)) (N:Nat) (T:List Int) (L:Nat):Prop where
 M:Jf (Je ps) N
 fl0:(Zy ps).Nodup
 T_is:T=Wq (Je ps) 0 L
 L1:1<=L
 back:gt (Je ps) 0 L=0
 nd:T.Nodup
 all:∀x:Int,0<=x->x<N->x∈T
 dom:∀x∈T,0<=x/\x<(N:Int)
 zero:fl (ZZ ps) T=0
theorem Zi4 {ps:List (Int×Int)}{u l b:Int} (nd:(Zy ps).Nodup) (h:(u,l)∈ps) (h2:(l,b)∈ps):False:=by
 induction ps with
 | nil=>cases h
 | cons p r ih=>
  have e:Zy (p::r)=p.1::p.2::Zy r:=by simp [Zy]
  have fr:=nd
  rw [e] at nd
  obtain ⟨n1,nd2⟩:=List.nodup_cons.mp nd
  obtain ⟨n2,nd3⟩:=List.nodup_cons.mp nd2
  have inr:∀{a c:Int},(a,c)∈r->a∈Zy r/\c∈Zy r:=fun {a c} z=>⟨List.mem_flatMap.mpr ⟨(a,c),z,by simp⟩,List.mem_flatMap.mpr ⟨(a,c),z,by simp⟩⟩
  rcases List.mem_cons.mp h with z | z
  ·rcases List.mem_cons.mp h2 with y | y
   ·subst z
    have:(u,l)=(l,b):=y.symm
    have e1:u=l:=congrArg Prod.fst this
    exact UG fr (List.mem_cons_self) e1
   ·subst z
    exact n2 (inr y).1
  ·rcases List.mem_cons.mp h2 with y | y
   ·subst y
    exact n1 (List.mem_cons_of_mem _ (inr z).2)
   ·exact ih nd3 z y
namespace One
variable {ps:List (Int×Int)}{N:Nat}{T:List Int}{L:Nat}
theorem len (o:One ps N T L):T.length=2*L:=by rw [o.T_is];exact Gx _ _ _
theorem at0 (o:One ps N T L) {j:Nat} (h:j<L):T[2*j]? = some (gt (Je ps) 0 j):=by rw [o.T_is];exact (Ze9 _ _ L j h).1
theorem at1 (o:One ps N T L) {j:Nat} (h:j<L):T[2*j+1]? = some (Je ps (gt (Je ps) 0 j)):=by rw [o.T_is];exact (Ze9 _ _ L j h).2
theorem hg (o:One ps N T L) {i:Nat}{x:Int} (h:T[i]? = some x):hgt (ZZ ps) T x=hAt (ZZ ps) T i:=by
 obtain ⟨hi,e⟩:=List.getElem?_eq_some_iff.mp h
 rw [<- e]
 exact ZkU o.nd hi
theorem stE (o:One ps N T L) {j:Nat} (h:j<L):hAt (ZZ ps) T (2*j+1)=hAt (ZZ ps) T (2*j)-ZZ ps (gt (Je ps) 0 j):=by
 show hAt (ZZ ps) T (2*j)-stA (ZZ ps) T (2*j)=_
 unfold stA
 rw [if_pos (by lia)]
 have:=o.at0 h
 simp [this]
theorem stO (o:One ps N T L) {j:Nat} (h:j<L):hAt (ZZ ps) T (2*j+2)=hAt (ZZ ps) T (2*j+1)-ev2 (Je ps (gt (Je ps) 0 j)):=by
 show hAt (ZZ ps) T (2*j+1)-stA (ZZ ps) T (2*j+1)=_
 unfold stA
 rw [if_neg (by lia)]
 have:=o.at1 h
 simp [this]
theorem Znj (o:One ps N T L):hAt (ZZ ps) T (2*L)=1:=by
 rw [Zgd]
 have:=ZiC (ZZ ps) T L (by rw [o.len];exact Nat.le_refl _)
 rw [this,List.take_of_length_le (by rw [o.len];exact Nat.le_refl _),o.zero]
 rfl
theorem on (o:One ps N T L) {x:Int} (h0:0<=x) (h1:x<N):∃j,j<L/\(x=gt (Je ps) 0 j∨x=Je ps (gt (Je ps) 0 j)):=by
 have:=o.all x h0 h1
 rw [o.T_is] at this
 exact Yz.mp this
theorem pos (o:One ps N T L):(0:Int)<N:=by
 have:=o.at0 (j:=0) o.L1
 have h:=o.dom _ (List.mem_of_getElem? this)
 have e:gt (Je ps) 0 0=0:=rfl
 rw [e] at h
 exact h.2
theorem Zkh (o:One ps N T L) (j:Nat):0<=gt (Je ps) 0 j/\gt (Je ps) 0 j<(N:Int):=Yn o.M (by decide) o.pos j
theorem ends (o:One ps N T L) {u l:Int} (h:(u,l)∈ps) (hu:0<=u/\u<(N:Int)):hgt (ZZ ps) T u=hgt (ZZ ps) T l+1:=by
 obtain ⟨m1,m2⟩:=Zb4 o.fl0 h
 have ne:=UG o.fl0 h
 have du:ZZ ps u=1:=if_pos (List.mem_map.mpr ⟨(u,l),h,rfl⟩)
 have dl:ZZ ps l = -1:=by
  unfold ZZ
  rw [if_neg]
  intro z
  obtain ⟨⟨a,b⟩,hab,e⟩:=List.mem_map.mp z
  have e:a=l:=e
  subst e
  have q:=(Zb4 o.fl0 hab).1
  rw [m2] at q
  subst q
  exact Zi4 o.fl0 h hab
 obtain ⟨j,hj,c⟩:=o.on hu.1 hu.2
 rcases c with c | c
 ·have a0:=o.at0 hj
  have a1:=o.at1 hj
  rw [<- c] at a0 a1
  rw [m1] at a1
  rw [o.hg a0,o.hg a1,o.stE hj,<- c,du]
  lia
 ·have a0:=o.at0 hj
  have a1:=o.at1 hj
  have e:gt (Je ps) 0 j=l:=by
   have:=o.M.inv _ (o.Zkh j).1 (o.Zkh j).2
   rw [<- c,m1] at this
   exact this.symm
  rw [e] at a0
  rw [<- c] at a1
  rw [o.hg a0,o.hg a1,o.stE hj,e,dl]
  lia
theorem Ze8 (o:One ps N T L) {x:Int} (h0:0<=x) (h1:x<N) (hx:x % 2=0):hgt (ZZ ps) T x=hgt (ZZ ps) T (x+1)+1:=by
 have key:∀y:Int,(∃j,j<L/\y=Je ps (gt (Je ps) 0 j))->0<=y->hgt (ZZ ps) T (bw y)=hgt (ZZ ps) T y-ev2 y:=by
  rintro y ⟨j,hj,e⟩ _
  have a1:=o.at1 hj
  rw [<- e] at a1
  rw [o.hg a1]
  have nx:gt (Je ps) 0 (j+1)=bw y:=by rw [e];rfl
  have st:=o.stO hj
  rw [<- e] at st
  by_cases lt:j+1<L
  ·have a2:=o.at0 lt
   rw [nx] at a2
   rw [o.hg a2,<- st]
   rfl
  ·have eL:j+1=L:=by lia
   have z0:bw y=0:=by rw [<- nx,eL];exact o.back
   have a0:=o.at0 (j:=0) o.L1
   have e0:gt (Je ps) 0 0=0:=rfl
   rw [e0] at a0
   rw [z0,o.hg a0,<- st]
   have:=o.Znj
   rw [show 2*L=2*j+2 by lia] at this
   rw [this]
   rfl
 have hb:bw x=x+1:=if_pos hx
 have hb1:bw (x+1)=x:=by rw [<- hb];exact ZaQ x
 have h2:=Ziq o.M.ev h0 h1
 rw [hb] at h2
 obtain ⟨j,hj,c⟩:=o.on h2.1 h2.2
 rcases c with c | c
 ·
  have hx':∃i,i<L/\x=Je ps (gt (Je ps) 0 i):=by
   cases j with
   | zero=>
    have e0:gt (Je ps) 0 0=0:=rfl
    rw [e0] at c
    lia
   | succ i=>
    refine ⟨i,by lia,?_⟩
    have:gt (Je ps) 0 (i+1)=bw (Je ps (gt (Je ps) 0 i)):=rfl
    rw [this] at c
    rw [<- ZaQ (Je ps (gt (Je ps) 0 i)),<- c,hb1]
  have q:=key x hx' h0
  rw [hb] at q
  have:ev2 x=1:=if_pos hx
  lia
 ·have q:=key (x+1) ⟨j,hj,c⟩ h2.1
  rw [hb1] at q
  have:ev2 (x+1) = -1:=if_neg (by lia)
  lia
theorem h0 (o:One ps N T L):hgt (ZZ ps) T 0=1:=by
 have a0:=o.at0 (j:=0) o.L1
 have e0:gt (Je ps) 0 0=0:=rfl
 rw [e0] at a0
 rw [o.hg a0]
 rfl
theorem h1 (o:One ps N T L):hgt (ZZ ps) T 1=0:=by
 have:=o.Ze8 (x:=0) (by decide) o.pos (by decide)
 rw [o.h0] at this
 have e:(0:Int)+1=1:=rfl
 rw [e] at this
 lia
end One
theorem ZbY {m:Int->Int}{ts:List (List Int)} (h:Ul m 0 ts):ts = []:=by cases h;rfl
theorem Zax {m:Int->Int}:∀{n:Nat}{ts:List (List Int)},Ul m (n+1) ts -> ∃T r,ts=T::r/\YM m 0 T
 | 0,ts,h=>by
  cases h with
  | add a b c=>rw [ZbY a];exact ⟨_,[],rfl,c⟩
  | skip a b=>rw [ZbY a] at b;simp at b
 | n+1,ts,h=>by
  cases h with
  | add a b c=>
   obtain ⟨T,r,e,t⟩:=Zax a
   rw [e]
   exact ⟨T,_,rfl,t⟩
  | skip a b=>exact Zax a
theorem ZlM (ps:List (Int×Int)) (x:Int):ZZ ps x % 2=1:=by unfold ZZ;split<;>decide
theorem ZjX (x:Int):ev2 x % 2=1:=by unfold ev2;split<;>decide
theorem ZfD (ps:List (Int×Int)):∀T:List Int,fl (ZZ ps) T % 2=0
 | []=>rfl
 | [_]=>rfl
 | x::y::r=>by
  have h:=ZfD ps r
  have a:=ZlM ps x
  have b:=ZjX y
  show (ZZ ps x+ev2 y+fl (ZZ ps) r) % 2=0
  lia
theorem sub_len:∀{l l':List Int},l.Nodup->(∀x∈l,x∈l')->l.length<=l'.length
 | [],_,_,_=>Nat.zero_le _
 | a::r,l',nd,h=>by
  obtain ⟨na,nr⟩:=List.nodup_cons.mp nd
  have ih:=sub_len (l':=l'.erase a) nr fun x hx=>(List.mem_erase_of_ne (fun z:x=a=>na (by rw [<- z];exact hx))).mpr (h x (List.mem_cons_of_mem _ hx))
  have ha:=h a List.mem_cons_self
  rw [List.length_erase_of_mem ha] at ih
  have:0<l'.length:=List.length_pos_of_mem ha
  rw [List.length_cons]
  lia
theorem ZlL {ls:List (Str×Int)}{T:List Int} (hW:Wk ls 0) (tr:Ul (Je (JK ls)) (JL ls) [T]) (h0:Zd1 (ZZ (JK ls)) T=0):∃L,One (JK ls) (JL ls) T L/\T.length=JL ls:=by
 have M:=WX hW
 have nd0:(Zy (JK ls)).Nodup:=(WM hW).symm.nodup (We _)
 cases e:JL ls with
 | zero=>rw [e] at tr;exact absurd (ZbY tr) (by simp)
 | succ n=>
  rw [e] at tr M
  obtain ⟨T',r,q,t⟩:=Zax tr
  cases q
  have p0:(0:Int)<((n+1:Nat):Int):=by lia
  obtain ⟨L,L1,bk,no,rfl⟩:=id t
  have nd:=t.nodup M (by decide) p0
  have all:∀x:Int,0<=x->x<((n+1:Nat):Int)->x∈Wq (Je (JK ls)) 0 L:=fun x x0 x1=>by
   obtain ⟨k,rfl⟩:=Int.eq_ofNat_of_zero_le x0
   simpa using tr.mem k (by lia)
  refine ⟨L,⟨M,nd0,rfl,L1,bk,nd,all,t.dom M (by decide) p0,?_⟩,?_⟩
  ·have:=ZfD (JK ls) (Wq (Je (JK ls)) 0 L)
   unfold Zd1 Zet at h0
   split at h0<;>lia
  ·have a:=t.len M (by decide) p0
   have b:n+1<=(Wq (Je (JK ls)) 0 L).length:=by
    have sub:∀x∈GB (n+1),x∈Wq (Je (JK ls)) 0 L:=fun x hx=>all x (YE.mp hx).1 (YE.mp hx).2
    have:=sub_len (We (n+1)) sub
    rwa [WJ] at this
   lia
def kn (kvs:List (Key×V)) (x:Int):Prop:=(Yy kvs (Sum.inl x)).isSome=true
structure Dc (g:Int->Int) (H:Hp) (d:Addr) (n:Nat) (kvs:List (Key×V)):Prop where
 at_:H d=some (.dK kvs)
 le:kvs.length<=n
 ok:∀x v,Yy kvs (Sum.inl x)=some v->v = .int (g x)
theorem Zak {kvs:List (Key×V)}{x y:Int}{v:V}:kn (putK kvs (Sum.inl y) v) x ↔ (x=y∨kn kvs x):=by
 unfold kn
 rw [Zeq]
 by_cases e:x=y
 ·rw [if_pos (congrArg Sum.inl e)]
  simp [e]
 ·rw [if_neg (fun z=>e (Sum.inl.inj z))]
  simp [e]
theorem Dc.put {g:Int->Int}{H:Hp}{d:Addr}{n:Nat}{kvs:List (Key×V)}{y:Int} (h:Dc g H d n kvs):Dc g (upd H d (.dK (putK kvs (Sum.inl y) (.int (g y))))) d (n+1) (putK kvs (Sum.inl y) (.int (g y))):=by
 refine ⟨Zb,?_,fun x v e=>?_⟩
 ·have:=JA kvs (Sum.inl y) (.int (g y))
  have:=h.le
  lia
 ·rw [Zeq] at e
  split at e
  ·rename_i z
   cases e
   rw [Sum.inl.inj z]
  ·exact h.ok x v e
theorem Dc.val {g:Int->Int}{H:Hp}{d:Addr}{n:Nat}{kvs:List (Key×V)}{x:Int} (h:Dc g H d n kvs) (k:kn kvs x):Yy kvs (Sum.inl x)=some (.int (g x)):=by
 unfold kn at k
 cases e:Yy kvs (Sum.inl x) with
 | none=>rw [e] at k;cases k
 | some v=>rw [h.ok x v e]
theorem ZcC {g:Int->Int}{tu tl td:TE} {σ:L2.St}{H:Hp}{d:Addr}{n:Nat}{kvs:List (Key×V)}{u l:Int}{D:Ends} (hu:∀(H:Hp) (Q:VK),Q (.int u) H->tu σ H Q) (hl:∀(H:Hp) (Q:VK),Q (.int l) H->tl σ H Q) (hd:∀(H:Hp) (Q:VK),Q (.ref d) H->td σ H Q)
  (dc:Dc g H d n kvs) (hn:n<1000000) (hg:g u=g l+1)
  (k:∀(H':Hp) (kvs':List (Key×V)),Jo d H H'->Dc g H' d (n+1) kvs'->(∀x,kn kvs x->kn kvs' x)->((kn kvs u∨kn kvs l)->kn kvs' u/\kn kvs' l)->D.nx σ H'):
  ZgN (tB (Zhx tu td)) (Zh6 (tOp (rI0 fun i j=>V.int (i-j)) (tOp Zj5 td tu) (tC (V.int 1))) (Zlb td tl Zhv))
   (ZgN (tB (Zhx tl td)) (Zh6 (tOp (rI0 fun i j=>V.int (i+j)) (tOp Zj5 td tl) (tC (V.int 1))) (Zlb td tu Zhv)) ZkB) D σ H:=by
 have sz:kvs.length<sizeLine:=by have:=dc.le;rw [sizeLine_eq];lia
 refine hu _ _ (hd _ _ ⟨d,_,rfl,WG.k (k:=Sum.inl u) dc.at_,_,rfl,?_⟩)
 refine Y1 (fun c=>?_) (fun c=>?_)
 ·have ku:kn kvs u:=c
  refine hd _ _ (hu _ _ ⟨d,.int (g u),rfl,?_,_,_,rfl,rfl,hd _ _ (hl _ _ ⟨d,_,rfl,ZbX.k (k:=Sum.inl l) dc.at_ sz,?_⟩)⟩)
  ·have:=WG.k (k:=Sum.inl u) dc.at_
   rw [dc.val ku] at this
   exact this
  ·have e:g u-1=g l:=by lia
   show D.nx σ (upd H d (.dK (putK kvs (Sum.inl l) (.int (g u-1)))))
   rw [e]
   exact k _ _ Jo.upd dc.put (fun x h=>Zak.mpr (.inr h)) (fun _=>⟨Zak.mpr (.inr ku),Zak.mpr (.inl rfl)⟩)
 ·have nu:¬kn kvs u:=c
  refine hl _ _ (hd _ _ ⟨d,_,rfl,WG.k (k:=Sum.inl l) dc.at_,_,rfl,?_⟩)
  refine Y1 (fun c2=>?_) (fun c2=>?_)
  ·have kl:kn kvs l:=c2
   refine hd _ _ (hl _ _ ⟨d,.int (g l),rfl,?_,_,_,rfl,rfl,hd _ _ (hu _ _ ⟨d,_,rfl,ZbX.k (k:=Sum.inl u) dc.at_ sz,?_⟩)⟩)
   ·have:=WG.k (k:=Sum.inl l) dc.at_
    rw [dc.val kl] at this
    exact this
   ·have e:g l+1=g u:=hg.symm
    show D.nx σ (upd H d (.dK (putK kvs (Sum.inl u) (.int (g l+1)))))
    rw [e]
    exact k _ _ Jo.upd dc.put (fun x h=>Zak.mpr (.inr h)) (fun _=>⟨Zak.mpr (.inl rfl),Zak.mpr (.inr kl)⟩)
  ·have nl:¬kn kvs l:=c2
   exact k H kvs (Jo.refl _ _) ⟨dc.at_,by have:=dc.le;lia,dc.ok⟩ (fun x h=>h) (fun z=>z.elim (fun y=>absurd y nu) (fun y=>absurd y nl))
theorem One.pair {ps:List (Int×Int)}{N:Nat}{T:List Int}{L:Nat} (o:One ps N T L) (pf:∀x:Int,0<=x->x<N->x∈Zy ps) {x:Int} (h0:0<=x) (h1:x<N):∃u l,(u,l)∈ps/\((x=u/\Je ps x=l)∨(x=l/\Je ps x=u)):=by
 obtain ⟨⟨u,l⟩,hp,hx⟩:=List.mem_flatMap.mp (pf x h0 h1)
 obtain ⟨a,b⟩:=Zb4 o.fl0 hp
 refine ⟨u,l,hp,?_⟩
 rcases List.mem_cons.mp hx with z | z
 ·have z:x=u:=z
  exact .inl ⟨z,by rw [z];exact a⟩
 ·have z:x=l:=List.mem_singleton.mp z
  exact .inr ⟨z,by rw [z];exact b⟩
theorem One.grow {ps:List (Int×Int)}{N:Nat}{T:List Int}{L:Nat} (o:One ps N T L) (pf:∀x:Int,0<=x->x<N->x∈Zy ps) {A B C:List (Key×V)}
  (ab:∀x,kn A x->kn B x) (bc:∀x,kn B x->kn C x) (pe:∀u l,(u,l)∈ps->(kn A u∨kn A l)->kn B u/\kn B l) (pb:∀j:Nat,2*j<N->(kn B (2*j)∨kn B (2*j+1))->kn C (2*j)/\kn C (2*j+1)) {r:Nat}
  (h:∀i x,i<=r->T[i]? = some x->kn A x):∀i x,i<=r+1->T[i]? = some x->kn C x:=by
 intro i x hi hx
 by_cases c:i<=r
 ·exact bc _ (ab _ (h i x c hx))
 ·have e:i=r+1:=by lia
  subst e
  have hlt:r+1<T.length:=(List.getElem?_eq_some_iff.mp hx).1
  have hL:=o.len
  by_cases ev:r % 2=0
  ·obtain ⟨j,rfl⟩:∃j,r=2*j:=⟨r / 2,by lia⟩
   have a0:=o.at0 (j:=j) (by lia)
   have a1:=o.at1 (j:=j) (by lia)
   rw [hx] at a1
   have ex:x=Je ps (gt (Je ps) 0 j):=Option.some.inj a1
   have kA:=h (2*j) _ (Nat.le_refl _) a0
   obtain ⟨u,l,hp,c⟩:=o.pair pf (o.Zkh j).1 (o.Zkh j).2
   rw [ex]
   rcases c with ⟨z1,z2⟩ | ⟨z1,z2⟩
   ·rw [z2];exact bc _ (pe u l hp (.inl (z1 ▸ kA))).2
   ·rw [z2];exact bc _ (pe u l hp (.inr (z1 ▸ kA))).1
  ·obtain ⟨j,rfl⟩:∃j,r=2*j+1:=⟨r / 2,by lia⟩
   have a1:=o.at1 (j:=j) (by lia)
   have a2:=o.at0 (j:=j+1) (by lia)
   have e2:2*(j+1)=2*j+1+1:=by lia
   rw [e2,hx] at a2
   have ex:x=bw (Je ps (gt (Je ps) 0 j)):=Option.some.inj a2
   have kB:=ab _ (h (2*j+1) _ (Nat.le_refl _) a1)
   obtain ⟨y,hy⟩:∃y,y=Je ps (gt (Je ps) 0 j):=⟨_,rfl⟩
   rw [<- hy] at ex kB
   have yd:0<=y/\y<(N:Int):=by rw [hy];exact o.dom _ (List.mem_of_getElem? a1)
   have ne:=o.M.ev
   rw [ex]
   unfold bw
   split
   ·rename_i z
    obtain ⟨q,hq⟩:∃q:Nat,y=2*(q:Int):=⟨(y / 2).toNat,by lia⟩
    rw [hq] at kB yd ⊢
    exact (pb q (by lia) (.inl kB)).2
   ·rename_i z
    obtain ⟨q,hq⟩:∃q:Nat,y=2*(q:Int)+1:=⟨(y / 2).toNat,by lia⟩
    rw [hq] at kB yd ⊢
    have:=(pb q (by lia) (.inr kB)).1
    rwa [show 2*(q:Int)+1-1=2*(q:Int) by lia]
def lhV (sc:Int) (ls:List (Str×Int)) (H H':Hp) (v:V):Prop:=(sc=1 /\ ∃p,v = .ref p/\H p=none/\H' p=some (.lst (tab (JL ls) fun _=>V.int 0))) ∨
 (sc≠1 /\ ∃ts,Ul (Je (JK ls)) (JL ls) ts/\((ts.map (Zd1 (ZZ (JK ls))) ≠ [0]/\v = .non)∨(∃p T L,ts = [T]/\Zd1 (ZZ (JK ls)) T=0/\One (JK ls) (JL ls) T L/\v = .ref p/\H p=none/\H' p=some (.lst (tab (JL ls) fun x=>V.int (hgt (ZZ (JK ls)) T x))))))
def Zjj:Sp:=fun vs H Q _=>∃(l:Addr) (sc:Int) (xs:List V) (ls:List (Str×Int)),vs = [.ref l,.int sc]/\H l=some (.lst xs)/\ZD H xs ls/\ls.length<=60/\Wk ls 0 /\
 ∀(v:V) (H':Hp),Zf H H'->lhV sc ls H H' v->Q v H'
theorem Zjw {ls:List (Str×Int)}{ts:List (List Int)} (hW:Wk ls 0) (tr:Ul (Je (JK ls)) (JL ls) ts):(ts.map fun T=>(T.length:Int)).sum=(JL ls:Int):=by
 have good:=tr.good (WX hW) (Int.le_refl _)
 have e:∀us:List (List Int),(us.map fun T=>(T.length:Int)).sum=(us.flatten.length:Int):=by
  intro us
  induction us with
  | nil=>rfl
  | cons a r ih=>simp only [List.map_cons,List.sum_cons,ih,List.flatten_cons,List.length_append];lia
 rw [e]
 have a:=Wx (JL ls) ts.flatten good.1 (fun x hx=>good.2.1 x hx)
 have b:JL ls<=ts.flatten.length:=by
  have:=sub_len (We (JL ls)) (l':=ts.flatten) (fun x hx=>by
   obtain ⟨x0,x1⟩:=YE.mp hx
   obtain ⟨k,rfl⟩:=Int.eq_ofNat_of_zero_le x0
   exact tr.mem k (by lia))
  rwa [WJ] at this
 lia
theorem WV.at' {z:Addr}{dn:Int->Int}{H:Hp}:∀{ys:List V}{ts:List (List Int)}{i:Nat}{x:V},WV z dn H ys ts->ys[i]? = some x -> ∃T,ts[i]? = some T /\ ∃a g,x=V.ref a/\H a=some (.tup [.ref g,.int (Zet (fl dn T) / 2)])/\H g=some (.lst (T.map V.int))
 | _,_,_,_,.nil,e=>by simp at e
 | _,_,0,_,.cons ⟨a,g,q,ha,hg,_⟩ _,e=>by simp at e;subst e;exact ⟨_,rfl,a,g,q,ha,hg⟩
 | _,_,i+1,x,.cons _ r,e=>by
  obtain ⟨T,h1,h2⟩:=WV.at' (i:=i) (x:=x) r (by simpa using e)
  exact ⟨T,by simpa using h1,h2⟩
abbrev YQ:Stmt:=top 30
theorem ZK:ZF ["_law_drawing_here", "_law_scale", "_law_walks_here", "_law_many", "_law_rows_here", "_law_found", "_law_turn", "_law_t", "_law_letter", "_law_upper", "_law_lower", "_law_thread"] ["_law_drawing_here", "_law_scale"] (Zl YQ):={}
theorem Zmd {f:Addr}{fd:FuncData} (F:Y8 K "_law_heights" "_law_heights" YQ f fd) (Gs:JV P w K mg base 2 "_law_walks" ["_law_drawing_here"] Zdn) (ZV:JV P w K mg base 1 "_law_rows" ["_law_drawing_here"] Zao)
  (ZA:mg "enumerate" = none) (ZbE:mg "sum" = none) (Yg:mg "len" = none) (Zx:mg "range" = none):Yj P w K mg base GV 3 f fd ["_law_drawing_here", "_law_scale"] Zjj:=by
 refine F.ok ZK (fun vs H Q E h=>?_) (fun cdv A outer s H vs Q E hr h=>?_)
 ·obtain ⟨l,sc,xs,ls,rfl,_⟩:=h
  rfl
 ·obtain ⟨l,sc,xs,ls,rfl,hl,hL,hlen,hW,k⟩:=h
  have n120:=ZcG hlen
  have hxl:=hL.len
  refine ⟨_,(Zd (Zr (i:=2) ZK.nd rfl (Or.inl rfl) (Zz Gs hr (Za (pv 0) Zc)))
   (Zd (Zr (i:=3) ZK.nd rfl (Or.inl rfl) (ZH (Zan (K:=K) rfl rfl) (by rfl) ZbE boot_sum (Za (Wt (Ls:=["_law_gone", "_law_turn"]) (Fs:=[]) (fi:=[]) (ZO.of (show Yu ["_law_drawing_here", "_law_scale", "_law_walks_here", "_law_many", "_law_rows_here", "_law_found", "_law_turn", "_law_t", "_law_letter", "_law_upper", "_law_lower", "_law_thread"] (Zl YQ) _ [] []=true by decide +kernel)) rfl (ZT (K:=K) rfl (pv 2)) (fun cl C s3 H3 ex=>⟨(Yq (K:=K) (n:=2) rfl rfl (Zq (Zj (i:=0) (show ((["_law_gone", "_law_turn"]:List Str)++([]:List Str)).Nodup by decide +kernel) rfl (Or.inl rfl)) (Zq (Zj (i:=1) (show ((["_law_gone", "_law_turn"]:List Str)++([]:List Str)).Nodup by decide +kernel) rfl (Or.inl rfl)) Z7))),Z0,(ZH (Yk (K:=K) rfl) (by rfl) Yg PySem.boot_len (Za (pv 0) Zc))⟩)) Zc)))
   (Zd (Yh (Zw J7 (pv 1) Ze (ZM _)) (Zh (ZJ (Zm ZkK (Z5 (Za Ze Zc)) (pv 3)))) ZX)
   (Zd (Yh (PW.pt (ZkC (Zw Zcu (ZH (Yk (K:=K) rfl) (by rfl) Yg PySem.boot_len (Za (pv 2) Zc)) Ze (ZM _)) (Zhl (Zw Zcu (Zp (YH (K:=K) rfl) (Zp (Zk (K:=K) rfl) (pv 2) Ze (fun _ _=>rfl)) Ze (fun _ _=>rfl)) Ze (ZM _))))) (Zh (ZJ Zdo)) ZX)
   (Zd (Zr (i:=4) ZK.nd rfl (Or.inl rfl) (Zz ZV hr (Za (pv 0) Zc)))
   (Zd (Zr (i:=5) ZK.nd rfl (Or.inr rfl) (Zka (ZdL Ze Ze (ZdL Ze Ze Zkd)) rfl rfl (by intro z;cases z) (by decide)))
   (Zd (Z3 PassesOwn.never rfl (Yb (by rfl) Zx (Za (pv 3) Zc)) (Zj (i:=6) ZK.nd rfl (Or.inl rfl)) (Zd (Z3 PassesOwn.never rfl (WN (K:=K) rfl (by rfl) ZA (Za (pv 0) Zc)) (Yq (K:=K) (n:=2) rfl rfl (Zq (Zj (i:=7) ZK.nd rfl (Or.inl rfl)) (Zq (Zj (i:=8) ZK.nd rfl (Or.inl rfl)) Z7))) (Zh (Yh (Zw J7 (Zp (YH (K:=K) rfl) (pv 8) Ze (fun _ _=>rfl)) Z4 (ZM _)) (Zd (Z6 (YR (YN (K:=K) rfl) (Zp (Zk (K:=K) rfl) (pv 4) (pv 7) (fun _ _=>rfl)) (Yf (Zp (YH (K:=K) rfl) (pv 8) Ze (fun _ _=>rfl))) (Yf (Zm Zv (Zp (YH (K:=K) rfl) (pv 8) Ze (fun _ _=>rfl)) Ze))) (Zda (K:=K) (n:=2) rfl rfl (Zq (Zj (i:=9) ZK.nd rfl (Or.inl rfl)) (Zq (Zj (i:=10) ZK.nd rfl (Or.inl rfl)) Z7))))
   (Zh (Yh (Zbt (ZbF (Y0 hr) (pv 9) (pv 5))) (Zh (Z6 (Zm Yx (Zp (JT (Y0 hr)) (pv 5) (pv 9) (fun _ _=>rfl)) Ze) (YG (pv 5) (pv 10) (set_dict (Y0 hr))))) (Zh (Yh (Zbt (ZbF (Y0 hr) (pv 10) (pv 5))) (Zh (Z6 (Zm Zv (Zp (JT (Y0 hr)) (pv 5) (pv 10) (fun _ _=>rfl)) Ze) (YG (pv 5) (pv 9) (set_dict (Y0 hr))))) ZX))))) ZX)))
   (Zh (Z3 PassesOwn.never rfl (ZgI (by rfl) Zx (Za Ze (Za (pv 3) (Za Ze Zc)))) (Zj (i:=11) ZK.nd rfl (Or.inl rfl)) (Zh (Yh (Zbt (ZbF (Y0 hr) (pv 11) (pv 5))) (Zh (Z6 (Zm Yx (Zp (JT (Y0 hr)) (pv 5) (pv 11) (fun _ _=>rfl)) Ze) (YG (pv 5) (Zm Zv (pv 11) Ze) (set_dict (Y0 hr))))) (Zh (Yh (Zbt (ZbF (Y0 hr) (Zm Zv (pv 11) Ze) (pv 5))) (Zh (Z6 (Zm Zv (Zp (JT (Y0 hr)) (pv 5) (Zm Zv (pv 11) Ze) (fun _ _=>rfl)) Ze) (YG (pv 5) (pv 11) (set_dict (Y0 hr))))) ZX))))))))
   (Zh (ZJ (Wt (Ls:=["_law_thread"]) (Fs:=["_law_found"]) (fi:=[5]) (ZO.of (show Yu ["_law_drawing_here", "_law_scale", "_law_walks_here", "_law_many", "_law_rows_here", "_law_found", "_law_turn", "_law_t", "_law_letter", "_law_upper", "_law_lower", "_law_thread"] (Zl YQ) _ ["_law_found"] [5]=true by decide +kernel)) rfl (Yb (by rfl) Zx (Za (pv 3) Zc)) (fun cl C s3 H3 ex=>⟨(Zj (i:=0) (show ((["_law_thread"]:List Str)++(["_law_found"]:List Str)).Nodup by decide +kernel) rfl (Or.inl rfl)),Z0,(Zp (JT (Y0 hr)) (pv 1) (pv 0) (fun _ _=>rfl))⟩))))))))))),?_⟩
  refine ⟨_,rfl,l,xs,ls,rfl,hl,hL,hlen,hW,fun wA H1 ys ts fw s1 ew wv tr=>?_⟩
  have good:=tr.good (WX hW) (Int.le_refl _)
  have tl:=tr.len (WX hW) (Int.le_refl _)
  have yl:=wv.len
  refine ⟨_,rfl,wA,rfl,⟨_,Zo.of ew⟩,YV (K:=K) (a:=wA) (xs:=ys) (Nat.le_of_lt (ZI (by lia))) (fun i zs G=>Zf H1 G/\zs=((ts.take i).map fun T=>(T.length:Int)).map V.int) ⟨Zf.refl _,rfl⟩
   (fun i zs G q=>by rw [q.2,List.length_map,List.length_map,List.length_take];lia) (fun i zs G q=>Zo.of (q.1 wA _ ew)) (fun i x zs G hx q=>?_) (fun zs G q D hD=>?_)⟩
  ·obtain ⟨sq,rfl⟩:=q
   obtain ⟨T,hT,a,g,rfl,ha,hg⟩:=wv.at' hx
   refine ⟨a,_,rfl,JH.of (sq _ _ ha),rfl,_,_,rfl,_,_,rfl,rfl,?_⟩
   dsimp only [Wn]
   rw [if_pos rfl]
   refine ⟨_,rfl,g,_,rfl,.inl (Zo.of (sq _ _ hg)),sq,?_⟩
   rw [List.length_map,Wz (ns:=ts) _ hT,List.map_append]
   rfl
  obtain ⟨sq,rfl⟩:=q
  rw [yl,List.take_of_length_le (Nat.le_refl _)]
  refine ⟨D,_,rfl,Zo.of Zb,?_⟩
  rw [Zjw hW tr]
  have s2:=(s1.trans sq).step (o:=.lst ((ts.map fun T=>(T.length:Int)).map V.int)) hD
  have s12:=sq.step (o:=.lst ((ts.map fun T=>(T.length:Int)).map V.int)) hD
  generalize upd G D (.lst ((ts.map fun T=>(T.length:Int)).map V.int))=H2 at *
  have ew2:=s12 _ _ ew
  refine ⟨_,rfl,rfl,_,rfl,?_⟩
  refine Y1 (fun c=>?_) (fun c=>?_)
  ·have e:sc=1:=V.int.inj (of_decide_eq_true c)
   refine ⟨(by show 1<=sizeLine;decide),fun l0 hl0=>⟨_,rfl,?_⟩⟩
   refine ⟨l0,_,_,rfl,rfl,Zb,by lia,by lia,(by show 1*_<=sizeLine;exact Nat.le_of_lt (ZI (by lia))),fun rA hrA=>?_⟩
   refine k _ _ ((s2.step hl0).step hrA) (.inl ⟨e,rA,rfl,(s2.step hl0).free hrA,?_⟩)
   rw [Zb,Int.toNat_natCast,ZjD]
  ·have e:sc≠1:=fun z=>c (decide_eq_true (congrArg V.int z))
   refine ⟨_,rfl,wA,_,rfl,.inl (Zo.of ew2),rfl,_,rfl,?_⟩
   by_cases len1:ts.length=1
   ·obtain ⟨T,rfl⟩:∃T,ts = [T]:=by
     cases ts with
     | nil=>simp at len1
     | cons T r=>
      cases r with
      | nil=>exact ⟨T,rfl⟩
      | cons _ _=>simp at len1
    have ly:((ys.length:Nat):Int)=1:=by rw [yl];rfl
    rw [ly]
    refine Zkw rfl ?_
    obtain ⟨T',hT',a,g,e1,ha,hg⟩:=wv.at' (i:=0) (x:=ys[0]'(by rw [yl];exact Nat.zero_lt_one)) (by simp [yl])
    have eT:T'=T:=by simpa using hT'.symm
    subst eT
    refine ⟨_,rfl,wA,_,_,_,rfl,rfl,Zo.of ew2,Zn (j:=0) (by simp [yl];rfl),?_⟩
    rw [e1]
    refine ⟨a,_,_,_,rfl,rfl,JH.of (s12 _ _ ha),Zn (j:=1) rfl,rfl,_,rfl,?_⟩
    by_cases t0:Zd1 (ZZ (JK ls)) T'=0
    ·have t0':Zet (fl (ZZ (JK ls)) T') / 2=0:=t0
     rw [t0']
     refine Zkw rfl ?_
     obtain ⟨L,o,hTl⟩:=ZlL hW tr t0
     have pf:∀x:Int,0<=x->x<(JL ls:Int)->x∈Zy (JK ls):=fun x x0 x1=>(WM hW).mem_iff.mpr (YE.mpr ⟨x0,x1⟩)
     obtain ⟨gg,hgg⟩:∃gg,gg=hgt (ZZ (JK ls)) T':=⟨_,rfl⟩
     refine ⟨_,rfl,l,xs,ls,rfl,s2 l _ hl,hL.same s2,hlen,hW,fun R H3 rys fR s3 eR rv ap ndr=>?_⟩
     have s03:=s2.trans s3
     refine fun dA hdA=>⟨Zb,[(Sum.inl 0,.int 1),(Sum.inl 1,.int 0)],rfl,by decide,?_⟩
     have hdH:H dA=none:=s03.free hdA
     have mk:Zar [] [((Sum.inl 0:Key),V.int 1),(Sum.inl 1,.int 0)] = [((Sum.inl 0:Key),V.int 1),(Sum.inl 1,.int 0)]:=by decide +kernel
     rw [mk,W9]
     obtain ⟨Hd,hHd⟩:∃Hd,Hd=upd H3 dA (.dK [((Sum.inl 0:Key),V.int 1),(Sum.inl 1,.int 0)]):=⟨_,rfl⟩
     rw [<- hHd]
     have sd:Zf H3 Hd:=by rw [hHd];exact Zf.laid hdA
     have dc0:Dc gg Hd dA 2 [((Sum.inl 0:Key),V.int 1),(Sum.inl 1,.int 0)]:=by
      refine ⟨by rw [hHd];exact Zb,by decide,fun x v e=>?_⟩
      by_cases x0:x=0
      ·subst x0
       rw [Yd rfl] at e
       cases e
       rw [hgg,o.h0]
      ·rw [Ye (fun z=>x0 (Sum.inl.inj z).symm)] at e
       by_cases x1:x=1
       ·subst x1
        rw [Yd rfl] at e
        cases e
        rw [hgg,o.h1]
       ·rw [Ye (fun z=>x1 (Sum.inl.inj z).symm)] at e
        cases e
     have hlH3:=s03 l _ hl
     have hL3:=hL.same s03
     have nld:l≠dA:=Zg hlH3 hdA
     have nRd:R≠dA:=Zg eR hdA
     have keepT:∀{G:Hp},Jo dA Hd G -> ∀c o,H3 c=some o->G c=some o:=fun fr c o e=>fr c o (sd c o e) (Zg e hdA)
     refine ⟨_,rfl,_,rfl,by lia,by lia,Ys (n:=((JL ls:Nat):Int).toNat) (fun r σ G=>∃(kvs:List (Key×V)) (v6 v7 v8 v9 v10 v11:Option V),σ = [some (.ref l),some (.int sc),some (.ref wA),some (.int (JL ls)),some (.ref R),some (.ref dA),v6,v7,v8,v9,v10,v11]/\Jo dA Hd G/\Dc gg G dA (2+r*200) kvs /\ ∀i x,i<=r->T'[i]? = some x->kn kvs x)
      ⟨_,none,none,none,none,none,none,rfl,Jo.refl _ _,dc0,fun i x hi hx=>?_⟩ ?_ ?_⟩
     ·have:i=0:=by lia
      subst this
      have:=o.at0 (j:=0) o.L1
      rw [show 2*0=0 from rfl,hx] at this
      have e0:x=0:=Option.some.inj this
      rw [e0]
      rfl
     ·rintro r σ G hr' ⟨kvs,v6,v7,v8,v9,v10,v11,rfl,fr,dc,kw⟩
      rw [Int.toNat_natCast] at hr'
      refine ⟨_,rfl,l,rfl,⟨_,Zo.of (keepT fr _ _ hlH3)⟩,Zbi (K:=K) (a:=l) (xs:=xs) (fun i σ G'=>∃(kv2:List (Key×V)) (v7 v8 v9 v10 v11:Option V),σ = [some (.ref l),some (.int sc),some (.ref wA),some (.int (JL ls)),some (.ref R),some (.ref dA),some (.int (0+(r:Int))),v7,v8,v9,v10,v11]/\Jo dA Hd G'/\Dc gg G' dA (2+r*200+i) kv2/\(∀x,kn kvs x->kn kv2 x) /\ ∀u w,(u,w)∈Y3 ls i->(kn kvs u∨kn kvs w)->kn kv2 u/\kn kv2 w)
       ⟨kvs,_,_,_,_,_,rfl,fr,dc,fun _ h=>h,fun u w h=>by unfold Y3 Ym at h;simp at h⟩ (fun i σ G' _ ⟨_,_,_,_,_,_,_,fr',_⟩=>Zo.of (keepT fr' _ _ hlH3)) ?_ ?_⟩
      ·rintro i x p σ G1 hx ⟨kv2,v7,v8,v9,v10,v11,rfl,fr1,dc1,mono1,pe1⟩ hp
       obtain ⟨⟨qx,qk⟩,ta,hq,rfl,hta⟩:=hL3.get hx
       have hi:i<ls.length:=(List.getElem?_eq_some_iff.mp hq).1
       obtain ⟨G0,hG0⟩:∃G0,G0=upd G1 p (.tup [.int i,.ref ta]):=⟨_,rfl⟩
       have npd:dA≠p:=Zg dc1.at_ hp
       have fr0:Jo dA Hd G0:=by rw [hG0];exact fr1.new hp
       have dc0':Dc gg G0 dA (2+r*200+i) kv2:=⟨by rw [hG0,Zi npd];exact dc1.at_,dc1.le,dc1.ok⟩
       have hta':=keepT fr0 _ _ hta
       have kk:isK ls GC i=GC qx:=by
        unfold isK
        rw [hq]
        cases h:GC qx<;>simp [h]
       refine ⟨p,_,rfl,JH.of Zb,rfl,_,_,rfl,_,_,rfl,rfl,?_⟩
       rw [<- hG0]
       refine ⟨_,rfl,ta,_,_,_,rfl,rfl,JH.of hta',Zn (j:=0) rfl,rfl,_,rfl,?_⟩
       refine Y1 (fun hc=>?_) (fun hc=>?_)
       ·have e:qx = "end" := V.str.inj (of_decide_eq_true hc)
        subst e
        obtain ⟨k0,k1,pe⟩:=Zco hW hq (fun z=>nb2 z)
        obtain ⟨kn',rfl⟩:=Int.eq_ofNat_of_zero_le (show 0<=qk from k0)
        simp only [Int.toNat_natCast] at k1 pe
        obtain ⟨ra,hra,hrr⟩:=rv.at (Um ls (i:=i) (n:=ls.length+1) (by lia))
        have ei:isK ls GC i=true:=by rw [kk];unfold GC;simp
        have pin:Y9 ls i∈JK ls:=List.mem_map.mpr ⟨(i:Int),by
         unfold Ym
         exact List.mem_filterMap.mpr ⟨i,List.mem_range.mpr hi,by rw [if_pos ei]⟩,by simp⟩
        have es:Y3 ls (i+1)=Y3 ls i ++ [Y9 ls i]:=by rw [J0,if_pos ei]
        obtain ⟨u,hu⟩:∃u,u=(rowAt ls i).getD kn' 0:=⟨_,rfl⟩
        obtain ⟨w',hw⟩:∃w',w'=(rowAt ls i).getD (kn'+1) 0:=⟨_,rfl⟩
        rw [<- hu,<- hw] at pe
        rw [pe] at pin es
        refine ⟨_,rfl,_,rfl,R,_,_,_,rfl,rfl,Zo.of (keepT fr0 R _ eR),Zn hra,_,rfl,ta,_,_,_,rfl,rfl,JH.of hta',Zn (j:=1) rfl,_,rfl,_,rfl,ta,_,_,_,rfl,rfl,JH.of hta',Zn (j:=1) rfl,_,_,rfl,rfl,_,rfl,ra,_,rfl,Zo.of (keepT fr0 ra _ hrr),fun cA hcA=>?_⟩
        rw [Zdp k1,<- hu,<- hw]
        refine ⟨cA,_,rfl,Zo.of Zb,rfl,_,_,rfl,_,_,rfl,rfl,?_⟩
        have ncd:dA≠cA:=Zg dc0'.at_ hcA
        have fr2:Jo dA Hd (upd G0 cA (.lst [.int u,.int w'])):=fr0.new hcA
        have dc2:Dc gg (upd G0 cA (.lst [.int u,.int w'])) dA (2+r*200+i) kv2:=⟨by rw [Zi ncd];exact dc0'.at_,dc0'.le,dc0'.ok⟩
        have ud:0<=u/\u<(JL ls:Int):=YE.mp ((WM hW).mem_iff.mp (List.mem_flatMap.mpr ⟨(u,w'),pin,by simp⟩))
        show ZgN (tB (Zhx (Zdy 9) (Zdy 5))) _ _ _ _ _
        refine ZcC (g:=gg) (u:=u) (l:=w') (d:=dA) (fun H Q q=>⟨_,rfl,q⟩) (fun H Q q=>⟨_,rfl,q⟩) (fun H Q q=>⟨_,rfl,q⟩) dc2 (by lia) (by rw [hgg];exact o.ends pin ud) fun H' kv3 frx dcx mx px=>?_
        refine ⟨kv3,_,_,_,_,_,rfl,fr2.trans frx,dcx,fun x h=>mx x (mono1 x h),fun u2 w2 h h2=>?_⟩
        rw [es] at h
        rcases List.mem_append.mp h with h | h
        ·obtain ⟨a1,a2⟩:=pe1 u2 w2 h h2
         exact ⟨mx _ a1,mx _ a2⟩
        ·have:=List.mem_singleton.mp h
         cases this
         exact px (h2.elim (fun z=>.inl (mono1 _ z)) (fun z=>.inr (mono1 _ z)))
       ·have e:¬qx = "end" := fun z=>hc (decide_eq_true (congrArg V.str z))
        have ei:isK ls GC i=false:=by rw [kk];unfold GC;simp [e]
        have es:Y3 ls (i+1)=Y3 ls i:=by rw [J0,ei];simp
        refine ⟨kv2,_,_,_,_,_,rfl,fr0,⟨dc0'.at_,by have:=dc0'.le;lia,dc0'.ok⟩,mono1,?_⟩
        rw [es]
        exact pe1
      ·rintro σ G1 ⟨kv2,v7,v8,v9,v10,v11,rfl,fr1,dc1,mono1,pe1⟩
       have ev2':∃hN:Nat,JL ls=2*hN:=⟨(JK ls).length,rfl⟩
       obtain ⟨hN,hN2⟩:=ev2'
       refine ⟨_,rfl,hN,?_,by lia,Zfl (lo:=0) (n:=hN) (fun j σ G'=>∃(kv3:List (Key×V)) (v11:Option V),σ = [some (.ref l),some (.int sc),some (.ref wA),some (.int (JL ls)),some (.ref R),some (.ref dA),some (.int (0+(r:Int))),v7,v8,v9,v10,v11]/\Jo dA Hd G'/\Dc gg G' dA (2+r*200+60+j) kv3/\(∀x,kn kv2 x->kn kv3 x) /\ ∀q:Nat,q<j->(kn kv2 (2*q)∨kn kv2 (2*q+1))->kn kv3 (2*q)/\kn kv3 (2*q+1))
        ⟨kv2,_,rfl,fr1,⟨dc1.at_,by have:=dc1.le;lia,dc1.ok⟩,fun _ h=>h,fun q h=>by lia⟩ ?_ ?_⟩
       ·rw [hN2];simp
       ·rintro j σ G2 hj ⟨kv3,v11',rfl,fr2,dc2,mono2,pb2⟩
        have ej:(0:Int)+(j:Int)*2=2*(j:Int):=by lia
        rw [ej]
        show ZgN (tB (Zhx (Zdy 11) (Zdy 5))) _ _ _ _ _
        refine ZcC (g:=gg) (u:=2*(j:Int)) (l:=2*(j:Int)+1) (d:=dA) (fun H Q q=>⟨_,rfl,q⟩) (fun H Q q=>⟨_,rfl,_,_,rfl,rfl,q⟩) (fun H Q q=>⟨_,rfl,q⟩) dc2 (by lia) (by rw [hgg];exact o.Ze8 (by lia) (by lia) (by lia)) fun H' kv4 frx dcx mx px=>?_
        refine ⟨kv4,_,rfl,fr2.trans frx,dcx,fun x h=>mx x (mono2 x h),fun q hq h=>?_⟩
        by_cases c:q<j
        ·obtain ⟨a1,a2⟩:=pb2 q c h
         exact ⟨mx _ a1,mx _ a2⟩
        ·have:q=j:=by lia
         subst this
         exact px (h.elim (fun z=>.inl (mono2 _ z)) (fun z=>.inr (mono2 _ z)))
       ·rintro σ G2 ⟨kv3,v11',rfl,fr2,dc2,mono2,pb2⟩
        refine ⟨kv3,_,_,_,_,_,_,rfl,fr2,⟨dc2.at_,by have:=dc2.le;lia,dc2.ok⟩,?_⟩
        refine o.grow pf mono1 mono2 (fun u w' h h2=>?_) (fun j hj h=>pb2 j (by lia) h) kw
        refine pe1 u w' ?_ h2
        rw [hxl]
        exact h
     ·rintro σ G ⟨kvs,v6,v7,v8,v9,v10,v11,rfl,fr,dc,kw⟩
      rw [Int.toNat_natCast] at kw
      have all:∀x:Int,0<=x->x<(JL ls:Int)->kn kvs x:=fun x x0 x1=>by
       obtain ⟨i,hi,e⟩:=List.mem_iff_getElem.mp (o.all x x0 x1)
       exact kw i x (by lia) (by simp [hi,e])
      refine ⟨_,rfl,_,rfl,by lia,by lia,Zb7 (lo:=0) (n:=((JL ls:Nat):Int).toNat) (Nat.le_of_lt (ZI (by lia))) (fun i zs G'=>Zf G G'/\zs=(List.range i).map fun (x:Nat)=>V.int (gg (x:Int))) ⟨Zf.refl _,rfl⟩
       (fun i zs G' q=>by rw [q.2];simp) (fun i zs G' hi q=>?_) (fun zs G' q D hD=>?_)⟩
      ·obtain ⟨sq',rfl⟩:=q
       refine lcG ?_
       have kx:=all (i:Int) (by lia) (by lia)
       have dg:=WG.k (k:=Sum.inl (0+(i:Int))) (sq' _ _ dc.at_)
       rw [show (0:Int)+(i:Int)=(i:Int) by lia,dc.val kx] at dg
       refine ⟨_,rfl,_,rfl,dA,.int (gg (i:Int)),rfl,?_,sq',?_⟩
       ·rw [show (0:Int)+(i:Int)=(i:Int) by lia];exact dg
       ·rw [List.range_succ,List.map_append];rfl
      ·obtain ⟨sq',rfl⟩:=q
       have sf:Zf H (upd G' D (.lst ((List.range ((JL ls:Nat):Int).toNat).map fun (x:Nat)=>V.int (gg (x:Int))))):=fun c u e=>(sq'.step hD) c u (keepT fr c u (s03 c u e))
       refine k _ _ sf (.inr ⟨e,_,tr,.inr ⟨D,T',L,rfl,t0,o,rfl,?_,?_⟩⟩)
       ·cases z:H D with
        | none=>rfl
        | some u=>
         have:=(sq' _ _ (keepT fr _ _ (s03 _ _ z)))
         rw [hD] at this
         cases this
       ·rw [Zb,Int.toNat_natCast,hgg]
        rfl
    ·have t1:¬Zet (fl (ZZ (JK ls)) T') / 2=0:=t0
     refine Y1 (fun _=>?_) (fun hc=>absurd ?_ hc)
     ·exact k .non H2 s2 (.inr ⟨e,_,tr,.inl ⟨by simpa using t0,rfl⟩⟩)
     ·show (!decide (V.int (Zet (fl (ZZ (JK ls)) T') / 2)=V.int 0))=true
      rw [decide_eq_false (fun z=>t1 (V.int.inj z))]
      rfl
   ·refine Y1 (fun _=>?_) (fun hc=>absurd ?_ hc)
    ·refine GA (k .non H2 s2 (.inr ⟨e,_,tr,.inl ⟨fun z=>len1 ?_,rfl⟩⟩))
     have:=congrArg List.length z
     simpa using this
    ·show (!decide (V.int (ys.length:Int)=V.int 1))=true
     rw [decide_eq_false (fun z=>len1 (by have:=V.int.inj z;lia))]
     rfl
theorem Zkv {ls:List (Str×Int)} (hW:Wk ls 0):∀d i,i+d<=ls.length->(rb (ls.take i)).2<=(rb (ls.take (i+d))).2
 | 0,i,_=>Int.le_refl _
 | d+1,i,h=>by
  refine Int.le_trans (Zkv hW d i (by lia)) ?_
  have hq:ls[i+d]? = some ls[i+d]:=by simp [show i+d<ls.length by lia]
  obtain ⟨tk,c⟩:=ZdQ hW hq
  show _<=(rb (ls.take (i+d+1))).2
  rw [tk,YS]
  generalize hp:ls[i+d]=p at c
  obtain ⟨px,pk⟩:=p
  rcases c with ⟨e,_⟩ | ⟨e,_⟩ | ⟨e,_⟩
  ·have e:px = "born" := e
   subst e
   rw [J3]
   show _<=(rb (ls.take (i+d))).2+2
   lia
  ·have e:px = "cross" := e
   subst e
   rw [Jt]
   exact Int.le_refl _
  ·have e:px = "end" := e
   subst e
   rw [W5]
   exact Int.le_refl _
theorem Zba {ls:List (Str×Int)} (hW:Wk ls 0) {t:Nat} (ht:t<=ls.length) {x:Int} (hx:x∈rowAt ls t):0<=x/\x<(JL ls:Int):=by
 obtain ⟨h0,h1,h2⟩:=Uk hW t ht
 have a:=YE.mp (h2.mem_iff.mp (List.mem_append_left _ hx))
 obtain ⟨g0,g1,g2⟩:=Uk hW ls.length (Nat.le_refl _)
 have e:rowAt ls ls.length = []:=by
  unfold rowAt
  rw [List.take_of_length_le (Nat.le_refl _)]
  have:=GD hW
  exact List.length_eq_zero_iff.mp (by lia)
 rw [e,List.nil_append] at g2
 have hl:=g2.length_eq
 rw [WJ,WR] at hl
 have le:=Zkv hW (ls.length-t) t (by lia)
 rw [show t+(ls.length-t)=ls.length by lia] at le
 have hn:JL ls=(rb (ls.take ls.length)).2.toNat:=hl
 rw [hn]
 lia
theorem Zih {ls:List (Str×Int)} (hW:Wk ls 0) {t:Nat}{q:Str×Int} (hq:ls[t]? = some q) (hb:q.1 ≠ "born"):(0<=(Y9 ls t).1/\(Y9 ls t).1<(JL ls:Int))/\(0<=(Y9 ls t).2/\(Y9 ls t).2<(JL ls:Int)):=by
 obtain ⟨k0,k1,pe⟩:=Zco hW hq hb
 have ht:t<ls.length:=(List.getElem?_eq_some_iff.mp hq).1
 rw [pe]
 refine ⟨Zba hW (Nat.le_of_lt ht) ?_,Zba hW (Nat.le_of_lt ht) ?_⟩
 ·show (rowAt ls t).getD q.2.toNat 0∈_
  rw [show (rowAt ls t).getD q.2.toNat 0=(rowAt ls t)[q.2.toNat]'(by lia) by simp [show q.2.toNat<(rowAt ls t).length by lia]]
  exact List.getElem_mem _
 ·show (rowAt ls t).getD (q.2.toNat+1) 0∈_
  rw [show (rowAt ls t).getD (q.2.toNat+1) 0=(rowAt ls t)[q.2.toNat+1]'k1 by simp [k1]]
  exact List.getElem_mem _
theorem Za9 {ls:List (Str×Int)}{i:Nat}{q:Str×Int} (hq:ls[i]? = some q) {pr:Str->Bool}:isK ls pr i=pr q.1:=by
 unfold isK
 rw [hq]
 cases h:pr q.1<;>simp [h]
abbrev isN:Str->Bool:=fun x=>!decide (x = "born")
def HG (sc:Int) (ls:List (Str×Int)) (g:Int->Int):Prop:=(sc=1/\g=fun _=>0)∨(sc≠1 /\ ∃T L,Ul (Je (JK ls)) (JL ls) [T]/\Zd1 (ZZ (JK ls)) T=0/\One (JK ls) (JL ls) T L/\g=hgt (ZZ (JK ls)) T)
theorem HG.uniq {sc:Int}{ls:List (Str×Int)}{g g':Int->Int} (a:HG sc ls g) (b:HG sc ls g'):g=g':=by
 rcases a with ⟨e,rfl⟩ | ⟨ne,T,L,tr,_,_,rfl⟩
 ·rcases b with ⟨_,rfl⟩ | ⟨ne,_⟩
  ·rfl
  ·exact absurd e ne
 ·rcases b with ⟨e,_⟩ | ⟨_,T',L',tr',_,_,rfl⟩
  ·exact absurd e ne
  ·have:=tr.uniq tr'
   cases this
   rfl
def dfs (g:Int->Int) (ls:List (Str×Int)) (ns:List Int):List Int:=ns.map fun t=>g (Y9 ls t.toNat).1-g (Y9 ls t.toNat).2
def lnV (sc:Int) (ls:List (Str×Int)) (H H':Hp) (v:V):Prop:=(∃p g,HG sc ls g/\v = .ref p/\H p=none/\H' p=some (.lst ((dfs g ls (Ym ls isN ls.length)).map V.int)))∨(v = .non/\sc≠1 /\ ∃ts,Ul (Je (JK ls)) (JL ls) ts/\ts.map (Zd1 (ZZ (JK ls))) ≠ [0])
def ZhS:Sp:=fun vs H Q _=>∃(l:Addr) (sc:Int) (xs:List V) (ls:List (Str×Int)),vs = [.ref l,.int sc]/\(sc=0∨sc=1)/\H l=some (.lst xs)/\ZD H xs ls/\ls.length<=60/\Wk ls 0 /\
 ∀(v:V) (H':Hp),Zf H H'->lnV sc ls H H' v->Q v H'
theorem ZdS {sc:Int}{ls:List (Str×Int)}{H H':Hp}{v:V} (h:lhV sc ls H H' v):(∃p g,HG sc ls g/\v = .ref p/\H p=none/\H' p=some (.lst ((tab (JL ls) g).map V.int)))∨(v = .non/\sc≠1 /\ ∃ts,Ul (Je (JK ls)) (JL ls) ts/\ts.map (Zd1 (ZZ (JK ls))) ≠ [0]):=by
 rcases h with ⟨e,p,rfl,fp,ep⟩ | ⟨ne,ts,tr,⟨z,rfl⟩ | ⟨p,T,L,rfl,t0,o,rfl,fp,ep⟩⟩
 ·exact .inl ⟨p,fun _=>0,.inl ⟨e,rfl⟩,rfl,fp,by rw [ep,ZfW]⟩
 ·exact .inr ⟨rfl,ne,ts,tr,z⟩
 ·exact .inl ⟨p,hgt (ZZ (JK ls)) T,.inr ⟨ne,T,L,tr,t0,o,rfl⟩,rfl,fp,by rw [ep,ZfW]⟩
theorem HG.atEnd {sc:Int}{ls:List (Str×Int)}{g:Int->Int} (h:HG sc ls g) (hsc:sc=0∨sc=1) (hW:Wk ls 0) {i:Nat}{q:Str×Int} (hq:ls[i]? = some q) (he:q.1 = "end"):g (Y9 ls i).1-g (Y9 ls i).2=1-sc:=by
 rcases h with ⟨e,rfl⟩ | ⟨ne,T,L,_,_,o,rfl⟩
 ·rw [e];rfl
 ·have s0:sc=0:=hsc.elim id fun z=>absurd z ne
  have hi:i<ls.length:=(List.getElem?_eq_some_iff.mp hq).1
  have mem:Y9 ls i∈JK ls:=by
   unfold JK Y3
   refine List.mem_map.mpr ⟨(i:Int),?_,by simp⟩
   unfold Ym
   refine List.mem_filterMap.mpr ⟨i,List.mem_range.mpr hi,?_⟩
   rw [Za9 hq,if_pos]
   rw [he]
   unfold GC
   simp
  have dm:=Zih hW hq (fun z=>by rw [z] at he;exact absurd he (by decide +kernel))
  have:=o.ends (u:=(Y9 ls i).1) (l:=(Y9 ls i).2) mem dm.1
  rw [s0,this]
  lia
theorem Zd3 {g:Int->Int}{ls:List (Str×Int)}{i:Nat}{q:Str×Int} (hq:ls[i]? = some q) (hb:q.1 ≠ "born"):(dfs g ls (Ym ls isN i)).map V.int ++ [V.int (g (Y9 ls i).1-g (Y9 ls i).2)]=(dfs g ls (Ym ls isN (i+1))).map V.int:=by
 have kk:=Za9 hq (pr:=isN)
 rw [Jc,kk,if_pos (by simpa using hb)]
 unfold dfs
 simp
theorem ZiA {g:Int->Int}{ls:List (Str×Int)}{i:Nat}{q:Str×Int} (hq:ls[i]? = some q) (hb:q.1 = "born"):dfs g ls (Ym ls isN i)=dfs g ls (Ym ls isN (i+1)):=by
 have kk:=Za9 hq (pr:=isN)
 rw [Jc,kk,if_neg (by simp [hb]),List.append_nil]
abbrev Y4:Stmt:=top 31
theorem ZG:ZF ["_law_drawing_here", "_law_scale", "_law_known", "_law_rows_here", "_law_found", "_law_t", "_law_letter", "_law_one", "_law_other"] ["_law_drawing_here", "_law_scale"] (Zl Y4):={}
theorem Zlx {f:Addr}{fd:FuncData} (F:Y8 K "_law_name_heights" "_law_name_heights" Y4 f fd) (Yv:JV P w K mg base 3 "_law_heights" ["_law_drawing_here", "_law_scale"] Zjj) (ZV:JV P w K mg base 1 "_law_rows" ["_law_drawing_here"] Zao)
  (ZA:mg "enumerate" = none):Yj P w K mg base GV 4 f fd ["_law_drawing_here", "_law_scale"] ZhS:=by
 refine F.ok ZG (fun vs H Q E h=>?_) (fun cdv A outer s H vs Q E hr h=>?_)
 ·obtain ⟨l,sc,xs,ls,rfl,_⟩:=h
  rfl
 ·obtain ⟨l,sc,xs,ls,rfl,hsc,hl,hL,hlen,hW,k⟩:=h
  have n120:=ZcG hlen
  have hxl:=hL.len
  refine ⟨_,(Zd (Zr (i:=2) ZG.nd rfl (Or.inl rfl) (Zz Yv hr (Za (pv 0) (Za (pv 1) Zc))))
   (Zd (Yh (Zw Zie (pv 2) Zdo (ZM _)) (Zh (ZJ Zdo)) ZX)
   (Zd (Zr (i:=3) ZG.nd rfl (Or.inl rfl) (Zz ZV hr (Za (pv 0) Zc)))
   (Zd (Zr (i:=4) ZG.nd rfl (Or.inl rfl) (Z5 Zc))
   (Zd (Z3 PassesOwn.never rfl (WN (K:=K) rfl (by rfl) ZA (Za (pv 0) Zc)) (Yq (K:=K) (n:=2) rfl rfl (Zq (Zj (i:=5) ZG.nd rfl (Or.inl rfl)) (Zq (Zj (i:=6) ZG.nd rfl (Or.inl rfl)) Z7))) (Zh (Yh (Zw J7 (Zp (YH (K:=K) rfl) (pv 6) Ze (fun _ _=>rfl)) Z4 (ZM _)) (Zd (Z6 (YR (YN (K:=K) rfl) (Zp (Zk (K:=K) rfl) (pv 3) (pv 5) (fun _ _=>rfl)) (Yf (Zp (YH (K:=K) rfl) (pv 6) Ze (fun _ _=>rfl))) (Yf (Zm Zv (Zp (YH (K:=K) rfl) (pv 6) Ze (fun _ _=>rfl)) Ze))) (Zda (K:=K) (n:=2) rfl rfl (Zq (Zj (i:=7) ZG.nd rfl (Or.inl rfl)) (Zq (Zj (i:=8) ZG.nd rfl (Or.inl rfl)) Z7))))
   (Zh (Z1 (YO (K:=K) rfl (Jz PySem.F.plainAttrs_list PySem.F.slot_list_append PySem.F.type_list_append Yt (pv 4) (Za (Zm Yx (Zp (Zk (K:=K) rfl) (pv 2) (pv 7) (fun _ _=>rfl)) (Zp (Zk (K:=K) rfl) (pv 2) (pv 8) (fun _ _=>rfl))) Zc)))))) (Zh (Yh (Zw J7 (Zp (YH (K:=K) rfl) (pv 6) Ze (fun _ _=>rfl)) Z4 (ZM _)) (Zh (Z1 (YO (K:=K) rfl (Jz PySem.F.plainAttrs_list PySem.F.slot_list_append PySem.F.type_list_append Yt (pv 4) (Za (Zm Yx Ze (pv 1)) Zc))))) ZX)))))
   (Zh (ZJ (pv 4)))))))),?_⟩
  refine ⟨_,rfl,_,rfl,l,sc,xs,ls,rfl,hl,hL,hlen,hW,fun v H1 s1 lv=>?_⟩
  rcases ZdS lv with ⟨p,g,hg,rfl,fp,ep⟩ | ⟨rfl,ne,hts⟩
  rotate_left
  ·refine ⟨_,rfl,rfl,_,rfl,GA ?_⟩
   exact k _ H1 s1 (.inr ⟨rfl,ne,hts⟩)
  refine ⟨_,rfl,rfl,_,rfl,ZgX ?_⟩
  refine ⟨_,rfl,l,xs,ls,rfl,s1 l _ hl,hL.same s1,hlen,hW,fun R H2 ys fR s2 eR rv ap ndr=>?_⟩
  refine ⟨(by show 0<=sizeLine;decide),fun fA hfA=>?_⟩
  have s12:=s1.trans s2
  have s3:Zf H2 (upd H2 fA (.lst [])):=Zf.laid hfA
  have e3:(upd H2 fA (.lst [])) fA=some (.lst []):=Zb
  have fH:H fA=none:=s12.free hfA
  generalize upd H2 fA (.lst [])=H3 at *
  have hl2:=s12 _ _ hl
  have hL2:=hL.same s12
  refine ⟨_,rfl,l,rfl,⟨_,Zo.of (s3 _ _ hl2)⟩,Zbi (K:=K) (a:=l) (xs:=xs) (fun i σ G=>∃(v5 v6 v7 v8:Option V),σ = [some (.ref l),some (.int sc),some (.ref p),some (.ref R),some (.ref fA),v5,v6,v7,v8]/\Zf H2 G/\G fA=some (.lst ((dfs g ls (Ym ls isN i)).map V.int)))
   ⟨none,none,none,none,rfl,s3,e3⟩ (fun i σ G _ ⟨_,_,_,_,_,sm,_⟩=>Zo.of (sm l _ hl2)) ?_ ?_⟩
  ·rintro i x pa σ G hx ⟨v5,v6,v7,v8,rfl,sm,eF⟩ hp
   obtain ⟨⟨qx,qk⟩,ta,hq,rfl,hta⟩:=hL2.get hx
   have hi:i<ls.length:=(List.getElem?_eq_some_iff.mp hq).1
   have sp:Zf G (upd G pa (.tup [.int i,.ref ta])):=Zf.laid hp
   have epa:(upd G pa (.tup [.int i,.ref ta])) pa=some (.tup [.int i,.ref ta]):=Zb
   generalize upd G pa (.tup [.int i,.ref ta])=G0 at *
   have sg0:=sm.trans sp
   have eF0:=sp _ _ eF
   have hta':=sg0 ta _ hta
   have short:((dfs g ls (Ym ls isN i)).map V.int).length<sizeLine:=by
    rw [List.length_map]
    unfold dfs
    rw [List.length_map]
    have:=Wc ls isN i
    exact ZI (by lia)
   refine ⟨pa,_,rfl,JH.of epa,rfl,_,_,rfl,_,_,rfl,rfl,?_⟩
   refine ⟨_,rfl,ta,_,_,_,rfl,rfl,JH.of hta',Zn (j:=0) rfl,rfl,_,rfl,?_⟩
   refine Y1 (fun hc=>?_) (fun hc=>?_)
   ·have e:qx = "cross" := V.str.inj (of_decide_eq_true hc)
    subst e
    have nb:(("cross" : Str),qk).1 ≠ "born" := show ("cross" : Str) ≠ "born" by decide +kernel
    obtain ⟨k0,k1,pe⟩:=Zco hW hq nb
    have dm:=Zih hW hq nb
    have sn:=Zd3 (g:=g) hq nb
    obtain ⟨kn,rfl⟩:=Int.eq_ofNat_of_zero_le (show 0<=qk from k0)
    simp only [Int.toNat_natCast] at k1 pe
    obtain ⟨ra,hra,hrr⟩:=rv.at (Um ls (i:=i) (n:=ls.length+1) (by lia))
    obtain ⟨u,hu⟩:∃u,u=(rowAt ls i).getD kn 0:=⟨_,rfl⟩
    obtain ⟨w',hw⟩:∃w',w'=(rowAt ls i).getD (kn+1) 0:=⟨_,rfl⟩
    rw [<- hu,<- hw] at pe
    rw [pe] at dm sn
    refine ⟨_,rfl,_,rfl,R,_,_,_,rfl,rfl,Zo.of (sg0 R _ eR),Zn hra,_,rfl,ta,_,_,_,rfl,rfl,JH.of hta',Zn (j:=1) rfl,_,rfl,_,rfl,ta,_,_,_,rfl,rfl,JH.of hta',Zn (j:=1) rfl,_,_,rfl,rfl,_,rfl,ra,_,rfl,Zo.of (sg0 ra _ hrr),fun cA hcA=>?_⟩
    rw [Zdp k1,<- hu,<- hw]
    have s4:Zf G0 (upd G0 cA (.lst [.int u,.int w'])):=Zf.laid hcA
    have e4:(upd G0 cA (.lst [.int u,.int w'])) cA=some (.lst [.int u,.int w']):=Zb
    generalize upd G0 cA (.lst [.int u,.int w'])=G1 at *
    refine ⟨cA,_,rfl,Zo.of e4,rfl,_,_,rfl,_,_,rfl,rfl,?_⟩
    have ep1:=s4 _ _ (sg0 _ _ (s2 _ _ ep))
    have eF1:=s4 _ _ eF0
    refine ⟨_,rfl,.inl ⟨rfl,_,Zo.of eF1⟩,_,rfl,_,rfl,p,_,_,_,rfl,rfl,Zo.of ep1,Zf0 g dm.1.1 dm.1.2,_,rfl,_,rfl,p,_,_,_,rfl,rfl,Zo.of ep1,Zf0 g dm.2.1 dm.2.2,_,_,rfl,rfl,fA,_,_,rfl,rfl,eF1,short,?_⟩
    refine ⟨_,_,_,_,rfl,(sg0.trans s4).put hfA,?_⟩
    rw [Zb,sn]
   ·have nc:¬qx = "cross" := fun z=>hc (decide_eq_true (congrArg V.str z))
    refine ⟨_,rfl,ta,_,_,_,rfl,rfl,JH.of hta',Zn (j:=0) rfl,rfl,_,rfl,?_⟩
    refine Y1 (fun hc2=>?_) (fun hc2=>?_)
    ·have e:qx = "end" := V.str.inj (of_decide_eq_true hc2)
     subst e
     have nb:(("end" : Str),qk).1 ≠ "born" := show ("end" : Str) ≠ "born" by decide +kernel
     have sn:=Zd3 (g:=g) hq nb
     rw [hg.atEnd hsc hW hq rfl] at sn
     refine ⟨_,rfl,.inl ⟨rfl,_,Zo.of eF0⟩,_,rfl,_,_,rfl,rfl,fA,_,_,rfl,rfl,eF0,short,?_⟩
     refine ⟨_,_,_,_,rfl,sg0.put hfA,?_⟩
     rw [Zb,sn]
    ·have ne2:¬qx = "end" := fun z=>hc2 (decide_eq_true (congrArg V.str z))
     have b:qx = "born" := by
      rcases hW.kd _ (List.mem_of_getElem? hq) with z | z | z
      ·exact z
      ·exact absurd z nc
      ·exact absurd z ne2
     refine ⟨_,_,_,_,rfl,sg0,?_⟩
     rw [eF0,ZiA hq b]
  ·rintro σ G ⟨v5,v6,v7,v8,rfl,sm,eF⟩
   rw [hxl] at eF
   exact ⟨_,rfl,k _ G (s12.trans sm) (.inl ⟨fA,g,hg,rfl,fH,eF⟩)⟩
theorem take_snoc {α:Type}{l:List α}{j:Nat}{x:α} (h:l[j]? = some x):l.take (j+1)=l.take j ++ [x]:=by rw [List.take_add_one,h];rfl
def ZfH:Sp:=fun vs H Q _=>∃(d l:Addr) (L ws:WS),vs = [.ref d,.ref l]/\DOd H d L/\WL H l ws/\L.length+ws.length<=2000000 /\ ∀H',Jo d H H'->DOd H' d (L++ws)->Q .non H'
abbrev Zg7:Stmt:=top 11
theorem ZhF:ZF ["odd", "words", "word"] ["odd", "words"] (Zl Zg7):={}
theorem Zle {f:Addr}{fd:FuncData} (F:Y8 K "put" "put" Zg7 f fd):Yj P w K mg base GV 1 f fd ["odd", "words"] ZfH:=by
 refine F.ok ZhF (fun vs H Q E h=>?_) (fun cdv A outer s H vs Q E hr h=>?_)
 ·obtain ⟨d,l,L,ws,rfl,_⟩:=h
  rfl
 ·obtain ⟨d,l,L,ws,rfl,hd,hl,hz,k⟩:=h
  refine ⟨_,(Zh (Z3 PassesOwn.never rfl (ZT (K:=K) rfl (pv 1)) (Zj (i:=2) ZhF.nd rfl (Or.inl rfl)) (Zh (Yh (Zbt (ZbF (Y0 hr) (pv 2) (pv 0))) (Zh (ZhT (Y0 hr) (pv 0) (pv 2))) (Zh (Z6 ZaR (YG (pv 0) (pv 2) (set_dict (Y0 hr))))))))),?_⟩
  obtain ⟨xs,el,hw⟩:=id hl
  have hdl:l≠d:=fun z=>by
   obtain ⟨_,_,e,_⟩:=hd
   rw [z,e] at el;cases el
  have lx:=Words.len hw
  refine ⟨_,rfl,l,rfl,⟨_,Zo.of el⟩,Wh (K:=K) (a:=l) (xs:=xs) (fun j σ G=>∃v2:Option V,σ = [some (.ref d),some (.ref l),v2]/\Jo d H G/\DOd G d (L++ws.take j)) ⟨none,rfl,Jo.refl _ _,by simpa using hd⟩ (fun j σ G _ ⟨_,_,fr,_⟩=>Zo.of (fr l _ el hdl)) ?_ ?_⟩
  ·rintro j x σ G hx ⟨v2,rfl,fr,dg⟩
   obtain ⟨w,hj,p,rfl,hp⟩:=Words.get hw hx
   have ep:G p=some (.tup ((kW w).map kV)):=by rw [ZmL];exact hd.tups fr p _ hp
   obtain ⟨kvs,ks,ed,ek,ok⟩:=dg
   have hlen:=ok.len
   have lk:kvs.length=ks.length:=by simpa using congrArg List.length ek
   rw [List.length_append,List.length_take] at hlen
   refine ⟨_,rfl,_,rfl,d,_,rfl,WG.t ed ep,_,rfl,Y1 (fun hp=>?_) (fun hp=>?_)⟩
   ·refine ⟨_,rfl,_,rfl,d,kvs,kW w,p,rfl,ed,rfl,ep,hp,?_⟩
    refine ⟨_,rfl,fr.trans Jo.upd,_,_,Zb,ZcB ek,?_⟩
    rw [take_snoc hj,<- List.append_assoc]
    exact Zhq ok ((Zdf ek).mp hp)
   ·have nk:w∉ks:=fun z=>hp ((Zdf ek).mpr z)
    refine ⟨_,rfl,_,rfl,d,_,rfl,ZbX.t ed ep (by rw [sizeLine_eq];lia),?_⟩
    refine ⟨_,rfl,fr.trans Jo.upd,_,_,Zb,ZhD ek nk,?_⟩
    rw [take_snoc hj,<- List.append_assoc]
    exact ZjH ok nk
  ·rintro σ G ⟨v2,rfl,fr,dg⟩
   refine k G fr ?_
   rwa [List.take_of_length_le (by lia)] at dg
def Zbm:Sp:=fun vs H Q _=>∃(a b:Addr) (L M:WS),vs = [.ref a,.ref b]/\WL H a L/\WL H b M/\L.length+M.length<=2000000 /\ ∀(p:Addr) (H':Hp) (r:WS),H p=none->Zf H H'->WL H' p r->JB (L++M) r->Q (.ref p) H'
abbrev Zdu:Stmt:=top 12
theorem Zen:ZF ["one", "other", "odd"] ["one", "other"] (Zl Zdu):={}
theorem Zhs {f:Addr}{fd:FuncData} (F:Y8 K "added" "added" Zdu f fd) (Zbs:JV P w K mg base 1 "put" ["odd", "words"] ZfH) (Ji:mg "sorted" = none):Yj P w K mg base GV 2 f fd ["one", "other"] Zbm:=by
 refine F.ok Zen (fun vs H Q E h=>?_) (fun cdv A outer s H vs Q E hr h=>?_)
 ·obtain ⟨a,b,L,M,rfl,_⟩:=h
  rfl
 ·obtain ⟨a,b,L,M,rfl,ha,hb,hz,k⟩:=h
  refine ⟨_,(Zd (Zr (i:=2) Zen.nd rfl (Or.inl rfl) Zep)
   (Zd (Z1 (Zz Zbs hr (Za (pv 2) (Za (pv 0) Zc))))
   (Zd (Z1 (Zz Zbs hr (Za (pv 2) (Za (pv 1) Zc))))
   (Zh (ZJ (ZH (Ur rfl hr.units) (by rfl) Ji boot_sorted (Za (pv 2) Zc))))))),?_⟩
  intro d hd
  have s0:Zf H (upd H d (.dT [])):=Zf.laid hd
  have d0:DOd (upd H d (.dT [])) d []:=⟨[],[],Zb,rfl,ZdV⟩
  refine ⟨_,rfl,_,rfl,d,a,[],L,rfl,d0,ha.same s0,by simp;lia,fun H1 f1 d1=>?_⟩
  refine ⟨_,rfl,_,rfl,d,b,_,M,rfl,d1,d0.wl f1 (hb.same s0),by simpa using hz,fun H2 f2 d2=>?_⟩
  have sm:Zf H H2:=fun c o e=>by
   have nd:=Zg e hd
   exact f2 c o (f1 c o (s0 c o e) nd) nd
  obtain ⟨kvs,ks,ed,ek,ok⟩:=d2
  refine ⟨_,rfl,d,kvs,ks,rfl,ed,ek,fun l zs vs hl pm hw rs=>?_⟩
  have s3:Zf H2 (upd H2 l (.lst zs)):=Zf.laid hl
  exact k l _ vs (sm.free hl) (sm.trans s3) ⟨zs,Zb,Words.same s3 hw⟩ (by simpa using ok.odd pm rs)
def Ze3:Sp:=fun vs H Q _=>∃(a b:Addr) (L M:WS),vs = [.ref a,.ref b]/\WL H a L/\WL H b M/\L2.Gd 1000 100000 L/\L2.Gd 1000 100000 M /\ ∀(p:Addr) (H':Hp) (r:WS),H p=none->Zf H H'->WL H' p r->JB (prd L M) r->Q (.ref p) H'
theorem ZhQ {L:WS}{j:Nat}{w:List Int} (h:L[j]? = some w) (M:WS):prd (L.take (j+1)) M=prd (L.take j) M++M.map fun v=>w++v:=by
 rw [take_snoc h,ZjP,ZeB]
 simp [prd]
abbrev JR:Stmt:=top 13
theorem WC:ZF ["one", "other", "odd", "word"] ["one", "other"] (Zl JR):={}
theorem ZjY {f:Addr}{fd:FuncData} (F:Y8 K "multiplied" "multiplied" JR f fd) (Zbs:JV P w K mg base 1 "put" ["odd", "words"] ZfH) (Ji:mg "sorted" = none):Yj P w K mg base GV 2 f fd ["one", "other"] Ze3:=by
 refine F.ok WC (fun vs H Q E h=>?_) (fun cdv A outer s H vs Q E hr h=>?_)
 ·obtain ⟨a,b,L,M,rfl,_⟩:=h
  rfl
 ·obtain ⟨a,b,L,M,rfl,ha,hb,gL,gM,k⟩:=h
  refine ⟨_,(Zd (Zr (i:=2) WC.nd rfl (Or.inl rfl) Zep)
   (Zd (Z3 PassesOwn.never rfl (ZT (K:=K) rfl (pv 0)) (Zj (i:=3) WC.nd rfl (Or.inr rfl)) (Zh (Z1 (Zz Zbs hr (Za (pv 2) (Za (Wt (Ls:=["behind"]) (Fs:=["word"]) (fi:=[3]) (ZO.of (show Yu ["one", "other", "odd", "word"] (Zl JR) _ ["word"] [3]=true by decide +kernel)) rfl (ZT (K:=K) rfl (pv 1)) (fun cl C s3 H3 ex=>⟨(Zj (i:=0) (show ((["behind"]:List Str)++(["word"]:List Str)).Nodup by decide +kernel) rfl (Or.inl rfl)),Z0,(Zm ZjA (pv 1) (pv 0))⟩)) Zc))))))
   (Zh (ZJ (ZH (Ur rfl hr.units) (by rfl) Ji boot_sorted (Za (pv 2) Zc)))))),?_⟩
  intro d hd
  have s0:Zf H (upd H d (.dT [])):=Zf.laid hd
  have d0:DOd (upd H d (.dT [])) d []:=⟨[],[],Zb,rfl,ZdV⟩
  obtain ⟨xs,ea,wa⟩:=id ha
  obtain ⟨ys,eb,wb⟩:=id hb
  have lx:=Words.len wa
  have ly:=Words.len wb
  have nL:=gL.1
  have nM:=gM.1
  refine ⟨_,rfl,a,rfl,⟨_,Zo.of (s0 a _ ea)⟩,Wh (K:=K) (a:=a) (xs:=xs) (fun j σ G=>∃v3:Option V,σ = [some (.ref a),some (.ref b),some (.ref d),v3]/\Zf H G/\DOd G d (prd (L.take j) M)) ⟨none,rfl,s0,by simpa [prd] using d0⟩ (fun j σ G _ ⟨_,_,sg,_⟩=>Zo.of (sg a _ ea)) ?_ ?_⟩
  ·rintro j x σ G hx ⟨v3,rfl,sg,dg⟩
   obtain ⟨w,hj,wx⟩:=Words.get wa hx
   have gw:=gL.2 w (List.mem_of_getElem? hj)
   refine ⟨_,rfl,_,rfl,b,rfl,⟨_,Zo.of (sg b _ eb)⟩,YV (K:=K) (xs:=ys) (by rw [sizeLine_eq];lia) (fun i zs G'=>Zf G G'/\Words G' zs ((M.take i).map fun v=>w++v)) ⟨Zf.refl _,.nil⟩
    (fun i zs G' ⟨_,z⟩=>by rw [Words.len z,List.length_map,List.length_take];lia) (fun i zs G' ⟨s',_⟩=>Zo.of (s' b _ (sg b _ eb))) ?_ ?_⟩
   ·rintro i y zs G' hy ⟨s',wz⟩
    obtain ⟨v,hv,wy⟩:=Words.get wb hy
    have gv:=gM.2 v (List.mem_of_getElem? hv)
    have wx':UO G' x w:=(wx.same sg).same s'
    have wy':UO G' y v:=(wy.same sg).same s'
    have em:(M.take (i+1)).map (fun v=>w++v)=(M.take i).map (fun v=>w++v) ++ [w++v]:=by rw [take_snoc hv,List.map_append];rfl
    dsimp only [JD,Wn]
    refine GA ⟨_,rfl,_,rfl,w,v,wx',wy',by rw [sizeLine_eq];lia,fun z=>⟨s',?_⟩,fun z=>⟨s',?_⟩,fun p hp=>⟨s'.step hp,?_⟩⟩
    ·rw [em];refine Words.snoc wz ?_;rw [z];exact wy'
    ·rw [em];refine Words.snoc wz ?_;rw [z,List.append_nil];exact wx'
    ·rw [em];exact Words.snoc (Words.same (Zf.laid hp) wz) ⟨p,rfl,Zb⟩
   ·rintro zs G' ⟨s',wz⟩ D hD
    rw [List.take_of_length_le (by lia)] at wz
    have s2:Zf G' (upd G' D (.lst zs)):=Zf.laid hD
    have s3:Zf G (upd G' D (.lst zs)):=s'.trans s2
    have dg2:DOd (upd G' D (.lst zs)) d (prd (L.take j) M):=let ⟨kvs,ks,e,r⟩:=dg;⟨kvs,ks,s3 d _ e,r⟩
    refine ⟨d,D,_,_,rfl,dg2,⟨zs,Zb,Words.same s2 wz⟩,?_,fun G2 f2 d2=>?_⟩
    ·have h1:(L.take j).length*M.length<=1000*1000:=Nat.mul_le_mul (by rw [List.length_take];lia) nM
     rw [Zbb,List.length_map]
     lia
    ·refine ⟨_,rfl,fun c o e=>f2 c o (s3 c o (sg c o e)) (Zg e hd),?_⟩
     rw [ZhQ hj]
     exact d2
  ·rintro σ G ⟨v3,rfl,sg,dg⟩
   rw [List.take_of_length_le (by lia)] at dg
   obtain ⟨kvs,ks,ed,ek,ok⟩:=dg
   refine ⟨_,rfl,d,kvs,ks,rfl,ed,ek,fun l zs vs hl pm hw rs=>?_⟩
   have s3:Zf G (upd G l (.lst zs)):=Zf.laid hl
   exact k l _ vs (sg.free hl) (sg.trans s3) ⟨zs,Zb,Words.same s3 hw⟩ (ok.odd pm rs)
def Zbj:Stmt->List Stmt
 | .ClassDef _ _ _ body ..=>body
 | _=>[]
def ZaL (H:Hp) (C x:Addr):Prop:=∃(dx:Addr) (fs:List (Str×V)),H x=some (.ins C dx fs)/\fs = []
theorem Zel {H H':Hp}{C x:Addr} (s:Zf H H') (h:ZaL H C x):ZaL H' C x:=let ⟨dx,fs,e,q⟩:=h;⟨dx,fs,s _ _ e,q⟩
def U3 (C:Addr):Sp:=fun vs H Q _=>∃x:Addr,vs = [.ref x] /\ ∀(p:Addr) (H':Hp),H p=none->Zf H H'->WL H' p []->Q (.ref p) H'
def ZeQ (C:Addr):Sp:=fun vs H Q _=>∃x:Addr,vs = [.ref x] /\ ∀(p:Addr) (H':Hp),H p=none->Zf H H'->WL H' p [[]]->Q (.ref p) H'
def Zbl:Sp:=fun vs H Q _=>∃(x a b:Addr) (L M:WS),vs = [.ref x,.ref a,.ref b]/\WL H a L/\WL H b M/\L.length+M.length<=2000000 /\ ∀(p:Addr) (H':Hp),H p=none->Zf H H'->WL H' p (Y5 L M)->Q (.ref p) H'
def U4:Sp:=fun vs H Q _=>∃(x a b:Addr) (L M:WS),vs = [.ref x,.ref a,.ref b]/\WL H a L/\WL H b M/\L2.Gd 1000 100000 L/\L2.Gd 1000 100000 M /\ ∀(p:Addr) (H':Hp),H p=none->Zf H H'->WL H' p (Yi L M)->Q (.ref p) H'
abbrev Js:Stmt:=(Zbj (top 16)).getD 0 (.Pass ⟨0,0,0,0⟩)
theorem U9:ZF ["self"] ["self"] (Zl Js):={}
theorem ZgU {C:Addr}{f:Addr}{fd:FuncData} (F:Y8 K "nought" "WordWay.nought" Js f fd):Yj P w K mg base GV 1 f fd ["self"] (U3 C):=by
 refine F.ok U9 (fun vs H Q E h=>?_) (fun cdv A outer s H vs Q E hr h=>?_)
 ·obtain ⟨x,rfl,_⟩:=h
  rfl
 ·obtain ⟨x,rfl,k⟩:=h
  refine ⟨_,(Zh (ZJ (Z5 Zc))),?_⟩
  exact ⟨(by show 0<=sizeLine;decide),fun p hp=>k p _ hp (Zf.laid hp) ⟨[],Zb,.nil⟩⟩
abbrev J1:Stmt:=(Zbj (top 16)).getD 1 (.Pass ⟨0,0,0,0⟩)
theorem ZaU:ZF ["self"] ["self"] (Zl J1):={}
theorem Zki {C:Addr}{f:Addr}{fd:FuncData} (F:Y8 K "unit" "WordWay.unit" J1 f fd):Yj P w K mg base GV 1 f fd ["self"] (ZeQ C):=by
 refine F.ok ZaU (fun vs H Q E h=>?_) (fun cdv A outer s H vs Q E hr h=>?_)
 ·obtain ⟨x,rfl,_⟩:=h
  rfl
 ·obtain ⟨x,rfl,k⟩:=h
  refine ⟨_,(Zh (ZJ (Z5 (Za (Yr Zc) Zc)))),?_⟩
  refine ⟨(by show 0<=sizeLine;decide),fun t ht=>⟨(by show 1<=sizeLine;decide),fun p hp=>k p _ ((Zf.laid ht).free hp) ((Zf.laid ht).step hp) ⟨_,Zb,.cons ⟨t,rfl,Zf.laid hp t _ Zb⟩ .nil⟩⟩⟩
abbrev J9:Stmt:=(Zbj (top 16)).getD 2 (.Pass ⟨0,0,0,0⟩)
theorem ZaV:ZF ["self", "one", "other"] ["self", "one", "other"] (Zl J9):={}
theorem Zhe {f:Addr}{fd:FuncData} (F:Y8 K "plus" "WordWay.plus" J9 f fd) (Ug:JV P w K mg base 2 "added" ["one", "other"] Zbm):Yj P w K mg base GV 3 f fd ["self", "one", "other"] Zbl:=by
 refine F.ok ZaV (fun vs H Q E h=>?_) (fun cdv A outer s H vs Q E hr h=>?_)
 ·obtain ⟨x,a,b,L,M,rfl,_⟩:=h
  rfl
 ·obtain ⟨x,a,b,L,M,rfl,ha,hb,hz,k⟩:=h
  refine ⟨_,(Zh (ZJ (Zz Ug hr (Za (pv 1) (Za (pv 2) Zc))))),?_⟩
  exact ⟨_,rfl,_,rfl,a,b,L,M,rfl,ha,hb,hz,fun p H' r fp s' wr od=>k p H' fp s' (by have:=od.canon;subst this;exact wr)⟩
abbrev JJ:Stmt:=(Zbj (top 16)).getD 3 (.Pass ⟨0,0,0,0⟩)
theorem Zay:ZF ["self", "one", "other"] ["self", "one", "other"] (Zl JJ):={}
theorem Zgq {f:Addr}{fd:FuncData} (F:Y8 K "times" "WordWay.times" JJ f fd) (Ge:JV P w K mg base 2 "multiplied" ["one", "other"] Ze3):Yj P w K mg base GV 3 f fd ["self", "one", "other"] U4:=by
 refine F.ok Zay (fun vs H Q E h=>?_) (fun cdv A outer s H vs Q E hr h=>?_)
 ·obtain ⟨x,a,b,L,M,rfl,_⟩:=h
  rfl
 ·obtain ⟨x,a,b,L,M,rfl,ha,hb,gL,gM,k⟩:=h
  refine ⟨_,(Zh (ZJ (Zz Ge hr (Za (pv 1) (Za (pv 2) Zc))))),?_⟩
  exact ⟨_,rfl,_,rfl,a,b,L,M,rfl,ha,hb,gL,gM,fun p H' r fp s' wr od=>k p H' fp s' (by have:=od.canon;subst this;exact wr)⟩
theorem Zbd (xs:List V) (k:Nat):UU xs none (some (k:Int))=xs.take k:=by
 unfold UU
 rw [HT.Zd9,HT.Zbc,List.drop_zero,Nat.sub_zero,List.take_eq_take_iff]
 lia
theorem Zhm (xs:List V) (k:Nat):UU xs (some (k:Int)) none=xs.drop k:=by
 unfold UU
 rw [HT.Zd9,HT.Zbc]
 by_cases h:k<=xs.length
 ·rw [Nat.min_eq_left h,List.take_of_length_le (by rw [List.length_drop];lia)]
 ·rw [Nat.min_eq_right (by lia),Nat.sub_self,List.take_zero,List.drop_of_length_le (by lia)]
def Zk0 (k:Nat) (f:Nat->WS):Nat->WS:=fun j=>if j<k then f j else if j<k+2 then [] else f (j-2)
theorem Zhz {α:Type}{xs:List α}{a b:α}{k:Nat} (hk:k<=xs.length) {j:Nat}{x:α} (h:(xs.take k ++ [a,b]++xs.drop k)[j]? = some x):(j<k/\xs[j]? = some x)∨(j=k/\x=a)∨(j=k+1/\x=b)∨(k+2<=j/\xs[j-2]? = some x):=by
 have lt:(xs.take k).length=k:=by rw [List.length_take];lia
 by_cases h1:j<k
 ·rw [List.append_assoc,List.getElem?_append_left (by lia),List.getElem?_take,if_pos h1] at h
  exact .inl ⟨h1,h⟩
 ·by_cases h2:j<k+2
  ·rw [List.getElem?_append_left (by rw [List.length_append,lt];simp;lia),List.getElem?_append_right (by lia),lt] at h
   by_cases h3:j=k
   ·subst h3;rw [Nat.sub_self] at h;cases h;exact .inr (.inl ⟨rfl,rfl⟩)
   ·have:j=k+1:=by lia
    subst this
    rw [show k+1-k=1 by lia] at h
    cases h
    exact .inr (.inr (.inl ⟨rfl,rfl⟩))
  ·rw [List.getElem?_append_right (by rw [List.length_append,lt];simp;lia),List.length_append,lt,List.getElem?_drop] at h
   refine .inr (.inr (.inr ⟨by lia,?_⟩))
   rw [<- h]
   congr 1
   simp
   lia
theorem Zf3 {α:Type}{xs:List α}{a b:α}{k:Nat} (hk:k<=xs.length):(xs.take k ++ [a,b]++xs.drop k).length=xs.length+2:=by
 simp;lia
theorem Zj1 {H:Hp}{A:List Addr}{n k:Nat}{F:Nat->Nat->WS}{r0 r1:Addr}{w:Nat} (x:UX H A n w F) (y:UX H [r0,r1] 2 w fun _ _=>[]) (hk:k<=n) (h0:r0∉A) (h1:r1∉A):
  UX H (A.take k ++ [r0,r1]++A.drop k) (n+2) w fun i j=>if i<k then F i j else if i<k+2 then [] else F (i-2) j:=by
 have hl:=x.1
 refine ⟨by rw [Zf3 (by lia),hl],?_,fun i r h=>?_⟩
 ·have p:(A.take k ++ [r0,r1]++A.drop k).Perm ([r0,r1]++A):=by
   refine (List.Perm.append_right _ List.perm_append_comm).trans ?_
   rw [List.append_assoc,List.take_append_drop]
  rw [p.nodup_iff,List.nodup_append]
  refine ⟨y.2.1,x.2.1,fun a ha b hb e=>?_⟩
  subst e
  rcases List.mem_cons.mp ha with rfl | ha
  ·exact h0 hb
  ·rw [List.mem_singleton.mp ha] at hb;exact h1 hb
 ·rcases Zhz (by lia) h with ⟨a,b⟩ | ⟨a,b⟩ | ⟨a,b⟩ | ⟨a,b⟩
  ·exact (x.2.2 i r b).congr fun j _=>by dsimp only;rw [if_pos a]
  ·subst a b
   exact (y.2.2 0 r rfl).congr fun j _=>by dsimp only;rw [if_neg (by lia),if_pos (by lia)]
  ·subst a b
   exact (y.2.2 1 r rfl).congr fun j _=>by dsimp only;rw [if_neg (by lia),if_pos (by lia)]
  ·exact (x.2.2 (i-2) r b).congr fun j _=>by dsimp only;rw [if_neg (by lia),if_neg (by lia)]
def Sep (a:Addr) (H:Hp) (A:List Addr):Prop:=∀r∈A,r≠a /\ ∀(xs:List V) (e:Addr),H r=some (.lst xs)->V.ref e∈xs->e≠a
theorem Zes {H:Hp}{A:List Addr}{m n:Nat}{F:Nat->Nat->WS}{a:Addr}{us vs:List V} (x:UX H A m n F) (s:Sep a H A) (ha:H a=some (.lst us)):UX (upd H a (.lst vs)) A m n F:=by
 refine ⟨x.1,x.2.1,fun i r h=>?_⟩
 obtain ⟨xs,e1,l,c⟩:=x.2.2 i r h
 obtain ⟨n1,n2⟩:=s r (List.mem_of_getElem? h)
 refine ⟨xs,by rw [Zi n1];exact e1,l,fun j y hy=>?_⟩
 obtain ⟨e,p,q⟩:=c j y hy
 refine ⟨e,p,q.upd ha (n2 xs e e1 (by rw [<- p];exact List.mem_of_getElem? hy))⟩
theorem Zje {G H:Hp}{A:List Addr}{m n:Nat}{F:Nat->Nat->WS}{a:Addr} (x:UX G A m n F) (s:Zf G H) (ha:G a=none):Sep a H A:=fun r hr=>by
 obtain ⟨i,hi,rfl⟩:=List.getElem_of_mem hr
 obtain ⟨xs,e1,l,c⟩:=x.2.2 i A[i] (by simp)
 refine ⟨Zg e1 ha,fun ys e h he=>?_⟩
 rw [s _ _ e1] at h
 have hxy:xs=ys:=by injection h with h;injection h
 subst hxy
 obtain ⟨j,hj⟩:=List.mem_iff_getElem?.mp he
 obtain ⟨e',p,us,q,_⟩:=c j _ hj
 cases p
 exact Zg q ha
def ZjJ (B G:Hp) (Z:List Addr):Prop:=∀r∈Z,B r=none /\ ∃ws,G r=some (.lst ws) /\ ∀e,V.ref e∈ws->B e=none
theorem Zcw {B G G':Hp}{Z:List Addr} (s:Zf G G') (h:ZjJ B G Z):ZjJ B G' Z:=fun r hr=>let ⟨a,ws,b,c⟩:=h r hr;⟨a,ws,s _ _ b,c⟩
theorem Zja {B H:Hp}{A:List Addr}{a:Addr}{o:HO} (x:ZjJ B H A) (ha:B a=some o):Sep a H A:=fun r hr=>by
 obtain ⟨h1,ws,h2,h3⟩:=x r hr
 refine ⟨(fun z=>by rw [z,ha] at h1;cases h1),fun xs e hx he z=>?_⟩
 rw [h2] at hx
 have hxy:ws=xs:=by injection hx with hx;injection hx
 subst hxy
 have:=h3 e he
 rw [z,ha] at this;cases this
def Zc9 (C:Addr):Sp:=fun vs H Q _=>∃(tA x:Addr) (n k:Nat) (F:Nat->Nat->WS),vs = [.ref tA,.int (k:Int),.ref x]/\ZaL H C x/\Tab H tA n F/\k<=n/\n<=500 /\ ∀(p:Addr) (H':Hp),H p=none->Zf H H'->Tab H' p (n+2) (Uw k F)->Q (.ref p) H'
abbrev YL:Stmt:=top 6
theorem Gy:ZF ["table", "k", "way", "rows"] ["table", "k", "way"] (Zl YL):={}
theorem ZhP {C:Addr}{f:Addr}{fd:FuncData} (F:Y8 K "behind_birth" "behind_birth" YL f fd) (c_way:Cls K C) (JC:US P w K mg base 1 C "nought" ["self"] (U3 C)) (Zfo:US P w K mg base 1 C "unit" ["self"] (ZeQ C)) (Zx:mg "range" = none) (Yg:mg "len" = none):Yj P w K mg base GV 2 f fd ["table", "k", "way"] (Zc9 C):=by
 refine F.ok Gy (fun vs H Q E h=>?_) (fun cdv A outer s H vs Q E hr h=>?_)
 ·obtain ⟨tA,x,n,k,F,rfl,_⟩:=h
  rfl
 ·obtain ⟨tA,x,n,k,F,rfl,hw,hT,hk,hn,fin⟩:=h
  refine ⟨_,(Zd (U0 (i:=3) Gy.nd rfl (Or.inl rfl) (Ls:=["row"]) (Fs:=["k", "way"]) (fi:=[1,2]) (ZO.of (show Yu ["table", "k", "way", "rows"] (Zl YL) _ ["k", "way"] [1,2]=true by decide +kernel)) rfl (ZT (K:=K) rfl (pv 0)) (fun cl C s3 H3 ex=>⟨(Zj (i:=0) (show ((["row"]:List Str)++(["k", "way"]:List Str)).Nodup by decide +kernel) rfl (Or.inl rfl)),Z0,(Zm Zau (Zm Zau (YR (YN (K:=K) rfl) (pv 0) Wu (Yf (pv 1))) (Z5 (Za (GX JC c_way (hr.mono (by decide)) (pv 2)) (Za (GX JC c_way (hr.mono (by decide)) (pv 2)) Zc)))) (YR (YN (K:=K) rfl) (pv 0) (Yf (pv 1)) Wu))⟩))
   (Zd (Z6 (Wt (Ls:=["new"]) (Fs:=["way", "table"]) (fi:=[2,0]) (ZO.of (show Yu ["table", "k", "way", "rows"] (Zl YL) _ ["way", "table"] [2,0]=true by decide +kernel)) rfl (Yb (by rfl) Zx (Za Ze Zc)) (fun cl C s3 H3 ex=>⟨(Zj (i:=0) (show ((["new"]:List Str)++(["way", "table"]:List Str)).Nodup by decide +kernel) rfl (Or.inl rfl)),Z0,(Wt (Ls:=["j"]) (Fs:=["way"]) (fi:=[1]) (ZO.of (by rfl)) rfl (Yb (by rfl) Zx (Za (Zm Zv (ZH (Yk (K:=K) rfl) (by rfl) Yg PySem.boot_len (Za (pv 2) Zc)) Ze) Zc)) (fun cl C s3 H3 ex=>⟨(Zj (i:=0) (show ((["j"]:List Str)++(["way"]:List Str)).Nodup by decide +kernel) rfl (Or.inl rfl)),Z0,(GX JC c_way (hr.mono (by decide)) (pv 1))⟩))⟩)) (Ziz (pv 3) (Yf (pv 1)) (Yf (pv 1))))
   (Zd (Z6 (GX Zfo c_way (hr.mono (by decide)) (pv 2)) (YG (Zp (Zk (K:=K) rfl) (pv 3) (pv 1) (fun _ _=>rfl)) (Zm Zv (pv 1) Ze) set_list))
   (Zh (ZJ (pv 3)))))),?_⟩
  obtain ⟨dx,fs,ew,rfl⟩:=id hw
  obtain ⟨A,et,mt⟩:=id hT
  have lA:=mt.1
  have z2:2<=sizeLine:=by decide
  refine ⟨_,rfl,tA,rfl,⟨_,Zo.of et⟩,YV (K:=K) (xs:=A.map V.ref) (by rw [List.length_map,sizeLine_eq];lia) (fun i zs G=>Zf H G /\ ∃Z:List Addr,zs=Z.map V.ref/\UX G Z i (n+2) fun i j=>Zk0 k (F i) j) ⟨Zf.refl _,[],rfl,Ue⟩
   (fun i zs G ⟨_,Z,e,m⟩=>by rw [e,List.length_map,m.1];exact Nat.le_refl _) (fun i zs G ⟨s',_⟩=>Zo.of (s' tA _ et)) ?_ ?_⟩
  ·rintro i v zs G hv ⟨sG,Z,rfl,mZ⟩
   rw [List.getElem?_map] at hv
   obtain ⟨r,hr',rfl⟩:=Option.map_eq_some_iff.mp hv
   obtain ⟨xs,ex,lx,hx⟩:=mt.2.2 i r hr'
   dsimp only [JD,Wn]
   refine GA ?_
   refine ⟨_,rfl,_,rfl,_,rfl,r,xs,rfl,Zo.of (sG r _ ex),fun p1 f1=>?_⟩
   rw [Zbd]
   have s1:Zf G (upd G p1 (.lst (xs.take k))):=Zf.laid f1
   refine ⟨_,rfl,x,dx,[],rfl,s1 x _ (sG x _ ew),rfl,x,rfl,fun q1 G1 fq1 t1 wq1=>?_⟩
   have S1:=(sG.trans s1).trans t1
   refine ⟨_,rfl,x,dx,[],rfl,S1 x _ ew,rfl,x,rfl,fun q2 G2 fq2 t2 wq2=>?_⟩
   have S2:=S1.trans t2
   refine ⟨z2,fun q3 f3=>?_⟩
   have s3:Zf G2 (upd G2 q3 (.lst [.ref q1,.ref q2])):=Zf.laid f3
   refine ⟨p1,q3,_,_,rfl,rfl,s3 _ _ (t2 _ _ (t1 _ _ Zb)),Zb,(by rw [List.length_take,sizeLine_eq];simp;lia),fun p4 f4=>?_⟩
   have S4:=(S2.trans s3).step (o:=.lst (xs.take k ++ [.ref q1,.ref q2])) f4
   refine ⟨_,rfl,_,rfl,_,rfl,r,xs,rfl,Zo.of (S4 r _ ex),fun p5 f5=>?_⟩
   rw [Zhm]
   have S5:=S4.step (o:=.lst (xs.drop k)) f5
   refine ⟨p4,p5,_,_,rfl,rfl,Zf.laid f5 _ _ Zb,Zb,(by rw [List.length_append,List.length_take,List.length_drop,sizeLine_eq];simp;lia),fun D fD=>?_⟩
   have S6:=S5.step (o:=.lst (xs.take k ++ [.ref q1,.ref q2]++xs.drop k)) fD
   have U:Zf G2 _:=((s3.step (o:=.lst (xs.take k ++ [.ref q1,.ref q2])) f4).step (o:=.lst (xs.drop k)) f5).step (o:=.lst (xs.take k ++ [.ref q1,.ref q2]++xs.drop k)) fD
   have W1:=((s1.trans t1).trans t2).trans U
   refine ⟨S6,Z ++ [D],by rw [List.map_append];rfl,(mZ.same W1).snoc ((mZ.same (((((s1.trans t1).trans t2).trans s3).step f4).step f5)).fresh fD) ⟨_,Zb,by rw [Zf3 (by lia),lx],fun j y hy=>?_⟩⟩
   unfold Zk0
   rcases Zhz (by lia) hy with ⟨a,b⟩ | ⟨a,b⟩ | ⟨a,b⟩ | ⟨a,b⟩
   ·obtain ⟨e,p,q⟩:=hx j y b
    exact ⟨e,p,by dsimp only;rw [if_pos a];exact q.same S6⟩
   ·subst a b
    exact ⟨q1,rfl,by dsimp only;rw [if_neg (by lia),if_pos (by lia)];exact (wq1.same t2).same U⟩
   ·subst a b
    exact ⟨q2,rfl,by dsimp only;rw [if_neg (by lia),if_pos (by lia)];exact wq2.same U⟩
   ·obtain ⟨e,p,q⟩:=hx (j-2) y b
    exact ⟨e,p,by dsimp only;rw [if_neg (by lia),if_neg (by lia)];exact q.same S6⟩
  rintro zs G ⟨sG,Z,rfl,mZ⟩ rA fA
  rw [List.length_map,lA] at mZ
  obtain ⟨G1,hG1⟩:∃G1,upd G rA (.lst (Z.map V.ref))=G1:=⟨_,rfl⟩
  have sA:Zf G G1:=by rw [<- hG1];exact Zf.laid fA
  have eA:G1 rA=some (.lst (Z.map V.ref)):=by rw [<- hG1];exact Zb
  rw [hG1]
  have S1:=sG.trans sA
  have mZ1:=mZ.same sA
  have fAH:H rA=none:=sG.free fA
  have e2:(((A.map V.ref).length:Int)+2).toNat=n+2:=by rw [List.length_map];lia
  refine ⟨2,rfl,by decide,by decide,Zb7 (n:=2) z2 (fun i zs G=>Zf G1 G /\ ∃Z2:List Addr,zs=Z2.map V.ref/\(UX G Z2 i (n+2) fun _ _=>[])/\ZjJ G1 G Z2) ⟨Zf.refl _,[],rfl,Ue,fun r h=>nomatch h⟩ (fun i zs G ⟨_,Z2,e,m,_⟩=>by rw [e,List.length_map,m.1];exact Nat.le_refl _) ?_ ?_⟩
  ·rintro i zs G2 hi ⟨s2,Z2,rfl,mZ2,nw⟩
   dsimp only [JD,Wn]
   refine GA ?_
   refine ⟨_,rfl,tA,_,rfl,.inl (Zo.of (s2 _ _ (S1 _ _ et))),_,_,rfl,rfl,_,rfl,by rw [List.length_map];lia,by rw [List.length_map];lia,?_⟩
   rw [e2]
   refine Zb7 (n:=n+2) (by rw [sizeLine_eq];lia) (fun j ws G=>Zf G2 G/\ws.length=j /\ ∀(j':Nat) (y:V),ws[j']? = some y -> ∃e,y = .ref e/\WL G e []/\G1 e=none) ⟨Zf.refl _,rfl,fun j' y h=>by simp at h⟩ (fun j ws G ⟨_,e,_⟩=>by rw [e];exact Nat.le_refl _) ?_ ?_
   ·rintro j ws G3 hj ⟨s3,lw,hw3⟩
    dsimp only [JD,Wn]
    refine GA ⟨_,rfl,x,dx,[],rfl,s3 _ _ (s2 _ _ (S1 _ _ ew)),rfl,x,rfl,fun q G4 fq t4 wq=>⟨s3.trans t4,by rw [List.length_append,lw];rfl,fun j' y hy=>?_⟩⟩
    by_cases z:j'<ws.length
    ·rw [List.getElem?_append_left z] at hy
     obtain ⟨e,p,q,q'⟩:=hw3 j' y hy
     exact ⟨e,p,q.same t4,q'⟩
    ·rw [List.getElem?_append_right (by lia)] at hy
     have:j'-ws.length=0:=by
      have:=(List.getElem?_eq_some_iff.mp hy).1
      simp at this;lia
     rw [this] at hy
     cases hy
     exact ⟨q,rfl,wq,(s2.trans s3).free fq⟩
   ·rintro ws G3 ⟨s3,lw,hw3⟩ D fD
    have sD:Zf G3 (upd G3 D (.lst ws)):=Zf.laid fD
    refine ⟨(s2.trans s3).trans sD,Z2 ++ [D],by rw [List.map_append];rfl,(mZ2.same (s3.trans sD)).snoc ((mZ2.same s3).fresh fD) ⟨ws,Zb,lw,fun j y hy=>?_⟩,fun r hr=>?_⟩
    ·obtain ⟨e,p,q,_⟩:=hw3 j y hy
     exact ⟨e,p,q.same sD⟩
    ·rcases List.mem_append.mp hr with hr | hr
     ·exact Zcw (s3.trans sD) nw r hr
     ·rw [List.mem_singleton.mp hr]
      refine ⟨(s2.trans s3).free fD,ws,Zb,fun e he=>?_⟩
      obtain ⟨j,hj⟩:=List.mem_iff_getElem?.mp he
      obtain ⟨e',p,_,q⟩:=hw3 j _ hj
      cases p
      exact q
  rintro zs G2 ⟨s2,Z2,rfl,mZ2,nw⟩ nA fnA
  obtain ⟨r0,r1,rfl⟩:∃r0 r1,Z2 = [r0,r1]:=by
   match Z2,mZ2.1 with
   | [a,b],_=>exact ⟨a,b,rfl⟩
  obtain ⟨G3,hG3⟩:∃G3,upd G2 nA (.lst ([r0,r1].map V.ref))=G3:=⟨_,rfl⟩
  have s3:Zf G2 G3:=by rw [<- hG3];exact Zf.laid fnA
  have enA:G3 nA=some (.lst ([r0,r1].map V.ref)):=by rw [<- hG3];exact Zb
  rw [hG3]
  have s13:=s2.trans s3
  have lZ:=mZ1.1
  have nrA:rA≠nA:=fun z=>by
   have:=s2 _ _ eA
   rw [z,fnA] at this;cases this
  refine ⟨_,rfl,_,rfl,_,rfl,_,rfl,_,rfl,rA,nA,_,_,_,_,rfl,rfl,rfl,rfl,s13 _ _ eA,enA,nrA,by lia,by lia,by rw [List.length_map];lia,by rw [List.length_map,sizeLine_eq];simp;lia,?_⟩
  rw [Int.toNat_natCast,<- List.map_take,<- List.map_drop,<- List.map_append,<- List.map_append]
  have old:∀r∈Z,G1 r≠none:=fun r hr z=>by
   obtain ⟨i,hi,rfl⟩:=List.getElem_of_mem hr
   obtain ⟨xs,e1,_⟩:=mZ1.2.2 i Z[i] (by simp)
   rw [z] at e1;cases e1
  have fr0:r0∉Z:=fun z=>old r0 z (nw r0 (by simp)).1
  have fr1:r1∉Z:=fun z=>old r1 z (nw r1 (by simp)).1
  have m3:=Zj1 (mZ1.same s13) (mZ2.same s3) hk fr0 fr1
  have sp:Sep rA G3 (Z.take k ++ [r0,r1]++Z.drop k):=fun r hr=>by
   rw [List.append_assoc,List.mem_append,List.mem_append] at hr
   have o:=Zje mZ (sA.trans s13) fA
   rcases hr with hr | hr | hr
   ·exact o r (List.mem_of_mem_take hr)
   ·exact Zja (Zcw s3 nw) eA r hr
   ·exact o r (List.mem_of_mem_drop hr)
  obtain ⟨G4,hG4⟩:∃G4,upd G3 rA (.lst ((Z.take k ++ [r0,r1]++Z.drop k).map V.ref))=G4:=⟨_,rfl⟩
  rw [hG4]
  have m4:=Zes (vs:=(Z.take k ++ [r0,r1]++Z.drop k).map V.ref) m3 sp (s13 _ _ eA)
  rw [hG4] at m4
  have e4:G4 rA=some (.lst ((Z.take k ++ [r0,r1]++Z.drop k).map V.ref)):=by rw [<- hG4];exact Zb
  have S4:Zf H G4:=by rw [<- hG4];exact (S1.trans s13).put fAH
  refine ⟨_,rfl,x,dx,[],rfl,S4 _ _ ew,rfl,x,rfl,fun u G5 fu t5 wu=>?_⟩
  have m5:=m4.same t5
  have hk0:(Z.take k ++ [r0,r1]++Z.drop k)[k]? = some r0:=by
   rw [List.append_assoc,List.getElem?_append_right (by rw [List.length_take];lia),List.length_take]
   rw [show k-min k Z.length=0 by lia]
   rfl
  obtain ⟨xs,ex,lx,_⟩:=m5.2.2 k r0 hk0
  refine ⟨_,rfl,_,rfl,rA,_,_,_,rfl,rfl,Zo.of (t5 _ _ e4),Zn (v:=V.ref r0) (by rw [List.getElem?_map,hk0];rfl),?_⟩
  refine ⟨_,rfl,_,_,rfl,rfl,r0,xs,_,k+1,rfl,rfl,ex,?_,?_⟩
  ·rw [lx]
   show ixN (n+2) ((k:Int)+1)=some (k+1)
   rw [show (k:Int)+1=((k+1:Nat):Int) by lia]
   exact Za3 (by lia)
  have m6:=m5.put hk0 ex (show k+1<n+2 by lia) wu
  have fr0H:H r0=none:=S1.free (nw r0 (by simp)).1
  refine ⟨_,rfl,fin rA _ fAH ((S4.trans t5).put fr0H) ⟨_,?_,m6.congr fun i j hi hj=>?_⟩⟩
  ·rw [Zi (fun z=>by have:=(nw r0 (by simp)).1;rw [<- z,eA] at this;cases this)]
   exact t5 _ _ e4
  ·unfold UA Uw Zk0
   dsimp only
   by_cases a:i=k/\j=k+1
   ·rw [if_pos a,if_pos a]
   ·rw [if_neg a,if_neg a]
    by_cases b:i<k
    ·rw [if_pos b]
     by_cases c:j<k
     ·rw [if_pos c,if_neg (by lia),if_pos b,if_pos c]
     ·rw [if_neg c]
      by_cases d:j<k+2
      ·rw [if_pos d,if_pos (by lia)]
      ·rw [if_neg d,if_neg (by lia),if_pos b,if_neg c]
    ·rw [if_neg b]
     by_cases b':i<k+2
     ·rw [if_pos b',if_pos (by lia)]
     ·rw [if_neg b']
      by_cases c:j<k
      ·rw [if_pos c,if_neg (by lia),if_neg b,if_pos c]
      ·rw [if_neg c]
       by_cases d:j<k+2
       ·rw [if_pos d,if_pos (by lia)]
       ·rw [if_neg d,if_neg (by lia),if_neg b,if_neg c]
theorem YC {α:Type}{xs:List α}{i:Int}{j:Nat}{v:α} (e:i=(j:Int)) (h:xs[j]? = some v):atI xs i=some v:=by rw [e];exact Zn h
theorem Zat {n:Nat}{i:Int}{j:Nat} (e:i=(j:Int)) (h:j<n):ixN n i=some j:=by rw [e];exact Za3 h
structure Wr (H G:Hp) (rA:Addr) (Z:List Addr) (n:Nat) (F:Nat->Nat->WS):Prop where
 sm:Zf H G
 eA:G rA=some (.lst (Z.map V.ref))
 mat:UX G Z n n F
 fr:∀r∈Z,H r=none/\r≠rA
 fA:H rA=none
theorem Zbe {H G G':Hp}{rA:Addr}{Z:List Addr}{n:Nat}{F:Nat->Nat->WS} (w:Wr H G rA Z n F) (s:Zf G G'):Wr H G' rA Z n F:=⟨w.sm.trans s,s _ _ w.eA,w.mat.same s,w.fr,w.fA⟩
theorem Wa {H G:Hp}{rA:Addr}{Z:List Addr}{n:Nat}{F F':Nat->Nat->WS} (w:Wr H G rA Z n F) (h:∀i j,i<n->j<n->F i j=F' i j):Wr H G rA Z n F':=⟨w.sm,w.eA,w.mat.congr h,w.fr,w.fA⟩
theorem Zaz {H G:Hp}{rA e:Addr}{Z:List Addr}{n i j:Nat}{F:Nat->Nat->WS}{L:WS} (w:Wr H G rA Z n F) (hi:i<n) (hj:j<n) (we:WL G e L):
  ∃(r:Addr) (xs:List V),(Z.map V.ref)[i]? = some (.ref r)/\G r=some (.lst xs)/\xs.length=n/\Wr H (upd G r (.lst (xs.set j (.ref e)))) rA Z n (UA F i j L):=by
 have hl:=w.mat.1
 have hz:Z[i]? = some (Z[i]'(by lia)):=by simp
 obtain ⟨xs,a,b,c⟩:=w.mat.2.2 i _ hz
 have f:=w.fr _ (List.mem_of_getElem? hz)
 refine ⟨Z[i]'(by lia),xs,by rw [List.getElem?_map,hz];rfl,a,b,w.sm.put f.1,?_,w.mat.put hz a hj we,w.fr,w.fA⟩
 rw [Zi (Ne.symm f.2)];exact w.eA
theorem ZeJ {H G:Hp}{rA:Addr}{Z:List Addr}{n:Nat}{F:Nat->Nat->WS} (w:Wr H G rA Z n F):Tab G rA n F:=⟨Z,w.eA,w.mat⟩
theorem Ww {G:Hp}{tA:Addr}{n i j:Nat}{F:Nat->Nat->WS} (x:Tab G tA n F) (hi:i<n) (hj:j<n):∃(ys:List V) (r:Addr) (xs:List V) (e:Addr),G tA=some (.lst ys)/\ys[i]? = some (.ref r)/\G r=some (.lst xs)/\xs[j]? = some (.ref e)/\WL G e (F i j):=by
 obtain ⟨ys,r,a,_,b,c⟩:=x.row hi
 obtain ⟨xs,e,d,_,e1,e2⟩:=c.at hj
 exact ⟨ys,r,xs,e,a,b,d,e1,e2⟩
theorem ZiO {H G:Hp}{Z:List Addr}{n:Nat}{F:Nat->Nat->WS}{rA:Addr} (sm:Zf H G) (m:UX G Z n n F) (fr:∀r∈Z,H r=none) (fA:G rA=none):Wr H (upd G rA (.lst (Z.map V.ref))) rA Z n F:=
 ⟨sm.step fA,Zb,m.same (Zf.laid fA),fun r hr=>⟨fr r hr,fun z=>m.fresh fA (z ▸ hr)⟩,sm.free fA⟩
def TGd (n b:Nat) (F:Nat->Nat->WS):Prop:=∀i j,i<n->j<n->L2.Gd 200 b (F i j)
theorem JQ {t:Int} (h:0<=t) {n m:Nat} (hn:1<=n) (hm:1<=m):L2.Gd n m [[t]]:=⟨hn,fun w hw=>by
 rw [List.mem_singleton.mp hw]
 exact ⟨hm,fun k hk=>by rw [List.mem_singleton.mp hk];exact h⟩⟩
theorem Wg {A B:WS}{n m n' m':Nat} (a:L2.Gd n m A) (b:L2.Gd n' m' B):L2.Gd (n*n') (m+m') (Yi A B):=(Ya _).gd (a.prd b)
theorem Zgj {A B:WS}{n m n' m':Nat} (a:L2.Gd n m A) (b:L2.Gd n' m' B):L2.Gd (n+n') (max m m') (Y5 A B):=(Ya _).gd (a.app b)
def cr1 (k:Nat) (t:Int) (F:Nat->Nat->WS) (c:Nat):Nat->Nat->WS:=fun i j=>
 if i=k/\j=k+1 then [] else if i=k/\k+2<=j/\j<k+2+c then F (k+1) j else if i=k+1/\k+2<=j/\j<k+2+c then Y5 (F k j) (Yi [[t]] (F (k+1) j)) else F i j
def cr2 (k n:Nat) (t:Int) (F:Nat->Nat->WS) (c:Nat):Nat->Nat->WS:=fun i j=>
 if i<c/\j=k+1 then F i k else if i<c/\j=k then Y5 (F i (k+1)) (Yi (F i k) [[t]]) else cr1 k t F (n-(k+2)) i j
theorem Zh4 (k c:Nat) (t:Int) (F:Nat->Nat->WS) (i j:Nat):UA (UA (cr1 k t F c) k (k+2+c) (F (k+1) (k+2+c))) (k+1) (k+2+c) (Y5 (F k (k+2+c)) (Yi [[t]] (F (k+1) (k+2+c)))) i j=cr1 k t F (c+1) i j:=by
 unfold UA cr1
 by_cases e:j=k+2+c
 ·subst e
  by_cases a:i=k+1
  ·subst a
   rw [if_pos ⟨rfl,rfl⟩,if_neg (by lia),if_neg (by lia),if_pos (by lia)]
  ·rw [if_neg (by lia)]
   by_cases b:i=k
   ·subst b
    rw [if_pos ⟨rfl,rfl⟩,if_neg (by lia),if_pos (by lia)]
   ·rw [if_neg (by lia),if_neg (by lia),if_neg (by lia),if_neg (by lia),if_neg (by lia),if_neg (by lia),if_neg (by lia)]
 ·rw [if_neg (by lia),if_neg (by lia)]
  have h1:(i=k/\k+2<=j/\j<k+2+c) ↔ (i=k/\k+2<=j/\j<k+2+(c+1)):=by lia
  have h2:(i=k+1/\k+2<=j/\j<k+2+c) ↔ (i=k+1/\k+2<=j/\j<k+2+(c+1)):=by lia
  simp only [h1,h2]
theorem Zh1 (k n c:Nat) (t:Int) (F:Nat->Nat->WS) (i j:Nat):UA (UA (cr2 k n t F c) c (k+1) (F c k)) c k (Y5 (F c (k+1)) (Yi (F c k) [[t]])) i j=cr2 k n t F (c+1) i j:=by
 unfold UA cr2
 grind
theorem Zjx (k n:Nat) (t:Int) (F:Nat->Nat->WS) (i j:Nat) (hj:j<n):cr2 k n t F k i j=J2 k t F i j:=by
 unfold cr2 cr1 J2
 grind
def Zdl (C:Addr):Sp:=fun vs H Q _=>∃(tA nA x:Addr) (n k:Nat) (t:Int) (F:Nat->Nat->WS),vs = [.ref tA,.int (k:Int),.ref nA,.ref x]/\ZaL H C x/\Tab H tA n F/\WL H nA [[t]]/\0<=t/\k+1<n/\n<=500/\TGd n 50000 F /\
 ∀(p:Addr) (H':Hp),H p=none->Zf H H'->Tab H' p n (J2 k t F)->Q (.ref p) H'
abbrev YI:Stmt:=top 7
theorem YA:ZF ["table", "k", "name", "way", "rows", "j", "i"] ["table", "k", "name", "way"] (Zl YI):={}
theorem Zhf {C:Addr}{f:Addr}{fd:FuncData} (F:Y8 K "behind_crossing" "behind_crossing" YI f fd) (c_way:Cls K C) (JC:US P w K mg base 1 C "nought" ["self"] (U3 C)) (WY:US P w K mg base 3 C "plus" ["self", "one", "other"] Zbl) (JU:US P w K mg base 3 C "times" ["self", "one", "other"] U4) (Zx:mg "range" = none) (Yg:mg "len" = none) (Gm:mg "list" = none):Yj P w K mg base GV 4 f fd ["table", "k", "name", "way"] (Zdl C):=by
 refine F.ok YA (fun vs H Q E h=>?_) (fun cdv A outer s H vs Q E hr h=>?_)
 ·obtain ⟨tA,nA,x,n,k,t,F,rfl,_⟩:=h
  rfl
 ·obtain ⟨tA,nA,x,n,k,t,F,rfl,hw,hT,hN,ht,hk,hn,tg,fin⟩:=h
  refine ⟨_,(Zd (U0 (i:=4) YA.nd rfl (Or.inl rfl) (Ls:=["row"]) (Fs:=[]) (fi:=[]) (ZO.of (show Yu ["table", "k", "name", "way", "rows", "j", "i"] (Zl YI) _ [] []=true by decide +kernel)) rfl (ZT (K:=K) rfl (pv 0)) (fun cl C s3 H3 ex=>⟨(Zj (i:=0) (show ((["row"]:List Str)++([]:List Str)).Nodup by decide +kernel) rfl (Or.inl rfl)),Z0,(ZaF (UN (K:=K) rfl) (by rfl) Gm boot_list (Za (pv 0) Zc))⟩))
   (Zd (Z6 (GX JC c_way (hr.mono (by decide)) (pv 3)) (YG (Zp (Zk (K:=K) rfl) (pv 4) (pv 1) (fun _ _=>rfl)) (Zm Zv (pv 1) Ze) set_list))
   (Zd (Z3 PassesOwn.never rfl (Zal (by rfl) Zx (Za (Zm Zv (pv 1) Ze) (Za (ZH (Yk (K:=K) rfl) (by rfl) Yg PySem.boot_len (Za (pv 0) Zc)) Zc))) (Zj (i:=5) YA.nd rfl (Or.inl rfl)) (Zd (Z6 (Zp (Zk (K:=K) rfl) (Zp (Zk (K:=K) rfl) (pv 0) (Zm Zv (pv 1) Ze) (fun _ _=>rfl)) (pv 5) (fun _ _=>rfl)) (YG (Zp (Zk (K:=K) rfl) (pv 4) (pv 1) (fun _ _=>rfl)) (pv 5) set_list))
   (Zh (Z6 (Jv WY c_way (hr.mono (by decide)) (pv 3) (Za (Zp (Zk (K:=K) rfl) (Zp (Zk (K:=K) rfl) (pv 0) (pv 1) (fun _ _=>rfl)) (pv 5) (fun _ _=>rfl)) (Za (Jv JU c_way (hr.mono (by decide)) (pv 3) (Za (pv 2) (Za (Zp (Zk (K:=K) rfl) (Zp (Zk (K:=K) rfl) (pv 0) (Zm Zv (pv 1) Ze) (fun _ _=>rfl)) (pv 5) (fun _ _=>rfl)) Zc))) Zc))) (YG (Zp (Zk (K:=K) rfl) (pv 4) (Zm Zv (pv 1) Ze) (fun _ _=>rfl)) (pv 5) set_list)))))
   (Zd (Z3 PassesOwn.never rfl (Yb (by rfl) Zx (Za (pv 1) Zc)) (Zj (i:=6) YA.nd rfl (Or.inl rfl)) (Zd (Z6 (Zp (Zk (K:=K) rfl) (Zp (Zk (K:=K) rfl) (pv 0) (pv 6) (fun _ _=>rfl)) (pv 1) (fun _ _=>rfl)) (YG (Zp (Zk (K:=K) rfl) (pv 4) (pv 6) (fun _ _=>rfl)) (Zm Zv (pv 1) Ze) set_list))
   (Zh (Z6 (Jv WY c_way (hr.mono (by decide)) (pv 3) (Za (Zp (Zk (K:=K) rfl) (Zp (Zk (K:=K) rfl) (pv 0) (pv 6) (fun _ _=>rfl)) (Zm Zv (pv 1) Ze) (fun _ _=>rfl)) (Za (Jv JU c_way (hr.mono (by decide)) (pv 3) (Za (Zp (Zk (K:=K) rfl) (Zp (Zk (K:=K) rfl) (pv 0) (pv 6) (fun _ _=>rfl)) (pv 1) (fun _ _=>rfl)) (Za (pv 2) Zc))) Zc))) (YG (Zp (Zk (K:=K) rfl) (pv 4) (pv 6) (fun _ _=>rfl)) (pv 1) set_list)))))
   (Zh (ZJ (pv 4))))))),?_⟩
  obtain ⟨dx,fs,ew,rfl⟩:=id hw
  obtain ⟨A,et,mt⟩:=id hT
  have lA:=mt.1
  refine ⟨_,rfl,tA,rfl,⟨_,Zo.of et⟩,YV (K:=K) (xs:=A.map V.ref) (by rw [List.length_map,sizeLine_eq];lia) (fun i zs G=>Zf H G /\ ∃Z:List Addr,zs=Z.map V.ref/\UX G Z i n F /\ ∀r∈Z,H r=none) ⟨Zf.refl _,[],rfl,Ue,fun r h=>nomatch h⟩
   (fun i zs G ⟨_,Z,e,m,_⟩=>by rw [e,List.length_map,m.1];exact Nat.le_refl _) (fun i zs G ⟨s',_⟩=>Zo.of (s' tA _ et)) ?_ ?_⟩
  ·rintro i v zs G hv ⟨sG,Z,rfl,mZ,nw⟩
   rw [List.getElem?_map] at hv
   obtain ⟨r,hr',rfl⟩:=Option.map_eq_some_iff.mp hv
   obtain ⟨xs,ex,lx,hx⟩:=(mt.2.2 i r hr').same sG
   dsimp only [JD,Wn]
   refine GA ⟨_,rfl,r,xs,rfl,.inl (Zo.of ex),fun D fD=>⟨sG.step fD,Z ++ [D],by rw [List.map_append];rfl,(mZ.same (Zf.laid fD)).snoc (mZ.fresh fD) ⟨xs,Zb,lx,fun j y hy=>?_⟩,fun r' hr''=>?_⟩⟩
   ·obtain ⟨e,p,q⟩:=hx j y hy
    exact ⟨e,p,q.same (Zf.laid fD)⟩
   ·rcases List.mem_append.mp hr'' with z | z
    ·exact nw r' z
    ·rw [List.mem_singleton.mp z];exact sG.free fD
  rintro zs G ⟨sG,Z,rfl,mZ,nw⟩ rA fA
  rw [List.length_map,lA] at mZ
  have W0:=ZiO sG mZ nw fA
  obtain ⟨G1,hG1⟩:∃G1,upd G rA (.lst (Z.map V.ref))=G1:=⟨_,rfl⟩
  rw [hG1] at W0 ⊢
  refine ⟨_,rfl,x,dx,[],rfl,W0.sm _ _ ew,rfl,x,rfl,fun u G2 fu t2 wu=>?_⟩
  obtain ⟨r,xs,h1,h2,h3,W1⟩:=Zaz (i:=k) (j:=k+1) (Zbe W0 t2) (by lia) (by lia) wu
  refine ⟨_,rfl,_,rfl,rA,_,_,_,rfl,rfl,Zo.of (t2 _ _ W0.eA),Zn h1,_,rfl,_,_,rfl,rfl,r,xs,_,k+1,rfl,rfl,h2,Zat (by lia) (by lia),?_⟩
  obtain ⟨G3,hG3⟩:∃G3,upd G2 r (.lst (xs.set (k+1) (.ref u)))=G3:=⟨_,rfl⟩
  rw [hG3] at W1 ⊢
  have e2:(((A.map V.ref).length:Int)-((k:Int)+2)).toNat=n-(k+2):=by rw [List.length_map];lia
  refine ⟨_,rfl,_,_,rfl,rfl,_,rfl,tA,_,rfl,.inl (Zo.of (W1.sm _ _ et)),_,_,rfl,⟨by lia,by lia,by lia,by rw [List.length_map];lia⟩,?_⟩
  rw [e2]
  refine Ys (n:=n-(k+2)) (fun c σ G=>∃v5 v6:Option V,σ = [some (.ref tA),some (.int (k:Int)),some (.ref nA),some (.ref x),some (.ref rA),v5,v6]/\Wr H G rA Z n (cr1 k t F c)) ⟨none,none,rfl,Wa W1 fun i j _ _=>by unfold UA cr1;grind⟩ ?_ ?_
  ·rintro c σ G hc ⟨v5,v6,rfl,W⟩
   obtain ⟨ys,r1,xs1,e1,a1,a2,a3,a4,a5⟩:=Ww (hT.same W.sm) (i:=k+1) (j:=k+2+c) (by lia) (by lia)
   obtain ⟨r,xs,h1,h2,h3,W2⟩:=Zaz (i:=k) (j:=k+2+c) W (by lia) (by lia) a5
   refine ⟨_,rfl,_,rfl,_,_,rfl,rfl,tA,_,_,_,rfl,rfl,Zo.of a1,YC (by lia) a2,_,rfl,r1,_,_,_,rfl,rfl,Zo.of a3,YC (by lia) a4,?_⟩
   refine ⟨_,rfl,_,rfl,rA,_,_,_,rfl,rfl,Zo.of W.eA,Zn h1,_,rfl,r,xs,_,k+2+c,rfl,rfl,h2,Zat (by lia) (by lia),?_⟩
   obtain ⟨G4,hG4⟩:∃G4,upd G r (.lst (xs.set (k+2+c) (.ref e1)))=G4:=⟨_,rfl⟩
   rw [hG4] at W2 ⊢
   obtain ⟨ys,r1,xs1,e1,a1,a2,a3,a4,a5⟩:=Ww (hT.same W2.sm) (i:=k+1) (j:=k+2+c) (by lia) (by lia)
   obtain ⟨ys',r2,xs2,e2,b1,b2,b3,b4,b5⟩:=Ww (hT.same W2.sm) (i:=k) (j:=k+2+c) (by lia) (by lia)
   have g1:=tg (k+1) (k+2+c) (by lia) (by lia)
   have g2:=tg k (k+2+c) (by lia) (by lia)
   refine ⟨_,rfl,x,dx,[],rfl,W2.sm _ _ ew,rfl,_,rfl,_,rfl,tA,_,_,_,rfl,rfl,Zo.of b1,Zn b2,_,rfl,r2,_,_,_,rfl,rfl,Zo.of b3,YC (by lia) b4,?_⟩
   refine ⟨_,rfl,x,dx,[],rfl,W2.sm _ _ ew,rfl,_,rfl,_,rfl,_,rfl,_,_,rfl,rfl,tA,_,_,_,rfl,rfl,Zo.of a1,YC (by lia) a2,_,rfl,r1,_,_,_,rfl,rfl,Zo.of a3,YC (by lia) a4,?_⟩
   refine ⟨x,nA,e1,_,_,rfl,hN.same W2.sm,a5,JQ ht (by decide) (by decide),g1.mono (by decide) (by decide),fun p G5 fp t5 wp=>?_⟩
   have g3:=Wg (JQ ht (n:=1) (m:=1) (by decide) (by decide)) g1
   have l2:=g2.1
   have l3:=g3.1
   refine ⟨x,e2,p,_,_,rfl,b5.same t5,wp,by lia,fun q G6 fq t6 wq=>?_⟩
   have W3:=Zbe W2 (t5.trans t6)
   obtain ⟨r',xs',h1',h2',h3',W4⟩:=Zaz (i:=k+1) (j:=k+2+c) W3 (by lia) (by lia) wq
   refine ⟨_,rfl,_,rfl,_,_,rfl,rfl,rA,_,_,_,rfl,rfl,Zo.of W3.eA,YC (by lia) h1',_,rfl,r',xs',_,k+2+c,rfl,rfl,h2',Zat (by lia) (by lia),?_⟩
   exact ⟨_,_,rfl,Wa W4 fun i j _ _=>Zh4 k c t F i j⟩
  rintro σ G ⟨v5,v6,rfl,W⟩
  refine ⟨_,rfl,_,rfl,by lia,by lia,?_⟩
  rw [Int.toNat_natCast]
  refine Ys (n:=k) (fun c σ G=>∃v5 v6:Option V,σ = [some (.ref tA),some (.int (k:Int)),some (.ref nA),some (.ref x),some (.ref rA),v5,v6]/\Wr H G rA Z n (cr2 k n t F c)) ⟨_,_,rfl,Wa W fun i j _ _=>by unfold cr2;grind⟩ ?_ ?_
  ·rintro c σ G hc ⟨v5,v6,rfl,W⟩
   obtain ⟨ys,r1,xs1,e1,a1,a2,a3,a4,a5⟩:=Ww (hT.same W.sm) (i:=c) (j:=k) (by lia) (by lia)
   obtain ⟨r,xs,h1,h2,h3,W2⟩:=Zaz (i:=c) (j:=k+1) W (by lia) (by lia) a5
   refine ⟨_,rfl,_,rfl,tA,_,_,_,rfl,rfl,Zo.of a1,YC (by lia) a2,_,rfl,r1,_,_,_,rfl,rfl,Zo.of a3,Zn a4,?_⟩
   refine ⟨_,rfl,_,rfl,rA,_,_,_,rfl,rfl,Zo.of W.eA,YC (by lia) h1,_,rfl,_,_,rfl,rfl,r,xs,_,k+1,rfl,rfl,h2,Zat (by lia) (by lia),?_⟩
   obtain ⟨G4,hG4⟩:∃G4,upd G r (.lst (xs.set (k+1) (.ref e1)))=G4:=⟨_,rfl⟩
   rw [hG4] at W2 ⊢
   obtain ⟨ys,r1,xs1,e1,a1,a2,a3,a4,a5⟩:=Ww (hT.same W2.sm) (i:=c) (j:=k) (by lia) (by lia)
   obtain ⟨ys',r2,xs2,e2,b1,b2,b3,b4,b5⟩:=Ww (hT.same W2.sm) (i:=c) (j:=k+1) (by lia) (by lia)
   have g1:=tg c k (by lia) (by lia)
   have g2:=tg c (k+1) (by lia) (by lia)
   refine ⟨_,rfl,x,dx,[],rfl,W2.sm _ _ ew,rfl,_,rfl,_,rfl,tA,_,_,_,rfl,rfl,Zo.of b1,YC (by lia) b2,_,rfl,_,_,rfl,rfl,r2,_,_,_,rfl,rfl,Zo.of b3,YC (by lia) b4,?_⟩
   refine ⟨_,rfl,x,dx,[],rfl,W2.sm _ _ ew,rfl,_,rfl,_,rfl,tA,_,_,_,rfl,rfl,Zo.of a1,YC (by lia) a2,_,rfl,r1,_,_,_,rfl,rfl,Zo.of a3,Zn a4,_,rfl,?_⟩
   refine ⟨x,e1,nA,_,_,rfl,a5,hN.same W2.sm,g1.mono (by decide) (by decide),JQ ht (by decide) (by decide),fun p G5 fp t5 wp=>?_⟩
   have g3:=Wg g1 (JQ ht (n:=1) (m:=1) (by decide) (by decide))
   have l2:=g2.1
   have l3:=g3.1
   refine ⟨x,e2,p,_,_,rfl,b5.same t5,wp,by lia,fun q G6 fq t6 wq=>?_⟩
   have W3:=Zbe W2 (t5.trans t6)
   obtain ⟨r',xs',h1',h2',h3',W4⟩:=Zaz (i:=c) (j:=k) W3 (by lia) (by lia) wq
   refine ⟨_,rfl,_,rfl,rA,_,_,_,rfl,rfl,Zo.of W3.eA,YC (by lia) h1',_,rfl,r',xs',_,k,rfl,rfl,h2',Zat (by lia) (by lia),?_⟩
   exact ⟨_,_,rfl,Wa W4 fun i j _ _=>Zh1 k n c t F i j⟩
  rintro σ G ⟨v5,v6,rfl,W⟩
  exact ⟨_,rfl,fin rA G W.fA W.sm ((ZeJ W).congr fun i j _ hj=>Zjx k n t F i j hj)⟩
def upE (k i:Nat):Nat:=if i<k then i else i+2
def en (k:Nat) (t:Int) (F:Nat->Nat->WS) (c d:Nat):Nat->Nat->WS:=fun i j=>
 if k<=j/\(i<c∨(i=c/\j<k+d)) then Y5 (F i (j+2)) (Yi (GR k t F i) (Zbw k t F (j+2))) else F (upE k i) (upE k j)
theorem Zi8 (k:Nat) (t:Int) (F:Nat->Nat->WS) (c d i j:Nat) (hc:c<k):UA (en k t F c d) c (k+d) (Y5 (F c (k+d+2)) (Yi (GR k t F c) (Zbw k t F (k+d+2)))) i j=en k t F c (d+1) i j:=by
 unfold UA en
 by_cases e:i=c/\j=k+d
 ·obtain ⟨rfl,rfl⟩:=e
  rw [if_pos ⟨rfl,rfl⟩,if_pos (by lia)]
 ·rw [if_neg e]
  have h1:(k<=j/\(i<c∨i=c/\j<k+d)) ↔ (k<=j/\(i<c∨i=c/\j<k+(d+1))):=by lia
  simp only [h1]
theorem Zjp (k n:Nat) (t:Int) (F:Nat->Nat->WS) (c i j:Nat) (hj:j<n-2):en k t F c (n-2-k) i j=en k t F (c+1) 0 i j:=by
 unfold en
 have h1:(k<=j/\(i<c∨i=c/\j<k+(n-2-k))) ↔ (k<=j/\(i<c+1∨i=c+1/\j<k+0)):=by lia
 simp only [h1]
theorem Zls (k:Nat) (t:Int) (F:Nat->Nat->WS) (i j:Nat):en k t F k 0 i j=Zb9 k t F i j:=by
 unfold en Zb9 upE
 have h1:(k<=j/\(i<k∨i=k/\j<k+0)) ↔ (i<k/\k<=j):=by lia
 simp only [h1]
theorem Zf2 (xs:List V) (k:Nat):UU xs (some ((k:Int)+2)) none=xs.drop (k+2):=by
 rw [show (k:Int)+2=((k+2:Nat):Int) by lia]
 exact Zhm xs (k+2)
theorem Zho {α:Type}{l:List α}{k i:Nat}{x:α} (hk:k<=l.length) (h:(l.take k++l.drop (k+2))[i]? = some x):l[upE k i]? = some x:=by
 have lt:(l.take k).length=k:=by rw [List.length_take];lia
 unfold upE
 by_cases a:i<k
 ·rw [if_pos a]
  rw [List.getElem?_append_left (by lia),List.getElem?_take,if_pos a] at h
  exact h
 ·rw [if_neg a]
  rw [List.getElem?_append_right (by lia),lt,List.getElem?_drop] at h
  rw [<- h]
  congr 1
  lia
theorem Zga {α:Type}{l:List α}{k n:Nat} (hl:l.length=n) (hk:k+1<n):(l.take k++l.drop (k+2)).length=n-2:=by
 rw [List.length_append,List.length_take,List.length_drop];lia
def Zhk (C:Addr):Sp:=fun vs H Q _=>∃(tA nA x:Addr) (n k:Nat) (t:Int) (F:Nat->Nat->WS),vs = [.ref tA,.int (k:Int),.ref nA,.ref x]/\ZaL H C x/\Tab H tA n F/\WL H nA [[t]]/\0<=t/\k+1<n/\n<=500/\TGd n 50000 F /\
 ∀(p:Addr) (H':Hp),H p=none->Zf H H'->Tab H' p (n-2) (Zb9 k t F)->Q (.ref p) H'
theorem ZdT {G G':Hp}{zs:List V}{f:Nat->WS}{e:Addr} (h:∀(j:Nat) (y:V),zs[j]? = some y -> ∃e,y = .ref e/\WL G e (f j)) (s:Zf G G') (w:WL G' e (f zs.length)):∀(j:Nat) (y:V),(zs ++ [V.ref e])[j]? = some y -> ∃e,y = .ref e/\WL G' e (f j):=fun j y hy=>by
 by_cases z:j<zs.length
 ·rw [List.getElem?_append_left z] at hy
  obtain ⟨e,p,q⟩:=h j y hy
  exact ⟨e,p,q.same s⟩
 ·rw [List.getElem?_append_right (by lia)] at hy
  have:j-zs.length=0:=by
   have:=(List.getElem?_eq_some_iff.mp hy).1
   simp at this;lia
  rw [this] at hy
  cases hy
  have:j=zs.length:=by lia
  subst this
  exact ⟨e,rfl,w⟩
theorem Zjh {n k i:Nat}{t:Int}{F:Nat->Nat->WS} (tg:TGd n 50000 F) (ht:0<=t) (hk:k+1<n) (hi:i<n):L2.Gd 400 50001 (GR k t F i):=
 (Zgj (tg i (k+1) hi (by lia)) (Wg (tg i k hi (by lia)) (JQ ht (n:=1) (m:=1) (by decide) (by decide)))).mono (by decide) (by decide)
theorem ZlU {n k j:Nat}{t:Int}{F:Nat->Nat->WS} (tg:TGd n 50000 F) (ht:0<=t) (hk:k+1<n) (hj:j<n):L2.Gd 400 50001 (Zbw k t F j):=
 (Zgj (tg k j (by lia) hj) (Wg (JQ ht (n:=1) (m:=1) (by decide) (by decide)) (tg (k+1) j (by lia) hj))).mono (by decide) (by decide)
abbrev YT:Stmt:=top 8
theorem YF:ZF ["table", "k", "name", "way", "onto", "off", "rows", "i", "j"] ["table", "k", "name", "way"] (Zl YT):={}
theorem Zla {C:Addr}{f:Addr}{fd:FuncData} (F:Y8 K "behind_end" "behind_end" YT f fd) (c_way:Cls K C) (WY:US P w K mg base 3 C "plus" ["self", "one", "other"] Zbl) (JU:US P w K mg base 3 C "times" ["self", "one", "other"] U4) (Zx:mg "range" = none) (Yg:mg "len" = none) (ZaS:mg "zip" = none):Yj P w K mg base GV 4 f fd ["table", "k", "name", "way"] (Zhk C):=by
 refine F.ok YF (fun vs H Q E h=>?_) (fun cdv A outer s H vs Q E hr h=>?_)
 ·obtain ⟨tA,nA,x,n,k,t,F,rfl,_⟩:=h
  rfl
 ·obtain ⟨tA,nA,x,n,k,t,F,rfl,hw,hT,hN,ht,hk,hn,tg,fin⟩:=h
  refine ⟨_,(Zd (U0 (i:=4) YF.nd rfl (Or.inl rfl) (Ls:=["row"]) (Fs:=["way", "name", "k"]) (fi:=[3,2,1]) (ZO.of (show Yu ["table", "k", "name", "way", "onto", "off", "rows", "i", "j"] (Zl YT) _ ["way", "name", "k"] [3,2,1]=true by decide +kernel)) rfl (ZT (K:=K) rfl (YR (YN (K:=K) rfl) (pv 0) Wu (Yf (pv 1)))) (fun cl C s3 H3 ex=>⟨(Zj (i:=0) (show ((["row"]:List Str)++(["way", "name", "k"]:List Str)).Nodup by decide +kernel) rfl (Or.inl rfl)),Z0,(Jv WY c_way (hr.mono (by decide)) (pv 1) (Za (Zp (Zk (K:=K) rfl) (pv 0) (Zm Zv (pv 3) Ze) (fun _ _=>rfl)) (Za (Jv JU c_way (hr.mono (by decide)) (pv 1) (Za (Zp (Zk (K:=K) rfl) (pv 0) (pv 3) (fun _ _=>rfl)) (Za (pv 2) Zc))) Zc)))⟩))
   (Zd (U0 (i:=5) YF.nd rfl (Or.inl rfl) (Ls:=["upper", "lower"]) (Fs:=["way", "name"]) (fi:=[3,2]) (ZO.of (show Yu ["table", "k", "name", "way", "onto", "off", "rows", "i", "j"] (Zl YT) _ ["way", "name"] [3,2]=true by decide +kernel)) rfl (Zdd (K:=K) rfl (by rfl) ZaS (Za (Zp (Zk (K:=K) rfl) (pv 0) (pv 1) (fun _ _=>rfl)) (Za (Zp (Zk (K:=K) rfl) (pv 0) (Zm Zv (pv 1) Ze) (fun _ _=>rfl)) Zc))) (fun cl C s3 H3 ex=>⟨(Yq (K:=K) (n:=2) rfl rfl (Zq (Zj (i:=0) (show ((["upper", "lower"]:List Str)++(["way", "name"]:List Str)).Nodup by decide +kernel) rfl (Or.inl rfl)) (Zq (Zj (i:=1) (show ((["upper", "lower"]:List Str)++(["way", "name"]:List Str)).Nodup by decide +kernel) rfl (Or.inl rfl)) Z7))),Z0,(Jv WY c_way (hr.mono (by decide)) (pv 2) (Za (pv 0) (Za (Jv JU c_way (hr.mono (by decide)) (pv 2) (Za (pv 3) (Za (pv 1) Zc))) Zc)))⟩))
   (Zd (U0 (i:=6) YF.nd rfl (Or.inl rfl) (Ls:=["row"]) (Fs:=["k"]) (fi:=[1]) (ZO.of (show Yu ["table", "k", "name", "way", "onto", "off", "rows", "i", "j"] (Zl YT) _ ["k"] [1]=true by decide +kernel)) rfl (ZT (K:=K) rfl (Zm Zau (YR (YN (K:=K) rfl) (pv 0) Wu (Yf (pv 1))) (YR (YN (K:=K) rfl) (pv 0) (Yf (Zm Zv (pv 1) Ze)) Wu))) (fun cl C s3 H3 ex=>⟨(Zj (i:=0) (show ((["row"]:List Str)++(["k"]:List Str)).Nodup by decide +kernel) rfl (Or.inl rfl)),Z0,(Zm Zau (YR (YN (K:=K) rfl) (pv 0) Wu (Yf (pv 1))) (YR (YN (K:=K) rfl) (pv 0) (Yf (Zm Zv (pv 1) Ze)) Wu))⟩))
   (Zd (Z3 PassesOwn.never rfl (Yb (by rfl) Zx (Za (pv 1) Zc)) (Zj (i:=7) YF.nd rfl (Or.inl rfl)) (Zh (Z3 PassesOwn.never rfl (Zal (by rfl) Zx (Za (pv 1) (Za (ZH (Yk (K:=K) rfl) (by rfl) Yg PySem.boot_len (Za (pv 6) Zc)) Zc))) (Zj (i:=8) YF.nd rfl (Or.inl rfl)) (Zh (Z6 (Jv WY c_way (hr.mono (by decide)) (pv 3) (Za (Zp (Zk (K:=K) rfl) (Zp (Zk (K:=K) rfl) (pv 6) (pv 7) (fun _ _=>rfl)) (pv 8) (fun _ _=>rfl)) (Za (Jv JU c_way (hr.mono (by decide)) (pv 3) (Za (Zp (Zk (K:=K) rfl) (pv 4) (pv 7) (fun _ _=>rfl)) (Za (Zp (Zk (K:=K) rfl) (pv 5) (Zm Zv (pv 8) Ze) (fun _ _=>rfl)) Zc))) Zc))) (YG (Zp (Zk (K:=K) rfl) (pv 6) (pv 7) (fun _ _=>rfl)) (pv 8) set_list))))))
   (Zh (ZJ (pv 6))))))),?_⟩
  obtain ⟨dx,fs,ew,rfl⟩:=id hw
  obtain ⟨A,et,mt⟩:=id hT
  have lA:=mt.1
  have g1:=JQ ht (n:=1000) (m:=100000) (by decide) (by decide)
  refine ⟨_,rfl,_,rfl,_,rfl,tA,_,rfl,Zo.of et,fun p1 f1=>?_⟩
  rw [Zbd]
  have s1:Zf H (upd H p1 (.lst ((A.map V.ref).take k))):=Zf.laid f1
  refine ⟨p1,rfl,⟨_,Zo.of Zb⟩,YV (K:=K) (xs:=(A.map V.ref).take k) (by rw [List.length_take,List.length_map,sizeLine_eq];lia) (fun i zs G=>Zf (upd H p1 (.lst ((A.map V.ref).take k))) G/\zs.length=i /\ ∀(j:Nat) (y:V),zs[j]? = some y -> ∃e,y = .ref e/\WL G e (GR k t F j)) ⟨Zf.refl _,rfl,fun j y h=>by simp at h⟩
   (fun i zs G ⟨_,e,_⟩=>by rw [e];exact Nat.le_refl _) (fun i zs G ⟨s',_⟩=>Zo.of (s' p1 _ Zb)) ?_ ?_⟩
  ·rintro i v zs G hv ⟨sG,lz,hz⟩
   have hik:i<k:=by have:=(List.getElem?_eq_some_iff.mp hv).1;rw [List.length_take] at this;lia
   rw [List.getElem?_take,if_pos hik,List.getElem?_map] at hv
   obtain ⟨r,hr',rfl⟩:=Option.map_eq_some_iff.mp hv
   have S:=s1.trans sG
   have R:=(mt.2.2 i r hr').same S
   obtain ⟨xs,e1,ex,lx,a1,a2⟩:=R.at (j:=k) (by lia)
   obtain ⟨xs',e2,ex',lx',b1,b2⟩:=R.at (j:=k+1) (by lia)
   have q1:=tg i k (by lia) (by lia)
   have q2:=tg i (k+1) (by lia) (by lia)
   have q3:=Wg q1 (JQ ht (n:=1) (m:=1) (by decide) (by decide))
   have l2:=q2.1
   have l3:=q3.1
   dsimp only [JD,Wn]
   refine GA ⟨_,rfl,x,dx,[],rfl,S _ _ ew,rfl,_,rfl,_,rfl,_,_,rfl,rfl,r,_,_,_,rfl,rfl,Zo.of ex',YC (by lia) b1,?_⟩
   refine ⟨_,rfl,x,dx,[],rfl,S _ _ ew,rfl,_,rfl,_,rfl,r,_,_,_,rfl,rfl,Zo.of ex,Zn a1,_,rfl,?_⟩
   refine ⟨x,e1,nA,_,_,rfl,a2,hN.same S,q1.mono (by decide) (by decide),g1,fun p G2 fp t2 wp=>?_⟩
   refine ⟨x,e2,p,_,_,rfl,b2.same t2,wp,by lia,fun q G3 fq t3 wq=>?_⟩
   exact ⟨(sG.trans t2).trans t3,by rw [List.length_append,lz];rfl,ZdT hz (t2.trans t3) (by rw [lz];exact wq)⟩
  rintro zs G ⟨sG,lz,hz⟩ oA fo
  rw [List.length_take,List.length_map,lA,Nat.min_eq_left (by lia)] at lz
  have so:Zf G (upd G oA (.lst zs)):=Zf.laid fo
  have rO:JN (upd G oA (.lst zs)) oA k (GR k t F):=⟨zs,Zb,lz,fun j y hy=>let ⟨e,p,q⟩:=hz j y hy;⟨e,p,q.same so⟩⟩
  have S1:=(s1.trans sG).trans so
  obtain ⟨G1,hG1⟩:∃G1,upd G oA (.lst zs)=G1:=⟨_,rfl⟩
  rw [hG1] at rO S1 ⊢
  obtain ⟨ys,r0,a1,a2,a3,a4⟩:=(hT.same S1).row (i:=k) (by lia)
  obtain ⟨ys',r1,b1,b2,b3,b4⟩:=(hT.same S1).row (i:=k+1) (by lia)
  obtain ⟨us,c1,c2,c3⟩:=id a4
  obtain ⟨vs,d1,d2,d3⟩:=id b4
  refine ⟨_,rfl,_,rfl,tA,_,_,_,rfl,rfl,Zo.of a1,Zn a3,_,rfl,_,rfl,_,_,rfl,rfl,tA,_,_,_,rfl,rfl,Zo.of b1,YC (by lia) b3,?_⟩
  refine ⟨r0,r1,rfl,⟨_,Zo.of c1⟩,⟨_,Zo.of d1⟩,ZlK (K:=K) (xs:=us) (ys:=vs) (by rw [c2,sizeLine_eq];lia) (by lia) (fun i zs G=>Zf G1 G/\zs.length=i /\ ∀(j:Nat) (y:V),zs[j]? = some y -> ∃e,y = .ref e/\WL G e (Zbw k t F j)) ⟨Zf.refl _,rfl,fun j y h=>by simp at h⟩
   (fun i zs G ⟨_,e,_⟩=>by rw [e];exact Nat.le_refl _) (fun i zs G ⟨s',_⟩=>⟨Zo.of (s' _ _ c1),Zo.of (s' _ _ d1)⟩) ?_ ?_⟩
  ·rintro i y z p zs G2 hy hz' ⟨s2,lz2,hz2⟩ fp
   have hin:i<n:=by have:=(List.getElem?_eq_some_iff.mp hy).1;lia
   obtain ⟨e1,rfl,w1⟩:=c3 i y hy
   obtain ⟨e2,rfl,w2⟩:=d3 i z hz'
   have sp:=s2.step (o:=.tup [.ref e1,.ref e2]) fp
   have S:=S1.trans sp
   have q1:=tg (k+1) i (by lia) (by lia)
   have q2:=tg k i (by lia) (by lia)
   have q3:=Wg (JQ ht (n:=1) (m:=1) (by decide) (by decide)) q1
   have l2:=q2.1
   have l3:=q3.1
   refine ⟨p,_,rfl,JH.of Zb,rfl,_,_,rfl,_,_,rfl,rfl,?_⟩
   refine lcT ⟨_,rfl,x,dx,[],rfl,S _ _ ew,rfl,_,rfl,_,rfl,x,dx,[],rfl,S _ _ ew,rfl,_,rfl,_,rfl,?_⟩
   refine ⟨x,nA,e2,_,_,rfl,hN.same S,w2.same sp,g1,q1.mono (by decide) (by decide),fun p' G3 fp' t3 wp=>?_⟩
   refine ⟨x,e1,p',_,_,rfl,(w1.same sp).same t3,wp,by lia,fun q G4 fq t4 wq=>?_⟩
   exact ⟨(sp.trans t3).trans t4,by rw [List.length_append,lz2];rfl,ZdT hz2 (((Zf.laid fp).trans t3).trans t4) (by rw [lz2];exact wq)⟩
  rintro zs2 G2 ⟨s2,lz2,hz2⟩ fA ff
  rw [c2] at lz2
  have sf:Zf G2 (upd G2 fA (.lst zs2)):=Zf.laid ff
  have rF:JN (upd G2 fA (.lst zs2)) fA n (Zbw k t F):=⟨zs2,Zb,lz2,fun j y hy=>let ⟨e,p,q⟩:=hz2 j y hy;⟨e,p,q.same sf⟩⟩
  have S2:=(S1.trans s2).trans sf
  have rO2:=rO.same (s2.trans sf)
  obtain ⟨G3,hG3⟩:∃G3,upd G2 fA (.lst zs2)=G3:=⟨_,rfl⟩
  rw [hG3] at rF S2 rO2 ⊢
  have et3:=S2 _ _ et
  refine ⟨_,rfl,_,rfl,_,rfl,tA,_,rfl,Zo.of et3,fun q1 fq1=>?_⟩
  rw [Zbd]
  have t1:Zf G3 (upd G3 q1 (.lst ((A.map V.ref).take k))):=Zf.laid fq1
  refine ⟨_,rfl,_,rfl,_,_,rfl,rfl,_,rfl,tA,_,rfl,Zo.of (t1 _ _ et3),fun q2 fq2=>?_⟩
  rw [Zf2]
  refine ⟨q1,q2,_,_,rfl,rfl,Zf.laid fq2 _ _ Zb,Zb,(by rw [List.length_take,List.length_drop,List.length_map,sizeLine_eq];lia),fun q3 fq3=>?_⟩
  obtain ⟨G4,hG4⟩:∃G4,upd (upd (upd G3 q1 (.lst ((A.map V.ref).take k))) q2 (.lst ((A.map V.ref).drop (k+2)))) q3 (.lst ((A.map V.ref).take k++(A.map V.ref).drop (k+2)))=G4:=⟨_,rfl⟩
  have t4:Zf G3 G4:=by rw [<- hG4];exact (t1.step fq2).step fq3
  have eq3:G4 q3=some (.lst ((A.map V.ref).take k++(A.map V.ref).drop (k+2))):=by rw [<- hG4];exact Zb
  rw [hG4]
  have S4:=S2.trans t4
  have lg:((A.map V.ref).take k++(A.map V.ref).drop (k+2)).length=n-2:=Zga (by rw [List.length_map];exact lA) hk
  refine ⟨q3,rfl,⟨_,Zo.of eq3⟩,YV (K:=K) (xs:=(A.map V.ref).take k++(A.map V.ref).drop (k+2)) (by rw [lg,sizeLine_eq];lia) (fun i zs G=>Zf G4 G /\ ∃Z:List Addr,zs=Z.map V.ref/\(UX G Z i (n-2) fun i j=>F (upE k i) (upE k j)) /\ ∀r∈Z,G3 r=none) ⟨Zf.refl _,[],rfl,Ue,fun r h=>nomatch h⟩
   (fun i zs G ⟨_,Z,e,m,_⟩=>by rw [e,List.length_map,m.1];exact Nat.le_refl _) (fun i zs G ⟨s',_⟩=>Zo.of (s' q3 _ eq3)) ?_ ?_⟩
  ·rintro i v zs G hv ⟨sG,Z,rfl,mZ,nw⟩
   have hv':=Zho (by rw [List.length_map];lia) hv
   rw [List.getElem?_map] at hv'
   obtain ⟨r,hr',rfl⟩:=Option.map_eq_some_iff.mp hv'
   have S:=S4.trans sG
   obtain ⟨xs,ex,lx,hx⟩:=(mt.2.2 _ r hr').same S
   dsimp only [JD,Wn]
   refine GA ⟨_,rfl,_,rfl,_,rfl,r,xs,rfl,Zo.of ex,fun u1 fu1=>?_⟩
   rw [Zbd]
   refine ⟨_,rfl,_,rfl,_,_,rfl,rfl,_,rfl,r,xs,rfl,Zo.of (Zf.laid fu1 _ _ ex),fun u2 fu2=>?_⟩
   rw [Zf2]
   refine ⟨u1,u2,_,_,rfl,rfl,Zf.laid fu2 _ _ Zb,Zb,(by rw [List.length_take,List.length_drop,sizeLine_eq];lia),fun D fD=>?_⟩
   have sD:Zf G _:=((Zf.laid (o:=.lst (xs.take k)) fu1).step (o:=.lst (xs.drop (k+2))) fu2)
   have sE:=sD.step (o:=.lst (xs.take k++xs.drop (k+2))) fD
   refine ⟨sG.trans sE,Z ++ [D],by rw [List.map_append];rfl,(mZ.same sE).snoc ((mZ.same sD).fresh fD) ⟨_,Zb,Zga lx hk,fun j y hy=>?_⟩,fun r' hr''=>?_⟩
   ·obtain ⟨e,p,q⟩:=hx _ y (Zho (by lia) hy)
    exact ⟨e,p,q.same sE⟩
   ·rcases List.mem_append.mp hr'' with z | z
    ·exact nw r' z
    ·rw [List.mem_singleton.mp z];exact ((t4.trans sG).trans sD).free fD
  rintro zs3 G5 ⟨s5,Z,rfl,mZ,nw⟩ rA fA'
  rw [lg] at mZ
  have W0:=ZiO (t4.trans s5) mZ nw fA'
  obtain ⟨G6,hG6⟩:∃G6,upd G5 rA (.lst (Z.map V.ref))=G6:=⟨_,rfl⟩
  rw [hG6] at W0 ⊢
  refine ⟨_,rfl,_,rfl,by lia,by lia,?_⟩
  rw [Int.toNat_natCast]
  refine Ys (n:=k) (fun c σ G=>∃v7 v8:Option V,σ = [some (.ref tA),some (.int (k:Int)),some (.ref nA),some (.ref x),some (.ref oA),some (.ref fA),some (.ref rA),v7,v8]/\Wr G3 G rA Z (n-2) (en k t F c 0)) ⟨none,none,rfl,Wa W0 fun i j _ _=>by unfold en;rw [if_neg (by lia)]⟩ ?_ ?_
  ·rintro c σ G hc ⟨v7,v8,rfl,W⟩
   have lZ:(Z.map V.ref).length=n-2:=by rw [List.length_map];exact W.mat.1
   have e2:(((Z.map V.ref).length:Int)-(k:Int)).toNat=n-2-k:=by rw [lZ];lia
   refine ⟨_,rfl,_,rfl,rA,_,rfl,.inl (Zo.of W.eA),_,_,rfl,⟨by lia,by lia,by lia,by rw [lZ];lia⟩,?_⟩
   rw [e2]
   refine Ys (n:=n-2-k) (fun d σ G=>∃v8:Option V,σ = [some (.ref tA),some (.int (k:Int)),some (.ref nA),some (.ref x),some (.ref oA),some (.ref fA),some (.ref rA),some (.int (0+(c:Int))),v8]/\Wr G3 G rA Z (n-2) (en k t F c d)) ⟨v8,rfl,W⟩ ?_ ?_
   ·rintro d σ G hd ⟨v8,rfl,W⟩
    obtain ⟨ys,r1,xs1,e1,a1,a2,a3,a4,a5⟩:=Ww (ZeJ W) (i:=c) (j:=k+d) (by lia) (by lia)
    have a5':WL G e1 (F c (k+d+2)):=by
     unfold en upE at a5
     rw [if_neg (by lia),if_pos (by lia),if_neg (by lia)] at a5
     exact a5
    obtain ⟨xo,eo,b1,b2,b3,b4⟩:=(rO2.same W.sm).at (j:=c) (by lia)
    obtain ⟨xf,ef,c1',c2',c3',c4'⟩:=(rF.same W.sm).at (j:=k+d+2) (by lia)
    have g2:=Zjh tg ht hk (i:=c) (by lia)
    have g3:=ZlU tg ht hk (j:=k+d+2) (by lia)
    have g4:=Wg g2 g3
    have l4:=g4.1
    have l1:=(tg c (k+d+2) (by lia) (by lia)).1
    have ewG:=W.sm _ _ (S2 _ _ ew)
    refine ⟨_,rfl,x,dx,[],rfl,ewG,rfl,_,rfl,_,rfl,rA,_,_,_,rfl,rfl,Zo.of a1,YC (by lia) a2,_,rfl,r1,_,_,_,rfl,rfl,Zo.of a3,YC (by lia) a4,?_⟩
    refine ⟨_,rfl,x,dx,[],rfl,ewG,rfl,_,rfl,_,rfl,oA,_,_,_,rfl,rfl,Zo.of b1,YC (by lia) b3,_,rfl,_,rfl,_,_,rfl,rfl,fA,_,_,_,rfl,rfl,Zo.of c1',YC (by lia) c3',?_⟩
    refine ⟨x,eo,ef,_,_,rfl,b4,c4',g2.mono (by decide) (by decide),g3.mono (by decide) (by decide),fun p G7 fp t7 wp=>?_⟩
    refine ⟨x,e1,p,_,_,rfl,a5'.same t7,wp,by lia,fun q G8 fq t8 wq=>?_⟩
    have W3:=Zbe W (t7.trans t8)
    obtain ⟨r',xs',h1',h2',h3',W4⟩:=Zaz (i:=c) (j:=k+d) W3 (by lia) (by lia) wq
    refine ⟨_,rfl,_,rfl,rA,_,_,_,rfl,rfl,Zo.of W3.eA,YC (by lia) h1',_,rfl,r',xs',_,k+d,rfl,rfl,h2',Zat (by lia) (by lia),?_⟩
    exact ⟨_,rfl,Wa W4 fun i j _ _=>Zi8 k t F c d i j hc⟩
   ·rintro σ G ⟨v8,rfl,W⟩
    exact ⟨_,_,rfl,Wa W fun i j _ hj=>Zjp k n t F c i j hj⟩
  rintro σ G ⟨v7,v8,rfl,W⟩
  exact ⟨_,rfl,fin rA G (S2.free W.fA) (S2.trans W.sm) ((ZeJ W).congr fun i j _ _=>Zls k t F i j)⟩
def nxN (x:Str) (n:Nat):Nat:=if x = "born" then n+2 else if x = "cross" then n else n-2
def nxF (x:Str) (k:Nat) (t:Int) (F:Nat->Nat->WS):Nat->Nat->WS:=if x = "born" then Uw k F else if x = "cross" then J2 k t F else Zb9 k t F
def Fit (x:Str) (k n:Nat):Prop:=(x = "born" /\ k<=n)∨(x = "cross" /\ k+1<n)∨(x = "end" /\ k+1<n)
def ZkY (C:Addr):Sp:=fun vs H Q _=>∃(tA lA nA x:Addr) (n k:Nat) (kd:Str) (t:Int) (F:Nat->Nat->WS),vs = [.ref tA,.ref lA,.ref nA,.ref x]/\ZaL H C x/\Tab H tA n F/\H lA=some (.tup [.str kd,.int (k:Int)])/\WL H nA [[t]]/\0<=t/\n<=400/\TGd n 50000 F/\Fit kd k n /\
 ∀(p:Addr) (H':Hp),H p=none->Zf H H'->Tab H' p (nxN kd n) (nxF kd k t F)->Q (.ref p) H'
abbrev J8:Stmt:=top 9
theorem JM:ZF ["table", "letter", "name", "way", "kind", "k"] ["table", "letter", "name", "way"] (Zl J8):={}
theorem ZmF {C:Addr}{f:Addr}{fd:FuncData} (F:Y8 K "table_behind" "table_behind" J8 f fd) (Wj:JV P w K mg base 2 "behind_birth" ["table", "k", "way"] (Zc9 C)) (Jg:JV P w K mg base 4 "behind_crossing" ["table", "k", "name", "way"] (Zdl C)) (W6:JV P w K mg base 4 "behind_end" ["table", "k", "name", "way"] (Zhk C)):Yj P w K mg base GV 5 f fd ["table", "letter", "name", "way"] (ZkY C):=by
 refine F.ok JM (fun vs H Q E h=>?_) (fun cdv A outer s H vs Q E hr h=>?_)
 ·obtain ⟨tA,lA,nA,x,n,k,kd,t,F,rfl,_⟩:=h
  rfl
 ·obtain ⟨tA,lA,nA,x,n,k,kd,t,F,rfl,hw,hT,hl,hN,ht,hn,tg,ft,fin⟩:=h
  refine ⟨_,(Zd (Z6 (pv 1) (Yq (K:=K) (n:=2) rfl rfl (Zq (Zj (i:=4) JM.nd rfl (Or.inl rfl)) (Zq (Zj (i:=5) JM.nd rfl (Or.inl rfl)) Z7))))
   (Zd (Yh (Zw J7 (pv 4) Z4 (ZM _)) (Zh (ZJ (Zz Wj hr (Za (pv 0) (Za (pv 5) (Za (pv 3) Zc)))))) ZX)
   (Zd (Yh (Zw J7 (pv 4) Z4 (ZM _)) (Zh (ZJ (Zz Jg hr (Za (pv 0) (Za (pv 5) (Za (pv 2) (Za (pv 3) Zc))))))) ZX)
   (Zh (ZJ (Zz W6 hr (Za (pv 0) (Za (pv 5) (Za (pv 2) (Za (pv 3) Zc)))))))))),?_⟩
  refine ⟨_,rfl,lA,_,rfl,JH.of hl,rfl,_,_,rfl,_,_,rfl,rfl,?_⟩
  refine ⟨_,rfl,rfl,_,rfl,Y1 (fun c=>?_) (fun c=>?_)⟩
  ·have e:kd = "born" := V.str.inj (of_decide_eq_true c)
   subst e
   rcases ft with ⟨_,h⟩ | ⟨h,_⟩ | ⟨h,_⟩
   ·exact ⟨_,rfl,_,rfl,_,rfl,tA,x,n,k,F,rfl,hw,hT,h,by lia,fun p H' fp s' tb=>fin p H' fp s' tb⟩
   ·exact absurd h (by decide)
   ·exact absurd h (by decide)
  ·have e:kd ≠ "born" := fun z=>c (decide_eq_true (congrArg V.str z))
   refine ⟨_,rfl,rfl,_,rfl,Y1 (fun c=>?_) (fun c=>?_)⟩
   ·have e:kd = "cross" := V.str.inj (of_decide_eq_true c)
    subst e
    rcases ft with ⟨h,_⟩ | ⟨_,h⟩ | ⟨h,_⟩
    ·exact absurd h (by decide)
    ·exact ⟨_,rfl,_,rfl,_,rfl,_,rfl,tA,nA,x,n,k,t,F,rfl,hw,hT,hN,ht,h,by lia,tg,fun p H' fp s' tb=>fin p H' fp s' tb⟩
    ·exact absurd h (by decide)
   ·have e':kd ≠ "cross" := fun z=>c (decide_eq_true (congrArg V.str z))
    rcases ft with ⟨h,_⟩ | ⟨h,_⟩ | ⟨h,h2⟩
    ·exact absurd h e
    ·exact absurd h e'
    ·subst h
     exact ⟨_,rfl,_,rfl,_,rfl,_,rfl,tA,nA,x,n,k,t,F,rfl,hw,hT,hN,ht,h2,by lia,tg,fun p H' fp s' tb=>fin p H' fp s' tb⟩
def Few (n:Nat) (F:Nat->Nat->WS):Prop:=∀i j,i<n->j<n->(F i j).length<=200
def Zlq (C:Addr):Sp:=fun vs H Q E=>∃(tA:Addr) (n:Nat) (F:Nat->Nat->WS),vs = [.ref tA]/\Tab H tA n F/\n<=500/\(∀i j,i<n->j<n->(F i j).length<10000000)/\(Few n F->Q .non H)/\(¬Few n F->E (.ref C) none H)
abbrev WE:Stmt:=top 17
theorem J4:ZF ["table", "row", "one"] ["table"] (Zl WE):={}
theorem Zmb {f ZE:Addr}{fd:FuncData}{tk:Tok} (F:Y8 K "check_words" "check_words" WE f fd) (JZ:mg "TooMany" = some (.ref ZE)) (Ja:PySem.W.excIn K ZE bmV "ValueError.__new__" = true) (Gu:mg "MOST_WORDS" = some (.int 200 tk)) (Yg:mg "len" = none):Yj P w K mg base (CX1 P w) 1 f fd ["table"] (Zlq ZE):=by
 refine F.okX J4 (fun vs H Q E h=>?_) (fun cdv A outer s H vs Q E hr h=>?_)
 ·obtain ⟨tA,n,F,rfl,_⟩:=h
  rfl
 ·obtain ⟨tA,n,F,rfl,hT,hn,hz,k,kx⟩:=h
  refine ⟨_,(Zh (Z3 PassesOwn.leaving rfl (ZT (K:=K) rfl (pv 0)) (Zj (i:=1) J4.nd rfl (Or.inl rfl)) (Zh (Z3 PassesOwn.leaving rfl (ZT (K:=K) rfl (pv 1)) (Zj (i:=2) J4.nd rfl (Or.inl rfl)) (Zh (Yh (Zw ZaN (ZH (Yk (K:=K) rfl) (by rfl) Yg PySem.boot_len (Za (pv 2) Zc)) (Zjk (v:=.int 200) (by rfl) Gu ⟨_,rfl⟩) (ZM _)) (Zh (Ziy (by rfl) JZ Ja (Za (Zma (ZH (Yk (K:=K) rfl) (by rfl) Yg PySem.boot_len (Za (pv 2) Zc)) (by decide) (by decide)) Zc))) ZX)))))),?_⟩
  obtain ⟨A,et,mt⟩:=id hT
  have lA:=mt.1
  refine ⟨_,rfl,tA,rfl,⟨_,Zo.of et⟩,Wh (K:=K) (a:=tA) (xs:=A.map V.ref) (fun i σ G=>∃v1 v2:Option V,σ = [some (.ref tA),v1,v2]/\G=H /\ ∀i' j,i'<i->j<n->(F i' j).length<=200) ⟨none,none,rfl,rfl,fun i' j h=>by lia⟩ (fun i σ G _ ⟨_,_,_,e,_⟩=>by rw [e];exact Zo.of et) ?_ ?_⟩
  ·rintro i v σ G hv ⟨v1,v2,rfl,rfl,ok⟩
   rw [List.getElem?_map] at hv
   obtain ⟨r,hr',rfl⟩:=Option.map_eq_some_iff.mp hv
   have hi:i<n:=by have:=(List.getElem?_eq_some_iff.mp hr').1;lia
   obtain ⟨xs,ex,lx,hx⟩:=mt.2.2 i r hr'
   refine ⟨_,rfl,r,rfl,⟨_,Zo.of ex⟩,Wh (K:=K) (a:=r) (xs:=xs) (fun j σ G'=>∃v2:Option V,σ = [some (.ref tA),some (.ref r),v2]/\G'=G /\ ∀j',j'<j->(F i j').length<=200) ⟨v2,rfl,rfl,fun j' h=>by lia⟩ (fun j σ G' _ ⟨_,_,e,_⟩=>by rw [e];exact Zo.of ex) ?_ ?_⟩
   ·rintro j y σ G' hy ⟨v2,rfl,rfl,ok2⟩
    have hj:j<n:=by have:=(List.getElem?_eq_some_iff.mp hy).1;lia
    obtain ⟨e,rfl,us,eu,wu⟩:=hx j y hy
    have lu:=wu.len
    have hzz:=hz i j hi hj
    refine ⟨_,rfl,e,_,rfl,.inl (Zo.of eu),_,_,rfl,rfl,_,rfl,Y1 (fun c=>?_) (fun c=>?_)⟩
    ·have c':(200:Int)<(us.length:Int):=of_decide_eq_true c
     refine ⟨_,rfl,e,_,rfl,.inl (Zo.of eu),_,rfl,by lia,fun z=>⟨(by show 1<=sizeLine;decide),kx fun fw=>?_⟩⟩
     have:=fw i j hi hj
     lia
    ·have c':¬(200:Int)<(us.length:Int):=fun z=>c (decide_eq_true z)
     refine ⟨_,rfl,rfl,fun j' h=>?_⟩
     by_cases z:j'=j
     ·subst z;lia
     ·exact ok2 j' (by lia)
   ·rintro σ G' ⟨v2,rfl,rfl,ok2⟩
    refine ⟨_,_,rfl,rfl,fun i' j h hj=>?_⟩
    by_cases z:i'=i
    ·subst z;exact ok2 j (by lia)
    ·exact ok i' j (by lia) hj
  ·rintro σ G ⟨v1,v2,rfl,rfl,ok⟩
   exact k fun i j hi hj=>ok i j (by rw [List.length_map];lia) hj
def stT (s:Nat×(Nat->Nat->WS)×Int) (p:Str×Int):Nat×(Nat->Nat->WS)×Int:=(nxN p.1 s.1,nxF p.1 p.2.toNat s.2.2 s.2.1,s.2.2+1)
def Zfp (ls:List (Str×Int)):Nat×(Nat->Nat->WS)×Int:=ls.foldl stT (0,fun _ _=>[],0)
def tN (ls:List (Str×Int)):Nat:=(Zfp ls).1
def tF (ls:List (Str×Int)):Nat->Nat->WS:=(Zfp ls).2.1
theorem ZdP (ls:List (Str×Int)) (p:Str×Int):Zfp (ls ++ [p])=stT (Zfp ls) p:=by unfold Zfp;rw [List.foldl_append];rfl
theorem ZmK (ls:List (Str×Int)):(Zfp ls).2.2=ls.length:=by
 have key:∀(ls:List (Str×Int)) (s:Nat×(Nat->Nat->WS)×Int),(ls.foldl stT s).2.2=s.2.2+ls.length:=by
  intro ls
  induction ls with
  | nil=>intro s;simp
  | cons p ls ih=>intro s;rw [List.foldl_cons,ih];show s.2.2+1+_=_;rw [List.length_cons];lia
 have:=key ls (0,fun _ _=>[],0)
 unfold Zfp
 rw [this]
 show (0:Int)+_=_
 lia
theorem Uc (ls:List (Str×Int)) (p:Str×Int):tN (ls ++ [p])=nxN p.1 (tN ls):=by unfold tN;rw [ZdP];rfl
theorem Za7 (ls:List (Str×Int)) (p:Str×Int):tF (ls ++ [p])=nxF p.1 p.2.toNat ls.length (tF ls):=by unfold tF;rw [ZdP,<- ZmK ls];rfl
theorem Zbp {ls:List (Str×Int)}{n:Int} (h:Wk ls n):(tN ls:Int)=n:=by
 induction h with
 | nil=>rfl
 | born h h0 h1 ih=>rw [Uc];unfold nxN;rw [if_pos rfl];lia
 | cross h h0 h1 ih=>rw [Uc];unfold nxN;rw [if_neg (by dsimp only;decide),if_pos rfl];lia
 | fin h h0 h1 ih=>rw [Uc];unfold nxN;rw [if_neg (by dsimp only;decide),if_neg (by dsimp only;decide)];lia
theorem Zam {ls:List (Str×Int)}{m:Int} (h:Wk ls m):∀(i:Nat) (p:Str×Int),ls[i]? = some p->0<=p.2/\Fit p.1 p.2.toNat (tN (ls.take i)):=by
 have key:∀{ls:List (Str×Int)}{q:Str×Int}{n:Int},Wk ls n->(∀(i:Nat) (p:Str×Int),ls[i]? = some p->0<=p.2/\Fit p.1 p.2.toNat (tN (ls.take i)))->(0<=q.2/\Fit q.1 q.2.toNat (tN ls)) -> ∀(i:Nat) (p:Str×Int),(ls ++ [q])[i]? = some p->0<=p.2/\Fit p.1 p.2.toNat (tN ((ls ++ [q]).take i)):=by
  intro ls q n _ ih hq i p hp
  by_cases z:i<ls.length
  ·rw [List.getElem?_append_left z] at hp
   rw [List.take_append_of_le_length (by lia)]
   exact ih i p hp
  ·rw [List.getElem?_append_right (by lia)] at hp
   have:i-ls.length=0:=by
    have:=(List.getElem?_eq_some_iff.mp hp).1
    simp at this;lia
   rw [this] at hp
   cases hp
   have:i=ls.length:=by lia
   subst this
   rw [List.take_left']
   ·exact hq
   ·rfl
 induction h with
 | nil=>intro i p h;simp at h
 | born h h0 h1 ih=>exact key h ih ⟨h0,.inl ⟨rfl,by have:=Zbp h;dsimp only;lia⟩⟩
 | cross h h0 h1 ih=>exact key h ih ⟨h0,.inr (.inl ⟨rfl,by have:=Zbp h;dsimp only;lia⟩)⟩
 | fin h h0 h1 ih=>exact key h ih ⟨h0,.inr (.inr ⟨rfl,by have:=Zbp h;dsimp only;lia⟩)⟩
def WB (B:Nat) (L:WS):Prop:=∀w∈L,w.length+2<=B /\ ∀k∈w,0<=k
theorem ZeV {B:Nat}:WB B []:=fun w h=>nomatch h
theorem Jn {B B':Nat}{L:WS} (h:WB B L) (hB:B<=B'):WB B' L:=fun w hw=>⟨by have:=(h w hw).1;lia,(h w hw).2⟩
theorem Zah {B:Nat}{L M:WS} (h:WB B L) (h':WB B M):WB B (Y5 L M):=fun w hw=>by
 rcases List.mem_append.mp ((Ya _).sub hw) with z | z
 ·exact h w z
 ·exact h' w z
theorem GQ {a b B:Nat}{L M:WS} (h:∀w∈L,w.length<=a /\ ∀k∈w,0<=k) (h':∀w∈M,w.length<=b /\ ∀k∈w,0<=k) (hB:a+b+2<=B):WB B (Yi L M):=fun w hw=>by
 obtain ⟨u,hu,z⟩:=List.mem_flatMap.mp ((Ya _).sub hw)
 obtain ⟨v,hv,rfl⟩:=List.mem_map.mp z
 refine ⟨by rw [List.length_append];have:=(h u hu).1;have:=(h' v hv).1;lia,fun k hk=>?_⟩
 rcases List.mem_append.mp hk with z | z
 ·exact (h u hu).2 k z
 ·exact (h' v hv).2 k z
theorem Zaa {t:Int} (ht:0<=t):∀w ∈ [[t]],w.length<=1 /\ ∀k∈w,0<=k:=fun w hw=>by
 rw [List.mem_singleton.mp hw]
 exact ⟨by simp,fun k hk=>by rw [List.mem_singleton.mp hk];exact ht⟩
theorem Zjc {x:Str}{k:Nat}{t:Int}{F:Nat->Nat->WS}{B:Nat} (hB:2<=B) (ht:0<=t) (h:∀i j,WB B (F i j)) (i j:Nat):
  WB (if x = "cross" then B+1 else if x = "end" ∨ x ≠ "born" then 2*B else B) (nxF x k t F i j):=by
 have lo:∀i j,∀w∈F i j,w.length<=B-2 /\ ∀k∈w,0<=k:=fun i j w hw=>⟨by have:=(h i j w hw).1;lia,(h i j w hw).2⟩
 unfold nxF
 by_cases e:x = "born"
 ·subst e
  rw [if_pos rfl,if_neg (by decide),if_neg (by decide)]
  unfold Uw
  split
  ·intro w hw
   rw [List.mem_singleton.mp hw]
   exact ⟨by simpa using hB,fun k hk=>nomatch hk⟩
  ·split
   ·exact ZeV
   ·exact h _ _
 ·rw [if_neg e]
  by_cases e2:x = "cross"
  ·subst e2
   rw [if_pos rfl,if_pos rfl]
   unfold J2
   repeat' split
   ·exact ZeV
   ·exact Jn (h _ _) (by lia)
   ·exact Zah (Jn (h _ _) (by lia)) (GQ (Zaa ht) (lo _ _) (by lia))
   ·exact Jn (h _ _) (by lia)
   ·exact Zah (Jn (h _ _) (by lia)) (GQ (lo _ _) (Zaa ht) (by lia))
   ·exact Jn (h _ _) (by lia)
  ·rw [if_neg e2,if_neg e2,if_pos (.inr e)]
   unfold Zb9
   split
   ·refine Zah (Jn (h _ _) (by lia)) (GQ (a:=B-1) (b:=B-1) (fun w hw=>?_) (fun w hw=>?_) (by lia))
    ·have:=Zah (B:=B+1) (Jn (h i (k+1)) (by lia)) (GQ (B:=B+1) (lo i k) (Zaa ht) (by lia)) w hw
     exact ⟨by have:=this.1;lia,this.2⟩
    ·have:=Zah (B:=B+1) (Jn (h k (j+2)) (by lia)) (GQ (B:=B+1) (Zaa ht) (lo (k+1) (j+2)) (by lia)) w hw
     exact ⟨by have:=this.1;lia,this.2⟩
   ·exact Jn (h _ _) (by lia)
theorem Zkn {ls:List (Str×Int)}{n:Int} (h:Wk ls n):n+2*(cnt "end" ls:Int)=2*(cnt "born" ls:Int):=by
 induction h with
 | nil=>rfl
 | born h h0 h1 ih=>rw [Yc,Yc,if_neg (by dsimp only;decide),if_pos rfl];lia
 | cross h h0 h1 ih=>rw [Yc,Yc,if_neg (by dsimp only;decide),if_neg (by dsimp only;decide)];lia
 | fin h h0 h1 ih=>rw [Yc,Yc,if_pos rfl,if_neg (by dsimp only;decide)];lia
def bdW (ls:List (Str×Int)):Nat:=2 ^ cnt "end" ls*(2+cnt "cross" ls)
theorem Zjv (ls:List (Str×Int)):2<=bdW ls:=by
 unfold bdW
 have:1<=2 ^ cnt "end" ls:=Nat.one_le_two_pow
 calc 2=1*2:=rfl
  _<=2 ^ cnt "end" ls*(2+cnt "cross" ls):=Nat.mul_le_mul this (by lia)
theorem ZkZ {ls:List (Str×Int)}{n:Int} (h:Wk ls n):∀i j,WB (bdW ls) (tF ls i j):=by
 have key:∀{ls:List (Str×Int)}{x:Str}{k:Int},Kd x->(∀i j,WB (bdW ls) (tF ls i j)) -> ∀i j,WB (bdW (ls ++ [(x,k)])) (tF (ls ++ [(x,k)]) i j):=by
  intro ls x k kd ih i j
  rw [Za7]
  refine Jn (Zjc (Zjv ls) (by lia) ih i j) ?_
  unfold bdW
  rw [Yc,Yc]
  dsimp only
  have p1:1<=2 ^ cnt "end" ls:=Nat.one_le_two_pow
  rcases kd with rfl | rfl | rfl
  ·rw [if_neg (by decide),if_neg (by decide),if_neg (by decide),if_neg (by decide)]
   exact Nat.le_refl _
  ·rw [if_pos rfl,if_neg (by decide),if_pos rfl]
   simp only [Nat.add_zero]
   rw [<- Nat.add_assoc,Nat.mul_add _ _ 1]
   lia
  ·rw [if_neg (by decide),if_pos (by decide),if_pos rfl,if_neg (by decide),Nat.pow_succ]
   rw [Nat.mul_comm (2 ^ _) 2,Nat.mul_assoc]
   exact Nat.le_refl _
 induction h with
 | nil=>intro i j;exact ZeV
 | born h h0 h1 ih=>exact key (.inl rfl) ih
 | cross h h0 h1 ih=>exact key (.inr (.inl rfl)) ih
 | fin h h0 h1 ih=>exact key (.inr (.inr rfl)) ih
theorem ZdN (x:Str) (ls:List (Str×Int)) (i:Nat):cnt x (ls.take i)<=cnt x ls:=by
 unfold cnt
 exact List.Sublist.length_le ((List.take_sublist i ls).filter _)
theorem Jh {ls:List (Str×Int)}{m:Int} (h:Wk ls m):∀i,∃n,Wk (ls.take i) n:=by
 have key:∀{ls:List (Str×Int)}{q:Str×Int}{m:Int},(∀i,∃n,Wk (ls.take i) n)->Wk (ls ++ [q]) m -> ∀i,∃n,Wk ((ls ++ [q]).take i) n:=by
  intro ls q m ih h i
  by_cases z:i<=ls.length
  ·rw [List.take_append_of_le_length z];exact ih i
  ·rw [List.take_of_length_le (by rw [List.length_append,List.length_singleton];lia)];exact ⟨m,h⟩
 induction h with
 | nil=>intro i;exact ⟨0,by simpa using Wk.nil⟩
 | born h h0 h1 ih=>exact key ih (Wk.born h h0 h1)
 | cross h h0 h1 ih=>exact key ih (Wk.cross h h0 h1)
 | fin h h0 h1 ih=>exact key ih (Wk.fin h h0 h1)
theorem Zdg {ls:List (Str×Int)} (hW:Wk ls 0) (hb:InB ls) (a i j:Nat):WB 300 (tF (ls.take a) i j):=by
 obtain ⟨n,h⟩:=Jh hW a
 refine Jn (ZkZ h i j) ?_
 have b1:=hb.2.1
 have b2:=hb.2.2
 rw [U2] at b1 b2
 have k:=Zkn hW
 have c1:=ZdN "end" ls a
 have c2:=ZdN "cross" ls a
 unfold bdW
 have e4:2 ^ cnt "end" (ls.take a)<=2 ^ 4:=Nat.pow_le_pow_right (by decide) (by lia)
 calc 2 ^ cnt "end" (ls.take a)*(2+cnt "cross" (ls.take a))<=2 ^ 4*14:=Nat.mul_le_mul e4 (by lia)
  _<=300:=by decide
theorem ZlS {ls:List (Str×Int)} (hW:Wk ls 0) (hb:InB ls) {a:Nat} (fw:Few (tN (ls.take a)) (tF (ls.take a))):TGd (tN (ls.take a)) 50000 (tF (ls.take a)):=fun i j hi hj=>
 ⟨fw i j hi hj,fun w hw=>⟨by have:=(Zdg hW hb a i j w hw).1;lia,(Zdg hW hb a i j w hw).2⟩⟩
theorem tab_keep {G:Hp}{r b:Addr}{n:Nat}{F:Nat->Nat->WS}{us vs:List V} (x:Tab G r n F) (hr:r≠b) (nw:∀L,¬WL G b L) (nr:0<n -> ∀f,¬JN G b n f) (hb:G b=some (.lst us)):Tab (upd G b (.lst vs)) r n F:=by
 obtain ⟨A,e,m⟩:=x
 refine ⟨A,by rw [Zi hr];exact e,Zes m (fun r' h'=>?_) hb⟩
 obtain ⟨i,hi,rfl⟩:=List.getElem_of_mem h'
 have R:=m.2.2 i A[i] (by simp)
 have hn:0<n:=by have:=m.1;lia
 refine ⟨fun z=>nr hn (F i) (z ▸ R),fun xs e' hx he z=>?_⟩
 obtain ⟨ys,a,_,c⟩:=R
 rw [a] at hx
 have hxy:ys=xs:=by injection hx with hx;injection hx
 subst hxy
 obtain ⟨j,hj⟩:=List.mem_iff_getElem?.mp he
 obtain ⟨e'',p,q⟩:=c j _ hj
 cases p
 subst z
 exact nw _ q
structure Tbs (G:Hp) (b:Addr) (ls:List (Str×Int)) (T:List Addr):Prop where
 at_:G b=some (.lst (T.map V.ref))
 ne:0<T.length
 tab:∀(a:Nat) (r:Addr),T[a]? = some r->Tab G r (tN (ls.take a)) (tF (ls.take a))/\r≠b
theorem UR {G G':Hp}{b:Addr}{ls:List (Str×Int)}{T:List Addr} (s:Zf G G') (x:Tbs G b ls T):Tbs G' b ls T:=⟨s _ _ x.at_,x.ne,fun a r h=>⟨(x.tab a r h).1.same s,(x.tab a r h).2⟩⟩
theorem ZhV {G:Hp}{b:Addr}{ls:List (Str×Int)}{T:List Addr} (x:Tbs G b ls T) (L:WS):¬WL G b L:=fun ⟨xs,e,w⟩=>by
 rw [x.at_] at e
 have hxy:T.map V.ref=xs:=by injection e with e;injection e
 subst hxy
 have h0:T[0]? = some (T[0]'x.ne):=by simp
 obtain ⟨_,_,t,ht,hh⟩:=Words.get (i:=0) w (by rw [List.getElem?_map,h0];rfl)
 cases ht
 obtain ⟨A,e,_⟩:=(x.tab 0 _ h0).1
 rw [e] at hh
 cases hh
theorem Zk8 {ls:List (Str×Int)} (hW:Wk ls 0) (h:0<ls.length):tN (ls.take 1)=2:=by
 obtain ⟨p,hp⟩:∃p,ls[0]? = some p:=⟨ls[0],by simp [h]⟩
 have e:ls.take 1 = [] ++ [p]:=by rw [show (1:Nat)=0+1 from rfl,List.take_add_one,hp];rfl
 rw [e,Uc]
 have ft:=(Zam hW 0 p hp).2
 rcases ft with ⟨a,_⟩ | ⟨_,b⟩ | ⟨_,b⟩
 ·unfold nxN;rw [if_pos a];rfl
 ·exact absurd b (by show ¬_+1<0;lia)
 ·exact absurd b (by show ¬_+1<0;lia)
theorem ZgO {G:Hp}{b:Addr}{ls:List (Str×Int)}{T:List Addr} (hW:Wk ls 0) (x:Tbs G b ls T) (hl:T.length<=ls.length) {n:Nat} (hn:2<=n) (f:Nat->WS):¬JN G b n f:=fun R=>by
 obtain ⟨xs,e,a,l,c,w⟩:=R.at (j:=1) (by lia)
 rw [x.at_] at a
 have hxy:T.map V.ref=xs:=by injection a with a;injection a
 subst hxy
 rw [List.length_map] at l
 rw [List.getElem?_map] at c
 obtain ⟨r,h1,h2⟩:=Option.map_eq_some_iff.mp c
 cases h2
 have tb:=(x.tab 1 _ h1).1
 rw [Zk8 hW (by lia)] at tb
 obtain ⟨ys,r0,b1,_,b3,b4⟩:=tb.row (i:=0) (by lia)
 obtain ⟨us,u1,u2⟩:=w
 rw [b1] at u1
 have hxy:ys=us:=by injection u1 with u1;injection u1
 subst hxy
 obtain ⟨_,_,t,ht,hh⟩:=Words.get (i:=0) u2 b3
 cases ht
 obtain ⟨zs,q,_⟩:=b4
 rw [q] at hh
 cases hh
theorem ZjE {ls:List (Str×Int)}{n:Int} (h:Wk ls n):tN ls % 2=0:=by
 have a:=Zbp h
 have b:=Zkn h
 lia
theorem Zhd {G:Hp}{b p:Addr}{ls:List (Str×Int)}{T:List Addr} (hW:Wk ls 0) (x:Tbs G b ls T) (hl:T.length<=ls.length) (tb:Tab G p (tN (ls.take T.length)) (tF (ls.take T.length))) (hp:p≠b):Tbs (upd G b (.lst (T.map V.ref ++ [.ref p]))) b ls (T ++ [p]):=by
 have keep:∀(a:Nat) (r:Addr),Tab G r (tN (ls.take a)) (tF (ls.take a))->r≠b->Tab (upd G b (.lst (T.map V.ref ++ [.ref p]))) r (tN (ls.take a)) (tF (ls.take a)):=fun a r t n=>by
  refine tab_keep t n (ZhV x) (fun h0 f=>ZgO hW x hl ?_ f) x.at_
  obtain ⟨m,h⟩:=Jh hW a
  have:=ZjE h
  lia
 refine ⟨by rw [List.map_append];exact Zb,by rw [List.length_append];have:=x.ne;lia,fun a r h=>?_⟩
 by_cases z:a<T.length
 ·rw [List.getElem?_append_left z] at h
  exact ⟨keep a r (x.tab a r h).1 (x.tab a r h).2,(x.tab a r h).2⟩
 ·rw [List.getElem?_append_right (by lia)] at h
  have:a-T.length=0:=by
   have:=(List.getElem?_eq_some_iff.mp h).1
   simp at this;lia
  rw [this] at h
  cases h
  have:a=T.length:=by lia
  subst this
  exact ⟨keep _ _ tb hp,hp⟩
def GL (ls:List (Str×Int)) (m:Nat):Prop:=∀a,a<=m->Few (tN (ls.take a)) (tF (ls.take a))
theorem ZdM {α:Type}{l:List α}{i:Nat}{x:α} (hl:l.length=i+1) (h:l[i]? = some x):atI l (-1)=some x:=by
 unfold atI ixN
 rw [if_neg (by decide),if_pos (by lia),hl,show ((-1:Int)+((i+1:Nat):Int)).toNat=i by lia]
 exact h
theorem ZhH {ls:List (Str×Int)} (hW:Wk ls 0) (hI:InB ls) (a:Nat):tN (ls.take a)<=8:=by
 obtain ⟨m,hm⟩:=Jh hW a
 have h1:=Zbp hm
 have h2:=Zdv hm
 have h3:=hI.1 a
 lia
theorem ZiL {x:Str}{k n b:Nat}{t:Int}{F:Nat->Nat->WS} (tg:TGd n b F) (ft:Fit x k n):∀i j,i<nxN x n->j<nxN x n->(nxF x k t F i j).length<10000000:=by
 have pl:∀A B:WS,(Y5 A B).length<=A.length+B.length:=fun A B=>by have:=(Ya (A++B)).len;rw [List.length_append] at this;exact this
 have tl:∀A B:WS,(Yi A B).length<=A.length*B.length:=fun A B=>by have:=(Ya (prd A B)).len;rw [Zbb] at this;exact this
 have F200:∀i j,i<n->j<n->(F i j).length<=200:=fun i j hi hj=>(tg i j hi hj).1
 intro i j hi hj
 unfold nxN at hi hj
 unfold nxF
 rcases ft with ⟨rfl,hk⟩ | ⟨rfl,hk⟩ | ⟨rfl,hk⟩
 ·rw [if_pos rfl] at hi hj ⊢
  unfold Uw
  split
  ·decide
  ·split
   ·decide
   ·have:=F200 (if i<k then i else i-2) (if j<k then j else j-2) (by split<;>lia) (by split<;>lia)
    lia
 ·rw [if_neg (by decide),if_pos rfl] at hi hj ⊢
  unfold J2
  repeat' split
  ·decide
  ·have:=F200 (k+1) j (by lia) (by lia);lia
  ·have h1:=F200 k j (by lia) (by lia)
   have h2:=F200 (k+1) j (by lia) (by lia)
   have h3:=tl [[t]] (F (k+1) j)
   have h4:=pl (F k j) (Yi [[t]] (F (k+1) j))
   simp only [List.length_singleton,Nat.one_mul] at h3
   lia
  ·have:=F200 i k (by lia) (by lia);lia
  ·have h1:=F200 i (k+1) (by lia) (by lia)
   have h2:=F200 i k (by lia) (by lia)
   have h3:=tl (F i k) [[t]]
   have h4:=pl (F i (k+1)) (Yi (F i k) [[t]])
   simp only [List.length_singleton,Nat.mul_one] at h3
   lia
  ·have:=F200 i j (by lia) (by lia);lia
 ·rw [if_neg (by decide),if_neg (by decide)] at hi hj ⊢
  unfold Zb9
  split
  ·rename_i hc
   have a1:=F200 i (k+1) (by lia) (by lia)
   have a2:=F200 i k (by lia) (by lia)
   have a3:=tl (F i k) [[t]]
   simp only [List.length_singleton,Nat.mul_one] at a3
   have a4:(GR k t F i).length<=400:=by have:=pl (F i (k+1)) (Yi (F i k) [[t]]);unfold GR;lia
   have b1:=F200 k (j+2) (by lia) (by lia)
   have b2:=F200 (k+1) (j+2) (by lia) (by lia)
   have b3:=tl [[t]] (F (k+1) (j+2))
   simp only [List.length_singleton,Nat.one_mul] at b3
   have b4:(Zbw k t F (j+2)).length<=400:=by have:=pl (F k (j+2)) (Yi [[t]] (F (k+1) (j+2)));unfold Zbw;lia
   have c1:=tl (GR k t F i) (Zbw k t F (j+2))
   have c2:(GR k t F i).length*(Zbw k t F (j+2)).length<=400*400:=Nat.mul_le_mul a4 b4
   have c3:=F200 i (j+2) (by lia) (by lia)
   have c4:=pl (F i (j+2)) (Yi (GR k t F i) (Zbw k t F (j+2)))
   lia
  ·have:=F200 (if i<k then i else i+2) (if j<k then j else j+2) (by split<;>lia) (by split<;>lia)
   lia
def Zjg (C W:Addr):Sp:=fun vs H Q E=>∃(l:Addr) (xs:List V) (ls:List (Str×Int)),vs = [.ref l]/\H l=some (.lst xs)/\ZD H xs ls/\Wk ls 0/\InB ls/\ls.length<=60 /\
 (GL ls ls.length -> ∀(p:Addr) (H':Hp) (T:List Addr),H p=none->Zf H H'->Tbs H' p ls T->T.length=ls.length+1->Q (.ref p) H')/\(¬GL ls ls.length -> ∀H',Zf H H'->E (.ref C) none H')
abbrev Gh:Stmt:=top 18
theorem Y6:ZF ["drawing", "way", "tables", "t", "letter"] ["drawing"] (Zl Gh):={}
theorem ZmM {f C Zu:Addr}{fd:FuncData} (F:Y8 K "sum_tables" "sum_tables" Gh f fd) (Zap:mg "WordWay" = some (.ref Zu)) (k_WordWay:MkO K Zu) (Wb:JV P w K mg base 5 "table_behind" ["table", "letter", "name", "way"] (ZkY Zu)) (WA:Za0 P w K mg base 1 "check_words" ["table"] (Zlq C)) (ZA:mg "enumerate" = none):Yj P w K mg base (CX1 P w) 6 f fd ["drawing"] (Zjg C Zu):=by
 refine F.okX Y6 (fun vs H Q E h=>?_) (fun cdv A outer s H vs Q E hr h=>?_)
 ·obtain ⟨l,xs,ls,rfl,_⟩:=h
  rfl
 ·obtain ⟨l,xs,ls,rfl,hl,hL,hW,hI,hlen,k,kx⟩:=h
  refine ⟨_,(Zd (Zr (i:=1) Y6.nd rfl (Or.inl rfl) (Zhy k_WordWay (by rfl) Zap))
   (Zd (Zr (i:=2) Y6.nd rfl (Or.inl rfl) (Z5 (Za (Z5 Zc) Zc)))
   (Zd (Z3 PassesOwn.leaving rfl (WN (K:=K) rfl (by rfl) ZA (Za (pv 0) Zc)) (Yq (K:=K) (n:=2) rfl rfl (Zq (Zj (i:=3) Y6.nd rfl (Or.inl rfl)) (Zq (Zj (i:=4) Y6.nd rfl (Or.inl rfl)) Z7))) (Zd (Z1 (YO (K:=K) rfl (Jz PySem.F.plainAttrs_list PySem.F.slot_list_append PySem.F.type_list_append Yt (pv 2) (Za (Zz Wb hr (Za (Zp (Zk (K:=K) rfl) (pv 2) (Zcp ZaK Ze) (fun _ _=>rfl)) (Za (pv 4) (Za (Z5 (Za (Yr (Za (pv 3) Zc)) Zc)) (Za (pv 1) Zc))))) Zc))))
   (Zh (Z1 (U5 WA (hr.mono (by decide)) ZhJ (Za (Zp (Zk (K:=K) rfl) (pv 2) (Zcp ZaK Ze) (fun _ _=>rfl)) Zc))))))
   (Zh (ZJ (pv 2)))))),?_⟩
  have lx:=hL.len
  intro x dx hx hdx ndx
  obtain ⟨H1,e1⟩:∃H1,upd (upd H dx (.own x)) x (.ins Zu dx [])=H1:=⟨_,rfl⟩
  have s1:Zf H H1:=by rw [<- e1];exact (Zf.laid hdx).put hx
  have ew:H1 x=some (.ins Zu dx []):=by rw [<- e1];exact Zb
  rw [e1]
  refine ⟨(by show 0<=sizeLine;decide),fun t0 ft0=>⟨(by show 1<=sizeLine;decide),fun tb ftb=>?_⟩⟩
  have s2:Zf H1 (upd H1 t0 (.lst [])):=Zf.laid ft0
  have n0:t0≠tb:=fun z=>by rw [<- z,Zb] at ftb;cases ftb
  obtain ⟨H2,e2⟩:∃H2,upd (upd H1 t0 (.lst [])) tb (.lst [.ref t0])=H2:=⟨_,rfl⟩
  have s3:Zf (upd H1 t0 (.lst [])) H2:=by rw [<- e2];exact Zf.laid ftb
  have etb:H2 tb=some (.lst ([t0].map V.ref)):=by rw [<- e2];exact Zb
  rw [e2]
  have s12:=(s1.trans s2).trans s3
  have ftH:H tb=none:=(s1.trans s2).free ftb
  have z0:Few 0 (tF (ls.take 0)):=fun i j hi=>by lia
  have T0:Tbs H2 tb ls [t0]:=⟨etb,by simp,fun a r h=>by
   match a,h with
   | 0,h=>
    cases h
    exact ⟨⟨[],s3 _ _ Zb,Ue⟩,n0⟩⟩
  refine ⟨_,rfl,l,rfl,⟨_,Zo.of (s12 _ _ hl)⟩,Zbi (K:=K) (a:=l) (xs:=xs) (fun i σ G=>∃(v3 v4:Option V) (T:List Addr),σ = [some (.ref l),some (.ref x),some (.ref tb),v3,v4]/\Zf H G/\ZaL G Zu x/\Tbs G tb ls T/\T.length=i+1/\GL ls i)
   ⟨none,none,[t0],rfl,s12,⟨dx,[],s3 _ _ (s2 _ _ ew),rfl⟩,T0,rfl,fun a ha=>by rw [show a=0 by lia];exact z0⟩ (fun i σ G _ ⟨_,_,_,_,sg,_⟩=>Zo.of (sg _ _ hl)) ?_ ?_⟩
  ·rintro i y p σ G hy ⟨v3,v4,T,rfl,sg,wy,tbs,lT,few⟩ fp
   obtain ⟨⟨kd,kk⟩,q,hq,rfl,ht⟩:=hL.get hy
   have hi:i<ls.length:=(List.getElem?_eq_some_iff.mp hq).1
   obtain ⟨k0,ft⟩:=Zam hW i _ hq
   dsimp only at k0 ft
   obtain ⟨kn,rfl⟩:=Int.eq_ofNat_of_zero_le k0
   rw [Int.toNat_natCast] at ft
   obtain ⟨G0,eG0⟩:∃G0,upd G p (.tup [.int i,.ref q])=G0:=⟨_,rfl⟩
   have sp:Zf G G0:=by rw [<- eG0];exact Zf.laid fp
   have ep:G0 p=some (.tup [.int i,.ref q]):=by rw [<- eG0];exact Zb
   rw [eG0]
   refine ⟨p,_,rfl,JH.of ep,rfl,_,_,rfl,_,_,rfl,rfl,?_⟩
   have tbs0:=UR sp tbs
   have hTi:T[i]? = some (T[i]'(by lia)):=by simp
   have hlast:atI (T.map V.ref) (-1)=some (.ref (T[i]'(by lia))):=ZdM (by rw [List.length_map];exact lT) (by rw [List.getElem?_map,hTi];rfl)
   refine ⟨_,rfl,.inl ⟨rfl,_,Zo.of tbs0.at_⟩,_,rfl,1,rfl,tb,_,_,_,rfl,rfl,Zo.of tbs0.at_,hlast,_,rfl,_,rfl,(by show 1<=sizeLine;decide),fun u1 fu1=>⟨(by show 1<=sizeLine;decide),fun u2 fu2=>?_⟩⟩
   obtain ⟨G2,eG2⟩:∃G2,upd (upd G0 u1 (.tup [.int i])) u2 (.lst [.ref u1])=G2:=⟨_,rfl⟩
   have su:Zf G0 G2:=by rw [<- eG2];exact (Zf.laid fu1).step fu2
   have wn:WL G2 u2 [[(i:Int)]]:=by rw [<- eG2];exact ⟨_,Zb,.cons ⟨u1,rfl,Zf.laid fu2 _ _ Zb⟩ .nil⟩
   rw [eG2]
   have tbs2:=UR su tbs0
   have wy2:=Zel (sp.trans su) wy
   have n8:=ZhH hW hI i
   have tg:=ZlS hW hI (few i (Nat.le_refl _))
   have eqt:ls.take (i+1)=ls.take i ++ [(kd,(kn:Int))]:=by rw [List.take_add_one,hq];rfl
   have li:(ls.take i).length=i:=by rw [List.length_take];lia
   refine ⟨_,rfl,T[i]'(by lia),q,u2,x,tN (ls.take i),kn,kd,(i:Int),tF (ls.take i),rfl,wy2,(tbs2.tab i _ hTi).1,(sg.trans (sp.trans su)) _ _ ht,wn,by lia,by lia,tg,ft,fun p' G3 fp' t3 tab'=>?_⟩
   have e1':nxN kd (tN (ls.take i))=tN (ls.take (i+1)):=by rw [eqt,Uc]
   have e2':nxF kd kn (i:Int) (tF (ls.take i))=tF (ls.take (i+1)):=by rw [eqt,Za7,li];rfl
   have lens:=ZiL (t:=(i:Int)) tg ft
   rw [e1',e2'] at tab' lens
   have tbs3:=UR t3 tbs2
   have np':p'≠tb:=fun z=>by have:=tbs2.at_;rw [<- z,fp'] at this;cases this
   have push:=Zhd hW tbs3 (by lia) (by rw [lT];exact tab') np'
   refine ⟨tb,_,_,rfl,rfl,tbs3.at_,by rw [List.length_map,lT,sizeLine_eq];lia,?_⟩
   obtain ⟨G4,eG4⟩:∃G4,upd G3 tb (.lst (T.map V.ref ++ [.ref p']))=G4:=⟨_,rfl⟩
   have S4:Zf H G4:=by rw [<- eG4];exact ((sg.trans (sp.trans su)).trans t3).put ftH
   have wy4:ZaL G4 Zu x:=by
    obtain ⟨dx',fs',ew',rfl⟩:=Zel t3 wy2
    refine ⟨dx',[],?_,rfl⟩
    rw [<- eG4,Zi (fun z=>by rw [z,tbs3.at_] at ew';cases ew')]
    exact ew'
   rw [eG4] at push ⊢
   have h5:(T ++ [p'])[i+1]? = some p':=by rw [List.getElem?_append_right (by lia),lT];simp
   refine ⟨_,rfl,1,rfl,tb,_,_,_,rfl,rfl,Zo.of push.at_,ZdM (by rw [List.length_map,List.length_append,lT];rfl) (by rw [List.getElem?_map,h5];rfl),?_⟩
   refine ⟨p',_,_,rfl,(push.tab (i+1) p' h5).1,(by have:=ZhH hW hI (i+1);lia),lens,fun fw=>?_,fun nf=>kx (fun all=>nf (all (i+1) (by lia))) G4 S4⟩
   refine ⟨_,_,T ++ [p'],rfl,S4,wy4,push,by rw [List.length_append,lT];rfl,fun a ha=>?_⟩
   by_cases z:a=i+1
   ·rw [z];exact fw
   ·exact few a (by lia)
  ·rintro σ G ⟨v3,v4,T,rfl,sg,wy,tbs,lT,few⟩
   rw [lx] at lT few
   exact ⟨_,rfl,k few tb G T ftH sg tbs lT⟩
abbrev Gk:Stmt:=top 1
theorem Zem:ZF ["drawing"] ["drawing"] (Zl Gk):={}
theorem Zh3 {f:Addr}{fd:FuncData} (F:Y8 K "names_of" "names_of" Gk f fd) (ZA:mg "enumerate" = none):Yj P w K mg base GV 1 f fd ["drawing"] (ZhA fun x=>!decide (x = "born")):=by
 refine F.ok Zem (fun vs H Q E h=>?_) (fun cdv A outer s H vs Q E hr h=>?_)
 ·obtain ⟨l,xs,ls,rfl,_⟩:=h
  rfl
 ·obtain ⟨l,xs,ls,rfl,hl,hL,hlen,_,k⟩:=h
  refine ⟨_,(Zh (ZJ (Wt (Ls:=["t", "letter"]) (Fs:=[]) (fi:=[]) (ZO.of (show Yu ["drawing"] (Zl Gk) _ [] []=true by decide +kernel)) rfl (WN (K:=K) rfl (by rfl) ZA (Za (pv 0) Zc)) (fun cl C s3 H3 ex=>⟨(Yq (K:=K) (n:=2) rfl rfl (Zq (Zj (i:=0) (show ((["t", "letter"]:List Str)++([]:List Str)).Nodup by decide +kernel) rfl (Or.inl rfl)) (Zq (Zj (i:=1) (show ((["t", "letter"]:List Str)++([]:List Str)).Nodup by decide +kernel) rfl (Or.inl rfl)) Z7))),(ZdD (Zw Zcu (Zp (YH (K:=K) rfl) (pv 1) Ze (fun _ _=>rfl)) Z4 (ZM _))),(pv 0)⟩)))),?_⟩
  have hxl:=hL.len
  refine ⟨_,rfl,l,rfl,⟨_,Zo.of hl⟩,Zif (xs:=xs) (Nat.le_of_lt (ZI (by lia))) (fun i ys H'=>Zf H H'/\ys=(Ym ls (fun x=>!decide (x = "born")) i).map V.int) ⟨Zf.refl _,rfl⟩
   (fun i ys H' p=>by rw [p.2,List.length_map];exact Wc _ _ _) (fun i ys H' p=>Zo.of (p.1 l _ hl)) (fun i x p ys H' hx pv hp=>?_) (fun ys H' pv D hD=>?_)⟩
  ·obtain ⟨sm,rfl⟩:=pv
   obtain ⟨q,t,hq,rfl,ht⟩:=hL.get hx
   have ht':(upd H' p (.tup [.int i,.ref t])) t=some (.tup [.str q.1,.int q.2]):=by rw [Zi (Zg (sm t _ ht) hp)];exact sm t _ ht
   refine ⟨p,_,rfl,JH.of Zb,rfl,_,_,rfl,_,_,rfl,rfl,?_⟩
   refine ⟨_,rfl,t,_,_,_,rfl,rfl,JH.of ht',Zn (j:=0) rfl,rfl,_,rfl,?_⟩
   refine Y1 (fun hc=>?_) (fun hc=>?_)
   ·have e:¬q.1 = "born" := fun z=>by
     have:(!decide (V.str q.1=V.str "born"))=true:=hc
     rw [decide_eq_true (congrArg V.str z)] at this
     cases this
    exact ⟨_,rfl,sm.step hp,Zez hq (by simpa using e)⟩
   ·have e:q.1 = "born" := by
     by_cases z:q.1 = "born"
     ·exact z
     ·exact absurd (show (!decide (V.str q.1=V.str "born"))=true by rw [decide_eq_false (fun y=>z (V.str.inj y))];rfl) hc
    exact ⟨sm.step hp,ZfT hq (by simpa using e)⟩
  ·obtain ⟨sm,rfl⟩:=pv
   rw [hxl]
   exact k D _ (sm.free hD) (sm.step hD) Zb
def nms (ls:List (Str×Int)):List Int:=Ym ls (fun x=>!decide (x = "born")) ls.length
theorem Za6 {ls:List (Str×Int)}{pr:Str->Bool}{n j:Nat}{t:Int} (h:(Ym ls pr n)[j]? = some t):∃(a:Nat) (p:Str×Int),t=(a:Int)/\a<n/\ls[a]? = some p/\pr p.1=true:=by
 have m:=List.mem_of_getElem? h
 unfold Ym at m
 obtain ⟨a,ha,e⟩:=List.mem_filterMap.mp m
 rw [List.mem_range] at ha
 by_cases z:isK ls pr a=true
 ·rw [if_pos z] at e
  cases e
  unfold isK at z
  cases q:ls[a]? with
  | none=>rw [q] at z;simp at z
  | some p=>rw [q] at z;exact ⟨a,p,rfl,ha,q,by simpa using z⟩
 ·rw [if_neg z] at e;cases e
theorem canon_id {L:WS} (h:SR L):canon L=L:=by
 refine (JB.canon ⟨h,fun y=>?_⟩).symm
 have nd:L.Nodup:=h.imp fun {a b} lt e=>by rw [e,Uj] at lt;cases lt
 by_cases m:y∈L
 ·exact ⟨fun _=>by have h1:=List.nodup_iff_count.mp nd y;have h2:=List.count_pos_iff.mpr m;lia,fun _=>m⟩
 ·refine ⟨fun z=>absurd z m,fun z=>?_⟩
  rw [List.count_eq_zero.mpr m] at z;cases z
theorem Zly (ls:List (Str×Int)):∀i j,SR (tF ls i j):=by
 have key:∀(ls:List (Str×Int)) (s:Nat×(Nat->Nat->WS)×Int),(∀i j,SR (s.2.1 i j)) -> ∀i j,SR ((ls.foldl stT s).2.1 i j):=by
  intro ls
  induction ls with
  | nil=>intro s h;exact h
  | cons p ls ih=>
   intro s h
   rw [List.foldl_cons]
   refine ih _ fun i j=>?_
   show SR (nxF p.1 p.2.toNat s.2.2 s.2.1 i j)
   have pl:∀A B,SR (Y5 A B):=fun A B=>(Ya _).rise
   unfold nxF
   split
   ·unfold Uw
    repeat' split
    all_goals first | exact h _ _ | exact List.pairwise_singleton _ _ | exact List.Pairwise.nil
   ·split
    ·unfold J2
     repeat' split
     all_goals first | exact h _ _ | exact pl _ _ | exact List.Pairwise.nil
    ·unfold Zb9
     split
     ·exact pl _ _
     ·exact h _ _
 exact key ls _ fun i j=>List.Pairwise.nil
def dW (ls:List (Str×Int)) (t:Nat):WS:=
 match ls[t]? with
 | some p=>if p.1 = "end" then Y5 (tF (ls.take t) p.2.toNat (p.2.toNat+1)) [[]] else tF (ls.take t) p.2.toNat (p.2.toNat+1)
 | none=>[]
theorem ZeT {ls:List (Str×Int)}{t k:Nat} (h:ls[t]? = some ((("end" : Str),(k:Int)):Str×Int)):dW ls t=Y5 (tF (ls.take t) k (k+1)) [[]]:=by
 unfold dW
 rw [h]
 exact if_pos rfl
theorem Zhg {ls:List (Str×Int)}{t k:Nat}{x:Str} (h:ls[t]? = some (x,(k:Int))) (e:x ≠ "end"):dW ls t=tF (ls.take t) k (k+1):=by
 unfold dW
 rw [h]
 exact if_neg e
def DsE (H:Hp) (ls:List (Str×Int)) (es:List Addr):Prop:=∀(j:Nat) (e:Addr),es[j]? = some e -> ∃t:Nat,(nms ls)[j]? = some (t:Int)/\WL H e (dW ls t)
theorem DsE.same {H H':Hp}{ls:List (Str×Int)}{es:List Addr} (s:Zf H H') (x:DsE H ls es):DsE H' ls es:=fun j e h=>let ⟨t,a,b⟩:=x j e h;⟨t,a,b.same s⟩
theorem DsE.snoc {H:Hp}{ls:List (Str×Int)}{es:List Addr}{e:Addr}{t:Nat} (x:DsE H ls es) (h:(nms ls)[es.length]? = some (t:Int)) (w:WL H e (dW ls t)):DsE H ls (es ++ [e]):=fun j e' h'=>by
 by_cases z:j<es.length
 ·rw [List.getElem?_append_left z] at h'
  exact x j e' h'
 ·rw [List.getElem?_append_right (by lia)] at h'
  have:j-es.length=0:=by
   have:=(List.getElem?_eq_some_iff.mp h').1
   simp at this;lia
  rw [this] at h'
  cases h'
  rw [show j=es.length by lia]
  exact ⟨t,h,w⟩
theorem DsE.upd {H:Hp}{r:Addr}{ls:List (Str×Int)}{es:List Addr}{xs ys:List V} (hr:H r=some (.lst xs)) (n:r∉es) (x:DsE H ls es):DsE (L2.upd H r (.lst ys)) ls es:=fun j e h=>let ⟨t,a,b⟩:=x j e h;⟨t,a,b.upd hr fun z=>n (z ▸ List.mem_of_getElem? h)⟩
theorem DsE.there {H:Hp}{ls:List (Str×Int)}{es:List Addr}{e:Addr} (x:DsE H ls es) (h:e∈es):H e≠none:=fun z=>by
 obtain ⟨j,hj⟩:=List.mem_iff_getElem?.mp h
 obtain ⟨t,_,us,b,_⟩:=x j e hj
 rw [z] at b;cases b
def Zdm (C:Addr):Sp:=fun vs H Q E=>∃(l:Addr) (xs:List V) (ls:List (Str×Int)),vs = [.ref l]/\H l=some (.lst xs)/\ZD H xs ls/\Wk ls 0/\InB ls/\ls.length<=60 /\
 (GL ls ls.length -> ∀(p:Addr) (H':Hp) (es:List Addr),H p=none->Zf H H'->H' p=some (.lst (es.map V.ref))->es.length=(nms ls).length->DsE H' ls es->es.Nodup->(∀e∈es,H e=none)->p∉es->Q (.ref p) H')/\(¬GL ls ls.length -> ∀H',Zf H H'->E (.ref C) none H')
abbrev Zdh:Stmt:=top 20
theorem WT:ZF ["drawing", "tables", "found", "t", "kind", "k"] ["drawing"] (Zl Zdh):={}
theorem Zha {f C W:Addr}{fd:FuncData} (F:Y8 K "deeds" "deeds" Zdh f fd) (YZ:Za0 P w K mg base 6 "sum_tables" ["drawing"] (Zjg C W)) (UK:JV P w K mg base 1 "names_of" ["drawing"] (ZhA fun x=>!decide (x = "born"))) (Ug:JV P w K mg base 2 "added" ["one", "other"] Zbm):Yj P w K mg base (CX1 P w) 7 f fd ["drawing"] (Zdm C):=by
 refine F.okX WT (fun vs H Q E h=>?_) (fun cdv A outer s H vs Q E hr h=>?_)
 ·obtain ⟨l,xs,ls,rfl,_⟩:=h
  rfl
 ·obtain ⟨l,xs,ls,rfl,hl,hL,hW,hI,hlen,k,kx⟩:=h
  refine ⟨_,(Zd (Zr (i:=1) WT.nd rfl (Or.inl rfl) (U5 YZ (hr.mono (by decide)) ZhJ (Za (pv 0) Zc)))
   (Zd (Zr (i:=2) WT.nd rfl (Or.inl rfl) (Z5 Zc))
   (Zd (Z3 PassesOwn.leaving rfl (ZT (K:=K) rfl (Zz UK hr (Za (pv 0) Zc))) (Zj (i:=3) WT.nd rfl (Or.inl rfl)) (Zd (Z6 (Zp (Zk (K:=K) rfl) (pv 0) (pv 3) (fun _ _=>rfl)) (Yq (K:=K) (n:=2) rfl rfl (Zq (Zj (i:=4) WT.nd rfl (Or.inl rfl)) (Zq (Zj (i:=5) WT.nd rfl (Or.inl rfl)) Z7))))
   (Zh (Z1 (YO (K:=K) rfl (Jz PySem.F.plainAttrs_list PySem.F.slot_list_append PySem.F.type_list_append Yt (pv 2) (Za (Zz Ug hr (Za (Zp (Zk (K:=K) rfl) (Zp (Zk (K:=K) rfl) (Zp (Zk (K:=K) rfl) (pv 1) (pv 3) (fun _ _=>rfl)) (pv 5) (fun _ _=>rfl)) (Zm Zv (pv 5) Ze) (fun _ _=>rfl)) (Za (ZhL (Zw J7 (pv 4) Z4 (ZM _)) (Z5 (Za (Yr Zc) Zc)) (Z5 Zc)) Zc))) Zc)))))))
   (Zh (ZJ (pv 2)))))),?_⟩
  refine ⟨_,rfl,l,xs,ls,rfl,hl,hL,hW,hI,hlen,fun few tA G0 T0 ftA s0 tbs0 lT0=>?_,fun nf H' s'=>kx nf H' s'⟩
  refine ⟨(by show 0<=sizeLine;decide),fun fA ffA=>?_⟩
  obtain ⟨G1,eG1⟩:∃G1,upd G0 fA (.lst [])=G1:=⟨_,rfl⟩
  have s1:Zf G0 G1:=by rw [<- eG1];exact Zf.laid ffA
  have ef1:G1 fA=some (.lst ([].map V.ref)):=by rw [<- eG1];exact Zb
  rw [eG1]
  have S1:=s0.trans s1
  refine ⟨_,rfl,l,xs,ls,rfl,S1 _ _ hl,hL.same S1,hlen,fun p hp=>hW.kd p hp,fun nA G2 fnA s2 enA=>?_⟩
  have nn:nA≠fA:=fun z=>by rw [z,ef1] at fnA;cases fnA
  have ffH:H fA=none:=s0.free ffA
  refine ⟨nA,rfl,⟨_,Zo.of enA⟩,Wh (K:=K) (a:=nA) (xs:=(nms ls).map V.int) (fun j σ G=>∃(v3 v4 v5:Option V) (es:List Addr),σ = [some (.ref l),some (.ref tA),some (.ref fA),v3,v4,v5]/\Zf G0 G/\G nA=some (.lst ((nms ls).map V.int))/\G fA=some (.lst (es.map V.ref))/\es.length=j/\DsE G ls es/\es.Nodup/\(∀e∈es,G0 e=none)/\fA∉es)
   ⟨none,none,none,[],rfl,s1.trans s2,enA,s2 _ _ ef1,rfl,(fun j e h=>by simp at h),.nil,(fun e h=>nomatch h),(fun h=>nomatch h)⟩ (fun j σ G _ ⟨_,_,_,_,_,_,e,_⟩=>Zo.of e) ?_ ?_⟩
  ·rintro j x σ G hx ⟨v3,v4,v5,es,rfl,sg,en,ef,le,ds,nd,fr,nf⟩
   rw [List.getElem?_map] at hx
   obtain ⟨t,ht,rfl⟩:=Option.map_eq_some_iff.mp hx
   obtain ⟨a,⟨kd,kk⟩,rfl,ha,hp,hkd⟩:=Za6 ht
   obtain ⟨k0,ft⟩:=Zam hW a _ hp
   dsimp only at k0 ft hkd
   obtain ⟨kn,rfl⟩:=Int.eq_ofNat_of_zero_le k0
   rw [Int.toNat_natCast] at ft
   have nb:kd ≠ "born" := by simpa using hkd
   have hk:kn+1<tN (ls.take a):=by
    rcases ft with ⟨z,_⟩ | ⟨_,z⟩ | ⟨_,z⟩
    ·exact absurd z nb
    ·exact z
    ·exact z
   obtain ⟨x,hx'⟩:∃x,xs[a]? = some x:=⟨xs[a]'(by have:=hL.len;lia),by simp⟩
   obtain ⟨q0,q,hq,rfl,etq⟩:=hL.get hx'
   rw [hp] at hq
   cases hq
   have SG:=s0.trans sg
   have tbs:=UR sg tbs0
   have hTa:T0[a]? = some (T0[a]'(by lia)):=by simp
   obtain ⟨ys,r,b1,_,b3,b4⟩:=(tbs.tab a _ hTa).1.row (i:=kn) (by lia)
   obtain ⟨us,e,c1,_,c3,c4⟩:=b4.at (j:=kn+1) hk
   have f200:=few a (by lia) kn (kn+1) (by lia) hk
   have app:∀(p':Addr) (G3:Hp),G p'=none->Zf G G3->WL G3 p' (dW ls a)->ZfU (.ref fA) [.ref p'] G3 (fun _ G4=>∃(v3 v4 v5:Option V) (es:List Addr),[some (.ref l),some (.ref tA),some (.ref fA),some (.int (a:Int)),some (.str kd),some (.int (kn:Int))] = [some (.ref l),some (.ref tA),some (.ref fA),v3,v4,v5]/\Zf G0 G4/\G4 nA=some (.lst ((nms ls).map V.int))/\G4 fA=some (.lst (es.map V.ref))/\es.length=j+1/\DsE G4 ls es/\es.Nodup/\(∀e∈es,G0 e=none)/\fA∉es):=fun p' G3 fp t3 wp=>by
    have np:p'≠fA:=fun z=>by rw [z,ef] at fp;cases fp
    have e3:=t3 _ _ ef
    have nin:p'∉es:=fun z=>ds.there z fp
    have hj:=(List.getElem?_eq_some_iff.mp ht).1
    have hnl:=Wc ls (fun x=>!decide (x = "born")) ls.length
    refine ⟨fA,_,_,rfl,rfl,e3,by rw [List.length_map,le,sizeLine_eq];unfold nms at hj;lia,_,_,_,es ++ [p'],rfl,(sg.trans t3).put ffA,by rw [Zi nn];exact t3 _ _ en,by rw [List.map_append];exact Zb,by rw [List.length_append,le];rfl,DsE.snoc ((ds.same t3).upd e3 nf) (by rw [le];exact ht) (wp.upd e3 np),?_,?_,?_⟩
    ·rw [List.nodup_append]
     exact ⟨nd,by simp,fun x hx y hy z=>nin (by rw [List.mem_singleton.mp hy] at z;rw [<- z];exact hx)⟩
    ·intro e he
     rcases List.mem_append.mp he with z | z
     ·exact fr e z
     ·rw [List.mem_singleton.mp z];exact sg.free fp
    ·intro z
     rcases List.mem_append.mp z with z | z
     ·exact nf z
     ·exact np (List.mem_singleton.mp z).symm
   by_cases ek:kd = "end"
   ·subst ek
    refine ⟨_,rfl,_,rfl,l,_,_,_,rfl,rfl,Zo.of (SG _ _ hl),Zn hx',q,_,rfl,JH.of (SG _ _ etq),rfl,_,_,rfl,_,_,rfl,rfl,?_⟩
    refine ⟨_,rfl,.inl ⟨rfl,_,Zo.of ef⟩,_,rfl,_,rfl,tA,_,_,_,rfl,rfl,Zo.of tbs.at_,Zn (by rw [List.getElem?_map,hTa];rfl),_,rfl,_,_,_,_,rfl,rfl,Zo.of b1,Zn b3,_,rfl,_,_,rfl,rfl,r,_,_,_,rfl,rfl,Zo.of c1,Zn (j:=kn+1) c3,_,rfl,rfl,_,rfl,GA ?_⟩
    refine ⟨(by show 0<=sizeLine;decide),fun u1 fu1=>⟨(by show 1<=sizeLine;decide),fun u2 fu2=>?_⟩⟩
    have su:Zf G (upd (upd G u1 (.tup [])) u2 (.lst [.ref u1])):=(Zf.laid fu1).step fu2
    refine ⟨e,u2,_,[[]],rfl,c4.same su,⟨_,Zb,.cons ⟨u1,rfl,Zf.laid fu2 _ _ Zb⟩ .nil⟩,by simp;lia,fun p' G3 rr fp t3 wr od=>app p' G3 (su.free fp) (su.trans t3) ?_⟩
    rw [ZeT hp]
    have:=od.canon
    subst this
    exact wr
   ·refine ⟨_,rfl,_,rfl,l,_,_,_,rfl,rfl,Zo.of (SG _ _ hl),Zn hx',q,_,rfl,JH.of (SG _ _ etq),rfl,_,_,rfl,_,_,rfl,rfl,?_⟩
    refine ⟨_,rfl,.inl ⟨rfl,_,Zo.of ef⟩,_,rfl,_,rfl,tA,_,_,_,rfl,rfl,Zo.of tbs.at_,Zn (by rw [List.getElem?_map,hTa];rfl),_,rfl,_,_,_,_,rfl,rfl,Zo.of b1,Zn b3,_,rfl,_,_,rfl,rfl,r,_,_,_,rfl,rfl,Zo.of c1,Zn (j:=kn+1) c3,_,rfl,rfl,_,rfl,Y1 (fun c=>absurd (V.str.inj (of_decide_eq_true c)) ek) fun _=>?_⟩
    refine ⟨(by show 0<=sizeLine;decide),fun u2 fu2=>?_⟩
    have su:Zf G (upd G u2 (.lst [])):=Zf.laid fu2
    refine ⟨e,u2,_,[],rfl,c4.same su,⟨_,Zb,.nil⟩,by simp;lia,fun p' G3 rr fp t3 wr od=>app p' G3 (su.free fp) (su.trans t3) ?_⟩
    rw [Zhg hp ek]
    have:=od.canon
    rw [List.append_nil,canon_id (Zly _ _ _)] at this
    subst this
    exact wr
  ·rintro σ G ⟨v3,v4,v5,es,rfl,sg,en,ef,le,ds,nd,fr,nf⟩
   rw [List.length_map] at le
   exact ⟨_,rfl,k few fA G es ffH (s0.trans sg) ef le ds nd (fun e h=>s0.free (fr e h)) nf⟩
def ZfZ (G:Hp) (A:List Addr) (R:List (List Addr)):Prop:=Paired (fun r es=>G r=some (.lst (es.map V.ref))) A R
def ZfR (G:Hp) (T:List Addr) (RR:List (List (List Addr))):Prop:=Paired (fun t R=>∃A,G t=some (.lst (A.map V.ref))/\ZfZ G A R) T RR
theorem UM {G G':Hp}{A:List Addr}{R:List (List Addr)} (s:Zf G G') (x:ZfZ G A R):ZfZ G' A R:=Paired.mapP x fun _ _ h=>s _ _ h
theorem ZbM {G G':Hp}{T:List Addr}{RR:List (List (List Addr))} (s:Zf G G') (x:ZfR G T RR):ZfR G' T RR:=Paired.mapP x fun _ _ ⟨A,h1,h2⟩=>⟨A,s _ _ h1,UM s h2⟩
def Zck (B G:Hp) (E:List Addr):Prop:=E.Nodup /\ ∀e∈E,B e=none /\ ∃us,G e=some (.lst us)/\us.length<=200
theorem ZbK {B G:Hp}:Zck B G []:=⟨.nil,fun e h=>nomatch h⟩
theorem ZaI {B G G':Hp}{E:List Addr} (s:Zf G G') (x:Zck B G E):Zck B G' E:=⟨x.1,fun e h=>let ⟨a,us,b,c⟩:=x.2 e h;⟨a,us,s _ _ b,c⟩⟩
theorem ZbG {B C G G':Hp}{E E':List Addr} (x:Zck B G E) (bc:Zf B C) (gc:Zf G C) (y:Zck C G' E') (s:Zf C G'):Zck B G' (E++E'):=by
 refine ⟨?_,fun e h=>?_⟩
 ·rw [List.nodup_append]
  refine ⟨x.1,y.1,fun a ha b hb z=>?_⟩
  subst z
  obtain ⟨_,us,h1,_⟩:=x.2 a ha
  have:=(y.2 a hb).1
  rw [gc _ _ h1] at this
  cases this
 ·rcases List.mem_append.mp h with h | h
  ·obtain ⟨a,us,b,c⟩:=x.2 e h
   exact ⟨a,us,s _ _ (gc _ _ b),c⟩
  ·obtain ⟨a,us,b,c⟩:=y.2 e h
   exact ⟨bc.free a,us,b,c⟩
def ZiG (C:Addr):Sp:=fun vs H Q E=>∃(l:Addr) (xs:List V) (ls:List (Str×Int)),vs = [.ref l]/\H l=some (.lst xs)/\ZD H xs ls/\Wk ls 0/\InB ls/\ls.length<=60 /\
 (GL ls ls.length -> ∀(p:Addr) (H':Hp) (T:List Addr) (RR:List (List (List Addr))),H p=none->Zf H H'->Tbs H' p ls T->T.length=ls.length+1->ZfR H' T RR->Zck H H' RR.flatten.flatten->p∉RR.flatten.flatten->RR.flatten.flatten.length<=5000->(∀r∈T,H r=none)->Q (.ref p) H')/\(¬GL ls ls.length -> ∀H',Zf H H'->E (.ref C) none H')
abbrev Uo:Stmt:=top 19
theorem ZeS:ZF ["drawing"] ["drawing"] (Zl Uo):={}
theorem Zlm {f C W:Addr}{fd:FuncData} (F:Y8 K "between" "between" Uo f fd) (YZ:Za0 P w K mg base 6 "sum_tables" ["drawing"] (Zjg C W)) (Gm:mg "list" = none):Yj P w K mg base (CX1 P w) 7 f fd ["drawing"] (ZiG C):=by
 refine F.okX ZeS (fun vs H Q E h=>?_) (fun cdv A outer s H vs Q E hr h=>?_)
 ·obtain ⟨l,xs,ls,rfl,_⟩:=h
  rfl
 ·obtain ⟨l,xs,ls,rfl,hl,hL,hW,hI,hlen,k,kx⟩:=h
  refine ⟨_,(Zh (ZJ (Wt (Ls:=["table"]) (Fs:=[]) (fi:=[]) (ZO.of (show Yu ["drawing"] (Zl Uo) _ [] []=true by decide +kernel)) rfl (ZT (K:=K) rfl (U5 YZ (hr.mono (by decide)) ZhJ (Za (pv 0) Zc))) (fun cl C s3 H3 ex=>⟨(Zj (i:=0) (show ((["table"]:List Str)++([]:List Str)).Nodup by decide +kernel) rfl (Or.inl rfl)),Z0,(Wt (Ls:=["row"]) (Fs:=[]) (fi:=[]) (ZO.of (by rfl)) rfl (ZT (K:=K) rfl (pv 0)) (fun cl C s3 H3 ex=>⟨(Zj (i:=0) (show ((["row"]:List Str)++([]:List Str)).Nodup by decide +kernel) rfl (Or.inl rfl)),Z0,(Wt (Ls:=["one"]) (Fs:=[]) (fi:=[]) (ZO.of (by rfl)) rfl (ZT (K:=K) rfl (pv 0)) (fun cl C s3 H3 ex=>⟨(Zj (i:=0) (show ((["one"]:List Str)++([]:List Str)).Nodup by decide +kernel) rfl (Or.inl rfl)),Z0,(ZaF (UN (K:=K) rfl) (by rfl) Gm boot_list (Za (pv 0) Zc))⟩))⟩))⟩)))),?_⟩
  refine ⟨_,rfl,l,xs,ls,rfl,hl,hL,hW,hI,hlen,fun few tA G0 T0 ftA s0 tbs0 lT0=>?_,fun nf H' s'=>kx nf H' s'⟩
  have lm:(T0.map V.ref).length<=61:=by rw [List.length_map,lT0];lia
  refine ⟨tA,rfl,⟨_,Zo.of tbs0.at_⟩,YV (K:=K) (xs:=T0.map V.ref) (by rw [sizeLine_eq];lia) (fun i zs G=>∃(T:List Addr) (RR:List (List (List Addr))),Zf G0 G/\zs=T.map V.ref/\T.length=i/\(∀(a:Nat) (r:Addr),T[a]? = some r->Tab G r (tN (ls.take a)) (tF (ls.take a)))/\ZfR G T RR/\Zck G0 G RR.flatten.flatten/\RR.flatten.flatten.length<=64*i /\ ∀r∈T,G0 r=none)
   ⟨[],[],Zf.refl _,rfl,rfl,fun a r h=>by simp at h,.nil,ZbK,Nat.zero_le _,fun r h=>nomatch h⟩ (fun i zs G ⟨T,RR,_,e,l',_⟩=>by rw [e,List.length_map,l'];exact Nat.le_refl _) (fun i zs G ⟨_,_,s',_⟩=>Zo.of (s' _ _ tbs0.at_)) ?_ ?_⟩
  ·rintro i v zs G hv ⟨T,RR,sG,rfl,lT,tabs,te,ne,lE,fT⟩
   rw [List.getElem?_map] at hv
   obtain ⟨t0,ht0,rfl⟩:=Option.map_eq_some_iff.mp hv
   have hi:i<=ls.length:=by have:=(List.getElem?_eq_some_iff.mp ht0).1;lia
   obtain ⟨A,et,mt⟩:=(tbs0.tab i t0 ht0).1.same sG
   have lA:=mt.1
   have n8:=ZhH hW hI i
   have fw:=few i hi
   obtain ⟨n,hn⟩:∃n,n=tN (ls.take i):=⟨_,rfl⟩
   obtain ⟨Fx,hF⟩:∃Fx,Fx=tF (ls.take i):=⟨_,rfl⟩
   rw [<- hn] at mt lA n8 fw
   rw [<- hF] at mt fw
   dsimp only [JD,Wn]
   refine GA ⟨_,rfl,t0,rfl,⟨_,Zo.of et⟩,YV (K:=K) (xs:=A.map V.ref) (by rw [List.length_map,sizeLine_eq];lia) (fun j ws G'=>∃(As:List Addr) (R:List (List Addr)),Zf G G'/\ws=As.map V.ref/\UX G' As j n Fx/\ZfZ G' As R/\Zck G G' R.flatten/\R.flatten.length<=8*j)
    ⟨[],[],Zf.refl _,rfl,Ue,.nil,ZbK,Nat.zero_le _⟩ (fun j ws G' ⟨As,R,_,e,m,_⟩=>by rw [e,List.length_map,m.1];exact Nat.le_refl _) (fun j ws G' ⟨_,_,s',_⟩=>Zo.of (s' _ _ et)) ?_ ?_⟩
   ·rintro j y ws G1 hy ⟨As,R,s1,rfl,mA,rE,nE,lR⟩
    rw [List.getElem?_map] at hy
    obtain ⟨r,hr',rfl⟩:=Option.map_eq_some_iff.mp hy
    have hj:j<n:=by have:=(List.getElem?_eq_some_iff.mp hr').1;lia
    obtain ⟨us,eu,lu,hu⟩:=(mt.2.2 j r hr').same s1
    dsimp only [JD,Wn]
    refine GA ⟨_,rfl,r,rfl,⟨_,Zo.of eu⟩,YV (K:=K) (xs:=us) (by rw [lu,sizeLine_eq];lia) (fun m ys G'=>∃es:List Addr,Zf G1 G'/\ys=es.map V.ref/\es.length=m/\(∀(a:Nat) (e:Addr),es[a]? = some e->WL G' e (Fx j a))/\Zck G1 G' es)
     ⟨[],Zf.refl _,rfl,rfl,fun a e h=>by simp at h,ZbK⟩ (fun m ys G' ⟨es,_,e,l',_⟩=>by rw [e,List.length_map,l'];exact Nat.le_refl _) (fun m ys G' ⟨_,s',_⟩=>Zo.of (s' _ _ eu)) ?_ ?_⟩
    ·rintro m y ys G2 hm ⟨es,s2,rfl,le',wl,nE2⟩
     have hm':m<n:=by have:=(List.getElem?_eq_some_iff.mp hm).1;lia
     obtain ⟨e0,rfl,w0⟩:=hu m y hm
     obtain ⟨vs,ev,wv⟩:=w0.same s2
     have lv:=wv.len
     have f200:=fw j m hj hm'
     dsimp only [JD,Wn]
     refine GA ⟨_,rfl,e0,vs,rfl,.inl (Zo.of ev),fun D fD=>⟨es ++ [D],s2.step fD,by rw [List.map_append];rfl,by rw [List.length_append,le'];rfl,fun a e h=>?_,?_⟩⟩
     ·by_cases z:a<es.length
      ·rw [List.getElem?_append_left z] at h
       exact (wl a e h).same (Zf.laid fD)
      ·rw [List.getElem?_append_right (by lia)] at h
       have:a-es.length=0:=by
        have:=(List.getElem?_eq_some_iff.mp h).1
        simp at this;lia
       rw [this] at h
       cases h
       have:a=m:=by lia
       subst this
       exact ⟨vs,Zb,wv.same (Zf.laid fD)⟩
     ·refine ZbG nE2 s2 (Zf.refl _) ⟨by simp,fun e h=>?_⟩ (Zf.laid fD)
      rw [List.mem_singleton.mp h]
      exact ⟨fD,vs,Zb,by lia⟩
    ·rintro ys G2 ⟨es,s2,rfl,le',wl,nE2⟩ D fD
     rw [lu] at le'
     have sD:Zf G2 (upd G2 D (.lst (es.map V.ref))):=Zf.laid fD
     refine ⟨As ++ [D],R ++ [es],(s1.trans s2).trans sD,by rw [List.map_append];rfl,(mA.same (s2.trans sD)).snoc ((mA.same s2).fresh fD) ⟨_,Zb,by rw [List.length_map];exact le',fun a x hx=>?_⟩,Paired.snoc (UM (s2.trans sD) rE) Zb,?_,?_⟩
     ·rw [List.getElem?_map] at hx
      obtain ⟨e,he,rfl⟩:=Option.map_eq_some_iff.mp hx
      exact ⟨e,rfl,(wl a e he).same sD⟩
     ·rw [List.flatten_append,List.flatten_singleton]
      exact ZaI sD (ZbG nE s1 (Zf.refl _) nE2 s2)
     ·rw [List.flatten_append,List.flatten_singleton,List.length_append]
      lia
   ·rintro ws G1 ⟨As,R,s1,rfl,mA,rE,nE,lR⟩ D fD
    rw [List.length_map,lA] at mA lR
    have sD:Zf G1 (upd G1 D (.lst (As.map V.ref))):=Zf.laid fD
    refine ⟨T ++ [D],RR ++ [R],(sG.trans s1).trans sD,by rw [List.map_append];rfl,by rw [List.length_append,lT];rfl,fun a r h=>?_,Paired.snoc (ZbM (s1.trans sD) te) ⟨As,Zb,UM sD rE⟩,?_,?_,fun r hr=>?_⟩
    ·by_cases z:a<T.length
     ·rw [List.getElem?_append_left z] at h
      exact (tabs a r h).same (s1.trans sD)
     ·rw [List.getElem?_append_right (by lia)] at h
      have:a-T.length=0:=by
       have:=(List.getElem?_eq_some_iff.mp h).1
       simp at this;lia
      rw [this] at h
      cases h
      have:a=i:=by lia
      subst this
      rw [<- hn,<- hF]
      exact ⟨As,Zb,mA.same sD⟩
    ·rw [List.flatten_append,List.flatten_singleton,List.flatten_append]
     exact ZaI sD (ZbG ne sG (Zf.refl _) nE s1)
    ·rw [List.flatten_append,List.flatten_singleton,List.flatten_append,List.length_append]
     lia
    ·rcases List.mem_append.mp hr with z | z
     ·exact fT r z
     ·rw [List.mem_singleton.mp z];exact (sG.trans s1).free fD
  ·rintro zs G ⟨T,RR,sG,rfl,lT,tabs,te,ne,lE,fT⟩ p fp
   have sp:Zf G (upd G p (.lst (T.map V.ref))):=Zf.laid fp
   rw [List.length_map,lT0] at lT lE
   refine k few p _ T RR ((s0.trans sG).free fp) ((s0.trans sG).trans sp) ⟨Zb,by lia,fun a r h=>⟨(tabs a r h).same sp,fun z=>?_⟩⟩ lT (ZbM sp te) ?_ (fun z=>?_) (by lia) (fun r hr=>s0.free (fT r hr))
   ·obtain ⟨_,e,_⟩:=tabs a r h
    rw [z,fp] at e;cases e
   ·refine ZaI sp ⟨ne.1,fun e h=>?_⟩
    obtain ⟨a,b⟩:=ne.2 e h
    exact ⟨s0.free a,b⟩
   ·obtain ⟨_,us,e,_⟩:=ne.2 p z
    rw [fp] at e;cases e
theorem gK:ZcY "born" = 2/\ZcY "cross" = 0/\ZcY "end" = -2:=⟨by decide +kernel,by decide +kernel,by decide +kernel⟩
theorem wkS {ls:List (Str×Int)}{n:Int} (h:Wk ls n):Yw ls=n:=by
 induction h with
 | nil=>rfl
 | born _ _ _ ih=>rw [JY,ih,gK.1]
 | cross _ _ _ ih=>rw [JY,ih,gK.2.1];lia
 | fin _ _ _ ih=>rw [JY,ih,gK.2.2];lia
theorem Zj8 {A A':List (Str×Int)}{n:Int} (ha:Wk A n) (ha':Wk A' n) {X:List (Str×Int)}{m:Int} (h:Wk X m):∀B,X=A++B->Wk (A'++B) m:=by
 have base:∀{X:List (Str×Int)}{m:Int},Wk X m->X=A->Wk (A' ++ []) m:=fun {X m} hx e=>by
  subst e
  have e1:=wkS hx
  have e2:=wkS ha
  rw [List.append_nil]
  rw [show m=n by lia]
  exact ha'
 have spl:∀{ls B:List (Str×Int)}{p:Str×Int},ls ++ [p]=A++B->(B = []/\ls ++ [p]=A) ∨ ∃B',B=B' ++ [p]/\ls=A++B':=fun {ls B p} e=>by
  rcases List.eq_nil_or_concat B with z | ⟨B',q,z⟩
  rotate_left
  rw [List.concat_eq_append] at z
  rotate_left
  ·subst z
   exact .inl ⟨rfl,by simpa using e⟩
  ·subst z
   rw [<- List.append_assoc] at e
   obtain ⟨e1,e2⟩:=List.append_inj' e rfl
   have e2:p=q:=by simpa using e2
   subst e2
   exact .inr ⟨B',rfl,e1⟩
 induction h with
 | nil=>
  intro B e
  obtain ⟨e1,e2⟩:=List.append_eq_nil_iff.mp e.symm
  subst e2
  exact base .nil e1.symm
 | @born ls n' k h h0 h1 ih=>
  intro B e
  rcases spl e with ⟨z,y⟩ | ⟨B',z,y⟩
  ·subst z;exact base (.born h h0 h1) y
  ·rw [z,<- List.append_assoc];exact .born (ih B' y) h0 h1
 | @cross ls n' k h h0 h1 ih=>
  intro B e
  rcases spl e with ⟨z,y⟩ | ⟨B',z,y⟩
  ·subst z;exact base (.cross h h0 h1) y
  ·rw [z,<- List.append_assoc];exact .cross (ih B' y) h0 h1
 | @fin ls n' k h h0 h1 ih=>
  intro B e
  rcases spl e with ⟨z,y⟩ | ⟨B',z,y⟩
  ·subst z;exact base (.fin h h0 h1) y
  ·rw [z,<- List.append_assoc];exact .fin (ih B' y) h0 h1
def Mid (ls:List (Str×Int)):Prop:=∀t,1<=t->t<ls.length->2<=Yw (ls.take t)
theorem Y7 (A B:List (Str×Int)):Yw (A++B)=Yw A+Yw B:=by unfold Yw;simp
def Us (b c:Int):List (Str×Int):=[("born", b),("cross", c),("end", b)]
theorem Zk5 {ls:List (Str×Int)}{t:Nat}{b c:Int} (hW:Wk ls 0) (hb0:0<=b) (hb1:b<=Yw (ls.take t)) (hc0:0<=c) (hc1:c<=Yw (ls.take t)):Wk (ls.take t++Us b c++ls.drop t) 0:=by
 obtain ⟨n,hn⟩:=Jh hW t
 have en:=wkS hn
 rw [en] at hb1 hc1
 have w1:=Wk.born (k:=b) hn hb0 hb1
 have w2:=Wk.cross (k:=c) w1 hc0 (by lia)
 have w3:=Wk.fin (k:=b) w2 hb0 (by lia)
 have e:ls.take t ++ [(("born" : Str),b)] ++ [(("cross" : Str),c)] ++ [(("end" : Str),b)]=ls.take t++Us b c:=by simp [Us]
 rw [e,show n+2-2=n by lia] at w3
 exact Zj8 hn w3 hW (ls.drop t) (List.take_append_drop t ls).symm
theorem Zi3 {ls:List (Str×Int)}{t:Nat}{b c:Int} (hM:Mid ls) (t1:1<=t) (t2:t<ls.length):Mid (ls.take t++Us b c++ls.drop t):=by
 intro i i1 i2
 have lt:(ls.take t).length=t:=by rw [List.length_take];lia
 have l3:(Us b c).length=3:=rfl
 have gk:=gK
 have s0:=hM t t1 t2
 by_cases h1:i<=t
 ·rw [List.append_assoc,List.take_append_of_le_length (by lia),List.take_take,Nat.min_eq_left h1]
  exact hM i i1 (by lia)
 ·by_cases h2:i=t+1
  ·subst h2
   have e:(ls.take t++Us b c++ls.drop t).take (t+1)=ls.take t ++ [(("born" : Str),b)]:=by
    rw [List.append_assoc,List.take_append,lt]
    simp [Us,List.take_take]
   rw [e,Y7]
   have:Yw [(("born" : Str),b)]=2:=by unfold Yw;simp [gk.1]
   lia
  ·by_cases h3:i=t+2
   ·subst h3
    have e:(ls.take t++Us b c++ls.drop t).take (t+2)=ls.take t ++ [(("born" : Str),b),(("cross" : Str),c)]:=by
     rw [List.append_assoc,List.take_append,lt]
     simp [Us,List.take_take,show t+2-t=2 by lia]
    rw [e,Y7]
    have:Yw [(("born" : Str),b),(("cross" : Str),c)]=2:=by unfold Yw;simp [gk.1,gk.2.1]
    lia
   ·obtain ⟨j,rfl⟩:∃j,i=t+3+j:=⟨i-(t+3),by lia⟩
    have e:(ls.take t++Us b c++ls.drop t).take (t+3+j)=ls.take t++Us b c++(ls.drop t).take j:=by
     rw [List.take_append]
     have:(ls.take t++Us b c).length=t+3:=by rw [List.length_append,lt,l3]
     rw [this,List.take_of_length_le (by lia)]
     congr 2
     lia
    rw [e,Y7,Y7]
    have z:Yw (Us b c)=0:=by unfold Yw Us;simp [gk.1,gk.2.1,gk.2.2]
    have y:ls.take (t+j)=ls.take t++(ls.drop t).take j:=by rw [List.take_add]
    have hj:t+j<ls.length:=by
     rw [List.length_append,List.length_append,lt,l3,List.length_drop] at i2
     lia
    have:=hM (t+j) (by lia) hj
    rw [y,Y7] at this
    lia
theorem ZfP:∀ls:List (Str×Int),(∀p∈ls,Kd p.1)->2*(((ls.map fun p=>V.str p.1).countP fun z=>eqV z (.str "born"):Nat):Int)-2*(((ls.map fun p=>V.str p.1).countP fun z=>eqV z (.str "end"):Nat):Int)=Yw ls
 | [],_=>rfl
 | p::r,h=>by
  have ih:=ZfP r fun q hq=>h q (List.mem_cons_of_mem _ hq)
  have gk:=gK
  have e:Yw (p::r)=ZcY p.1+Yw r:=by unfold Yw;simp
  have eqs:∀x y:Str,eqV (V.str x) (V.str y)=decide (x=y):=fun x y=>by
   unfold eqV
   by_cases z:x=y<;>simp [z]
  rw [List.map_cons,List.countP_cons,List.countP_cons,e,<- ih,eqs,eqs]
  rcases h p List.mem_cons_self with z | z | z
  ·rw [z,gk.1]
   simp [show ¬(("born" : Str) = "end") by decide +kernel]
   lia
  ·rw [z,gk.2.1]
   simp [show ¬(("cross" : Str) = "end") by decide +kernel,show ¬(("cross" : Str) = "born") by decide +kernel]
  ·rw [z,gk.2.2]
   simp [show ¬(("end" : Str) = "born") by decide +kernel]
   lia
theorem ZgD {H:Hp}{xs:List V}{ls:List (Str×Int)} (h:ZD H xs ls):∀t,ZD H (xs.take t) (ls.take t):=by
 induction h with
 | nil=>intro t;rw [List.take_nil,List.take_nil];exact .nil
 | cons a _ ih=>
  intro t
  cases t with
  | zero=>exact .nil
  | succ n=>exact .cons a (ih n)
theorem ZgP {H:Hp}{xs:List V}{ls:List (Str×Int)} (h:ZD H xs ls):∀t,ZD H (xs.drop t) (ls.drop t):=by
 induction h with
 | nil=>intro t;rw [List.drop_nil,List.drop_nil];exact .nil
 | cons a b ih=>
  intro t
  cases t with
  | zero=>exact .cons a b
  | succ n=>exact ih n
theorem ZkR {ls:List (Str×Int)}{t:Nat}{b c:Int} (hM:∀i,Yw (ls.take i)<=8) (t2:t<ls.length) (hm:Yw (ls.take t)<=6):∀i,Yw ((ls.take t++Us b c++ls.drop t).take i)<=8:=by
 intro i
 have lt:(ls.take t).length=t:=by rw [List.length_take];lia
 have l3:(Us b c).length=3:=rfl
 have gk:=gK
 by_cases h1:i<=t
 ·rw [List.append_assoc,List.take_append_of_le_length (by lia),List.take_take,Nat.min_eq_left h1]
  exact hM i
 ·by_cases h2:i=t+1
  ·subst h2
   have e:(ls.take t++Us b c++ls.drop t).take (t+1)=ls.take t ++ [(("born" : Str),b)]:=by
    rw [List.append_assoc,List.take_append,lt]
    simp [Us,List.take_take]
   rw [e,Y7]
   have:Yw [(("born" : Str),b)]=2:=by unfold Yw;simp [gk.1]
   lia
  ·by_cases h3:i=t+2
   ·subst h3
    have e:(ls.take t++Us b c++ls.drop t).take (t+2)=ls.take t ++ [(("born" : Str),b),(("cross" : Str),c)]:=by
     rw [List.append_assoc,List.take_append,lt]
     simp [Us,List.take_take,show t+2-t=2 by lia]
    rw [e,Y7]
    have:Yw [(("born" : Str),b),(("cross" : Str),c)]=2:=by unfold Yw;simp [gk.1,gk.2.1]
    lia
   ·obtain ⟨j,rfl⟩:∃j,i=t+3+j:=⟨i-(t+3),by lia⟩
    have e:(ls.take t++Us b c++ls.drop t).take (t+3+j)=ls.take t++Us b c++(ls.drop t).take j:=by
     rw [List.take_append]
     have:(ls.take t++Us b c).length=t+3:=by rw [List.length_append,lt,l3]
     rw [this,List.take_of_length_le (by lia)]
     congr 2
     lia
    rw [e,Y7,Y7]
    have z:Yw (Us b c)=0:=by unfold Yw Us;simp [gk.1,gk.2.1,gk.2.2]
    have y:ls.take (t+j)=ls.take t++(ls.drop t).take j:=by rw [List.take_add]
    have:=hM (t+j)
    rw [y,Y7] at this
    lia
theorem Zc6 (x:Str) (A B:List (Str×Int)):cnt x (A++B)=cnt x A+cnt x B:=by unfold cnt;simp
structure CB (ls:List (Str×Int)) (i:Nat):Prop where
 sum:∀t,Yw (ls.take t)<=8
 born:cnt "born" ls<=1+i
 cross:cnt "cross" ls<=i
theorem CB.mono {ls:List (Str×Int)}{i:Nat} (x:CB ls i):CB ls (i+1):=⟨x.sum,by have:=x.born;lia,by have:=x.cross;lia⟩
abbrev Zkk:=@Us
theorem CB.Us {ls:List (Str×Int)}{i t:Nat}{b c:Int} (x:CB ls i) (t2:t<ls.length) (hm:Yw (ls.take t)<=6):CB (ls.take t++Us b c++ls.drop t) (i+1):=by
 have e:∀y,cnt y (ls.take t++Zkk b c++ls.drop t)=cnt y ls+cnt y (Zkk b c):=fun y=>by
  have:=Zc6 y (ls.take t) (ls.drop t)
  rw [List.take_append_drop] at this
  rw [Zc6,Zc6];lia
 have h1:=x.born
 have h2:=x.cross
 have q1:cnt "born" (Zkk b c)=1:=rfl
 have q2:cnt "cross" (Zkk b c)=1:=rfl
 exact ⟨ZkR x.sum t2 hm,by rw [e,q1];lia,by rw [e,q2];lia⟩
theorem CB.inb {ls:List (Str×Int)}{i:Nat} (x:CB ls i) (h:i<=3):InB ls:=by
 have h1:=x.born
 have h2:=x.cross
 exact ⟨x.sum,by rw [U2];lia,by rw [U2];lia⟩
def Zfx:Sp:=fun vs H Q _=>∃(b:Addr) (m:Int),vs = [.ref b,.int m]/\Bag H b/\0<=m/\m<=3 /\ ∀(l:Addr) (H':Hp) (ls:List (Str×Int)),H l=none->Bag H' b->Jo b H H'->Drw H' l ls->InB ls->ls.length<=50->ls ≠ []->Q (.ref l) H'
abbrev Jw:Stmt:=top 27
theorem ZU:ZF ["_law_bag_here", "_law_most", "_law_letters", "_law_turn", "_law_t", "_law_words", "_law_many", "_law_k", "_law_side", "_law_curl"] ["_law_bag_here", "_law_most"] (Zl Jw):={}
theorem ZgH {f:Addr}{fd:FuncData} (F:Y8 K "_law_curled" "_law_curled" Jw f fd) (Zs:JV P w K mg base 1 "_law_take" ["_law_bag_here", "_law_many"] Zaw) (Zx:mg "range" = none) (Yg:mg "len" = none) (ZcN:mg "max" = none):
  Yj P w K mg base GV 2 f fd ["_law_bag_here", "_law_most"] Zfx:=by
 refine F.ok ZU (fun vs H Q E h=>?_) (fun cdv A outer s H vs Q E hr h=>?_)
 ·obtain ⟨b,m,rfl,_⟩:=h
  rfl
 ·obtain ⟨b,m,rfl,hbag,m0,m3,k⟩:=h
  refine ⟨_,(Zd (Zr (i:=2) ZU.nd rfl (Or.inl rfl) (Z5 (Za (Yr (Za Z4 (Za Ze Zc))) (Za (Yr (Za Z4 (Za Ze Zc))) Zc))))
   (Zd (Z3 PassesOwn.never rfl (Yb (by rfl) Zx (Za (Zz Zs hr (Za (pv 0) (Za (Zm Zv (pv 1) Ze) Zc))) Zc)) (Zj (i:=3) ZU.nd rfl (Or.inl rfl)) (Zd (Zr (i:=4) ZU.nd rfl (Or.inl rfl) (Zm Zv Ze (Zz Zs hr (Za (pv 0) (Za (Zm Yx (ZH (Yk (K:=K) rfl) (by rfl) Yg PySem.boot_len (Za (pv 2) Zc)) Ze) Zc)))))
   (Zd (U0 (i:=5) ZU.nd rfl (Or.inl rfl) (Ls:=["_law_letter"]) (Fs:=[]) (fi:=[]) (ZO.of (show Yu ["_law_bag_here", "_law_most", "_law_letters", "_law_turn", "_law_t", "_law_words", "_law_many", "_law_k", "_law_side", "_law_curl"] (Zl Jw) _ [] []=true by decide +kernel)) rfl (ZT (K:=K) rfl (YR (YN (K:=K) rfl) (pv 2) Wu (Yf (pv 4)))) (fun cl C s3 H3 ex=>⟨(Zj (i:=0) (show ((["_law_letter"]:List Str)++([]:List Str)).Nodup by decide +kernel) rfl (Or.inl rfl)),Z0,(Zp (YH (K:=K) rfl) (pv 0) Ze (fun _ _=>rfl))⟩))
   (Zd (Zr (i:=6) ZU.nd rfl (Or.inl rfl) (Zm Yx (Zm UE Ze (YO (K:=K) rfl (Jz PySem.F.plainAttrs_list PySem.F.slot_list_count PySem.F.type_list_count (ZcR (K:=K) rfl) (pv 5) (Za Z4 Zc)))) (Zm UE Ze (YO (K:=K) rfl (Jz PySem.F.plainAttrs_list PySem.F.slot_list_count PySem.F.type_list_count (ZcR (K:=K) rfl) (pv 5) (Za Z4 Zc))))))
   (Zd (Zr (i:=7) ZU.nd rfl (Or.inl rfl) (Zz Zs hr (Za (pv 0) (Za (ZH (ZcS rfl) (by rfl) ZcN boot_max (Za Ze (Za (pv 6) Zc))) Zc))))
   (Zd (Zr (i:=8) ZU.nd rfl (Or.inl rfl) (Zz Zs hr (Za (pv 0) (Za Ze Zc))))
   (Zd (Zr (i:=9) ZU.nd rfl (Or.inl rfl) (Z5 (Za (Yr (Za Z4 (Za (Zm Yx (Zm Zv (pv 7) Ze) (pv 8)) Zc))) (Za (Yr (Za Z4 (Za (Zm Zv (pv 7) (pv 8)) Zc))) (Za (Yr (Za Z4 (Za (Zm Yx (Zm Zv (pv 7) Ze) (pv 8)) Zc))) Zc)))))
   (Zh (Yh (Zw Zil (pv 6) Ze (ZM _)) (Zh (Z6 (pv 9) (Ziz (pv 2) (Yf (pv 4)) (Yf (pv 4))))) ZX)))))))))
   (Zh (ZJ (pv 2))))),?_⟩
  refine ⟨(by show 2<=sizeLine;decide),fun t1 h1=>⟨(by show 2<=sizeLine;decide),fun t2 h2=>⟨(by show 2<=sizeLine;decide),fun l hl=>?_⟩⟩⟩
  have s3:Zf H (upd (upd (upd H t1 (.tup [.str "born", .int 0])) t2 (.tup [.str "end", .int 0])) l (.lst [.ref t1,.ref t2])):=((Zf.laid h1).step h2).step hl
  have fl:H l=none:=((Zf.laid h1).step h2).free hl
  have L0:ZD (upd (upd (upd H t1 (.tup [.str "born", .int 0])) t2 (.tup [.str "end", .int 0])) l (.lst [.ref t1,.ref t2])) [.ref t1,.ref t2] [("born", 0),("end", 0)]:=
   .cons ⟨t1,rfl,(Zf.laid hl) _ _ ((Zf.laid h2) _ _ Zb)⟩ (.cons ⟨t2,rfl,(Zf.laid hl) _ _ Zb⟩ .nil)
  have el:(upd (upd (upd H t1 (.tup [.str "born", .int 0])) t2 (.tup [.str "end", .int 0])) l (.lst [.ref t1,.ref t2])) l=some (.lst [.ref t1,.ref t2]):=Zb
  generalize upd (upd (upd H t1 (.tup [.str "born", .int 0])) t2 (.tup [.str "end", .int 0])) l (.lst [.ref t1,.ref t2])=H3 at *
  have bg3:Bag H3 b:=by obtain ⟨g,r,h,e⟩:=hbag;exact ⟨g,r,h,s3 _ _ e⟩
  have nlb:l≠b:=by obtain ⟨g,r,h,e⟩:=hbag;exact (Zg e fl).symm
  have W0:Wk [("born", 0),("end", 0)] 0:=Wk.fin (k:=0) (Wk.born (k:=0) .nil (by decide) (by decide)) (by decide) (by decide)
  have M0:Mid [("born", 0),("end", 0)]:=fun t a c=>by
   have:t=1:=by simp at c;lia
   subst this
   decide +kernel
  have C0:CB [("born", 0),("end", 0)] 0:=⟨fun i=>by
   match i with
   | 0=>decide +kernel
   | 1=>decide +kernel
   | i+2=>rw [List.take_of_length_le (by simp)];decide +kernel,by decide +kernel,by decide +kernel⟩
  refine ⟨_,rfl,_,rfl,_,_,rfl,rfl,b,_,rfl,bg3,by lia,by lia,fun d H4 d0 d1 bg4 f4=>?_⟩
  refine ⟨_,rfl,by lia,by lia,Ys (n:=d.toNat) (fun i σ G=>∃(xs:List V) (ls:List (Str×Int)) (v3 v4 v5 v6 v7 v8 v9:Option V),σ = [some (.ref b),some (.int m),some (.ref l),v3,v4,v5,v6,v7,v8,v9]/\Bag G b/\Jo b H G/\G l=some (.lst xs)/\ZD G xs ls/\Wk ls 0/\Mid ls/\2<=ls.length/\ls.length<=2+3*i/\CB ls i)
   ⟨_,_,none,none,none,none,none,none,none,rfl,bg4,s3.frm.trans f4,f4 _ _ el nlb,L0.frm f4 bg3,W0,M0,by decide,by decide,C0⟩ ?_ ?_⟩
  ·rintro i σ G hi ⟨xs,ls,v3,v4,v5,v6,v7,v8,v9,rfl,bg,fr,hG,hL,hW,hM,n2,n3,cb⟩
   have hxl:=hL.len
   refine ⟨_,rfl,_,rfl,l,_,rfl,.inl (Zo.of hG),_,_,rfl,rfl,b,_,rfl,bg,by lia,by lia,fun e G1 e0 e1 bg1 f1=>⟨_,_,rfl,rfl,?_⟩⟩
   have hG1:=f1 _ _ hG nlb
   have hL1:=hL.frm f1 bg
   obtain ⟨t,ht⟩:∃t:Nat,1+e=(t:Int):=⟨(1+e).toNat,by lia⟩
   dsimp only
   rw [ht]
   have t1':1<=t:=by lia
   have t2':t<ls.length:=by lia
   refine ⟨_,rfl,_,rfl,_,rfl,l,xs,rfl,Zo.of hG1,fun c hc=>?_⟩
   have sc:=Zf.laid (o:=.lst (UU xs none (some (t:Int)))) hc
   rw [Zlf (xs:=xs) (t:=t) (by lia)] at sc ⊢
   refine ⟨c,rfl,⟨_,Zo.of Zb⟩,YV (K:=K) (a:=c) (xs:=xs.take t) (Nat.le_of_lt (ZI (by rw [List.length_take];lia))) (fun j zs G'=>Zf (upd G1 c (.lst (xs.take t))) G'/\zs=((ls.take t).take j).map fun p=>V.str p.1) ⟨Zf.refl _,rfl⟩
    (fun j zs G' q=>by rw [q.2,List.length_map,List.length_take];exact Nat.min_le_left _ _) (fun j zs G' q=>Zo.of (q.1 _ _ Zb)) (fun j x zs G' hx q=>?_) (fun zs G' q wA hwA=>?_)⟩
   ·obtain ⟨sq,rfl⟩:=q
    have hx':xs[j]? = some x/\j<t:=by
     rw [List.getElem?_take] at hx
     split at hx
     ·exact ⟨hx,by assumption⟩
     ·cases hx
    obtain ⟨p,ta,hp,rfl,hta⟩:=hL1.get hx'.1
    refine lcG ?_
    refine ⟨_,rfl,ta,_,_,_,rfl,rfl,JH.of (sq _ _ (sc _ _ hta)),Zn (j:=0) rfl,sq,?_⟩
    rw [Wz (ns:=ls.take t) _ (by rw [List.getElem?_take,if_pos hx'.2];exact hp)]
   obtain ⟨sq,rfl⟩:=q
   have lt:(xs.take t).length=(ls.take t).length:=by rw [List.length_take,List.length_take,hxl]
   rw [lt,List.take_of_length_le (Nat.le_refl _)]
   have kd:∀p∈ls.take t,Kd p.1:=fun p hp=>hW.kd p (List.mem_of_mem_take hp)
   have s2:Zf G1 (upd G' wA (.lst ((ls.take t).map fun p=>V.str p.1))):=(sc.trans sq).step hwA
   have ew:(upd G' wA (.lst ((ls.take t).map fun p=>V.str p.1))) wA=some (.lst ((ls.take t).map fun p=>V.str p.1)):=Zb
   generalize upd G' wA (.lst ((ls.take t).map fun p=>V.str p.1))=G2 at *
   have fs:((ls.take t).map fun p=>V.str p.1).all Wv=true:=by
    rw [List.all_eq_true]
    intro x hx
    obtain ⟨p,_,rfl⟩:=List.mem_map.mp hx
    rfl
   refine ⟨_,rfl,.inl ⟨rfl,_,Zo.of ew⟩,wA,_,_,rfl,rfl,Zo.of ew,rfl,fs,_,_,rfl,rfl,.inl ⟨by decide,by decide⟩,?_⟩
   refine ⟨_,rfl,.inl ⟨rfl,_,Zo.of ew⟩,wA,_,_,rfl,rfl,Zo.of ew,rfl,fs,_,_,rfl,rfl,.inl ⟨by decide,by decide⟩,_,_,rfl,rfl,?_⟩
   have cs:=ZfP (ls.take t) kd
   obtain ⟨m,hm⟩:∃m,m=Yw (ls.take t):=⟨_,rfl⟩
   dsimp only
   rw [cs,<- hm]
   have m2:2<=m:=by rw [hm];exact hM t t1' t2'
   have m120:m<=1000:=by
    rw [hm]
    obtain ⟨n,hn⟩:=Jh hW t
    have:=Zc8 hn
    rw [wkS hn]
    rw [List.length_take] at this
    lia
   have bg2:Bag G2 b:=by obtain ⟨g,r,h,e⟩:=bg1;exact ⟨g,r,h,s2 _ _ e⟩
   refine ⟨_,rfl,_,rfl,_,_,rfl,b,_,rfl,bg2,?_,?_,fun kk G3 k0 k1 bg3' f3=>?_⟩
   ·split<;>lia
   ·split<;>lia
   have k1:kk<m:=by
    rw [if_pos (show m>1 by lia)] at k1
    exact k1
   refine ⟨_,rfl,b,2,rfl,bg3',by decide,by decide,fun sd G4 sd0 sd1 bg4' f4'=>?_⟩
   refine ⟨_,rfl,_,_,rfl,rfl,_,rfl,_,_,rfl,rfl,(by show 2<=sizeLine;decide),fun u1 hu1=>?_⟩
   refine ⟨_,rfl,_,rfl,_,_,rfl,rfl,(by show 2<=sizeLine;decide),fun u2 hu2=>?_⟩
   refine ⟨_,rfl,_,_,rfl,rfl,_,rfl,_,_,rfl,rfl,(by show 2<=sizeLine;decide),fun u3 hu3=>?_⟩
   refine ⟨(by show 3<=sizeLine;decide),fun cA hcA=>?_⟩
   have s5:Zf G4 (upd (upd (upd (upd G4 u1 (.tup [.str "born", .int (kk+1-sd)])) u2 (.tup [.str "cross", .int (kk+sd)])) u3 (.tup [.str "end", .int (kk+1-sd)])) cA (.lst [.ref u1,.ref u2,.ref u3])):=(((Zf.laid hu1).step hu2).step hu3).step hcA
   have fc:G4 cA=none:=(((Zf.laid hu1).step hu2).step hu3).free hcA
   have L5:ZD (upd (upd (upd (upd G4 u1 (.tup [.str "born", .int (kk+1-sd)])) u2 (.tup [.str "cross", .int (kk+sd)])) u3 (.tup [.str "end", .int (kk+1-sd)])) cA (.lst [.ref u1,.ref u2,.ref u3])) [.ref u1,.ref u2,.ref u3] (Us (kk+1-sd) (kk+sd)):=
    .cons ⟨u1,rfl,(Zf.laid hcA) _ _ ((Zf.laid hu3) _ _ ((Zf.laid hu2) _ _ Zb))⟩ (.cons ⟨u2,rfl,(Zf.laid hcA) _ _ ((Zf.laid hu3) _ _ Zb)⟩ (.cons ⟨u3,rfl,(Zf.laid hcA) _ _ Zb⟩ .nil))
   have e5:(upd (upd (upd (upd G4 u1 (.tup [.str "born", .int (kk+1-sd)])) u2 (.tup [.str "cross", .int (kk+sd)])) u3 (.tup [.str "end", .int (kk+1-sd)])) cA (.lst [.ref u1,.ref u2,.ref u3])) cA=some (.lst [.ref u1,.ref u2,.ref u3]):=Zb
   generalize upd (upd (upd (upd G4 u1 (.tup [.str "born", .int (kk+1-sd)])) u2 (.tup [.str "cross", .int (kk+sd)])) u3 (.tup [.str "end", .int (kk+1-sd)])) cA (.lst [.ref u1,.ref u2,.ref u3])=G5 at *
   have hG4:G4 l=some (.lst xs):=f4' _ _ (f3 _ _ (s2 _ _ hG1) nlb) nlb
   have hG5:=s5 _ _ hG4
   have nlc:l≠cA:=Zg hG4 fc
   have fr5:Jo b H G5:=((((fr.trans f1).trans s2.frm).trans f3).trans f4').trans s5.frm
   have bg5:Bag G5 b:=by obtain ⟨g,r,h,e⟩:=bg4';exact ⟨g,r,h,s5 _ _ e⟩
   have hL5:ZD G5 xs ls:=((((hL1.same s2).frm f3 bg2).frm f4' bg3').same s5)
   dsimp only
   refine ⟨_,rfl,_,_,rfl,rfl,_,rfl,?_⟩
   dsimp only
   by_cases m7:m<7
   ·rw [if_pos (decide_eq_true m7)]
    refine ⟨_,rfl,_,rfl,_,rfl,_,rfl,_,rfl,_,rfl,l,cA,xs,[.ref u1,.ref u2,.ref u3],(t:Int),(t:Int),rfl,rfl,rfl,rfl,hG5,e5,nlc,by lia,by lia,by lia,Nat.le_of_lt (ZI (by show xs.length+3<=1000;lia)),?_⟩
    have u:∀c o,c≠l->G5 c=some o->(upd G5 l (.lst (xs.take (t:Int).toNat ++ [.ref u1,.ref u2,.ref u3]++xs.drop (t:Int).toNat))) c=some o:=fun c o n e=>by rw [Zi n];exact e
    have ut:∀c p,G5 c=some (.tup p)->(upd G5 l (.lst (xs.take (t:Int).toNat ++ [.ref u1,.ref u2,.ref u3]++xs.drop (t:Int).toNat))) c=some (.tup p):=fun c p e=>u c _ (fun z=>by rw [z,hG5] at e;cases e) e
    have Lf:ZD G5 (xs.take t ++ [.ref u1,.ref u2,.ref u3]++xs.drop t) (ls.take t++Us (kk+1-sd) (kk+sd)++ls.drop t):=((ZgD hL5 t).append L5).append (ZgP hL5 t)
    rw [Int.toNat_natCast] at *
    have ms:m=Yw (ls.take t):=hm
    refine ⟨_,ls.take t++Us (kk+1-sd) (kk+sd)++ls.drop t,_,_,_,_,_,_,_,rfl,?_,fun c o e n=>u c o (Zg e fl) (fr5 c o e n),Zb,Lf.mono ut,Zk5 hW (by lia) (by lia) (by lia) (by lia),Zi3 hM t1' t2',?_,?_,cb.Us t2' (by lia)⟩
    ·obtain ⟨g,r,h,e⟩:=bg5
     exact ⟨g,r,h,u _ _ nlb.symm e⟩
    ·rw [List.length_append,List.length_append,List.length_take,List.length_drop];show 2<=min t ls.length+3+_;lia
    ·rw [List.length_append,List.length_append,List.length_take,List.length_drop];show min t ls.length+3+_<=_;lia
   ·rw [if_neg (fun z=>m7 (of_decide_eq_true z))]
    exact ⟨xs,ls,_,_,_,_,_,_,_,rfl,bg5,fr5,hG5,hL5,hW,hM,n2,by lia,cb.mono⟩
  ·rintro σ G ⟨xs,ls,v3,v4,v5,v6,v7,v8,v9,rfl,bg,fr,hG,hL,hW,hM,n2,n3,cb⟩
   exact ⟨_,rfl,k l G ls fl bg fr ⟨xs,hG,hL,hW,by lia⟩ (cb.inb (by lia)) (by lia) (fun z=>by rw [z] at n2;simp at n2)⟩
def hs (hn:Int->Int) (w:List Int):Int:=(w.map hn).sum
theorem ZbL (hn:Int->Int) (u v:List Int):hs hn (u++v)=hs hn u+hs hn v:=by unfold hs;rw [List.map_append,List.sum_append]
theorem Zc4 (hn:Int->Int) (t:Int):hs hn [t]=hn t:=by unfold hs;simp
theorem Wf {A B:WS}{w:List Int} (h:w∈Y5 A B):w∈A∨w∈B:=List.mem_append.mp ((Ya _).sub h)
theorem JW {A B:WS}{w:List Int} (h:w∈Yi A B):∃u∈A,∃v∈B,w=u++v:=by
 obtain ⟨u,hu,h⟩:=List.mem_flatMap.mp ((Ya _).sub h)
 obtain ⟨v,hv,rfl⟩:=List.mem_map.mp h
 exact ⟨u,hu,v,hv,rfl⟩
def Gr (hn:Int->Int) (F:Nat->Nat->WS) (n:Nat) (r:Nat->Int):Prop:=∀i j,i<j->j<n -> ∀w∈F i j,hs hn w=r i-r j-1
theorem ZjR {hn:Int->Int}{F:Nat->Nat->WS}{n k:Nat}{r r':Nat->Int} (h:Gr hn F n r) (hk:k<=n) (h1:∀i,i<k->r' i=r i) (h2:r' k-r' (k+1)=1) (h3:∀i,k<=i->i<n->r' (i+2)=r i):Gr hn (Uw k F) (n+2) r':=by
 intro i j hij hj w hw
 unfold Uw at hw
 split at hw
 ·rename_i c
  rw [List.mem_singleton.mp hw,c.1,c.2,h2]
  rfl
 ·split at hw
  ·cases hw
  ·rename_i c1 c2
   have e:∀m,m≠k->m≠k+1->m<n+2->r' m=r (if m<k then m else m-2):=fun m a b c=>by
    split
    ·rename_i z;exact h1 m z
    ·rename_i z
     have:=h3 (m-2) (by lia) (by lia)
     rwa [show m-2+2=m by lia] at this
   rw [e i (by lia) (by lia) (by lia),e j (by lia) (by lia) (by lia)]
   refine h _ _ ?_ ?_ w hw
   ·split<;>split<;>lia
   ·split<;>lia
theorem Zii {hn:Int->Int}{F:Nat->Nat->WS}{n k:Nat}{t:Int}{r r':Nat->Int} (h:Gr hn F n r) (hk:k+1<n) (ht:hn t=r k-r (k+1)) (h1:r' k=r (k+1)) (h2:r' (k+1)=r k) (h3:∀i,i≠k->i≠k+1->r' i=r i):Gr hn (J2 k t F) n r':=by
 intro i j hij hj w hw
 unfold J2 at hw
 split at hw
 ·cases hw
 ·split at hw
  ·rename_i c
   rw [c.1,h1,h3 j (by lia) (by lia)]
   exact h _ _ (by lia) hj w hw
  ·split at hw
   ·rename_i c
    rw [c.1,h2,h3 j (by lia) (by lia)]
    rcases Wf hw with z | z
    ·exact h _ _ (by lia) hj w z
    ·obtain ⟨u,hu,v,hv,rfl⟩:=JW z
     rw [ZbL,List.mem_singleton.mp hu,Zc4,h _ _ (by lia) hj v hv,ht]
     lia
   ·split at hw
    ·rename_i c
     rw [c.2,h2,h3 i (by lia) (by lia)]
     exact h _ _ (by lia) (by lia) w hw
    ·split at hw
     ·rename_i c
      rw [c.2,h1,h3 i (by lia) (by lia)]
      rcases Wf hw with z | z
      ·exact h _ _ (by lia) (by lia) w z
      ·obtain ⟨u,hu,v,hv,rfl⟩:=JW z
       rw [ZbL,List.mem_singleton.mp hv,Zc4,h _ _ (by lia) (by lia) u hu,ht]
       lia
     ·rw [h3 i (by lia) (by lia),h3 j (by lia) (by lia)]
      exact h _ _ hij hj w hw
theorem ZkO {hn:Int->Int}{F:Nat->Nat->WS}{n k:Nat}{t:Int}{r r':Nat->Int} (h:Gr hn F n r) (hk:k+1<n) (ht:hn t=r k-r (k+1)) (h1:r k-r (k+1)=1) (h2:∀i,i<k->r' i=r i) (h3:∀i,k<=i->r' i=r (i+2)):Gr hn (Zb9 k t F) (n-2) r':=by
 intro i j hij hj w hw
 unfold Zb9 at hw
 split at hw
 ·rename_i c
  rw [h2 i c.1,h3 j c.2]
  rcases Wf hw with z | z
  ·exact h _ _ (by lia) (by lia) w z
  ·obtain ⟨u,hu,v,hv,rfl⟩:=JW z
   have a:hs hn u=r i-r (k+1)-1:=by
    rcases Wf hu with y | y
    ·exact h _ _ (by lia) (by lia) u y
    ·obtain ⟨x,hx,y,hy,rfl⟩:=JW y
     rw [ZbL,List.mem_singleton.mp hy,Zc4,h _ _ (by lia) (by lia) x hx,ht]
     lia
   have b:hs hn v=r k-r (j+2)-1:=by
    rcases Wf hv with y | y
    ·exact h _ _ (by lia) (by lia) v y
    ·obtain ⟨x,hx,c',hc',rfl⟩:=JW y
     rw [ZbL,List.mem_singleton.mp hx,Zc4,h _ _ (by lia) (by lia) c' hc',ht]
     lia
   rw [ZbL,a,b]
   lia
 ·rename_i c
  have e:∀m,m<n-2->r' m=r (if m<k then m else m+2):=fun m a=>by
   split
   ·rename_i z;exact h2 m z
   ·exact h3 m (by lia)
  rw [e i (by lia),e j (by lia)]
  refine h _ _ ?_ ?_ w hw
  ·split<;>split<;>lia
  ·split<;>lia
def hN (g:Int->Int) (ls:List (Str×Int)) (t:Int):Int:=g (Y9 ls t.toNat).1-g (Y9 ls t.toNat).2
def rG (g:Int->Int) (ls:List (Str×Int)) (a:Nat) (i:Nat):Int:=g ((rowAt ls a).getD i 0)
theorem HG.atBirth {ls:List (Str×Int)}{g:Int->Int} (h:HG 0 ls g) {x:Int} (h0:0<=x) (h1:x<(JL ls:Int)) (hx:x % 2=0):g x-g (x+1)=1:=by
 rcases h with ⟨e,_⟩ | ⟨_,T,L,_,_,o,rfl⟩
 ·cases e
 ·have:=o.Ze8 h0 h1 hx
  lia
theorem Zfw {ls:List (Str×Int)}{g:Int->Int} (hW:Wk ls 0) (hg:HG 0 ls g):∀a,a<=ls.length->Gr (hN g ls) (tF (ls.take a)) (tN (ls.take a)) (rG g ls a)
 | 0,_=>fun i j _ hj=>by
  rw [List.take_zero] at hj
  exact absurd hj (Nat.not_lt_zero _)
 | a+1,ha=>by
  have ih:=Zfw hW hg a (by lia)
  have hq:ls[a]? = some (ls[a]'(by lia)):=by simp
  obtain ⟨m,hm⟩:=Jh hW a
  have lr:(rowAt ls a).length=tN (ls.take a):=by
   have z1:=GD hm
   have z2:=Zbp hm
   unfold rowAt
   lia
  obtain ⟨k0,ft⟩:=Zam hW a _ hq
  have la:(ls.take a).length=a:=by rw [List.length_take];lia
  have er:rowAt ls (a+1)=(stp (rb (ls.take a)) (ls[a]'(by lia))).1:=by
   unfold rowAt
   rw [List.take_add_one,hq]
   show (rb (ls.take a ++ [_])).1=_
   rw [YS]
  have et:ls.take (a+1)=ls.take a ++ [ls[a]'(by lia)]:=by rw [List.take_add_one,hq];rfl
  rw [et,Uc,Za7,la]
  have nbp:=fun hb=>Zco hW hq hb
  have rdm:∀x∈rowAt ls (a+1),0<=x/\x<(JL ls:Int):=fun x hx=>Zba hW ha hx
  have pa:=Uk hW a (by lia)
  have en:=fun he=>hg.atEnd (.inl rfl) hW hq he
  have hnA:hN g ls (a:Int)=g (Y9 ls a).1-g (Y9 ls a).2:=rfl
  generalize ls[a]'(by lia)=q at *
  obtain ⟨kd,kk⟩:=q
  dsimp only at k0 ft er nbp ⊢
  obtain ⟨k,rfl⟩:=Int.eq_ofNat_of_zero_le k0
  rw [Int.toNat_natCast] at ft nbp ⊢
  rcases ft with ⟨rfl,hk⟩ | ⟨rfl,hk⟩ | ⟨rfl,hk⟩
  ·rw [J3] at er
   dsimp only at er
   rw [Int.toNat_natCast] at er
   have lt:((rb (ls.take a)).1.take k).length=k:=by rw [List.length_take];have:(rb (ls.take a)).1.length=tN (ls.take a):=lr;lia
   have e1:nxN "born" (tN (ls.take a))=tN (ls.take a)+2:=if_pos rfl
   have e2:nxF "born" k (a:Int) (tF (ls.take a))=Uw k (tF (ls.take a)):=if_pos rfl
   rw [e1,e2]
   refine ZjR ih hk (fun i hi=>?_) ?_ (fun i h1 h2=>?_)
   ·unfold rG
    rw [er,List.append_assoc,List.getD_eq_getElem?_getD,List.getD_eq_getElem?_getD,List.getElem?_append_left (by lia),List.getElem?_take,if_pos hi]
    rfl
   ·have g1:(rowAt ls (a+1)).getD k 0=(rb (ls.take a)).2:=by
     rw [er,List.append_assoc,List.getD_eq_getElem?_getD,List.getElem?_append_right (by lia),lt]
     simp
    have g2:(rowAt ls (a+1)).getD (k+1) 0=(rb (ls.take a)).2+1:=by
     rw [er,List.append_assoc,List.getD_eq_getElem?_getD,List.getElem?_append_right (by lia),lt]
     simp
    have mem:(rb (ls.take a)).2∈rowAt ls (a+1):=by rw [er];simp
    have dm:=rdm _ mem
    unfold rG
    rw [g1,g2]
    exact hg.atBirth dm.1 dm.2 pa.2.1
   ·unfold rG
    rw [er,List.getD_eq_getElem?_getD,List.getD_eq_getElem?_getD,List.getElem?_append_right (by rw [List.length_append,lt];simp;lia),List.length_append,lt,List.getElem?_drop]
    simp only [List.length_cons,List.length_nil]
    rw [show k+(i+2-(k+(0+1+1)))=i by lia]
    rfl
  ·obtain ⟨_,hk2,ep⟩:=nbp (by decide +kernel)
   rw [Jt] at er
   dsimp only at er
   rw [Int.toNat_natCast] at er
   have e1:nxN "cross" (tN (ls.take a))=tN (ls.take a):=(if_neg nb1).trans (if_pos rfl)
   have e2:nxF "cross" k (a:Int) (tF (ls.take a))=J2 k (a:Int) (tF (ls.take a)):=(if_neg nb1).trans (if_pos rfl)
   rw [e1,e2]
   have lr':(rb (ls.take a)).1.length=tN (ls.take a):=lr
   have sw:∀i,(swp (rb (ls.take a)).1 k).getD i 0=if i=k+1 then (rowAt ls a).getD k 0 else if i=k then (rowAt ls a).getD (k+1) 0 else (rowAt ls a).getD i 0:=fun i=>by
    unfold swp rowAt
    rw [List.getD_eq_getElem?_getD,List.getElem?_set]
    by_cases c:i=k+1
    ·subst c
     rw [if_pos rfl,if_pos rfl,if_pos (by rw [List.length_set];lia)]
     rfl
    ·rw [if_neg (fun z=>c z.symm),if_neg c,List.getElem?_set]
     by_cases c2:i=k
     ·subst c2
      rw [if_pos rfl,if_pos rfl,if_pos (by lia)]
      rfl
     ·rw [if_neg (fun z=>c2 z.symm),if_neg c2,List.getD_eq_getElem?_getD]
   refine Zii ih hk (by rw [hnA,ep];rfl) ?_ ?_ (fun i n1 n2=>?_)
   ·unfold rG;rw [er,sw,if_neg (by lia),if_pos rfl]
   ·unfold rG;rw [er,sw,if_pos rfl]
   ·unfold rG;rw [er,sw,if_neg n2,if_neg n1]
  ·obtain ⟨_,hk2,ep⟩:=nbp (by decide +kernel)
   rw [W5] at er
   dsimp only at er
   rw [Int.toNat_natCast] at er
   have e1:nxN "end" (tN (ls.take a))=tN (ls.take a)-2:=(if_neg nb2).trans (if_neg nb3)
   have e2:nxF "end" k (a:Int) (tF (ls.take a))=Zb9 k (a:Int) (tF (ls.take a)):=(if_neg nb2).trans (if_neg nb3)
   rw [e1,e2]
   have lr':(rb (ls.take a)).1.length=tN (ls.take a):=lr
   have lt:((rb (ls.take a)).1.take k).length=k:=by rw [List.length_take];lia
   refine ZkO ih hk (by rw [hnA,ep];rfl) ?_ (fun i hi=>?_) (fun i hi=>?_)
   ·have:=en rfl
    rw [ep] at this
    exact this
   ·unfold rG
    rw [er,List.getD_eq_getElem?_getD,List.getD_eq_getElem?_getD,List.getElem?_append_left (by lia),List.getElem?_take,if_pos hi]
    rfl
   ·unfold rG
    rw [er,List.getD_eq_getElem?_getD,List.getD_eq_getElem?_getD,List.getElem?_append_right (by lia),lt,List.getElem?_drop,show k+2+(i-k)=i+2 by lia]
    rfl
theorem Zkx {X:L2.Cx}:Passes (CX1 P w) X (fun _ _ _=>False):=fun _ _ _ _ _ _ _ c=>by
 obtain ⟨_,_,_,_,_,_,_,_,_,_,_,_,_,_,h⟩:=c
 exact h.elim
theorem ZjQ {ls:List (Str×Int)}{a:Nat}{q:Str×Int} (hq:ls[a]? = some q) (hb:q.1 ≠ "born"):(a:Int)∈nms ls:=by
 unfold nms Ym
 refine List.mem_filterMap.mpr ⟨a,List.mem_range.mpr (List.getElem?_eq_some_iff.mp hq).1,?_⟩
 rw [Za9 hq,if_pos]
 simpa using hb
def InS (S:List Int) (F:Nat->Nat->WS):Prop:=∀i j,∀w∈F i j,∀n∈w,n∈S
theorem Uh {S:List Int}{A B:WS} (a:∀w∈A,∀n∈w,n∈S) (b:∀w∈B,∀n∈w,n∈S):∀w∈Y5 A B,∀n∈w,n∈S:=fun w hw=>(Wf hw).elim (a w) (b w)
theorem GU {S:List Int}{A B:WS} (a:∀w∈A,∀n∈w,n∈S) (b:∀w∈B,∀n∈w,n∈S):∀w∈Yi A B,∀n∈w,n∈S:=fun w hw n hn=>by
 obtain ⟨u,hu,v,hv,rfl⟩:=JW hw
 exact (List.mem_append.mp hn).elim (a u hu n) (b v hv n)
theorem ZmB {S:List Int}{F:Nat->Nat->WS}{x:Str}{k:Nat}{t:Int} (h:InS S F) (ht:x ≠ "born" -> t∈S):InS S (nxF x k t F):=by
 unfold nxF
 split
 ·intro i j w hw
  unfold Uw at hw
  split at hw
  ·rw [List.mem_singleton.mp hw];exact fun n hn=>nomatch hn
  ·split at hw
   ·cases hw
   ·exact h _ _ w hw
 ·rename_i c
  have t1:∀w ∈ [[t]],∀n∈w,n∈S:=fun w hw n hn=>by rw [List.mem_singleton.mp hw] at hn;rw [List.mem_singleton.mp hn];exact ht c
  split
  ·intro i j w hw
   unfold J2 at hw
   split at hw
   ·cases hw
   ·split at hw
    ·exact h _ _ w hw
    ·split at hw
     ·exact Uh (h _ _) (GU t1 (h _ _)) w hw
     ·split at hw
      ·exact h _ _ w hw
      ·split at hw
       ·exact Uh (h _ _) (GU (h _ _) t1) w hw
       ·exact h _ _ w hw
  ·intro i j w hw
   unfold Zb9 at hw
   split at hw
   ·exact Uh (h _ _) (GU (Uh (h _ _) (GU (h _ _) t1)) (Uh (h _ _) (GU t1 (h _ _)))) w hw
   ·exact h _ _ w hw
theorem ZcZ (ls:List (Str×Int)):∀a,a<=ls.length->InS (nms ls) (tF (ls.take a))
 | 0,_=>fun i j w hw=>by rw [List.take_zero] at hw;cases hw
 | a+1,ha=>by
  have hq:ls[a]? = some (ls[a]'(by lia)):=by simp
  have et:ls.take (a+1)=ls.take a ++ [ls[a]'(by lia)]:=by rw [List.take_add_one,hq];rfl
  rw [et,Za7,show (ls.take a).length=a by rw [List.length_take];lia]
  exact ZmB (ZcZ ls a (by lia)) fun hb=>ZjQ hq hb
theorem ZmI {ls:List (Str×Int)}{t:Nat} (ht:t<=ls.length):∀w∈dW ls t,∀n∈w,n∈nms ls:=by
 intro w hw
 unfold dW at hw
 cases h:ls[t]? with
 | none=>rw [h] at hw;cases hw
 | some p=>
  rw [h] at hw
  dsimp only at hw
  split at hw
  ·exact Uh (ZcZ ls t ht _ _) (fun w hw n hn=>by rw [List.mem_singleton.mp hw] at hn;cases hn) w hw
  ·exact ZcZ ls t ht _ _ w hw
theorem ZmG {ls:List (Str×Int)}{g:Int->Int}{j t:Nat} (hW:Wk ls 0) (hg:HG 0 ls g) (h:(nms ls)[j]? = some (t:Int)):∀w∈dW ls t,hs (hN g ls) w=hN g ls (t:Int)-1:=by
 intro w hw
 obtain ⟨a,⟨kd,kk⟩,e,ha,hp,hkd⟩:=Za6 h
 have:t=a:=by lia
 subst this
 obtain ⟨k0,ft⟩:=Zam hW t _ hp
 have hb:kd ≠ "born" := by simpa using hkd
 obtain ⟨_,_,ep⟩:=Zco hW hp hb
 dsimp only at k0 ft hkd ep
 obtain ⟨kn,rfl⟩:=Int.eq_ofNat_of_zero_le k0
 rw [Int.toNat_natCast] at ft ep
 have hk:kn+1<tN (ls.take t):=by
  rcases ft with ⟨z,_⟩ | ⟨_,z⟩ | ⟨_,z⟩
  ·exact absurd z hb
  ·exact z
  ·exact z
 have gr:=Zfw hW hg t (by lia) kn (kn+1) (by lia) hk
 have hn:hN g ls (t:Int)=rG g ls t kn-rG g ls t (kn+1):=by
  show g (Y9 ls t).1-g (Y9 ls t).2=_
  rw [ep]
  rfl
 rw [hn]
 by_cases e:kd = "end"
 ·subst e
  rw [ZeT hp] at hw
  rcases Wf hw with z | z
  ·exact gr w z
  ·rw [List.mem_singleton.mp z]
   have:=hg.atEnd (.inl rfl) hW hp rfl
   rw [ep] at this
   have e2:rG g ls t kn-rG g ls t (kn+1)=1-0:=this
   rw [e2]
   rfl
 ·rw [Zhg hp e] at hw
  exact gr w hw
theorem Zlj {ls:List (Str×Int)}{j t:Nat} (hW:Wk ls 0) (few:GL ls ls.length) (h:(nms ls)[j]? = some (t:Int)):(dW ls t).length<=300:=by
 obtain ⟨a,⟨kd,kk⟩,e,ha,hp,hkd⟩:=Za6 h
 have:t=a:=by lia
 subst this
 obtain ⟨k0,ft⟩:=Zam hW t _ hp
 dsimp only at k0 ft hkd
 obtain ⟨kn,rfl⟩:=Int.eq_ofNat_of_zero_le k0
 rw [Int.toNat_natCast] at ft
 have hk:kn+1<tN (ls.take t):=by
  rcases ft with ⟨z,_⟩ | ⟨_,z⟩ | ⟨_,z⟩
  ·exact absurd z (by simpa using hkd)
  ·exact z
  ·exact z
 have f200:=few t (by lia) kn (kn+1) (by lia) hk
 by_cases e:kd = "end"
 ·subst e
  rw [ZeT hp]
  have:=(Ya (tF (ls.take t) kn (kn+1) ++ [[]])).len
  rw [List.length_append,List.length_singleton] at this
  unfold Y5
  lia
 ·rw [Zhg hp e];lia
theorem Zh8 {ls:List (Str×Int)}{t:Nat} (hW:Wk ls 0) (hI:InB ls):∀w∈dW ls t,w.length<=300:=by
 intro w hw
 unfold dW at hw
 cases h:ls[t]? with
 | none=>rw [h] at hw;cases hw
 | some p=>
  rw [h] at hw
  dsimp only at hw
  have wb:=Zdg hW hI t p.2.toNat (p.2.toNat+1)
  split at hw
  ·rcases List.mem_append.mp ((Ya _).sub hw) with z | z
   ·have:=(wb w z).1;lia
   ·rw [List.mem_singleton.mp z];simp
  ·have:=(wb w hw).1;lia
theorem ZaD (ls:List (Str×Int)):∀n,(Ym ls (fun x=>!decide (x = "born")) n).Nodup
 | 0=>by simp [Ym]
 | n+1=>by
  rw [Jc]
  split
  ·rw [List.nodup_append]
   exact ⟨ZaD ls n,by simp,fun a ha b hb e=>by have:=Zj7 _ _ _ a ha;rw [List.mem_singleton.mp hb] at e;lia⟩
  ·rw [List.append_nil];exact ZaD ls n
theorem Zgo {kvs:List (Key×V)}{k:Key} (h:k∉kvs.map (·.1)):Yy kvs k=none:=by
 unfold Yy
 rw [List.find?_eq_none.mpr (fun p hp z=>h (List.mem_map.mpr ⟨p,hp,of_decide_eq_true z⟩))]
 rfl
theorem ZhB (n:Nat):(List.replicate n false).any id=false:=by
 rw [List.any_eq_false]
 intro x hx
 rw [List.eq_of_mem_replicate hx]
 decide
theorem ZhG (n:Nat):(List.replicate n false).map V.bl ++ [V.bl false]=(List.replicate (n+1) false).map V.bl:=by rw [List.replicate_succ',List.map_append];rfl
theorem Zew:∀{ns:List Int}{ys:List V}{acc:List (Key×V)},ns.length=ys.length->ns.Nodup->(∀n∈ns,(Sum.inl n:Key)∉acc.map (·.1))->Gg acc (ns.zip ys)=acc++(ns.map fun n=>(Sum.inl n:Key)).zip ys
 | [],[],acc,_,_,_=>by simp [Gg]
 | n::ns,y::ys,acc,hl,nd,hf=>by
  rw [List.nodup_cons] at nd
  have h0:putK acc (Sum.inl n) y=acc ++ [((Sum.inl n:Key),y)]:=L2.U7 _ (Zgo (hf n List.mem_cons_self))
  show Gg (putK acc (Sum.inl n) y) (ns.zip ys)=_
  rw [h0,Zew (by simpa using hl) nd.2 fun m hm=>?_]
  ·simp
  ·rw [List.map_append,List.mem_append]
   rintro (z | z)
   ·exact hf m (List.mem_cons_of_mem _ hm) z
   ·have:(Sum.inl m:Key)=Sum.inl n:=by simpa using z
    cases this
    exact nd.1 hm
theorem ZfI:∀{kvs:List (Key×V)}{j:Nat}{k:Key}{v:V},(kvs.map (·.1)).Nodup->kvs[j]? = some (k,v)->Yy kvs k=some v
 | (k',v')::r,0,k,v,nd,h=>by
  have:(k',v')=(k,v):=by simpa using h
  cases this
  exact Yd rfl
 | (k',v')::r,j+1,k,v,nd,h=>by
  rw [List.map_cons,List.nodup_cons] at nd
  have h':r[j]? = some (k,v):=by simpa using h
  rw [Ye (fun z=>nd.1 (List.mem_map.mpr ⟨(k,v),List.mem_of_getElem? h',z.symm⟩))]
  exact ZfI nd.2 h'
theorem Zmv {K:PySem.W.Frag}{m:Nat}{a1 a2:Option V}{G:Hp}{pw D:Addr}{wd:List Int}{kvs:List (Key×V)}{hn:Int->Int}{Q:VK} (hw:G pw=some (.tup (wd.map V.int))) (hc:ZaB 1 [m] [some (.ref pw),a1,a2] = [none,some (.ref D)]) (eD:G D=some (.dK kvs)) (look:∀t∈wd,Yy kvs (Sum.inl t)=some (.int (hn t))) (len:wd.length<=sizeLine) (k:∀G',Zf G G'->Q (.int (hs hn wd)) G'):
  tCB (fun xs H Q=>∃(p:Addr) (ns:List Int),xs = [.ref p]/\Zo K H p (ns.map V.int)/\Q (.int ns.sum) H) (Zkt (tLc 1 [m] (ZkJ K (Zdy 0)) (JD 0) Wn (tOp Zj5 (Zdy 1) (Zdy 0))) Zi1) [some (.ref pw),a1,a2] G Q:=by
 refine ⟨_,rfl,pw,rfl,⟨_,JH.of hw⟩,?_⟩
 rw [hc]
 refine ZkT (K:=K) (xs:=wd.map V.int) (by rw [List.length_map];exact len) (fun i zs G'=>Zf G G'/\zs=((wd.take i).map hn).map V.int) ⟨Zf.refl _,rfl⟩ (fun i zs G' ⟨_,z⟩=>by rw [z,List.length_map,List.length_map,List.length_take];exact Nat.min_le_left _ _) (fun i zs G' ⟨s',_⟩=>JH.of (s' _ _ hw)) ?_ ?_
 ·rintro i x zs G' hx ⟨s',rfl⟩
  obtain ⟨t,ht,rfl⟩:=Uz hx
  have dg:WG G' D (.int t) (some (.int (hn t))):=by
   have:=WG.k (k:=Sum.inl t) (s' _ _ eD)
   rw [look t (List.mem_of_getElem? ht)] at this
   exact this
  refine lcG ?_
  refine ⟨_,rfl,_,rfl,D,_,rfl,dg,s',?_⟩
  rw [Wz _ ht,List.map_append]
  rfl
 ·rintro zs G' ⟨s',rfl⟩ L fL
  rw [List.length_map,List.take_of_length_le (Nat.le_refl _)]
  exact ⟨L,_,rfl,Zo.of Zb,k _ (s'.step fL)⟩
def ZcX:Sp:=fun vs H Q _=>∃(l:Addr) (ls:List (Str×Int)),vs = [.ref l]/\Drw H l ls/\InB ls /\ ∀H',Zf H H'->Q (.bl true) H'
abbrev YY:Stmt:=top 32
theorem ZP:ZF ["_law_drawing_here", "_law_told", "_law_names", "_law_height", "_law_t", "_law_one", "_law_known", "_law_row", "_law_table", "_law_i", "_law_j", "_law_due"] ["_law_drawing_here"] (Zl YY):={}
theorem Zis {f ZE:Addr}{fd:FuncData} (F:Y8 K "_law_right" "_law_right" YY f fd) (JZ:mg "TooMany" = some (.ref ZE)) (Ja:PySem.W.excIn K ZE bmV "ValueError.__new__" = true) (WW:PySem.W.mroIn K ZE (.ref ZE)=some true)
  (Y2:JV P w K mg base 4 "_law_name_heights" ["_law_drawing_here", "_law_scale"] ZhS) (Yv:JV P w K mg base 3 "_law_heights" ["_law_drawing_here", "_law_scale"] Zjj) (ZV:JV P w K mg base 1 "_law_rows" ["_law_drawing_here"] Zao) (Zbh:Za0 P w K mg base 7 "deeds" ["drawing"] (Zdm ZE)) (ZaJ:Za0 P w K mg base 7 "between" ["drawing"] (ZiG ZE))
  (Zx:mg "range" = none) (Yg:mg "len" = none) (ZA:mg "enumerate" = none) (ZaS:mg "zip" = none) (ZeO:mg "dict" = none) (Zf5:mg "any" = none) (ZbE:mg "sum" = none):Yj P w K mg base GV 8 f fd ["_law_drawing_here"] ZcX:=by
 refine F.ok ZP (fun vs H Q E h=>?_) (fun cdv A outer s H vs Q E hr h=>?_)
 ·obtain ⟨l,ls,rfl,_⟩:=h
  rfl
 ·obtain ⟨l,ls,rfl,⟨xs,hl,hL,hW,hlen⟩,hI,k⟩:=h
  let R_try:L2.St->Addr->Hp->Prop:=fun σ C G=>C=ZE/\Zf H G
  have hR_try:∀ σ C H',R_try σ C H'->PySem.W.mroIn K C (.ref ZE)=some true:=fun σ C H' z=>by rw [z.1];exact WW
  refine ⟨_,(Zd (Zr (i:=1) ZP.nd rfl (Or.inl rfl) (Zz Y2 hr (Za (pv 0) (Za Ze Zc))))
   (Zd (Yh (Zw Zie (pv 1) Zdo (ZM _)) (Zh (ZJ ZaR)) ZX)
   (Zd (Zjs R_try (fun pins=>(Zh (Z1 (Zib Zbh (hr.mono (by decide)) (ZmH rfl) (Za (pv 0) Zc))))) (fun pins a_x=>(Zh (ZJ ZaR))) (by rfl) JZ Ja hR_try)
   (Zd (U0 (i:=2) ZP.nd rfl (Or.inl rfl) (Ls:=["_law_t", "_law_letter"]) (Fs:=[]) (fi:=[]) (ZO.of (show Yu ["_law_drawing_here", "_law_told", "_law_names", "_law_height", "_law_t", "_law_one", "_law_known", "_law_row", "_law_table", "_law_i", "_law_j", "_law_due"] (Zl YY) _ [] []=true by decide +kernel)) rfl (WN (K:=K) rfl (by rfl) ZA (Za (pv 0) Zc)) (fun cl C s3 H3 ex=>⟨(Yq (K:=K) (n:=2) rfl rfl (Zq (Zj (i:=0) (show ((["_law_t", "_law_letter"]:List Str)++([]:List Str)).Nodup by decide +kernel) rfl (Or.inl rfl)) (Zq (Zj (i:=1) (show ((["_law_t", "_law_letter"]:List Str)++([]:List Str)).Nodup by decide +kernel) rfl (Or.inl rfl)) Z7))),(ZdD (Zw Zcu (Zp (YH (K:=K) rfl) (pv 1) Ze (fun _ _=>rfl)) Z4 (ZM _))),(pv 0)⟩))
   (Zd (Zr (i:=3) ZP.nd rfl (Or.inr rfl) (Zfm (K:=K) rfl rfl (by rfl) ZeO (by rfl) ZaS (Za (pv 2) (Za (pv 1) Zc))))
   (Zd (Z3 PassesOwn.never rfl (Zdd (K:=K) rfl (by rfl) ZaS (Za (pv 2) (Za (U5 Zbh (hr.mono (by decide)) Zkx (Za (pv 0) Zc)) Zc))) (Yq (K:=K) (n:=2) rfl rfl (Zq (Zj (i:=4) ZP.nd rfl (Or.inr rfl)) (Zq (Zj (i:=5) ZP.nd rfl (Or.inl rfl)) Z7))) (Zh (Yh (Zfs (ZH (ZcD (K:=K) rfl rfl) (by rfl) Zf5 boot_any (Za (Wt (Ls:=["_law_word"]) (Fs:=["_law_height", "_law_t"]) (fi:=[3,4]) (ZO.of (show Yu ["_law_drawing_here", "_law_told", "_law_names", "_law_height", "_law_t", "_law_one", "_law_known", "_law_row", "_law_table", "_law_i", "_law_j", "_law_due"] (Zl YY) _ ["_law_height", "_law_t"] [3,4]=true by decide +kernel)) rfl (ZT (K:=K) rfl (pv 5)) (fun cl C s3 H3 ex=>⟨(Zj (i:=0) (show ((["_law_word"]:List Str)++(["_law_height", "_law_t"]:List Str)).Nodup by decide +kernel) rfl (Or.inl rfl)),Z0,(Zgg Zcu (ZH (Zan (K:=K) rfl rfl) (by rfl) ZbE boot_sum (Za (Wt (Ls:=["_law_name"]) (Fs:=["_law_height"]) (fi:=[1]) (ZO.of (by rfl)) rfl (Zf1 (K:=K) rfl (pv 0)) (fun cl C s3 H3 ex=>⟨(Zj (i:=0) (show ((["_law_name"]:List Str)++(["_law_height"]:List Str)).Nodup by decide +kernel) rfl (Or.inl rfl)),Z0,(Zp (JT (Y0 hr)) (pv 1) (pv 0) (fun _ _=>rfl))⟩)) Zc)) (Zm Yx (Zp (JT (Y0 hr)) (pv 1) (pv 2) (fun _ _=>rfl)) Ze) (ZM _))⟩)) Zc))) (Zh (ZJ ZaR)) ZX)))
   (Zd (Zr (i:=6) ZP.nd rfl (Or.inl rfl) (Zz Yv hr (Za (pv 0) (Za Ze Zc))))
   (Zd (Z3 PassesOwn.never rfl (Zdd (K:=K) rfl (by rfl) ZaS (Za (Zz ZV hr (Za (pv 0) Zc)) (Za (U5 ZaJ (hr.mono (by decide)) Zkx (Za (pv 0) Zc)) Zc))) (Yq (K:=K) (n:=2) rfl rfl (Zq (Zj (i:=7) ZP.nd rfl (Or.inl rfl)) (Zq (Zj (i:=8) ZP.nd rfl (Or.inl rfl)) Z7))) (Zh (Z3 PassesOwn.never rfl (Yb (by rfl) Zx (Za (ZH (Yk (K:=K) rfl) (by rfl) Yg PySem.boot_len (Za (pv 7) Zc)) Zc)) (Zj (i:=9) ZP.nd rfl (Or.inl rfl)) (Zh (Z3 PassesOwn.never rfl (Zal (by rfl) Zx (Za (Zm Zv (pv 9) Ze) (Za (ZH (Yk (K:=K) rfl) (by rfl) Yg PySem.boot_len (Za (pv 7) Zc)) Zc))) (Zj (i:=10) ZP.nd rfl (Or.inl rfl)) (Zd (Zr (i:=11) ZP.nd rfl (Or.inr rfl) (Zm Yx (Zm Yx (Zp (Zk (K:=K) rfl) (pv 6) (Zp (Zk (K:=K) rfl) (pv 7) (pv 9) (fun _ _=>rfl)) (fun _ _=>rfl)) (Zp (Zk (K:=K) rfl) (pv 6) (Zp (Zk (K:=K) rfl) (pv 7) (pv 10) (fun _ _=>rfl)) (fun _ _=>rfl))) Ze))
   (Zh (Yh (Zfs (ZH (ZcD (K:=K) rfl rfl) (by rfl) Zf5 boot_any (Za (Wt (Ls:=["_law_word"]) (Fs:=["_law_due", "_law_height"]) (fi:=[11,3]) (ZO.of (show Yu ["_law_drawing_here", "_law_told", "_law_names", "_law_height", "_law_t", "_law_one", "_law_known", "_law_row", "_law_table", "_law_i", "_law_j", "_law_due"] (Zl YY) _ ["_law_due", "_law_height"] [11,3]=true by decide +kernel)) rfl (ZT (K:=K) rfl (Zp (Zk (K:=K) rfl) (Zp (Zk (K:=K) rfl) (pv 8) (pv 9) (fun _ _=>rfl)) (pv 10) (fun _ _=>rfl))) (fun cl C s3 H3 ex=>⟨(Zj (i:=0) (show ((["_law_word"]:List Str)++(["_law_due", "_law_height"]:List Str)).Nodup by decide +kernel) rfl (Or.inl rfl)),Z0,(Zgg Zcu (ZH (Zan (K:=K) rfl rfl) (by rfl) ZbE boot_sum (Za (Wt (Ls:=["_law_name"]) (Fs:=["_law_height"]) (fi:=[2]) (ZO.of (by rfl)) rfl (Zf1 (K:=K) rfl (pv 0)) (fun cl C s3 H3 ex=>⟨(Zj (i:=0) (show ((["_law_name"]:List Str)++(["_law_height"]:List Str)).Nodup by decide +kernel) rfl (Or.inl rfl)),Z0,(Zp (JT (Y0 hr)) (pv 1) (pv 0) (fun _ _=>rfl))⟩)) Zc)) (pv 1) (ZM _))⟩)) Zc))) (Zh (ZJ ZaR)) ZX))))))))
   (Zh (ZJ ZaR)))))))))),?_⟩
  refine ⟨_,rfl,l,0,xs,ls,rfl,.inl rfl,hl,hL,hlen,hW,fun v H1 s1 hv=>?_⟩
  rcases hv with ⟨p,g,hg,rfl,fp,ep⟩ | ⟨rfl,_⟩
  rotate_left
  ·exact ⟨_,rfl,rfl,_,rfl,Y1 (fun _=>k H1 s1) (fun z=>absurd rfl z)⟩
  refine ⟨_,rfl,rfl,_,rfl,Y1 (fun z=>absurd z (by rw [decide_eq_false (fun z=>nomatch z)];decide)) (fun _=>?_)⟩
  refine ⟨?_,fun C σ' H' hR=>k H' hR.2⟩
  refine ⟨_,rfl,l,xs,ls,rfl,s1 _ _ hl,hL.same s1,hW,hI,hlen,(fun few d0 G1 es0 _ s2 _ _ _ _ _ _=>?_),fun nf H' s'=>⟨ZE,rfl,rfl,s1.trans s'⟩⟩
  have S1:=s1.trans s2
  have hl1:=S1 _ _ hl
  have hL1:=hL.same S1
  have hxl:=hL.len
  refine ⟨_,rfl,l,rfl,⟨_,Zo.of hl1⟩,Zif (xs:=xs) (Nat.le_of_lt (ZI (by lia))) (fun i ys H'=>Zf G1 H'/\ys=(Ym ls (fun x=>!decide (x = "born")) i).map V.int) ⟨Zf.refl _,rfl⟩
   (fun i ys H' p=>by rw [p.2,List.length_map];exact Wc _ _ _) (fun i ys H' p=>Zo.of (p.1 l _ hl1)) (fun i x p ys H' hx pv hp=>?_) (fun ys H' pv N fN=>?_)⟩
  ·obtain ⟨sm,rfl⟩:=pv
   obtain ⟨q,t,hq,rfl,ht⟩:=hL1.get hx
   have ht':(upd H' p (.tup [.int i,.ref t])) t=some (.tup [.str q.1,.int q.2]):=by rw [Zi (Zg (sm t _ ht) hp)];exact sm t _ ht
   refine ⟨p,_,rfl,JH.of Zb,rfl,_,_,rfl,_,_,rfl,rfl,?_⟩
   refine ⟨_,rfl,t,_,_,_,rfl,rfl,JH.of ht',Zn (j:=0) rfl,rfl,_,rfl,?_⟩
   refine Y1 (fun hc=>?_) (fun hc=>?_)
   ·have e:¬q.1 = "born" := fun z=>by
     have:(!decide (V.str q.1=V.str "born"))=true:=hc
     rw [decide_eq_true (congrArg V.str z)] at this
     cases this
    exact ⟨_,rfl,sm.step hp,Zez hq (by simpa using e)⟩
   ·have e:q.1 = "born" := by
     by_cases z:q.1 = "born"
     ·exact z
     ·exact absurd (show (!decide (V.str q.1=V.str "born"))=true by rw [decide_eq_false (fun y=>z (V.str.inj y))];rfl) hc
    exact ⟨sm.step hp,ZfT hq (by simpa using e)⟩
  obtain ⟨sm1,rfl⟩:=pv
  rw [hxl]
  obtain ⟨G2,eG2⟩:∃G2,upd H' N (.lst ((Ym ls (fun x=>!decide (x = "born")) ls.length).map V.int))=G2:=⟨_,rfl⟩
  have eN:G2 N=some (.lst ((nms ls).map V.int)):=by rw [<- eG2];exact Zb
  have s3:Zf G1 G2:=by rw [<- eG2];exact sm1.step fN
  rw [eG2]
  have n60:(nms ls).length<=60:=Nat.le_trans (Wc _ _ _) (by lia)
  obtain ⟨tl,etl⟩:∃tl,(nms ls).map (hN g ls)=tl:=⟨_,rfl⟩
  have ltl:tl.length=(nms ls).length:=by rw [<- etl,List.length_map]
  have ep2:G2 p=some (.lst (tl.map V.int)):=by rw [<- etl];exact s3 _ _ (s2 _ _ ep)
  refine ⟨_,rfl,_,rfl,N,p,nms ls,tl.map V.int,rfl,Zo.of eN,Zo.of ep2,by rw [List.length_map,ltl],by lia,fun D fD=>?_⟩
  have ndN:(nms ls).Nodup:=ZaD ls ls.length
  have ez:Gg [] ((nms ls).zip (tl.map V.int))=((nms ls).map fun n=>(Sum.inl n:Key)).zip (tl.map V.int):=by
   rw [Zew (ns:=nms ls) (by rw [List.length_map,ltl]) ndN (fun n _ h=>by simp at h),List.nil_append]
  rw [ez]
  obtain ⟨kvs,ekv⟩:∃kvs,kvs=((nms ls).map fun n=>(Sum.inl n:Key)).zip (tl.map V.int):=⟨_,rfl⟩
  rw [<- ekv]
  have look:∀t∈nms ls,Yy kvs (Sum.inl t)=some (.int (hN g ls t)):=fun t ht=>by
   obtain ⟨j,hj⟩:=List.mem_iff_getElem?.mp ht
   refine ZfI (j:=j) ?_ ?_
   ·rw [ekv,List.map_fst_zip (by simp;lia)]
    exact List.pairwise_map.mpr (ndN.imp fun h e=>h (Sum.inl.inj e))
   ·rw [ekv,<- etl]
    exact List.getElem?_zip_eq_some.mpr ⟨by rw [List.getElem?_map,hj];rfl,by rw [List.getElem?_map,List.getElem?_map,hj];rfl⟩
  obtain ⟨G3,eG3⟩:∃G3,upd G2 D (.dK kvs)=G3:=⟨_,rfl⟩
  have s4:Zf G2 G3:=by rw [<- eG3];exact Zf.laid fD
  have eD:G3 D=some (.dK kvs):=by rw [<- eG3];exact Zb
  rw [eG3]
  have S3:=(S1.trans s3).trans s4
  refine ⟨_,rfl,_,rfl,l,xs,ls,rfl,S3 _ _ hl,hL.same S3,hW,hI,hlen,(fun _ dA G4 es _ s5 eds le ds _ _ _=>?_),fun nf=>absurd few nf⟩
  have S4:=S3.trans s5
  have eD4:=s5 _ _ eD
  have eN4:=s5 _ _ (s4 _ _ eN)
  refine ⟨N,dA,rfl,⟨_,Zo.of eN4⟩,⟨_,Zo.of eds⟩,ZfX (K:=K) (a:=N) (b:=dA) (xs:=(nms ls).map V.int) (ys:=es.map V.ref) (by rw [List.length_map,List.length_map,le]) (fun i σ G=>∃v4 v5:Option V,σ = [some (.ref l),some (.ref p),some (.ref N),some (.ref D),v4,v5,none,none,none,none,none,none]/\Zf G4 G) ⟨none,none,rfl,Zf.refl _⟩ (fun i σ G ⟨_,_,_,s'⟩=>⟨Zo.of (s' _ _ eN4),Zo.of (s' _ _ eds)⟩) ?_ ?_⟩
  ·rintro i x y q σ G hx hy ⟨v4,v5,rfl,sg⟩ fq
   obtain ⟨t,ht,rfl⟩:=Uz hx
   rw [List.getElem?_map] at hy
   obtain ⟨e,he,rfl⟩:=Option.map_eq_some_iff.mp hy
   obtain ⟨b,hb,wl⟩:=ds i e he
   rw [ht] at hb
   cases hb
   obtain ⟨G5,eG5⟩:∃G5,upd G q (.tup [.int (b:Int),.ref e])=G5:=⟨_,rfl⟩
   have s6:Zf G G5:=by rw [<- eG5];exact Zf.laid fq
   have eq:G5 q=some (.tup [.int (b:Int),.ref e]):=by rw [<- eG5];exact Zb
   rw [eG5]
   have s46:=sg.trans s6
   refine ⟨q,_,rfl,JH.of eq,rfl,_,_,rfl,_,_,rfl,rfl,?_⟩
   obtain ⟨ms,em,wm⟩:=wl.same s46
   have lm:=wm.len
   have h300:=Zlj hW few ht
   have bl:=(Za6 ht)
   obtain ⟨b',pb,eb,hbl,_⟩:=bl
   have:b=b':=by lia
   subst this
   refine ⟨_,rfl,e,rfl,⟨_,Zo.of em⟩,YV (K:=K) (xs:=ms) (by rw [sizeLine_eq];lia) (fun m zs G'=>Zf G5 G'/\zs=(List.replicate m false).map V.bl) ⟨Zf.refl _,rfl⟩ (fun m zs G' ⟨_,z⟩=>by rw [z];simp) (fun m zs G' ⟨s',_⟩=>Zo.of (s' _ _ em)) ?_ ?_⟩
   ·rintro m x' zs G6 hx' ⟨s7,rfl⟩
    obtain ⟨wd,hwd,pw,rfl,hpw⟩:=Words.get wm hx'
    have mem:=List.mem_of_getElem? hwd
    have l300:=Zh8 hW hI wd mem
    refine lcG ?_
    refine Zmv (m:=1) (pw:=pw) (D:=D) (wd:=wd) (kvs:=kvs) (hn:=hN g ls) (s7 _ _ hpw) rfl (s7 _ _ (s46 _ _ eD4)) (fun t ht=>look t (ZmI (by lia) wd mem t ht)) (by rw [sizeLine_eq];lia) fun G7 s8=>?_
    have dg:WG G7 D (.int (b:Int)) (some (.int (hN g ls (b:Int)))):=by
     have:=WG.k (k:=Sum.inl (b:Int)) (s8 _ _ (s7 _ _ (s46 _ _ eD4)))
     rw [look _ (List.mem_of_getElem? ht)] at this
     exact this
    refine ⟨_,rfl,_,rfl,D,_,rfl,dg,_,_,rfl,rfl,rfl,s7.trans s8,?_⟩
    rw [ZmG hW hg ht wd mem,<- ZhG]
    simp
   ·rintro zs G6 ⟨s7,rfl⟩ L fL
    refine ⟨L,_,rfl,Zo.of Zb,_,rfl,Y1 (fun z=>absurd z (by rw [ZhB];decide)) (fun _=>?_)⟩
    exact ⟨_,_,rfl,(s46.trans s7).step fL⟩
  ·rintro σ G ⟨v4,v5,rfl,sg⟩
   have S5:=S4.trans sg
   refine ⟨_,rfl,l,0,xs,ls,rfl,S5 _ _ hl,hL.same S5,hlen,hW,fun v G5 s6 hv=>?_⟩
   rcases ZdS hv with ⟨pk,g',hg',rfl,fpk,epk⟩ | ⟨_,_,ts,tr,nz⟩
   rotate_left
   ·rcases hg with ⟨z,_⟩ | ⟨_,T,L,tr',t0,_,_⟩
    ·cases z
    ·have:=tr.uniq tr'
     subst this
     exact absurd (by rw [List.map_cons,t0];rfl) nz
   have:=hg.uniq hg'
   subst this
   have S6:=S5.trans s6
   refine ⟨_,rfl,l,xs,ls,rfl,S6 _ _ hl,hL.same S6,hlen,hW,fun rA G6 rs frA s7 erA rv _ _=>?_⟩
   have S7:=S6.trans s7
   refine ⟨_,rfl,l,xs,ls,rfl,S7 _ _ hl,hL.same S7,hW,hI,hlen,(fun _ tA G7 T RR ftA s8 tb lT _ _ _ _ _=>?_),fun nf=>absurd few nf⟩
   have S8:=S7.trans s8
   have eD8:G7 D=some (.dK kvs):=s8 _ _ (s7 _ _ (s6 _ _ (sg _ _ eD4)))
   have epk8:=s8 _ _ (s7 _ _ epk)
   have erA8:=s8 _ _ erA
   have rv8:=rv.same s8
   have etA:=tb.at_
   have lrs:rs.length=ls.length+1:=by
    rw [Paired.length rv8]
    unfold rowsOf
    simp
   refine ⟨rA,tA,rfl,⟨_,Zo.of erA8⟩,⟨_,Zo.of etA⟩,ZfX (K:=K) (a:=rA) (b:=tA) (xs:=rs) (ys:=T.map V.ref) (by rw [List.length_map,lrs,lT]) (fun a σ G=>∃v7 v8 v9 v10 v11:Option V,σ = [some (.ref l),some (.ref p),some (.ref N),some (.ref D),v4,v5,some (.ref pk),v7,v8,v9,v10,v11]/\Zf G7 G) ⟨none,none,none,none,none,rfl,Zf.refl _⟩ (fun a σ G ⟨_,_,_,_,_,_,s'⟩=>⟨Zo.of (s' _ _ erA8),Zo.of (s' _ _ etA)⟩) ?_ ?_⟩
   ·rintro a x y q σ G8 hx hy ⟨v7,v8,v9,v10,v11,rfl,s9⟩ fq
    obtain ⟨pr,r,hr',rfl,hpr⟩:=rv8.atX hx
    have ha:a<ls.length+1:=by rw [<- lrs];exact (List.getElem?_eq_some_iff.mp hx).1
    rw [Um ls ha] at hr'
    cases hr'
    rw [List.getElem?_map] at hy
    obtain ⟨tr,htr,rfl⟩:=Option.map_eq_some_iff.mp hy
    obtain ⟨ta,_⟩:=tb.tab a tr htr
    obtain ⟨m,hm⟩:=Jh hW a
    have lr:(rowAt ls a).length=tN (ls.take a):=by
     have z1:=GD hm
     have z2:=Zbp hm
     unfold rowAt
     lia
    have l120:=ZgB hW hlen a
    have gr:=Zfw hW hg a (by lia)
    have ins:=ZcZ ls a (by lia)
    have fw:=few a (by lia)
    obtain ⟨G9,eG9⟩:∃G9,upd G8 q (.tup [.ref pr,.ref tr])=G9:=⟨_,rfl⟩
    have s10:Zf G8 G9:=by rw [<- eG9];exact Zf.laid fq
    have eq:G9 q=some (.tup [.ref pr,.ref tr]):=by rw [<- eG9];exact Zb
    rw [eG9]
    have s79:=s9.trans s10
    refine ⟨q,_,rfl,JH.of eq,rfl,_,_,rfl,_,_,rfl,rfl,?_⟩
    have epr:=s79 _ _ hpr
    have lrm:((rowAt ls a).map V.int).length=(rowAt ls a).length:=List.length_map ..
    refine ⟨_,rfl,pr,_,rfl,.inl (Zo.of epr),_,rfl,by lia,by lia,?_⟩
    rw [lrm,Int.toNat_natCast]
    refine Ys (n:=(rowAt ls a).length) (fun i σ G=>∃v9 v10 v11:Option V,σ = [some (.ref l),some (.ref p),some (.ref N),some (.ref D),v4,v5,some (.ref pk),some (.ref pr),some (.ref tr),v9,v10,v11]/\Zf G9 G) ⟨_,_,_,rfl,Zf.refl _⟩ ?_ ?_
    ·rintro i σ Ga hi ⟨v9,v10,v11,rfl,sa⟩
     rw [Int.zero_add]
     refine ⟨_,rfl,_,_,rfl,rfl,_,rfl,pr,_,rfl,.inl (Zo.of (sa _ _ epr)),_,_,rfl,⟨by lia,by lia,by lia,by lia⟩,?_⟩
     rw [lrm,show (((rowAt ls a).length:Int)-((i:Int)+1)).toNat=(rowAt ls a).length-(i+1) by lia]
     refine Ys (n:=(rowAt ls a).length-(i+1)) (fun c σ G=>∃v10 v11:Option V,σ = [some (.ref l),some (.ref p),some (.ref N),some (.ref D),v4,v5,some (.ref pk),some (.ref pr),some (.ref tr),some (.int (i:Int)),v10,v11]/\Zf G9 G) ⟨_,_,rfl,sa⟩ ?_ ?_
     ·rintro c σ Gb hc ⟨v10,v11,rfl,sb⟩
      obtain ⟨j,ej⟩:∃j:Nat,(i:Int)+1+(c:Int)=(j:Int):=⟨i+1+c,by lia⟩
      rw [ej]
      have hij:i<j:=by lia
      have hj:j<(rowAt ls a).length:=by lia
      have sb7:=s79.trans sb
      have rdm:∀x∈rowAt ls a,0<=x/\x<(JL ls:Int):=fun x hx=>Zba hW (by lia) hx
      have thr:∀m,m<(rowAt ls a).length -> ∃t:Nat,(rowAt ls a)[m]? = some (t:Int)/\t<JL ls/\rG g ls a m=g (t:Int):=fun m hm=>by
       have h1:(rowAt ls a)[m]? = some ((rowAt ls a)[m]'hm):=by simp
       have d:=rdm _ (List.mem_of_getElem? h1)
       obtain ⟨t,et⟩:=Int.eq_ofNat_of_zero_le d.1
       refine ⟨t,by rw [h1,et],by lia,?_⟩
       unfold rG
       rw [List.getD_eq_getElem?_getD,h1,<- et]
       rfl
      obtain ⟨ti,hti,li,gi⟩:=thr i hi
      obtain ⟨tj,htj,lj,gj⟩:=thr j hj
      have atk:∀t:Nat,t<JL ls->atI ((tab (JL ls) g).map V.int) (t:Int)=some (.int (g (t:Int))):=fun t h=>Zn (j:=t) (by unfold tab;simp [h])
      have ati:∀{m t:Nat},(rowAt ls a)[m]? = some (t:Int)->atI ((rowAt ls a).map V.int) (m:Int)=some (.int (t:Int)):=fun {m t} h=>Zn (j:=m) (by rw [List.getElem?_map,h];rfl)
      have epr':=sb _ _ epr
      have epk':=sb7 _ _ epk8
      refine ⟨_,rfl,_,rfl,_,rfl,pr,_,_,_,rfl,rfl,Zo.of epr',ati hti,pk,_,_,_,rfl,rfl,Zo.of epk',atk ti li,_,rfl,_,rfl,_,rfl,pr,_,_,_,rfl,rfl,Zo.of epr',ati htj,pk,_,_,_,rfl,rfl,Zo.of epk',atk tj lj,_,_,rfl,rfl,_,_,rfl,rfl,?_⟩
      obtain ⟨ys,rr,zs,e,h1,h2,h3,h4,wl⟩:=Ww (ta.same sb7) (i:=i) (j:=j) (by lia) (by lia)
      obtain ⟨ms,em,wm⟩:=wl
      have lm:=wm.len
      have f200:=fw i j (by lia) (by lia)
      refine ⟨_,rfl,_,rfl,tr,_,_,_,rfl,rfl,Zo.of h1,Zn (j:=i) h2,_,rfl,rr,_,_,_,rfl,rfl,Zo.of h3,Zn (j:=j) h4,e,rfl,⟨_,Zo.of em⟩,YV (K:=K) (xs:=ms) (by rw [sizeLine_eq];lia) (fun m zs G'=>Zf Gb G'/\zs=(List.replicate m false).map V.bl) ⟨Zf.refl _,rfl⟩ (fun m zs G' ⟨_,z⟩=>by rw [z];simp) (fun m zs G' ⟨s',_⟩=>Zo.of (s' _ _ em)) ?_ ?_⟩
      ·rintro m x' zs' Gc hx' ⟨sc,rfl⟩
       obtain ⟨wd,hwd,pw,rfl,hpw⟩:=Words.get wm hx'
       have mem:=List.mem_of_getElem? hwd
       have l300:=(Zdg hW hI a i j wd mem).1
       refine lcG ?_
       refine Zmv (m:=2) (pw:=pw) (D:=D) (wd:=wd) (kvs:=kvs) (hn:=hN g ls) (sc _ _ hpw) rfl (sc _ _ (sb7 _ _ eD8)) (fun t ht=>look t (ins i j wd mem t ht)) (by rw [sizeLine_eq];lia) fun Gd s'=>?_
       refine ⟨_,rfl,rfl,sc.trans s',?_⟩
       rw [gr i j hij (by lia) wd mem,gi,gj,<- ZhG]
       simp
      ·rintro zs' Gc ⟨sc,rfl⟩ L fL
       refine ⟨L,_,rfl,Zo.of Zb,_,rfl,Y1 (fun z=>absurd z (by rw [ZhB];decide)) (fun _=>?_)⟩
       exact ⟨_,_,rfl,(sb.trans sc).step fL⟩
     ·rintro σ Gb ⟨v10,v11,rfl,sb⟩
      exact ⟨_,_,_,rfl,sb⟩
    ·rintro σ Ga ⟨v9,v10,v11,rfl,sa⟩
     exact ⟨_,_,_,_,_,rfl,s79.trans sa⟩
   ·rintro σ G8 ⟨v7,v8,v9,v10,v11,rfl,s9⟩
    exact k G8 (S8.trans s9)
def Zgk (K:PySem.W.Frag):Sp:=fun vs H Q _=>∃(a:Addr) (ns:List Int),vs = [.ref a]/\Zo K H a (ns.map V.int)/\ns.length<=63 /\ ∀H',Q (.bl true) H'
abbrev ZcQ:Stmt:=top 33
theorem Zdz:ZF ["_law_script", "_law_at", "_law_bag_here", "_law_drawing_here"] ["_law_script"] (Zl ZcQ):={}
theorem Zk2 {f:Addr}{fd:FuncData} (F:Y8 K "law" "law" ZcQ f fd) (UB:JV P w K mg base 1 "_law_bag" ["_law_script", "_law_at"] (Zio K)) (Jx:JV P w K mg base 2 "_law_curled" ["_law_bag_here", "_law_most"] Zfx) (UC:JV P w K mg base 3 "_law_any" ["_law_bag_here", "_law_most"] ZcA) (W7:JV P w K mg base 8 "_law_right" ["_law_drawing_here"] ZcX)
  (Zx:mg "range" = none) (Yg:mg "len" = none) (ZcN:mg "max" = none) (ZiD:mg "min" = none):Yj P w K mg base GV 9 f fd ["_law_script"] (Zgk K):=by
 refine F.ok Zdz (fun vs H Q E h=>?_) (fun cdv A outer s H vs Q E hr h=>?_)
 ·obtain ⟨a,ns,rfl,_⟩:=h
  rfl
 ·obtain ⟨a,ns,rfl,hS,hlen,k⟩:=h
  refine ⟨_,(Zd (Z3 PassesOwn.never rfl (Yb (by rfl) Zx (Za (ZH (ZcS rfl) (by rfl) ZcN boot_max (Za Ze (Za (ZH (Zg0 rfl) (by rfl) ZiD boot_min (Za (ZH (Yk (K:=K) rfl) (by rfl) Yg PySem.boot_len (Za (pv 0) Zc)) (Za Ze Zc))) Zc))) Zc)) (Zj (i:=1) Zdz.nd rfl (Or.inl rfl)) (Zd (Zr (i:=2) Zdz.nd rfl (Or.inl rfl) (Zz UB hr (Za (pv 0) (Za (pv 1) Zc))))
   (Zh (Z3 PassesOwn.never rfl (ZT (K:=K) rfl (Z5 (Za (Zz Jx hr (Za (pv 2) (Za Ze Zc))) (Za (Zz Jx hr (Za (pv 2) (Za Ze Zc))) (Za (Zz UC hr (Za (pv 2) (Za Ze Zc))) Zc))))) (Zj (i:=3) Zdz.nd rfl (Or.inl rfl)) (Zh (Yh (ZlF (Zfs (Zz W7 hr (Za (pv 3) Zc)))) (Zh (ZJ ZaR)) ZX))))))
   (Zh (ZJ ZaR))),?_⟩
  refine ⟨_,rfl,a,_,rfl,.inl hS,_,_,rfl,_,_,rfl,_,rfl,?_,?_,Ys (fun i σ H'=>∃v1 v2 v3:Option V,σ = [some (.ref a),v1,v2,v3]/\Zf H H') ⟨none,none,none,rfl,Zf.refl _⟩ ?_ ?_⟩
  ·split<;>(try split)<;>lia
  ·rw [List.length_map]
   split<;>(try split)<;>lia
  ·rintro i σ H0 hi ⟨v1,v2,v3,rfl,sm⟩
   have hi':i<900:=by
    rw [List.length_map] at hi
    revert hi
    split<;>(try split)<;>lia
   refine ⟨_,rfl,_,rfl,a,_,ns,rfl,sm.seq hS,by lia,by lia,fun b H1 hb s1 bg1=>?_⟩
   refine ⟨_,rfl,b,3,rfl,bg1,by decide,by decide,fun l1 H2 ls1 f1 bg2 fr2 dr1 i1 _ _=>?_⟩
   refine ⟨_,rfl,b,2,rfl,bg2,by decide,by decide,fun l2 H3 ls2 f2 bg3 fr3 dr2 i2 _ _=>?_⟩
   refine ⟨_,rfl,b,8,rfl,bg3,by decide,by decide,fun l3 H4 ls3 f3 bg4 fr4 dr3 i3 _ _=>⟨(by show 3<=sizeLine;decide),fun D fD=>?_⟩⟩
   have dfr:∀{G G':Hp}{l:Addr}{ls:List (Str×Int)},Jo b G G'->Bag G b->Drw G l ls->Drw G' l ls:=fun {G G' l ls} fr bg ⟨xs,hl,hL,hW,h60⟩=>by
    refine ⟨xs,fr _ _ hl (fun z=>?_),hL.frm fr bg,hW,h60⟩
    subst z
    obtain ⟨g,r,_,e⟩:=bg
    rw [e] at hl
    cases hl
    cases hL with
    | cons h _=>obtain ⟨_,z,_⟩:=h;cases z
   have dsm:∀{G G':Hp}{l:Addr}{ls:List (Str×Int)},Zf G G'->Drw G l ls->Drw G' l ls:=fun s' ⟨xs,hl,hL,hW,h60⟩=>⟨xs,s' _ _ hl,hL.same s',hW,h60⟩
   obtain ⟨G,eG⟩:∃G,upd H4 D (.lst [.ref l1,.ref l2,.ref l3])=G:=⟨_,rfl⟩
   have s5:Zf H4 G:=by rw [<- eG];exact Zf.laid fD
   have eD:G D=some (.lst [.ref l1,.ref l2,.ref l3]):=by rw [<- eG];exact Zb
   rw [eG]
   have d1:=dsm s5 (dfr fr4 bg3 (dfr fr3 bg2 dr1))
   have d2:=dsm s5 (dfr fr4 bg3 dr2)
   have d3:=dsm s5 dr3
   have all3:∀(j:Nat) (x:V),[V.ref l1,.ref l2,.ref l3][j]? = some x -> ∃(l:Addr) (ls:List (Str×Int)),x = .ref l/\Drw G l ls/\InB ls:=fun j x h=>by
    match j,h with
    | 0,h=>cases h;exact ⟨_,_,rfl,d1,i1⟩
    | 1,h=>cases h;exact ⟨_,_,rfl,d2,i2⟩
    | 2,h=>cases h;exact ⟨_,_,rfl,d3,i3⟩
    | n+3,h=>cases h
   refine ⟨D,rfl,⟨_,Zo.of eD⟩,Wh (K:=K) (a:=D) (xs:=[V.ref l1,.ref l2,.ref l3]) (fun j σ G'=>∃v3:Option V,σ = [some (.ref a),some (.int (0+(i:Int))),some (.ref b),v3]/\Zf G G') ⟨_,rfl,Zf.refl _⟩ (fun j σ G' _ ⟨_,_,s'⟩=>Zo.of (s' _ _ eD)) ?_ ?_⟩
   ·rintro j x σ G8 hx ⟨v3,rfl,s8⟩
    obtain ⟨l,ls,rfl,dr,ib⟩:=all3 j x hx
    refine ⟨_,rfl,l,ls,rfl,dsm s8 dr,ib,fun H' s'=>⟨true,rfl,ZgX ?_⟩⟩
    exact ⟨_,rfl,s8.trans s'⟩
   ·rintro σ G8 ⟨v3,rfl,s8⟩
    refine ⟨_,_,_,rfl,fun c o e=>?_⟩
    have nb:=Zg (sm c o e) hb
    exact s8 c o (s5 c o (fr4 c o (fr3 c o (fr2 c o (s1 c o (sm c o e)) nb) nb) nb))
  ·rintro σ H0 ⟨v1,v2,v3,rfl,sm⟩
   exact k H0
end
theorem YD {P:Program}{w:World}{K:PySem.W.Frag}{mg:Str->Option Value}{base:Heap}{k:Nat}{x:Str}{ps:List Str}{sp:Sp}{f:Addr}{fd:FuncData} (G:Yj P w K mg base GV k f fd ps sp) (m:mg x=some (.ref f)) (kp:PySem.W.keepIn K (.ref f)=true) (b:Binds K fd ps []):JV P w K mg base k x ps sp:=⟨f,fd,G,m,kp,b⟩
theorem Zbg {P:Program}{w:World}{K:PySem.W.Frag}{mg:Str->Option Value}{base:Heap}{k:Nat}{C:Addr}{m:Str}{ps:List Str}{sp:Sp}{f:Addr}{fd:FuncData} (G:Yj P w K mg base GV k f fd ps sp) (a:PySem.W.findIn K (.ref C) m=some (some (.ref f))) (fn:PySem.W.isFn K (.ref f)=true) (kp:PySem.W.keepIn K (.ref f)=true) (b:Binds K fd ps []):US P w K mg base k C m ps sp:=⟨f,fd,G,⟨a,fn,kp⟩,b⟩
theorem Zbf {P:Program}{w:World}{K:PySem.W.Frag}{mg:Str->Option Value}{base:Heap}{k:Nat}{x:Str}{ps:List Str}{sp:Sp}{f:Addr}{fd:FuncData} (G:Yj P w K mg base (CX1 P w) k f fd ps sp) (m:mg x=some (.ref f)) (kp:PySem.W.keepIn K (.ref f)=true) (b:Binds K fd ps []):Za0 P w K mg base k x ps sp:=⟨f,fd,G,m,kp,b⟩
section
theorem us1 {α:Type}{P:List α -> Prop} (h:∀a,P [a]):∀us:List α,us.length=1->P us
 | [_],_=>h _
theorem us2 {α:Type}{P:List α -> Prop} (h:∀a b,P [a,b]):∀us:List α,us.length=2->P us
 | [_,_],_=>h _ _
theorem us3 {α:Type}{P:List α -> Prop} (h:∀a b c,P [a,b,c]):∀us:List α,us.length=3->P us
 | [_,_,_],_=>h _ _ _
theorem us4 {α:Type}{P:List α -> Prop} (h:∀a b c d,P [a,b,c,d]):∀us:List α,us.length=4->P us
 | [_,_,_,_],_=>h _ _ _ _
theorem all_mk {l:PySem.W.OpenLaw}{w:World}{K:PySem.W.Frag}{h:Heap}{mg:Str->Option Value}{fa:Addr} (X:K.In h) (G:h.Ns mainGlobals mg) (hfa:mg "law" = some (.ref fa))
  {f0 f1 f2 f3 f4 f5 f6 f7 f8 f9 f10 f11 f12 f13 f14 f15 f16 f17 f18 f19 f20 f21 f22 f23 f24 f25 f26 f27:Addr}{d0 d1 d2 d3 d4 d5 d6 d7 d8 d9 d10 d11 d12 d13 d14 d15 d16 d17 d18 d19 d20 d21 d22 d23 d24 d25 d26 d27:FuncData}
  {t_MOST_WORDS:Tok} (WD:PySem.W.nsIn K mainGlobals "MOST_WORDS" = some (some (.int 200 t_MOST_WORDS)))
  {ZE:Addr} (UI:PySem.W.nsIn K mainGlobals "TooMany" = some (some (.ref ZE)))
  {Zu:Addr} (UH:PySem.W.nsIn K mainGlobals "WordWay" = some (some (.ref Zu)))
  (Ja:PySem.W.excIn K ZE [.type "ValueError", .type "Exception", .type "BaseException", .type "object"] "ValueError.__new__" = true)
  (c_way:L2.Cls K Zu)
  (k_WordWay:L2.MkO K Zu)
  (WW:PySem.W.mroIn K ZE (.ref ZE)=some true)
  (a0:PySem.W.nsIn K mainGlobals "put" = some (some (.ref f0))) (l0:Y8 K "put" "put" Zg7 f0 d0)
  (a1:PySem.W.nsIn K mainGlobals "added" = some (some (.ref f1))) (l1:Y8 K "added" "added" Zdu f1 d1)
  (a2:PySem.W.nsIn K mainGlobals "multiplied" = some (some (.ref f2))) (l2:Y8 K "multiplied" "multiplied" JR f2 d2)
  (a3:PySem.W.findIn K (.ref Zu) "nought" = some (some (.ref f3))) (l3:Y8 K "nought" "WordWay.nought" Js f3 d3) (n3:PySem.W.isFn K (.ref f3)=true)
  (a4:PySem.W.findIn K (.ref Zu) "unit" = some (some (.ref f4))) (l4:Y8 K "unit" "WordWay.unit" J1 f4 d4) (n4:PySem.W.isFn K (.ref f4)=true)
  (a5:PySem.W.findIn K (.ref Zu) "plus" = some (some (.ref f5))) (l5:Y8 K "plus" "WordWay.plus" J9 f5 d5) (n5:PySem.W.isFn K (.ref f5)=true)
  (a6:PySem.W.findIn K (.ref Zu) "times" = some (some (.ref f6))) (l6:Y8 K "times" "WordWay.times" JJ f6 d6) (n6:PySem.W.isFn K (.ref f6)=true)
  (a7:PySem.W.nsIn K mainGlobals "behind_birth" = some (some (.ref f7))) (l7:Y8 K "behind_birth" "behind_birth" YL f7 d7)
  (a8:PySem.W.nsIn K mainGlobals "behind_crossing" = some (some (.ref f8))) (l8:Y8 K "behind_crossing" "behind_crossing" YI f8 d8)
  (a9:PySem.W.nsIn K mainGlobals "behind_end" = some (some (.ref f9))) (l9:Y8 K "behind_end" "behind_end" YT f9 d9)
  (a10:PySem.W.nsIn K mainGlobals "table_behind" = some (some (.ref f10))) (l10:Y8 K "table_behind" "table_behind" J8 f10 d10)
  (a11:PySem.W.nsIn K mainGlobals "check_words" = some (some (.ref f11))) (l11:Y8 K "check_words" "check_words" WE f11 d11)
  (a12:PySem.W.nsIn K mainGlobals "sum_tables" = some (some (.ref f12))) (l12:Y8 K "sum_tables" "sum_tables" Gh f12 d12)
  (a13:PySem.W.nsIn K mainGlobals "names_of" = some (some (.ref f13))) (l13:Y8 K "names_of" "names_of" Gk f13 d13)
  (a14:PySem.W.nsIn K mainGlobals "deeds" = some (some (.ref f14))) (l14:Y8 K "deeds" "deeds" Zdh f14 d14)
  (a15:PySem.W.nsIn K mainGlobals "between" = some (some (.ref f15))) (l15:Y8 K "between" "between" Uo f15 d15)
  (a16:PySem.W.nsIn K mainGlobals "_law_bag" = some (some (.ref f16))) (l16:Y8 K "_law_bag" "_law_bag" UJ f16 d16)
  (a17:PySem.W.nsIn K mainGlobals "_law_take" = some (some (.ref f17))) (l17:Y8 K "_law_take" "_law_take" GH f17 d17)
  (a18:PySem.W.nsIn K mainGlobals "_law_drawing" = some (some (.ref f18))) (l18:Y8 K "_law_drawing" "_law_drawing" Wm f18 d18)
  (a19:PySem.W.nsIn K mainGlobals "_law_plat" = some (some (.ref f19))) (l19:Y8 K "_law_plat" "_law_plat" JG f19 d19)
  (a20:PySem.W.nsIn K mainGlobals "_law_any" = some (some (.ref f20))) (l20:Y8 K "_law_any" "_law_any" UD f20 d20)
  (a21:PySem.W.nsIn K mainGlobals "_law_curled" = some (some (.ref f21))) (l21:Y8 K "_law_curled" "_law_curled" Jw f21 d21)
  (a22:PySem.W.nsIn K mainGlobals "_law_rows" = some (some (.ref f22))) (l22:Y8 K "_law_rows" "_law_rows" GS f22 d22)
  (a23:PySem.W.nsIn K mainGlobals "_law_walks" = some (some (.ref f23))) (l23:Y8 K "_law_walks" "_law_walks" JP f23 d23)
  (a24:PySem.W.nsIn K mainGlobals "_law_heights" = some (some (.ref f24))) (l24:Y8 K "_law_heights" "_law_heights" YQ f24 d24)
  (a25:PySem.W.nsIn K mainGlobals "_law_name_heights" = some (some (.ref f25))) (l25:Y8 K "_law_name_heights" "_law_name_heights" Y4 f25 d25)
  (a26:PySem.W.nsIn K mainGlobals "_law_right" = some (some (.ref f26))) (l26:Y8 K "_law_right" "_law_right" YY f26 d26)
  (a27:PySem.W.nsIn K mainGlobals "law" = some (some (.ref f27))) (l27:Y8 K "law" "law" ZcQ f27 d27)
  (Zhp:PySem.W.nsIn K mainGlobals "len" = some none)
  (ZcU:PySem.W.nsIn K mainGlobals "range" = some none)
  (Zh7:PySem.W.nsIn K mainGlobals "abs" = some none)
  (Gi:PySem.W.nsIn K mainGlobals "isinstance" = some none)
  (Zh2:PySem.W.nsIn K mainGlobals "int" = some none)
  (Zfc:PySem.W.nsIn K mainGlobals "bool" = some none)
  (Zic:PySem.W.nsIn K mainGlobals "all" = some none)
  (ZiT:PySem.W.nsIn K mainGlobals "any" = some none)
  (Zb8:PySem.W.nsIn K mainGlobals "sorted" = some none)
  (ZiF:PySem.W.nsIn K mainGlobals "max" = some none)
  (Zid:PySem.W.nsIn K mainGlobals "min" = some none)
  (Zfh:PySem.W.nsIn K mainGlobals "list" = some none)
  (Zh5:PySem.W.nsIn K mainGlobals "zip" = some none)
  (GG:PySem.W.nsIn K mainGlobals "enumerate" = some none)
  (Gf:PySem.W.nsIn K mainGlobals "ValueError" = some none)
  (Zfr:PySem.W.nsIn K mainGlobals "dict" = some none)
  (Zhr:PySem.W.nsIn K mainGlobals "sum" = some none):
  ∃fd:FuncData,(∀(s:Shared) (v:Value),BindsTo s fd ⟨[v],[]⟩ [("_law_script", v)]) /\ ∀base:Heap,K.In base->base.Ns mainGlobals mg->Yj l.prog w K mg base GV 9 fa fd ["_law_script"] (Zgk K):=by
 have e:=hfa.symm.trans (PySem.W.mg_of X G a27)
 cases e
 have Yg:mg "len" = none:=PySem.W.mg_none_of X G Zhp
 have Zx:mg "range" = none:=PySem.W.mg_none_of X G ZcU
 have ZbT:mg "abs" = none:=PySem.W.mg_none_of X G Zh7
 have Zke:mg "isinstance" = none:=PySem.W.mg_none_of X G Gi
 have ZnF:mg "int" = none:=PySem.W.mg_none_of X G Zh2
 have Zm0:mg "bool" = none:=PySem.W.mg_none_of X G Zfc
 have Zny:mg "all" = none:=PySem.W.mg_none_of X G Zic
 have Zf5:mg "any" = none:=PySem.W.mg_none_of X G ZiT
 have Ji:mg "sorted" = none:=PySem.W.mg_none_of X G Zb8
 have ZcN:mg "max" = none:=PySem.W.mg_none_of X G ZiF
 have ZiD:mg "min" = none:=PySem.W.mg_none_of X G Zid
 have Gm:mg "list" = none:=PySem.W.mg_none_of X G Zfh
 have ZaS:mg "zip" = none:=PySem.W.mg_none_of X G Zh5
 have ZA:mg "enumerate" = none:=PySem.W.mg_none_of X G GG
 have Zkg:mg "ValueError" = none:=PySem.W.mg_none_of X G Gf
 have ZeO:mg "dict" = none:=PySem.W.mg_none_of X G Zfr
 have ZbE:mg "sum" = none:=PySem.W.mg_none_of X G Zhr
 have Gu:=PySem.W.mg_of X G WD
 have JZ:mg "TooMany" = some (.ref ZE):=PySem.W.mg_of X G UI
 have Zap:mg "WordWay" = some (.ref Zu):=PySem.W.mg_of X G UH
 have ZkA:=l0
 have Zmo:=ZkA.binds (ps:=["odd", "words"]) fun _ _ _ _ _ _=>us2 fun _ _=>rfl
 have Zf7:=l1
 have Zjq:=Zf7.binds (ps:=["one", "other"]) fun _ _ _ _ _ _=>us2 fun _ _=>rfl
 have Zag:=l2
 have Zc3:=Zag.binds (ps:=["one", "other"]) fun _ _ _ _ _ _=>us2 fun _ _=>rfl
 have WU:=l3
 have ZaG:=WU.binds (ps:=["self"]) fun _ _ _ _ _ _=>us1 fun _=>rfl
 have GF:=l4
 have ZbJ:=GF.binds (ps:=["self"]) fun _ _ _ _ _ _=>us1 fun _=>rfl
 have Ua:=l5
 have ZbQ:=Ua.binds (ps:=["self", "one", "other"]) fun _ _ _ _ _ _=>us3 fun _ _ _=>rfl
 have Gz:=l6
 have Za1:=Gz.binds (ps:=["self", "one", "other"]) fun _ _ _ _ _ _=>us3 fun _ _ _=>rfl
 have GW:=l7
 have ZbO:=GW.binds (ps:=["table", "k", "way"]) fun _ _ _ _ _ _=>us3 fun _ _ _=>rfl
 have Wy:=l8
 have Zab:=Wy.binds (ps:=["table", "k", "name", "way"]) fun _ _ _ _ _ _=>us4 fun _ _ _ _=>rfl
 have Zad:=l9
 have ZcT:=Zad.binds (ps:=["table", "k", "name", "way"]) fun _ _ _ _ _ _=>us4 fun _ _ _ _=>rfl
 have GO:=l10
 have ZbZ:=GO.binds (ps:=["table", "letter", "name", "way"]) fun _ _ _ _ _ _=>us4 fun _ _ _ _=>rfl
 have Uy:=l11
 have Zcd:=Uy.binds (ps:=["table"]) fun _ _ _ _ _ _=>us1 fun _=>rfl
 have U8:=l12
 have ZdA:=U8.binds (ps:=["drawing"]) fun _ _ _ _ _ _=>us1 fun _=>rfl
 have ZbU:=l13
 have Ze1:=ZbU.binds (ps:=["drawing"]) fun _ _ _ _ _ _=>us1 fun _=>rfl
 have ZfG:=l14
 have Zi9:=ZfG.binds (ps:=["drawing"]) fun _ _ _ _ _ _=>us1 fun _=>rfl
 have ZcE:=l15
 have Zgr:=ZcE.binds (ps:=["drawing"]) fun _ _ _ _ _ _=>us1 fun _=>rfl
 have Zbo:=l16
 have Zfv:=Zbo.binds (ps:=["_law_script", "_law_at"]) fun _ _ _ _ _ _=>us2 fun _ _=>rfl
 have ZaO:=l17
 have Zei:=ZaO.binds (ps:=["_law_bag_here", "_law_many"]) fun _ _ _ _ _ _=>us2 fun _ _=>rfl
 have GJ:=l18
 have Zbv:=GJ.binds (ps:=["_law_bag_here", "_law_births", "_law_most"]) fun _ _ _ _ _ _=>us3 fun _ _ _=>rfl
 have ZaT:=l19
 have ZdX:=ZaT.binds (ps:=["_law_bag_here", "_law_most"]) fun _ _ _ _ _ _=>us2 fun _ _=>rfl
 have Zb0:=l20
 have ZeZ:=Zb0.binds (ps:=["_law_bag_here", "_law_most"]) fun _ _ _ _ _ _=>us2 fun _ _=>rfl
 have Uv:=l21
 have Zcj:=Uv.binds (ps:=["_law_bag_here", "_law_most"]) fun _ _ _ _ _ _=>us2 fun _ _=>rfl
 have ZaP:=l22
 have ZdO:=ZaP.binds (ps:=["_law_drawing_here"]) fun _ _ _ _ _ _=>us1 fun _=>rfl
 have Zac:=l23
 have ZdF:=Zac.binds (ps:=["_law_drawing_here"]) fun _ _ _ _ _ _=>us1 fun _=>rfl
 have GN:=l24
 have ZbC:=GN.binds (ps:=["_law_drawing_here", "_law_scale"]) fun _ _ _ _ _ _=>us2 fun _ _=>rfl
 have JO:=l25
 have Up:=JO.binds (ps:=["_law_drawing_here", "_law_scale"]) fun _ _ _ _ _ _=>us2 fun _ _=>rfl
 have Zai:=l26
 have ZdB:=Zai.binds (ps:=["_law_drawing_here"]) fun _ _ _ _ _ _=>us1 fun _=>rfl
 have ZkD:=l27
 have Znz:=ZkD.binds (ps:=["_law_script"]) fun _ _ _ _ _ _=>us1 fun _=>rfl
 obtain ⟨oc,od,kV,dc,pm,an,cd,ct,sl,rfl,_,_⟩:=l27.ex
 refine ⟨PySem.W.fnOf "law" "law" (U1 ZcQ) (Gw ZcQ) (Zl ZcQ) .none kV dc pm an cd ct,fun s v=>.of_eq rfl,fun base _ _=>?_⟩
 have Zbs:JV l.prog w K mg base 1 "put" ["odd", "words"] ZfH:=YD (Zle ZkA) (PySem.W.mg_of X G a0) l0.kp Zmo
 have Ug:JV l.prog w K mg base 2 "added" ["one", "other"] Zbm:=YD (Zhs Zf7 Zbs Ji) (PySem.W.mg_of X G a1) l1.kp Zjq
 have Ge:JV l.prog w K mg base 2 "multiplied" ["one", "other"] Ze3:=YD (ZjY Zag Zbs Ji) (PySem.W.mg_of X G a2) l2.kp Zc3
 have JC:US l.prog w K mg base 1 Zu "nought" ["self"] (U3 Zu):=Zbg (ZgU WU) a3 n3 l3.kp ZaG
 have Zfo:US l.prog w K mg base 1 Zu "unit" ["self"] (ZeQ Zu):=Zbg (Zki GF) a4 n4 l4.kp ZbJ
 have WY:US l.prog w K mg base 3 Zu "plus" ["self", "one", "other"] Zbl:=Zbg (Zhe Ua Ug) a5 n5 l5.kp ZbQ
 have JU:US l.prog w K mg base 3 Zu "times" ["self", "one", "other"] U4:=Zbg (Zgq Gz Ge) a6 n6 l6.kp Za1
 have Wj:JV l.prog w K mg base 2 "behind_birth" ["table", "k", "way"] (Zc9 Zu):=YD (ZhP GW c_way JC Zfo Zx Yg) (PySem.W.mg_of X G a7) l7.kp ZbO
 have Jg:JV l.prog w K mg base 4 "behind_crossing" ["table", "k", "name", "way"] (Zdl Zu):=YD (Zhf Wy c_way JC WY JU Zx Yg Gm) (PySem.W.mg_of X G a8) l8.kp Zab
 have W6:JV l.prog w K mg base 4 "behind_end" ["table", "k", "name", "way"] (Zhk Zu):=YD (Zla Zad c_way WY JU Zx Yg ZaS) (PySem.W.mg_of X G a9) l9.kp ZcT
 have Wb:JV l.prog w K mg base 5 "table_behind" ["table", "letter", "name", "way"] (ZkY Zu):=YD (ZmF GO Wj Jg W6) (PySem.W.mg_of X G a10) l10.kp ZbZ
 have WA:Za0 l.prog w K mg base 1 "check_words" ["table"] (Zlq ZE):=Zbf (Zmb Uy JZ Ja Gu Yg) (PySem.W.mg_of X G a11) l11.kp Zcd
 have YZ:Za0 l.prog w K mg base 6 "sum_tables" ["drawing"] (Zjg ZE Zu):=Zbf (ZmM U8 Zap k_WordWay Wb WA ZA) (PySem.W.mg_of X G a12) l12.kp ZdA
 have UK:JV l.prog w K mg base 1 "names_of" ["drawing"] (ZhA fun x=>!decide (x = "born")):=YD (Zh3 ZbU ZA) (PySem.W.mg_of X G a13) l13.kp Ze1
 have Zbh:Za0 l.prog w K mg base 7 "deeds" ["drawing"] (Zdm ZE):=Zbf (Zha ZfG YZ UK Ug) (PySem.W.mg_of X G a14) l14.kp Zi9
 have ZaJ:Za0 l.prog w K mg base 7 "between" ["drawing"] (ZiG ZE):=Zbf (Zlm ZcE YZ Gm) (PySem.W.mg_of X G a15) l15.kp Zgr
 have UB:JV l.prog w K mg base 1 "_law_bag" ["_law_script", "_law_at"] (Zio K):=YD (Zlp Zbo Yg ZbT) (PySem.W.mg_of X G a16) l16.kp Zfv
 have Zs:JV l.prog w K mg base 1 "_law_take" ["_law_bag_here", "_law_many"] Zaw:=YD (ZjB ZaO) (PySem.W.mg_of X G a17) l17.kp Zei
 have J5:JV l.prog w K mg base 2 "_law_drawing" ["_law_bag_here", "_law_births", "_law_most"] (ZeN 0):=YD (Zjf GJ Zs Zx) (PySem.W.mg_of X G a18) l18.kp Zbv
 have GP:JV l.prog w K mg base 2 "_law_plat" ["_law_bag_here", "_law_most"] ZcA:=YD (ZiZ ZaT Zs Zx) (PySem.W.mg_of X G a19) l19.kp ZdX
 have UC:JV l.prog w K mg base 3 "_law_any" ["_law_bag_here", "_law_most"] ZcA:=YD (Zk1 Zb0 Zs GP J5) (PySem.W.mg_of X G a20) l20.kp ZeZ
 have Jx:JV l.prog w K mg base 2 "_law_curled" ["_law_bag_here", "_law_most"] Zfx:=YD (ZgH Uv Zs Zx Yg ZcN) (PySem.W.mg_of X G a21) l21.kp Zcj
 have ZV:JV l.prog w K mg base 1 "_law_rows" ["_law_drawing_here"] Zao:=YD (Zjz ZaP Gm) (PySem.W.mg_of X G a22) l22.kp ZdO
 have Gs:JV l.prog w K mg base 2 "_law_walks" ["_law_drawing_here"] Zdn:=YD (ZhK Zac ZV ZA Ji ZbT) (PySem.W.mg_of X G a23) l23.kp ZdF
 have Yv:JV l.prog w K mg base 3 "_law_heights" ["_law_drawing_here", "_law_scale"] Zjj:=YD (Zmd GN Gs ZV ZA ZbE Yg Zx) (PySem.W.mg_of X G a24) l24.kp ZbC
 have Y2:JV l.prog w K mg base 4 "_law_name_heights" ["_law_drawing_here", "_law_scale"] ZhS:=YD (Zlx JO Yv ZV ZA) (PySem.W.mg_of X G a25) l25.kp Up
 have W7:JV l.prog w K mg base 8 "_law_right" ["_law_drawing_here"] ZcX:=YD (Zis Zai JZ Ja WW Y2 Yv ZV Zbh ZaJ Zx Yg ZA ZaS ZeO Zf5 ZbE) (PySem.W.mg_of X G a26) l26.kp ZdB
 exact Zk2 ZkD UB Jx UC W7 Zx Yg ZcN ZiD
theorem walk {l:PySem.W.OpenLaw}{q:Program}{loose:List Str}{XP:(Str->Option Value)->Heap->Prop}{YP:World->Heap->Prop}{d:DefRec}{K:Params->PySem.W.Frag} (hn:l.most=some 63) (hdf:d.params.defaults = [])
  (hY:∀(w:World) (h:Heap),YP w h->(K w.params).In h)
  (F:∀(w:World) (mg:Str->Option Value) (fa:Addr) (h:Heap),(K w.params).In h->h.Ns mainGlobals mg->mg d.name=some (.ref fa) ->
   ∃fd:FuncData,(∀(s:Shared) (u:Value),BindsTo s fd ⟨[u],[]⟩ [("_law_script", u)]) /\ ∀base:Heap,(K w.params).In base->base.Ns mainGlobals mg->Yj l.prog w (K w.params) mg base GV 9 fa fd ["_law_script"] (Zgk (K w.params))):
  PySem.W.WalkO q loose XP YP l.row.toRowW d [] (fun f vs=>PySem.call f vs):=
 L2.ZjK (n:=63) (k:=9) (x := "_law_script") (CX:=fun _=>GV) (sp:=fun w=>Zgk (K w.params)) hn (by decide) hdf ⟨rfl,by decide,by decide⟩ hY F (fun _ _ a ns hl _ hS=>⟨a,ns,rfl,hS,hl,fun _=>rfl⟩) fun _ _ _ _ _ z=>z
end
end Qk16
namespace PySem.W.Fast
def tw17343468256141987840:=0
def tw13813525265965540480:=0
def tw7262386921989936320:=0
def tw11548795489550099968:=0
def tw6079916469421200064:=0
def tw17121900266241659616:=0
def tw2233158592789735200:=0
def tw16559550688969530369:=0
def tw13400294663326972129:=0
def tw7592450495213853025:=0
def tw14557519174744761889:=0
def tw17371026721274679265:=0
def tw3866771223675368417:=0
def tw17714118830431451298:=0
def tw2358700203257702594:=0
def tw11108795619236539714:=0
def tw4152062179166372194:=0
def tw16209325855577987618:=0
def tw1302907360322478658:=0
def tw17089510165380865730:=0
def tw11067453698248958754:=0
def tw13813970208093251458:=0
def tw2125816059350159811:=0
def tw4808761913134400131:=0
def tw18414372130641493763:=0
def tw1915438669856401412:=0
def tw9427941728972734532:=0
def tw14077631961348829604:=0
def tw5211765792807024068:=0
def tw6685001536497405572:=0
def tw15094742568293722852:=0
def tw14689198407194292068:=0
def tw3958411856962430852:=0
def tw3277488855985903492:=0
def tw6529997486053806309:=0
def tw257582796127853989:=0
def tw5482805364727904901:=0
def tw12928618946186120518:=0
def tw2850782521093552710:=0
def tw7137991353789239110:=0
def tw10539955153064773895:=0
def tw12877410688992967975:=0
def tw13963334808803065383:=0
def tw12461233084498266983:=0
def tw5765615346814963559:=0
def tw3010211501959196872:=0
def tw1792184818934627624:=0
def tw17165815602895079784:=0
def tw1517555338988583432:=0
def tw11960176989849512520:=0
def tw6350810519778869128:=0
def tw12777792957587910568:=0
def tw1231594964632784233:=0
def tw12554718203432384905:=0
def tw10246576624199773065:=0
def tw14859419776622933993:=0
def tw8533708722432665674:=0
def tw15655411777583330474:=0
def tw16983428652863374762:=0
def tw16381214267311832586:=0
def tw14808995589044935562:=0
def tw507147630816815307:=0
def tw12818954736678540587:=0
def tw2294014665149041387:=0
def tw6316488439340859115:=0
def tw5611879096932797195:=0
def tw15717719722795077547:=0
def tw2468496065532011467:=0
def tw14144240281366019372:=0
def tw6778012721438947692:=0
def tw2050207818790998444:=0
def tw670473461222070700:=0
def tw822774411799233996:=0
def tw7884142901600611852:=0
def tw1003024085051358924:=0
def tw9972734690088123180:=0
def tw12006683461473145772:=0
def tw35741124619286733:=0
def tw8689405425098987725:=0
def tw13877695752646821677:=0
def tw14680369804936131630:=0
def tw18163182645299259694:=0
def tw17683004377975127406:=0
def tw4013214562211431886:=0
def tw16612264732275844654:=0
def tw12142665201749940814:=0
def tw4396899522295326350:=0
def tw11460460448308070190:=0
def tw16513483485218047055:=0
def tw5631042153277244623:=0
def tw1838194883707974127:=0
def tw17075734422398585359:=0
def tw11571233320440809071:=0
def tw904788556675405423:=0
def tw4207353955219187503:=0
def tw4934375146725837615:=0
def tw3153307861494912975:=0
def tw8493118173187978512:=0
def tw16142231355308708144:=0
def tw7345903601640888976:=0
def tw11833999966109959984:=0
def tw12604582445153975184:=0
def tw14622592337698438032:=0
def tw7714691504712499313:=0
def tw12075900584380785905:=0
def tw8977313007122083185:=0
def tw5776253443159168593:=0
def tw2145228246450977457:=0
def tw747461022441656049:=0
def tw8159781097043973937:=0
def tw15294497426658893649:=0
def tw222999322428306289:=0
def tw15010176854728992689:=0
def tw3767946612023020658:=0
def tw14390587887642228978:=0
def tw10431645836944336146:=0
def tw13738435412738124114:=0
def tw3926618005965056690:=0
def tw8884655162535193426:=0
def tw14363800034293493586:=0
def tw3018968487680006994:=0
def tw10087199274549858451:=0
def tw14653531631707655411:=0
def tw5785356671976046195:=0
def tw8227253919400799923:=0
def tw15753755819802353140:=0
def tw3433839405454338612:=0
def tw17427455277361769717:=0
def tw859839016522571029:=0
def tw6747085079950078229:=0
def tw13077257190925335925:=0
def tw9317581057918463349:=0
def tw17827469084779151797:=0
def tw17469984707315457493:=0
def tw17132731589298201141:=0
def tw6990934439835243734:=0
def tw18192170792656144630:=0
def tw3763980787192472854:=0
def tw539006616263690902:=0
def tw16217278415022717622:=0
def tw5175130311285956342:=0
def tw8465402064061097782:=0
def tw4610013326242956214:=0
def tw10538922275416060983:=0
def tw14293480068729951319:=0
def tw6162235472254901399:=0
def tw14024579349198502103:=0
def tw5208524239229117655:=0
def tw14421196176762981623:=0
def tw17242943835813712215:=0
def tw14946646543015266743:=0
def tw3293028577506853367:=0
def tw11195323108469269047:=0
def tw8668176594002096887:=0
def tw13963022871795735415:=0
def tw892624870202388600:=0
def tw1705260644695350552:=0
def tw14701833458881698168:=0
def tw5641588348572389848:=0
def tw7957022492062477784:=0
def tw4665493676526982840:=0
def tw6205296476243663704:=0
def tw17145358940660407321:=0
def tw10092883299690491129:=0
def tw10933577532245136793:=0
def tw7671369681262447321:=0
def tw7054789384283253497:=0
def tw3459811449143448345:=0
def tw16779989710229644378:=0
def tw6767919283489011066:=0
def tw4053459455701877242:=0
def tw618239452542518874:=0
def tw12813029105662242522:=0
def tw14828565538104353658:=0
def tw15145205978683868026:=0
def tw6030974159080959930:=0
def tw1016999354403786075:=0
def tw13289074728281297307:=0
def tw6019109719048037051:=0
def tw8256109376948339900:=0
def tw17161494527781646524:=0
def tw560149576964495804:=0
def tw7619683616414142940:=0
def tw3387107794346181148:=0
def tw6842948935823523676:=0
def tw17606398389698653341:=0
def tw9991819506987105437:=0
def tw8427934481607116989:=0
def tw16293627218571195037:=0
def tw8694321726257929949:=0
def tw6739489872619903741:=0
def tw5733422802035677181:=0
def tw4603722193571453054:=0
def tw16384194879901137150:=0
def tw15371516966138608894:=0
def tw3688385292274332446:=0
def tw2419477831272130398:=0
def tw2951990722026654558:=0
def tw4973285732974986206:=0
def tw10269108357380752415:=0
def tw10226380324335560799:=0
def tw10606344806024458367:=0
def tw14813385842257752191:=0
def tw18395047569783722303:=0
def tw8439074034686868831:=0
def tw10923420124871606783:=0
def tw2232483425959472031:=0
end PySem.W.Fast
open PySem PySem.W PyProof.Rows
set_option maxRecDepth 100000 in
set_option maxHeartbeats 0 in
theorem PySem.Challenge.cw_bendfronts_k16_deeds_lower_holds : PySem.Challenge.rw_bendfronts_k16_deeds_lower.Holds := by
 w_on; o_law; k_head; (case hw => w_witness2)
 k_fill
 refine Qk16.walk (l := PySem.Challenge.rw_bendfronts_k16_deeds_lower) rfl rfl (fun w h Y => PySem.W.kIn_of Y) ?F
 case F =>
  intro w mg fa h KX G hmg
  refine' Qk16.all_mk KX G hmg ?WD ?UI ?UH ?Ja ?c_way ?k_WordWay ?WW ?a0 ?l0 ?a1 ?l1 ?a2 ?l2 ?a3 ?l3 ?n3 ?a4 ?l4 ?n4 ?a5 ?l5 ?n5 ?a6 ?l6 ?n6 ?a7 ?l7 ?a8 ?l8 ?a9 ?l9 ?a10 ?l10 ?a11 ?l11 ?a12 ?l12 ?a13 ?l13 ?a14 ?l14 ?a15 ?l15 ?a16 ?l16 ?a17 ?l17 ?a18 ?l18 ?a19 ?l19 ?a20 ?l20 ?a21 ?l21 ?a22 ?l22 ?a23 ?l23 ?a24 ?l24 ?a25 ?l25 ?a26 ?l26 ?a27 ?l27 ?Zhp ?ZcU ?Zh7 ?Gi ?Zh2 ?Zfc ?Zic ?ZiT ?Zb8 ?ZiF ?Zid ?Zfh ?Zh5 ?GG ?Gf ?Zfr ?Zhr
  (case WD => first | k_is | rfl)
  (case UI => k_is)
  (case UH => k_is)
  (case Ja => k_exc)
  (case c_way => exact ⟨by first | k_is | rfl | decide +kernel, by first | k_is | rfl | decide +kernel, by first | k_is | rfl | decide +kernel, by first | k_is | rfl | decide +kernel⟩)
  (case k_WordWay => exact ⟨by first | k_is | rfl | decide +kernel, by first | k_is | rfl | decide +kernel, by first | k_is | rfl | decide +kernel⟩)
  (case WW => first | k_is | rfl | decide +kernel)
  (case a0 => k_is)
  (case l0 => exact L2.ZW (by k_is) (by k_is) (by k_is))
  (case a1 => k_is)
  (case l1 => exact L2.ZW (by k_is) (by k_is) (by k_is))
  (case a2 => k_is)
  (case l2 => exact L2.ZW (by k_is) (by k_is) (by k_is))
  (case a3 => first | k_is | rfl | decide +kernel)
  (case l3 => exact L2.ZW (by k_is) (by k_is) (by k_is))
  (case n3 => first | k_is | rfl | decide +kernel)
  (case a4 => first | k_is | rfl | decide +kernel)
  (case l4 => exact L2.ZW (by k_is) (by k_is) (by k_is))
  (case n4 => first | k_is | rfl | decide +kernel)
  (case a5 => first | k_is | rfl | decide +kernel)
  (case l5 => exact L2.ZW (by k_is) (by k_is) (by k_is))
  (case n5 => first | k_is | rfl | decide +kernel)
  (case a6 => first | k_is | rfl | decide +kernel)
  (case l6 => exact L2.ZW (by k_is) (by k_is) (by k_is))
  (case n6 => first | k_is | rfl | decide +kernel)
  (case a7 => k_is)
  (case l7 => exact L2.ZW (by k_is) (by k_is) (by k_is))
  (case a8 => k_is)
  (case l8 => exact L2.ZW (by k_is) (by k_is) (by k_is))
  (case a9 => k_is)
  (case l9 => exact L2.ZW (by k_is) (by k_is) (by k_is))
  (case a10 => k_is)
  (case l10 => exact L2.ZW (by k_is) (by k_is) (by k_is))
  (case a11 => k_is)
  (case l11 => exact L2.ZW (by k_is) (by k_is) (by k_is))
  (case a12 => k_is)
  (case l12 => exact L2.ZW (by k_is) (by k_is) (by k_is))
  (case a13 => k_is)
  (case l13 => exact L2.ZW (by k_is) (by k_is) (by k_is))
  (case a14 => k_is)
  (case l14 => exact L2.ZW (by k_is) (by k_is) (by k_is))
  (case a15 => k_is)
  (case l15 => exact L2.ZW (by k_is) (by k_is) (by k_is))
  (case a16 => k_is)
  (case l16 => exact L2.ZW (by k_is) (by k_is) (by k_is))
  (case a17 => k_is)
  (case l17 => exact L2.ZW (by k_is) (by k_is) (by k_is))
  (case a18 => k_is)
  (case l18 => exact L2.ZW (by k_is) (by k_is) (by k_is))
  (case a19 => k_is)
  (case l19 => exact L2.ZW (by k_is) (by k_is) (by k_is))
  (case a20 => k_is)
  (case l20 => exact L2.ZW (by k_is) (by k_is) (by k_is))
  (case a21 => k_is)
  (case l21 => exact L2.ZW (by k_is) (by k_is) (by k_is))
  (case a22 => k_is)
  (case l22 => exact L2.ZW (by k_is) (by k_is) (by k_is))
  (case a23 => k_is)
  (case l23 => exact L2.ZW (by k_is) (by k_is) (by k_is))
  (case a24 => k_is)
  (case l24 => exact L2.ZW (by k_is) (by k_is) (by k_is))
  (case a25 => k_is)
  (case l25 => exact L2.ZW (by k_is) (by k_is) (by k_is))
  (case a26 => k_is)
  (case l26 => exact L2.ZW (by k_is) (by k_is) (by k_is))
  (case a27 => k_is)
  (case l27 => exact L2.ZW (by k_is) (by k_is) (by k_is))
  (case Zhp => k_is)
  (case ZcU => k_is)
  (case Zh7 => k_is)
  (case Gi => k_is)
  (case Zh2 => k_is)
  (case Zfc => k_is)
  (case Zic => k_is)
  (case ZiT => k_is)
  (case Zb8 => k_is)
  (case ZiF => k_is)
  (case Zid => k_is)
  (case Zfh => k_is)
  (case Zh5 => k_is)
  (case GG => k_is)
  (case Gf => k_is)
  (case Zfr => k_is)
  (case Zhr => k_is)
